/- DERIVED. The walk of WireBursts. -/
import Derived.Test.YtfclmiijelpjbaaAwake
import Derived.RegionTactic
namespace Go.Proofs.Ytfclmiijelpjbaa
open Go.RowKit Crc Nums

theorem shr_and (q i : Nat) (hq : q < 4294967296) : bits BinOp.and IntKind.u32 ((q : Int) / 2 ^ i) 1 = ((q / 2 ^ i % 2 : Nat) : Int) := by
  have h : q / 2 ^ i < 4294967296 := Nat.lt_of_le_of_lt (Nat.div_le_self _ _) hq
  have e : ((q : Int) / 2 ^ i) = ((q / 2 ^ i : Nat) : Int) := by rw [Int.natCast_ediv, Int.natCast_pow]; rfl
  rw [e]
  have := u32_and_nat (q / 2 ^ i) 1 h (by omega)
  rw [nat_mask1] at this
  exact this

theorem flip_bit (c j : Nat) (hc : c < 256) (hj : j < 8) : bits BinOp.xor IntKind.u8 (c : Int) ((2 : Int) ^ j % 256) = ((UInt8.ofNat (c ^^^ 2 ^ j)).toNat : Int) := by
  have h2 : 2 ^ j < 256 := Nat.pow_lt_pow_right (m := j) (n := 8) (by omega) hj
  have h3 : (((2 ^ j : Nat) : Int)) = (2 : Int) ^ j := Int.natCast_pow 2 j
  have e : ((2 : Int) ^ j % 256) = ((2 ^ j : Nat) : Int) := by rw [← h3]; exact Int.emod_eq_of_lt (Int.natCast_nonneg _) (Int.ofNat_lt.2 h2)
  rw [e, UInt8.toNat_ofNat_of_lt' (Nat.xor_lt_two_pow (n := 8) hc h2)]
  exact u8_xor_nat c (2 ^ j) hc h2

set_option maxRecDepth 100000 in
set_option maxHeartbeats 1000000 in
theorem bursts_main (A : Option Addr) (cap : Nat) (l : List UInt8) (at_ q : Nat) (w : World) (hA : Lies w w.heap.size A (bytesV l)) (h1 : 0 < l.length) (h2 : l.length ≤ 600) (hat : at_ < 65536) (hq0 : 0 < q) (hq : q < 4294967296) :
    Calls Try.prog 6 #[.slice A l.length cap, .int .u16 at_, .int .u32 q] w fun e w' => e = .returned (.bool true) ∧ Below w.heap.size w w' := by
  obtain ⟨i0, hi0, hz0, hz1, hz2⟩ := info_parts u8_info
  have HA := Lib.hid hA
  clear hA
  have t1 : ((l.length : Int) == 0) = false := beq_eq_false_iff_ne.2 (by omega)
  have t2 : ((q : Int) == 0) = false := beq_eq_false_iff_ne.2 (by omega)
  go_enter Try.func6, Try.ntmps6
  go_wp2_with (first
        | (at_builtin; go_must (refine wpList_app _ rfl (.tmp 23) (.tmp 24) _ rfl w.heap.size 5 i0 _ 1 Try.underlying23 hi0 hz0 hz1 hz2 rfl (by omega) _ rfl _ (Owns.made w #[] 0 rfl (Nat.le_refl _) (by simp [maxLen])) _ _ _ rfl (bytesV l) (HA.out.below ((Below.refl _ _).alloc (Nat.le_refl _) _) |>.more (by simp)) (bytesV_length l).symm ?_ ?c1 ?c2 ?c3; intro v1 w1 hO1 hB1)))
  case c1 => exact bytesV_one l
  case c2 => simp [bytesV_length]; omega
  case c3 => simp
  have hf : ((at_ : Int) % (8 * (l.length : Int))) = ((at_ % (8 * l.length) : Nat) : Int) := by rw [Int.natCast_emod, Int.natCast_mul]; rfl
  rw [hf]
  have hfl : at_ % (8 * l.length) < 8 * l.length := Nat.mod_lt _ (by omega)
  generalize at_ % (8 * l.length) = first at hfl ⊢
  clear hf
  rw [List.nil_append] at hO1
  obtain ⟨g, c1, hv, hg1, hg2⟩ := hO1.row (by rw [bytesV_length]; omega)
  rw [bytesV_length] at hv
  subst hv
  have HO := Lib.hid hO1
  have HB := Lib.hid (show Below w.heap.size w w1 from ((Below.refl _ _).alloc (Nat.le_refl _) _).trans hB1)
  clear hO1 hB1
  go_loopw [9, 10] (fun s k wr => ∃ (i : Nat) (m : List UInt8), i ≤ 32 ∧ first + i ≤ 8 * l.length ∧ k = .int .i64 i ∧ (∃ t : Bool, s = .bool t ∧ t = decide (q % 2 ^ i ≠ 0)) ∧ m.length = l.length ∧ num m = num l ^^^ (2 ^ first * (q % 2 ^ i)) ∧ Owns wr w.heap.size 5 (.slice (some ⟨g, 0, none⟩) l.length c1) (bytesV m) ∧ Below w.heap.size w wr) (fun _ k _ => 32 - (intOf k).toNat)
  case atStart =>
    refine ⟨0, l, by omega, by omega, rfl, ⟨false, rfl, ?_⟩, rfl, ?_, HO.out, HB.out⟩
    · simp [Nat.mod_one]
    · simp [Nat.mod_one]
  case round =>
    obtain ⟨i, m, hi, hfi, rfl, ⟨t, rfl, ht⟩, hm, hnum, hO, hBe⟩ := hrel
    have HNum := Lib.hid hnum
    have HO2 := Lib.hid hO
    have HB2 := Lib.hid hBe
    have HT := Lib.hid ht
    have HM := Lib.hid hm
    clear hnum hO hBe ht
    by_cases hlt : i < 32 ∧ first + i < 8 * l.length
    · obtain ⟨hl1, hl2⟩ := hlt
      by_cases hbit : q / 2 ^ i % 2 = 1
      · have hb : (bits BinOp.and IntKind.u32 ((q : Int) / 2 ^ i) 1 == 1) = true := by
          rw [shr_and q i hq, hbit]; rfl
        have hk : (first + i) / 8 < m.length := by rw [hm]; omega
        have hc := HO2.out.cell ((first + i) / 8) (by rw [bytesV_length]; exact hk)
        rw [bytesV_get m _ hk] at hc
        have hfr := HO2.out.free ((first + i) / 8)
        have hx := flip_bit (m[(first + i) / 8]).toNat ((first + i) % 8) (m[(first + i) / 8]).toNat_lt (Nat.mod_lt _ (by omega))
        have hset := num_set m ((first + i) / 8) ((first + i) % 8) hk (Nat.mod_lt _ (by omega)) (UInt8.ofNat ((m[(first + i) / 8]).toNat ^^^ 2 ^ ((first + i) % 8)))
          (UInt8.toNat_ofNat_of_lt' (Nat.xor_lt_two_pow (n := 8) (m[(first + i) / 8]).toNat_lt (Nat.pow_lt_pow_right (m := (first + i) % 8) (n := 8) (by omega) (Nat.mod_lt _ (by omega)))))
        generalize UInt8.ofNat ((m[(first + i) / 8]).toNat ^^^ 2 ^ ((first + i) % 8)) = c at hx hset
        have HL := Lib.hid hbit
        have HS := Lib.hid hset
        clear hbit hm hset
        go_wp2
        go_region
        go_wp2
        refine ⟨⟨i + 1, m.set ((first + i) / 8) c, by omega, by omega, by go_num, ⟨true, rfl, ?_⟩, ?_, ?_, ?_, ?_⟩, by simp [intOf]; omega⟩
        · have h3 := Nat.mod_pow_succ (x := q) (b := 2) (k := i)
          rw [HL.out] at h3
          have h4 : 0 < 2 ^ i := Nat.two_pow_pos i
          rw [h3]
          simp
        · rw [List.length_set, HM.out]
        · rw [HS.out, HNum.out, show 8 * ((first + i) / 8) + (first + i) % 8 = first + i by omega, Nat.pow_add, low_succ q i, if_pos HL.out, pow_xor, Nat.xor_assoc]
        · rw [← bytesV_set]
          exact HO2.out.store ((first + i) / 8) _
        · exact (HB2.out.setCell (p := ⟨g, (first + i) / 8, none⟩) hg1 _).drew
      · have hb : (bits BinOp.and IntKind.u32 ((q : Int) / 2 ^ i) 1 == 1) = false := by
          rw [shr_and q i hq]; exact beq_eq_false_iff_ne.2 (by omega)
        have HL := Lib.hid hbit
        clear hbit hm
        go_wp2
        have hlow := low_succ q i
        rw [if_neg HL.out, Nat.xor_zero] at hlow
        refine ⟨⟨i + 1, m, by omega, by omega, by go_num, ⟨t, rfl, by rw [hlow]; exact HT.out⟩, HM.out, by rw [hlow]; exact HNum.out, HO2.out, HB2.out⟩, by simp [intOf]; omega⟩
    · have hS1 := fun W => Sum_any (some ⟨g, 0, none⟩) c1 m W
      rw [hm] at hS1
      have HS1 := Lib.hid hS1
      clear hS1 hm
      by_cases hz : q % 2 ^ i = 0
      · obtain rfl : t = false := by rw [HT.out]; simp [hz]
        have HZ := Lib.hid hz
        clear hz
        by_cases hi2 : i < 32
        all_goals
          go_wp2_with (go_at_call 20; refine (awake1_any _).mono ?_; rintro e w2 ⟨rfl, hB2⟩)
          go_ret
          exact ⟨rfl, HB2.out.trans (hB2.mono HB2.out.size)⟩
      · obtain rfl : t = true := by rw [HT.out]; simp [hz]
        have hne : crc m ≠ crc l := crc_turned l m HM.out (q % 2 ^ i) first (Nat.lt_of_le_of_lt (Nat.mod_le _ _) hq) hz (by omega) HNum.out
        have HN : Hid ((((crc m : Nat) : Int) != ((crc l : Nat) : Int)) = true) := bne_iff_ne.2 (by omega)
        clear hz hne
        by_cases hi2 : i < 32
        all_goals
          go_wp2_with fail
          refine (HS1.out _ HO2.out.lies (by omega)).mono ?_
          rintro e w2 ⟨rfl, hB2⟩
          have HB3 : Hid (Below w.heap.size w w2) := HB2.out.trans (hB2.mono HB2.out.size)
          clear hB2
          go_wp2_with fail
          refine (Sum_any A cap l w2 ((HA.out.below HB3.out).more HB3.out.size) (by omega)).mono ?_
          rintro e w3 ⟨rfl, hB4⟩
          have HB4 : Hid (Below w.heap.size w w3) := HB3.out.trans (hB4.mono HB3.out.size)
          clear hB4
          have hn := HN.out
          go_wp2_with fail
          refine (awake1_any _).mono ?_
          rintro e w4 ⟨rfl, hB5⟩
          have HB5 : Hid (Below w.heap.size w w4) := HB4.out.trans (hB5.mono HB4.out.size)
          go_wp2_with fail
          go_ret
          exact ⟨rfl, HB5.out⟩

set_option maxRecDepth 100000 in
set_option maxHeartbeats 1000000 in
theorem bursts_small (A : Option Addr) (cap n at_ q : Nat) (w : World) (hn : n ≤ 9223372036854775807) (h : n = 0 ∨ 600 < n ∨ q = 0) :
    Calls Try.prog 6 #[.slice A n cap, .int .u16 at_, .int .u32 q] w fun e w' => e = .returned (.bool true) ∧ Below w.heap.size w w' := by
  by_cases h0 : n = 0
  · have t1 : ((n : Int) == 0) = true := by rw [h0]; rfl
    clear h h0
    go_enter Try.func6, Try.ntmps6
    go_wp2_with fail
    go_ret
    exact ⟨rfl, Below.refl _ _⟩
  · have t1 : ((n : Int) == 0) = false := beq_eq_false_iff_ne.2 (by omega)
    by_cases h6 : 600 < n
    · clear h h0
      go_enter Try.func6, Try.ntmps6
      go_wp2_with fail
      go_ret
      exact ⟨rfl, Below.refl _ _⟩
    · have t2 : ((q : Int) == 0) = true := by rw [show q = 0 by omega]; rfl
      clear h h0
      go_enter Try.func6, Try.ntmps6
      go_wp2_with fail
      go_ret
      exact ⟨rfl, Below.refl _ _⟩

theorem bursts_any (A : Option Addr) (cap : Nat) (l : List UInt8) (n at_ q : Nat) (w : World) (hn : l.length = n) (hA : Lies w w.heap.size A (bytesV l)) (hlen : n ≤ 9223372036854775807) (hat : at_ < 65536) (hq : q < 4294967296) :
    Calls Try.prog 6 #[.slice A n cap, .int .u16 at_, .int .u32 q] w fun e w' => e = .returned (.bool true) ∧ Below w.heap.size w w' := by
  by_cases h : n = 0 ∨ 600 < n ∨ q = 0
  · exact bursts_small A cap n at_ q w hlen h
  · subst hn
    exact bursts_main A cap l at_ q w hA (by omega) (by omega) hat (by omega) hq

end Go.Proofs.Ytfclmiijelpjbaa
