/- DERIVED. The walks of the sum: Sum itself, the document's own. -/
import Derived.Test.YtclgblmhicabnaaSum1
namespace Go.Proofs.Ytclgblmhicabnaa
open Go.RowKit Crc

theorem not_nat (s : Nat) (h : s < 4294967296) : 4294967295 ^^^ s = 4294967295 - s := by
  have e : (BitVec.allOnes 32 ^^^ BitVec.ofNat 32 s).toNat = (~~~ (BitVec.ofNat 32 s)).toNat := by rw [BitVec.allOnes_xor]
  rw [BitVec.toNat_xor, BitVec.toNat_not, BitVec.toNat_allOnes, BitVec.toNat_ofNat, Nat.mod_eq_of_lt (by omega)] at e
  exact e

theorem not_u32 (s : Nat) (h : s < 4294967296) : bits .xor .u32 IntKind.u32.max (s : Int) = ((4294967295 - s : Nat) : Int) := by
  rw [← not_nat s h]
  exact u32_xor_nat 4294967295 s (by omega) h

set_option maxRecDepth 100000 in
set_option maxHeartbeats 1000000 in
theorem Sum_any (A : Option Addr) (c : Nat) (l : List UInt8) (w : World) (h : Lies w w.heap.size A (bytesV l)) (hl : l.length ≤ 1099511627776) :
    Calls Try.prog 18 #[.slice A l.length c] w fun e w' => e = .returned (.int .u32 (crc l : Nat)) ∧ Below w.heap.size w w' := by
  obtain ⟨i0, hi0, hz0, hz1, hz2⟩ := info_parts tab_zero
  have hal := run_zero_of hi0 hz0
  clear hi0 hz0 hz1 hz2
  have HL := Lib.hid h
  clear h
  go_enter Try.func18, Try.ntmps18
  go_wp2_with (first
    | (go_at_call 44; refine (byteSums_any _).mono ?_; rintro e w1 ⟨rfl, hB1⟩)
    | (refine wpList_store_row rfl 81 _ _ rfl w1.heap.size (tab fun k => mvN 8 k) rfl rfl _ _ (Row.made w1 _ _) (by rw [tab_size]; exact tab_cells) (by rw [tab_size, tab_size]) (tab_ones _) ?_))
  have hR := (Row.made w1 81 (tab fun _ => 0)).setRow (tab fun k => mvN 8 k)
  have hBB : Below w.heap.size w ((w1.alloc (.cells (tab fun _ => 0) 81)).setRow w1.heap.size (tab fun k => mvN 8 k)) := below_setRow (hB1.alloc hB1.size _) hB1.size _
  obtain ⟨g, hg⟩ : ∃ g, g = w1.heap.size := ⟨_, rfl⟩
  rw [← hg] at hR hBB ⊢
  generalize (w1.alloc (.cells (tab fun _ => 0) 81)).setRow g (tab fun k => mvN 8 k) = W at hR hBB ⊢
  have HR := Lib.hid hR
  have HBB := Lib.hid hBB
  clear hR hBB hg hB1 hal
  go_loop [4, 10] (fun s k => ∃ i : Nat, i ≤ l.length ∧ k = .int .i64 i ∧ s = .int .u32 (crcF 4294967295 (l.take i) : Nat)) (fun _ k => l.length - (intOf k).toNat)
  case atStart => exact ⟨0, by omega, rfl, rfl⟩
  case round =>
    obtain ⟨i, hi, rfl, rfl⟩ := hrel
    by_cases hlt : i < l.length
    · obtain ⟨b, off, rfl, hb, hc⟩ := (HL.out.below HBB.out).at_ (bytesV_get l i hlt)
      have hs := crcF_lt (l.take i) 4294967295 (by omega)
      have hnext : crcF 4294967295 (l.take (i + 1)) = upd (crcF 4294967295 (l.take i)) (l[i]).toNat := by
        rw [List.take_succ_eq_append_getElem hlt, crcF_append]; rfl
      have HN := Lib.hid hnext
      clear hnext
      obtain ⟨s, hsd⟩ : ∃ s, s = crcF 4294967295 (l.take i) := ⟨_, rfl⟩
      rw [← hsd] at hs ⊢
      have HS := Lib.hid hsd
      clear hsd
      have hcl := (l[i]).toNat_lt
      obtain ⟨p, hpd, hp⟩ : ∃ p, p = (s % 256) ^^^ (l[i]).toNat ∧ p < 256 := ⟨_, rfl, Nat.xor_lt_two_pow (n := 8) (by omega) hcl⟩
      have hx : bits .xor .u8 ((s : Int) % 256) ((l[i]).toNat : Int) = (p : Int) := by
        rw [hpd]; exact u8_xor_nat (s % 256) (l[i]).toNat (by omega) hcl
      have hcp := HR.out.cell p
      rw [tab_get _ p hp] at hcp
      have hm := mvN_lt 8 p (by omega)
      have hu : upd s (l[i]).toNat = mvN 8 p ^^^ (s / 256) := by rw [hpd]; exact upd_tab s (l[i]).toNat
      obtain ⟨m, hmd⟩ : ∃ m, m = mvN 8 p := ⟨_, rfl⟩
      rw [← hmd] at hcp hm hu
      have hx2 : bits .xor .u32 (m : Int) ((s : Int) / 256) = ((upd s (l[i]).toNat : Nat) : Int) := by
        rw [hu]; exact u32_xor_nat m (s / 256) hm (by omega)
      clear hmd hpd hu
      go_wp2
      go_round
      case rel => exact ⟨i + 1, by omega, by go_num, by rw [HN.out, ← HS.out]⟩
      case measure => simp [intOf]; omega
    · have hs := crcF_lt (l.take i) 4294967295 (by omega)
      go_wp2
      go_ret
      refine ⟨ret_u32 ?_, HBB.out⟩
      have : i = l.length := by omega
      subst this
      rw [List.take_length] at hs ⊢
      exact not_u32 _ hs

/-- The document's own sum, by its definition. -/
theorem upd_eq (s c : Nat) : upd s c = mvN 8 (s ^^^ c) := rfl

set_option maxRecDepth 100000 in
set_option maxHeartbeats 1000000 in
theorem refSum_any (s : ByteArray) (w : World) (hl : s.size ≤ 1099511627776) :
    Calls Try.prog 19 #[.string s] w fun e w' => e = .returned (.int .u32 (crc s.data.toList : Nat)) ∧ w = w' := by
  go_enter Try.func19, Try.ntmps19
  go_wp2_with fail
  go_loop [3, 4] (fun v k => ∃ i : Nat, i ≤ s.size ∧ k = .int .i64 i ∧ v = .int .u32 (crcF 4294967295 (s.data.toList.take i) : Nat)) (fun _ k => s.size - (intOf k).toNat)
  case atStart => exact ⟨0, by omega, rfl, rfl⟩
  case round =>
    obtain ⟨i, hi, rfl, rfl⟩ := hrel
    by_cases hlt : i < s.size
    · have hs := crcF_lt (s.data.toList.take i) 4294967295 (by omega)
      have hnext : crcF 4294967295 (s.data.toList.take (i + 1)) = upd (crcF 4294967295 (s.data.toList.take i)) (s[i]).toNat := by
        rw [List.take_succ_eq_append_getElem (by simpa using hlt), crcF_append]; rfl
      have HN := Lib.hid hnext
      clear hnext
      obtain ⟨v, hvd⟩ : ∃ v, v = crcF 4294967295 (s.data.toList.take i) := ⟨_, rfl⟩
      rw [← hvd] at hs ⊢
      have HS := Lib.hid hvd
      clear hvd
      have hcl := (s[i]).toNat_lt
      obtain ⟨x, hxd, hxl⟩ : ∃ x, x = v ^^^ (s[i]).toNat ∧ x < 4294967296 := ⟨_, rfl, Nat.xor_lt_two_pow (n := 32) (by omega) (by omega)⟩
      have hx : bits .xor .u32 (v : Int) (s[i].toNat : Int) = (x : Int) := by
        rw [hxd]
        exact u32_xor_nat v (s[i]).toNat (by omega) (by omega)
      have HX := Lib.hid hxd
      clear hxd
      go_wp2_with fail
      clear hx
      go_loop [3, 5] (fun v k => ∃ j : Nat, j ≤ 8 ∧ k = .int .i64 j ∧ v = .int .u32 (mvN j x : Nat)) (fun _ k => 8 - (intOf k).toNat)
      case atStart => exact ⟨0, by omega, rfl, rfl⟩
      case round =>
        obtain ⟨j, hj, rfl, rfl⟩ := hrel
        have hm := mvN_lt j x hxl
        have HE := Lib.hid (mvN_end j x)
        obtain ⟨y, hy⟩ : ∃ y, y = mvN j x := ⟨_, rfl⟩
        rw [← hy] at hm HE ⊢
        by_cases hlt2 : j < 8
        · clear hy
          by_cases hodd : y % 2 = 1
          · have hb : (((y : Int) % 2) == 1) = true := by simp; omega
            have hx3 := xor_u32 (y / 2) 3988292384 (by omega) (by omega)
            have HM : Hid (mvN (j + 1) x = (y / 2) ^^^ 3988292384) := by
              have := HE.out
              rw [mv, if_pos hodd] at this
              exact this
            have HO := Lib.hid hodd
            clear hodd HE
            go_wp2
            go_round
            case rel => exact ⟨j + 1, by omega, by go_num, by rw [HM.out]; exact congrArg _ hx3⟩
            case measure => simp [intOf]; omega
          · have hb : (((y : Int) % 2) == 1) = false := by simp; omega
            have HM : Hid (mvN (j + 1) x = y / 2) := by
              have := HE.out
              rw [mv, if_neg hodd] at this
              exact this
            have HO := Lib.hid hodd
            clear hodd HE
            go_wp2
            go_round
            case rel => exact ⟨j + 1, by omega, by go_num, by rw [HM.out]; go_num⟩
            case measure => simp [intOf]; omega
        · have h8 : j = 8 := by omega
          subst h8
          have HY := Lib.hid hy
          clear hy
          go_wp2
          go_round
          case rel => exact ⟨i + 1, by omega, by go_num, by rw [HN.out, ← HS.out, upd_eq, ← HX.out, ← HY.out]⟩
          case measure => simp [intOf]; omega
    · have hs := crcF_lt (s.data.toList.take i) 4294967295 (by omega)
      go_wp2
      go_ret
      refine ⟨ret_u32 ?_, rfl⟩
      have : s.data.toList.take i = s.data.toList := List.take_of_length_le (by simp; omega)
      rw [this] at hs ⊢
      rw [crc]
      omega

end Go.Proofs.Ytclgblmhicabnaa
