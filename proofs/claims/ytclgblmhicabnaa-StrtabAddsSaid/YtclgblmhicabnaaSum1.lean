/- DERIVED. The walks of the sum: moved, byteSums, Sum. -/
import Derived.Test.YtclgblmhicabnaaRows
import Derived.Test.YtclgblmhicabnaaCrc
import Derived.Test.YtclgblmhicabnaaMem
import Derived.WalkKit
import Derived.WalkSpells
import Derived.WalkLawsBesides
import Derived.Laws.BitsAll
import Derived.Lib.Hide
import Derived.Handy
namespace Go.Proofs.Ytclgblmhicabnaa
open Go.RowKit Crc

theorem and_one (x : Nat) (hx : x < 4294967296) : bits .and .u32 (x : Int) 1 = ((x % 2 : Nat) : Int) := by
  have := u32_and_nat x 1 hx (by omega)
  rw [nat_mask1] at this
  exact this

theorem xor_u32 (x y : Nat) (hx : x < 4294967296) (hy : y < 4294967296) : bits .xor .u32 (x : Int) (y : Int) = ((x ^^^ y : Nat) : Int) := u32_xor_nat x y hx hy

theorem ret_u32 {a b : Int} (h : a = b) : Ending.returned (.int .u32 a) = .returned (.int .u32 b) := by rw [h]

set_option maxHeartbeats 400000 in
theorem moved_any (x : Nat) (w : World) (hx : x < 4294967296) :
    Calls Try.prog 58 #[.int .u32 x] w fun e w' => e = .returned (.int .u32 (mv x : Nat)) ∧ w = w' := by
  by_cases h : x % 2 = 1
  · have hb : (bits BinOp.and IntKind.u32 (x : Int) 1 == 1) = true := by rw [and_one x hx, h]; rfl
    have H := Lib.hid h
    clear h
    go_enter Try.func58, Try.ntmps58
    go_wp2
    go_ret
    refine ⟨ret_u32 ?_, rfl⟩
    rw [mv, if_pos H.out]
    exact xor_u32 (x / 2) 3988292384 (by omega) (by omega)
  · have hb : (bits BinOp.and IntKind.u32 (x : Int) 1 == 1) = false := by rw [and_one x hx]; simp; omega
    have H := Lib.hid h
    clear h
    go_enter Try.func58, Try.ntmps58
    go_wp2
    go_ret
    refine ⟨ret_u32 ?_, rfl⟩
    rw [mv, if_neg H.out]
    omega

/-- A row of 256 sums. -/
def tab (g : Nat → Nat) : Array Value := Array.ofFn (n := 256) fun i => .int .u32 (g i.val : Nat)

theorem tab_size (g : Nat → Nat) : (tab g).size = 256 := by simp [tab]
theorem tab_get (g : Nat → Nat) (k : Nat) (h : k < 256) : (tab g)[k]? = some (.int .u32 (g k : Nat)) := by
  simp [tab, h]
theorem tab_set (g : Nat → Nat) (j v : Nat) : (tab g).setIfInBounds j (.int .u32 (v : Nat)) = tab (fun k => if k = j then v else g k) := by
  apply Array.ext
  · simp [tab]
  · intro i h1 h2
    have hi : i < (tab g).size := by simpa using h1
    have h3 : i < 256 := by rw [tab_size] at hi; exact hi
    rw [Array.getElem_setIfInBounds hi]
    by_cases e : j = i
    · subst e; simp [tab]
    · simp [tab, e, Ne.symm e]
theorem tab_congr {g h : Nat → Nat} (e : ∀ k, k < 256 → g k = h k) : tab g = tab h := by
  unfold tab
  congr 1
  funext i
  rw [e i.val i.isLt]

theorem tab_zero : (Try.prog.info? 81).map (fun i => (i.zero, i.size, i.bytes)) = some (some (.agg (tab fun _ => 0)), 256, 1024) := by kernel_rfl

theorem run_zero_of {P : Program} {t : TypeId} {i : TypeInfo} {v : Value} (hi : P.info? t = some i) (hz : i.zero = some v) (w : World) :
    (zeroValue t).run P w = .ok v w := by
  simp [zeroValue, typeInfo, hi, hz]

theorem tab_cells : (Try.prog.info? 81).map (·.size) = some 256 := by kernel_rfl
theorem tab_ones (g : Nat → Nat) : (tab g).all (·.oneCell') = true := by
  rw [Array.all_eq_true]
  intro i hi
  have e : (tab g)[i] = Value.int .u32 (g i : Nat) := by simp [tab]
  rw [e]
  simp [Value.oneCell']

theorem shr_bit (i : Nat) (hi : i < 8) : (128 : Int) / 2 ^ i = ((2 ^ (7 - i) : Nat) : Int) := by
  have hi' : i = 0 ∨ i = 1 ∨ i = 2 ∨ i = 3 ∨ i = 4 ∨ i = 5 ∨ i = 6 ∨ i = 7 := by omega
  rcases hi' with rfl | rfl | rfl | rfl | rfl | rfl | rfl | rfl <;> rfl

/-- One round's sums, as they lie in the row: what the inner loop asks and leaves. -/
def BitFacts (i b : Nat) : Prop := b = 2 ^ (7 - i) ∧ i < 8

theorem BitFacts.pos {i b : Nat} (h : BitFacts i b) : 0 < b ∧ b ≤ 128 := by
  obtain ⟨rfl, hi⟩ := h
  exact ⟨Nat.two_pow_pos _, Nat.pow_le_pow_right (j := 7) (show 0 < 2 by omega) (by omega)⟩
theorem BitFacts.two {i b : Nat} (h : BitFacts i b) : 2 * b = 2 ^ (8 - i) := by
  obtain ⟨rfl, hi⟩ := h
  rw [show 8 - i = (7 - i) + 1 by omega, Nat.pow_succ]; omega
theorem BitFacts.room {i b a : Nat} (h : BitFacts i b) (ha : a % (2 * b) = 0) (hlt : a < 256) : a + b < 256 := by
  obtain ⟨rfl, hi⟩ := h
  have hi' : i = 0 ∨ i = 1 ∨ i = 2 ∨ i = 3 ∨ i = 4 ∨ i = 5 ∨ i = 6 ∨ i = 7 := by omega
  rcases hi' with rfl | rfl | rfl | rfl | rfl | rfl | rfl | rfl <;> simp at ha ⊢ <;> omega
theorem BitFacts.step {i b a : Nat} (h : BitFacts i b) (ha : a % (2 * b) = 0) (k : Nat) :
    (if k = a + b then mvN 8 a ^^^ mvN (i + 1) 1 else gIn i a k) = gIn i (a + 2 * b) k := by
  rw [h.two] at ha
  have := gIn_step i a k h.2 ha
  rw [← h.1] at this
  exact this
theorem BitFacts.here {i b a : Nat} (h : BitFacts i b) (ha : a % (2 * b) = 0) : gIn i a a = mvN 8 a := by
  rw [h.two] at ha
  exact gIn_at i a ha

set_option maxRecDepth 100000 in
set_option maxHeartbeats 1000000 in
theorem byteSums_any (w : World) :
    Calls Try.prog 44 #[] w fun e w' => e = .returned (.agg (tab fun k => mvN 8 k)) ∧ Below w.heap.size w w' := by
  obtain ⟨i0, hi0, hz0, hz1, hz2⟩ := info_parts tab_zero
  have hal := run_zero_of hi0 hz0
  clear hi0 hz0 hz1 hz2
  go_enter Try.func44, Try.ntmps44
  go_wp2_with fail
  go_loopw [2, 6] (fun s k wr => ∃ i : Nat, i ≤ 8 ∧ k = .int .i64 i ∧ s = .int .u32 (mvN i 1 : Nat) ∧ Row wr (w.heap.size + 1) 81 (tab (gOut i)) ∧ Row wr w.heap.size 81 (tab fun _ => 0) ∧ Below w.heap.size w wr) (fun _ k _ => 8 - (intOf k).toNat)
  case atStart =>
    have h1 := Row.made w 81 (tab fun _ => 0)
    have h2 := Row.made (w.alloc (.cells (tab fun _ => 0) 81)) 81 (tab fun _ => 0)
    refine ⟨0, by omega, rfl, rfl, ?_, h1.alloc _, ?_⟩
    · rw [tab_congr (h := fun _ => 0) (fun k hk => gOut_zero k hk)]
      simpa using h2
    · go_grown
  case round =>
    obtain ⟨i, hi, rfl, rfl, hT, hZ, hB⟩ := hrel
    have hal := Lib.hid hal
    by_cases hlt : i < 8
    · have hm := mvN_lt i 1 (by omega)
      have HT := Lib.hid hT
      have HZ := Lib.hid hZ
      have HB := Lib.hid hB
      clear hT hZ hB
      go_wp2_with (first | (go_at_call 58; refine (moved_any _ _ hm).mono ?_; rintro e w' ⟨rfl, rfl⟩))
      rw [shr_bit i hlt, ← mvN_end]
      obtain ⟨b, hb⟩ : ∃ b, BitFacts i b := ⟨_, rfl, hlt⟩
      rw [← hb.1]
      have hm1 := mvN_lt (i + 1) 1 (by omega)
      obtain ⟨s1, hs1⟩ : ∃ s1, s1 = mvN (i + 1) 1 := ⟨_, rfl⟩
      rw [← hs1] at hm1 ⊢
      have HS := Lib.hid hs1
      have hb0 := hb.pos
      obtain ⟨wo, rfl⟩ : ∃ wo : World, wo = wr := ⟨_, rfl⟩
      clear hs1 hm
      have HBit := Lib.hid hb
      clear hb
      go_loopw [5] (fun a wr => ∃ n : Nat, n % (2 * b) = 0 ∧ n ≤ 384 ∧ a = .int .i64 n ∧ Row wr (w.heap.size + 1) 81 (tab (gIn i n)) ∧ Row wr w.heap.size 81 (tab fun _ => 0) ∧ Below w.heap.size w wr) (fun a _ => 256 - (intOf a).toNat)
      case atStart =>
        refine ⟨0, by simp, by omega, rfl, ?_, HZ.out, HB.out⟩
        rw [tab_congr (h := gOut i) (fun k _ => gIn_zero i k)]
        exact HT.out
      case round =>
        obtain ⟨n, hn, hn2, rfl, hT, hZ, hB⟩ := hrel
        by_cases hlt2 : n < 256
        · have hroom := HBit.out.room hn hlt2
          have c1 := hT.cell n
          rw [tab_get _ n hlt2, HBit.out.here hn] at c1
          have c2 := hT.cell (n + b)
          rw [tab_get _ (n + b) hroom] at c2
          have f2 := hT.free (n + b)
          have hT2 := hT.set (n + b) (.int .u32 (mvN 8 n ^^^ s1 : Nat))
          rw [tab_set, HS.out, tab_congr (fun k _ => HBit.out.step hn k), ← HS.out] at hT2
          have hx := xor_u32 (mvN 8 n) s1 (mvN_lt 8 n (by omega)) hm1
          have HT2 := Lib.hid hT2
          have HZ2 := Lib.hid (hZ.far (p := ⟨w.heap.size + 1, n + b, none⟩) (by simp) (.int .u32 (mvN 8 n ^^^ s1 : Nat)))
          have HB2 := Lib.hid (hB.setCell (p := ⟨w.heap.size + 1, n + b, none⟩) (by simp) (.int .u32 (mvN 8 n ^^^ s1 : Nat)))
          have HN := Lib.hid hn
          clear hT2 hT hZ hB hn
          go_wp2
          go_roundw
          case rel =>
            refine ⟨n + 2 * b, ?_, by omega, by go_num, HT2.out, HZ2.out, HB2.out⟩
            rw [Nat.add_mod_right]
            exact HN.out
          case measure => simp [intOf]; omega
        · have HT2 := Lib.hid hT
          have HZ2 := Lib.hid hZ
          have HB2 := Lib.hid hB
          clear hT hZ hB
          go_wp2
          go_roundw
          case rel =>
            refine ⟨i + 1, by omega, by go_num, by rw [HS.out], ?_, HZ2.out, HB2.out⟩
            have h := HT2.out
            rw [tab_congr (fun k hk => gIn_last i k n hlt hk (by omega))] at h
            exact h
          case measure => simp [intOf]; omega
    · have h8 : i = 8 := by omega
      subst h8
      rw [tab_congr (fun k _ => gOut_last k)] at hT
      have HB := Lib.hid hB
      clear hB
      go_wp2_with (first
        | (refine wpList_load_row rfl 81 _ rfl (w.heap.size + 1) rfl _ _ _ _ hT Try.underlying81 rfl (by rw [tab_size]; exact tab_cells) ?_)
        | (refine wpList_store_row rfl 81 _ _ rfl w.heap.size (tab fun k => mvN 8 k) rfl rfl _ _ hZ (by rw [tab_size]; exact tab_cells) (by rw [tab_size, tab_size]) (tab_ones _) ?_))
      refine bodyPost_ret (results_cell_row rfl _ _ w.heap.size _ _ _ _ rfl (hZ.setRow _) Try.underlying81 rfl (by rw [tab_size]; exact tab_cells)) rfl ⟨rfl, below_setRow HB.out (Nat.le_refl _) _⟩

end Go.Proofs.Ytclgblmhicabnaa
