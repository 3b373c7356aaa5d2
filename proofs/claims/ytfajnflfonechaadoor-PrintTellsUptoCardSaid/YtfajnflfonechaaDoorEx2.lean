/- DERIVED. Walks: how deep an expression is (both), whether it is no deeper than so much. -/
import Derived.Test.YtfajnflfonechaaDoorEx1
namespace Go.Proofs.YtfajnflfonechaaDoor
open Go.RowKit

theorem refDepth_any (N : Nat) : ∀ (x : X) (A : Option Addr) (c : Nat) (w : World) (S : Nat → Prop), x.size ≤ N → N ≤ 1099511627776 → KS w S A x.ks → (∀ b, S b → b < w.heap.size) →
    Calls Tryd.prog 36 #[ev x A c] w fun e w' => e = .returned (.int .i64 (x.depth : Nat)) ∧ Below w.heap.size w w' := by
  induction N with
  | zero => intro x A c w S h; have := x.size_pos; omega
  | succ N ih =>
    intro x A c w S hN hM hk hS
    obtain ⟨k, o, n, s, ks⟩ := x
    simp only [X.size, X.depth, X.ks, ev, X.k, X.o, X.n, X.s] at hN hk ⊢
    have hr0 := Row.made w 46 #[.int .i64 k, .int .i64 o, .int .i64 n, .string ⟨s.toArray⟩, .slice A ks.length c]
    have hlen := X.sizes_length ks
    have hdep := X.depths_le ks
    have HK := Lib.hid hk
    have HR := Lib.hid hr0
    clear hk hr0
    go_enter Tryd.func36, Tryd.ntmps36
    go_wp2_with fail
    go_loopw [3, 4] (fun m i wr => ∃ j : Nat, j ≤ ks.length ∧ i = .int .i64 j ∧ m = .int .i64 (X.depths (ks.take j) : Nat) ∧ Below (w.heap.size + 1) (w.alloc (.cells #[.int .i64 k, .int .i64 o, .int .i64 n, .string ⟨s.toArray⟩, .slice A ks.length c] 46)) wr)
      (fun _ i _ => ks.length - (intOf i).toNat)
    case atStart => exact ⟨0, by omega, rfl, by simp [X.depths], Below.refl _ _⟩
    case round =>
      obtain ⟨j, hj, rfl, rfl, hb⟩ := hrel
      have c4 := (HR.out.below hb (by omega)).cell 4
      simp at c4
      have hle := X.depths_take_le ks j
      have hbw : Below w.heap.size w wr := ((Below.refl _ w).alloc (Nat.le_refl _) _).trans (hb.mono (by omega))
      have hws := hbw.size
      by_cases hlt : j < ks.length
      · obtain ⟨y, hy⟩ : ∃ y, ks[j]? = some y := ⟨_, List.getElem?_eq_getElem hlt⟩
        obtain ⟨b, off, A', c', rfl, d0, d1, d2, d3, d4, hk', hbl⟩ := HK.out.kid_at hS hbw hy
        have hsz := X.depths_take hy
        have hyl := X.depths_at hy
        have CL := ih y A' c' wr S (by have := X.sizes_at hy; omega) (by omega) hk' (fun b h => Nat.lt_of_lt_of_le (hS b h) hws)
        simp only [ev] at CL
        have HC := Lib.hid CL
        have HZ := Lib.hid hsz
        have HB := Lib.hid hb
        clear CL hy hsz hb hk' hbw
        by_cases hgt : (X.depths (ks.take j) : Int) < (y.depth : Int)
        all_goals
          go_wp2_with (go_at_call 36; refine HC.out.mono ?_; rintro e w1 ⟨rfl, hb1⟩; have HB1 := Lib.hid hb1; clear hb1)
          go_roundw
          case rel => exact ⟨j + 1, by omega, by go_num, by rw [HZ.out]; first | rw [Nat.max_eq_right (by omega)] | rw [Nat.max_eq_left (by omega)], HB.out.trans (HB1.out.mono (by have := HB.out.size; simp at this; omega))⟩
          case measure => simp [intOf]; omega
      · obtain rfl : j = ks.length := by omega
        have HB := Lib.hid hbw
        clear hb hbw
        go_wp2_with fail
        go_ret
        exact ⟨by rw [List.take_length]; go_num, HB.out⟩

def inB (n d : Nat) : Bool := decide (n ≤ d)
theorem inB_true {n d : Nat} (h : n ≤ d) : inB n d = true := decide_eq_true h
theorem inB_false {n d : Nat} (h : ¬ n ≤ d) : inB n d = false := decide_eq_false h

theorem within_any (d : Nat) : ∀ (z : Int) (x : X) (A : Option Addr) (c : Nat) (w : World) (S : Nat → Prop), z = (d : Int) → d ≤ 1000000 → x.ks.length ≤ 1099511627776 → (∀ y ∈ x.ks, y.size ≤ 1099511627776) → KS w S A x.ks → (∀ b, S b → b < w.heap.size) →
    Calls Tryd.prog 83 #[ev x A c, .int .i64 z] w fun e w' => e = .returned (.bool (inB x.depth d)) ∧ Below w.heap.size w w' := by
  induction d with
  | zero =>
    intro z x A c w S hz _ _ _ _ _
    obtain ⟨k, o, n, s, ks⟩ := x
    subst hz
    simp only [X.depth, X.ks, ev, X.k, X.o, X.n, X.s]
    go_enter Tryd.func83, Tryd.ntmps83
    go_wp2_with fail
    go_ret
    exact ⟨by rw [inB_false (by omega)]; rfl, (Below.refl _ _).alloc (Nat.le_refl _) _⟩
  | succ d ih =>
    intro z x A c w S hz hM hlen hsz hk hS
    obtain ⟨k, o, n, s, ks⟩ := x
    simp only [X.depth, X.ks, ev, X.k, X.o, X.n, X.s] at hk hlen hsz ⊢
    have h0 : 0 < z := by omega
    have h9 : z ≤ 1000000 := by omega
    have hz0 : (z == 0) = false := by simp; omega
    have HK := Lib.hid hk
    have HZ := Lib.hid hz
    have HS := Lib.hid hsz
    clear hk hz hsz
    go_enter Tryd.func83, Tryd.ntmps83
    go_wp2_with fail
    go_loopw [12] (fun i wr => ∃ j : Nat, j ≤ ks.length ∧ i = .int .i64 j ∧ X.depths (ks.take j) ≤ d ∧ Below w.heap.size w wr)
      (fun i _ => ks.length - (intOf i).toNat)
    case atStart => exact ⟨0, by omega, rfl, by simp [X.depths], (Below.refl _ _).alloc (Nat.le_refl _) _⟩
    case round =>
      obtain ⟨j, hj, rfl, hd, hbw⟩ := hrel
      have hws := hbw.size
      by_cases hlt : j < ks.length
      · obtain ⟨y, hy⟩ : ∃ y, ks[j]? = some y := ⟨_, List.getElem?_eq_getElem hlt⟩
        obtain ⟨b, off, A', c', rfl, d0, d1, d2, d3, d4, hk', hbl⟩ := HK.out.kid_at hS hbw hy
        have hsz := X.depths_take hy
        have hyl := X.depths_at hy
        have hy9 := HS.out y (List.mem_of_getElem? hy)
        have HD := Lib.hid hd
        by_cases hin : y.depth ≤ d
        · have HC : Hid (∀ w2, Below wr.heap.size wr w2 → Calls Tryd.prog 83 #[.agg #[.int .i64 y.k, .int .i64 y.o, .int .i64 y.n, .string ⟨y.s.toArray⟩, .slice A' y.ks.length c'], .int .i64 (z - 1)] w2 fun e w' => e = .returned (.bool true) ∧ Below w2.heap.size w2 w') :=
            fun w2 hb2 => (ih (z - 1) y A' c' w2 S (by have := HZ.out; omega) (by omega) (Nat.le_trans (Nat.le_trans (X.sizes_length y.ks) (by cases y; simp only [X.size, X.ks]; omega)) hy9) (fun u hu => Nat.le_trans (Nat.le_trans (by obtain ⟨i, hi⟩ := List.mem_iff_getElem?.1 hu; exact X.sizes_at hi) (by cases y; simp only [X.size, X.ks]; omega)) hy9) (hk'.later (fun b h => Nat.lt_of_lt_of_le (hS b h) hws) hb2) (fun b h => Nat.lt_of_lt_of_le (hS b h) (Nat.le_trans hws hb2.size))).mono fun e w' h => ⟨by rw [h.1, inB_true hin], h.2⟩
          have HT := Lib.hid hsz
          have HB := Lib.hid hbw
          clear hy hsz hk' hbw hd
          go_wp2_with (go_at_call 83; refine (HC.out _ ((Below.refl _ _).alloc (Nat.le_refl _) _)).mono ?_; rintro e w1 ⟨rfl, hb1⟩; have HB1 := Lib.hid hb1; clear hb1)
          go_roundw
          case rel => exact ⟨j + 1, by omega, by go_num, by rw [HT.out]; have := HD.out; omega, HB.out.trans (((Below.refl _ _).alloc hws _).trans (HB1.out.mono (by simp; omega)))⟩
          case measure => simp [intOf]; omega
        · have HC : Hid (∀ w2, Below wr.heap.size wr w2 → Calls Tryd.prog 83 #[.agg #[.int .i64 y.k, .int .i64 y.o, .int .i64 y.n, .string ⟨y.s.toArray⟩, .slice A' y.ks.length c'], .int .i64 (z - 1)] w2 fun e w' => e = .returned (.bool false) ∧ Below w2.heap.size w2 w') :=
            fun w2 hb2 => (ih (z - 1) y A' c' w2 S (by have := HZ.out; omega) (by omega) (Nat.le_trans (Nat.le_trans (X.sizes_length y.ks) (by cases y; simp only [X.size, X.ks]; omega)) hy9) (fun u hu => Nat.le_trans (Nat.le_trans (by obtain ⟨i, hi⟩ := List.mem_iff_getElem?.1 hu; exact X.sizes_at hi) (by cases y; simp only [X.size, X.ks]; omega)) hy9) (hk'.later (fun b h => Nat.lt_of_lt_of_le (hS b h) hws) hb2) (fun b h => Nat.lt_of_lt_of_le (hS b h) (Nat.le_trans hws hb2.size))).mono fun e w' h => ⟨by rw [h.1, inB_false hin], h.2⟩
          have HB := Lib.hid hbw
          have HY := Lib.hid hyl
          clear hy hsz hk' hbw hd hyl
          go_wp2_with (go_at_call 83; refine (HC.out _ ((Below.refl _ _).alloc (Nat.le_refl _) _)).mono ?_; rintro e w1 ⟨rfl, hb1⟩; have HB1 := Lib.hid hb1; clear hb1)
          go_ret
          exact ⟨congrArg (fun b => Ending.returned (.bool b)) (inB_false (n := 1 + X.depths ks) (d := d + 1) (by have := HY.out; omega)).symm, HB.out.trans (((Below.refl _ _).alloc hws _).trans (HB1.out.mono (by simp; omega)))⟩
      · obtain rfl : j = ks.length := by omega
        have HB := Lib.hid hbw
        have HD := Lib.hid hd
        clear hbw hd
        go_wp2_with fail
        go_ret
        exact ⟨congrArg (fun b => Ending.returned (.bool b)) (inB_true (n := 1 + X.depths ks) (d := d + 1) (by have := HD.out; rw [List.take_length] at this; omega)).symm, HB.out⟩

end Go.Proofs.YtfajnflfonechaaDoor
