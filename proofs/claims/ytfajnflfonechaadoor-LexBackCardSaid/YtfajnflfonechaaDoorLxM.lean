/- DERIVED. The code's parts: what stands between, words and names. -/
import Derived.Test.YtfajnflfonechaaDoorLxK
namespace Go.Proofs.YtfajnflfonechaaDoor
open Go.RowKit

theorem takeWhile_take {p : UInt8 → Bool} (l : T) : l.takeWhile p = l.take (l.takeWhile p).length := (List.prefix_iff_eq_take.1 (List.takeWhile_prefix p))
theorem betS_take {l : T} (h : (betS l).2 = true) : (betS l).1 = l.take (betS l).1.length := by
  unfold betS at h ⊢
  split
  · exact takeWhile_take l
  · split
    · rename_i h1 h2
      rw [if_neg h1, if_pos h2] at h
      unfold noteS at h ⊢
      cases hn : endOf (l.drop 2) with
      | none => rw [hn] at h; cases h
      | some n =>
        simp only
        have := endOf_le _ _ hn
        rw [List.length_drop] at this
        rw [List.length_take, Nat.min_eq_left (by omega)]
    · exact takeWhile_take l

set_option maxRecDepth 100000 in
set_option maxHeartbeats 1000000 in
theorem mBetween_any (s : T) (W0 W1 : World) (B : Nat) (w : World) (b mb mc : Nat) (tv : Value) (l : T) (a : Nat) (acc : List Tk) (h : LxAt s W0 W1 B w b mb mc tv l a acc) :
    Calls Tryd.prog 45 #[.pointer (some ⟨b, 0, none⟩)] w fun e w' =>
      ((betS l).2 = true ∧ e = .returned (.int .i64 0) ∧ LxAt s W0 W1 B w' b mb mc tv (l.drop (betS l).1.length) (a + (betS l).1.length) acc) ∨ ((betS l).2 = false ∧ e = .returned (.int .i64 2) ∧ LxAt s W0 W1 B w' b mb mc tv l a acc) := by
  have hrow := (show Row w b 69 _ from h.row_)
  have c0 := hrow.cell 0
  simp at c0
  have hll : l.length ≤ 1000000 := by have := congrArg List.length h.rest_; rw [List.length_drop] at this; have := h.short_; omega
  have hbt := between_any l w hll (h.env_.later h.below_)
  have HAT := Lib.hid h
  have hpb := plAt_bound s a h.short_
  have HPB := Lib.hid hpb
  clear hrow h hpb
  by_cases hk : (betS l).2 = true
  · have hx := betS_take hk
    rw [hk] at hbt
    have HBT := Lib.hid hbt
    have HK := Lib.hid hk
    obtain ⟨x, hxe⟩ : ∃ x, x = (betS l).1 := ⟨_, rfl⟩
    rw [← hxe] at hx HBT
    have hlx : l = x ++ l.drop x.length := by
      have := List.take_append_drop x.length l
      rw [← hx] at this
      exact this.symm
    have HLX := Lib.hid hlx
    have hxl : x.length ≤ 1000000 := by have := congrArg List.length hlx; rw [List.length_append] at this; omega
    have HPS : Hid (∀ w1, Below w.heap.size w w1 → Calls Tryd.prog 67 #[.pointer (some ⟨b, 0, none⟩), .string ⟨x.toArray⟩] w1 fun e w' => e = .returned (.tuple #[]) ∧ TxR w' b (l.drop x.length) (plS (plAt s a) x) tv (.map (some mb)) ∧ w1.grownBy w' (some b)) := fun w1 hb1 =>
      pass_any x (l.drop x.length) b (plAt s a) tv (.map (some mb)) w1 hxl HPB.out.1 HPB.out.2.1 HPB.out.2.2.1 HPB.out.2.2.2 (by rw [← HLX.out]; exact (HAT.out.later hb1).row_)
    have HXE := Lib.hid hxe
    clear hbt hk hx hlx hxe
    go_enter Tryd.func45, Tryd.ntmps45
    go_wp2_with (first
      | (go_at_call 66; refine HBT.out.mono ?_; rintro e w1 ⟨rfl, hb1⟩; have HB1 := Lib.hid hb1; clear hb1)
      | (go_at_call 67; refine (HPS.out _ HB1.out).mono ?_; rintro e w2 ⟨rfl, hr2, hg2⟩; have HR2 := Lib.hid hr2; have HG2 := Lib.hid hg2; clear hr2 hg2))
    go_ret
    refine .inl ⟨HK.out, rfl, ?_⟩
    rw [← HXE.out]
    have h1 := HAT.out.later HB1.out
    rw [HLX.out] at h1
    exact h1.passed HR2.out HG2.out
  · have hk' : (betS l).2 = false := (Bool.not_eq_true _).mp hk
    rw [hk'] at hbt
    have HBT := Lib.hid hbt
    have HK := Lib.hid hk'
    clear hbt hk hk'
    go_enter Tryd.func45, Tryd.ntmps45
    go_wp2_with (go_at_call 66; refine HBT.out.mono ?_; rintro e w1 ⟨rfl, hb1⟩; have HB1 := Lib.hid hb1; clear hb1)
    go_ret
    exact .inr ⟨HK.out, rfl, HAT.out.later HB1.out⟩

/-- What a part leaves: a code, and a state. -/
def Part (s : T) (W0 W1 : World) (B b mb : Nat) (code : Int) (l : T) (a : Nat) (acc : List Tk) (e : Ending) (w' : World) : Prop := e = .returned (.int .i64 code) ∧ ∃ tv mc, mc ≤ a ∧ LxAt s W0 W1 B w' b mb mc tv l a acc

set_option maxRecDepth 100000 in
set_option maxHeartbeats 1000000 in
theorem mWord_off (s : T) (W0 W1 : World) (B : Nat) (w : World) (b mb mc : Nat) (tv : Value) (c : UInt8) (r : T) (a : Nat) (acc : List Tk) (hmc : mc ≤ a) (h : LxAt s W0 W1 B w b mb mc tv (c :: r) a acc) (hc : ltr c = false) :
    Calls Tryd.prog 46 #[.pointer (some ⟨b, 0, none⟩)] w (Part s W0 W1 B b mb 0 (c :: r) a acc) := by
  have hrow := (show Row w b 69 _ from h.row_)
  have c0 := hrow.cell 0
  simp at c0
  have hl := lxLetter_any (c.toNat : Int) w
  rw [show isL (c.toNat : Int) = false from hc] at hl
  have HL := Lib.hid hl
  have HAT := Lib.hid h
  clear hrow h hl hc
  go_enter Tryd.func46, Tryd.ntmps46
  go_wp2_with (go_at_call 68; refine HL.out.mono ?_; rintro e w1 ⟨rfl, rfl⟩)
  go_ret
  exact ⟨rfl, tv, mc, hmc, HAT.out⟩

set_option maxRecDepth 100000 in
set_option maxHeartbeats 1000000 in
theorem mWord_on (s : T) (W0 W1 : World) (B : Nat) (w : World) (b mb mc : Nat) (tv : Value) (c : UInt8) (r : T) (a : Nat) (acc : List Tk) (k : Int) (hmc : mc ≤ a) (h : LxAt s W0 W1 B w b mb mc tv (c :: r) a acc) (hc : ltr c = true) (hk : kindV ((c :: r).takeWhile ltd) = .tuple #[.int .i64 k, .bool true]) :
    Calls Tryd.prog 46 #[.pointer (some ⟨b, 0, none⟩)] w (Part s W0 W1 B b mb 0 ((c :: r).drop ((c :: r).takeWhile ltd).length) (a + ((c :: r).takeWhile ltd).length) (acc ++ [⟨k, (c :: r).takeWhile ltd, 0, a⟩])) := by
  have hrow := (show Row w b 69 _ from h.row_)
  have c0 := hrow.cell 0
  simp at c0
  have hll : (c :: r).length ≤ 1000000 := by have := congrArg List.length h.rest_; rw [List.length_drop] at this; have := h.short_; omega
  have hl := lxLetter_any (c.toNat : Int) w
  rw [show isL (c.toNat : Int) = true from hc] at hl
  have HL := Lib.hid hl
  have HRUN := Lib.hid (runName_any (c :: r) w (by omega))
  have hpos : 0 < ((c :: r).takeWhile ltd).length := takeWhile_pos (by simp [ltd, hc])
  have hx := takeWhile_take (p := ltd) (c :: r)
  have hle := takeWhile_le (p := ltd) (c :: r)
  generalize hxe : (c :: r).takeWhile ltd = x at HRUN hpos hx hle hk ⊢
  have hlx : c :: r = x ++ (c :: r).drop x.length := by
    have := List.take_append_drop x.length (c :: r)
    rw [← hx] at this
    exact this.symm
  have HLX := Lib.hid hlx
  have hma : mc ≤ 1000000 := by have := h.le_; have := h.short_; omega
  have HKD : Hid (Calls Tryd.prog 71 #[.pointer (some ⟨b, 0, none⟩), .string ⟨x.toArray⟩] w fun e w' => e = .returned (.tuple #[.int .i64 k, .bool true]) ∧ LxAt s W0 W1 B w' b mb (mc + 1) tv (c :: r) a acc) := by
    have := kind_any s W0 W1 B w b mb mc tv (c :: r) a acc x (by omega) hma h
    rw [hk] at this
    exact this
  clear hrow h hl hc hk hxe hx hlx
  go_enter Tryd.func46, Tryd.ntmps46
  go_wp2_with (first
    | (go_at_call 68; refine HL.out.mono ?_; rintro e w1 ⟨rfl, rfl⟩)
    | (go_at_call 69; refine HRUN.out.mono ?_; rintro e w1 ⟨rfl, rfl⟩)
    | (go_at_call 71; refine HKD.out.mono ?_; rintro e w1 ⟨rfl, ha1⟩; have HA1 : Hid (LxAt s W0 W1 B w1 b mb (mc + 1) tv (x ++ (c :: r).drop x.length) a acc) := Lib.hid (by rw [← HLX.out]; exact ha1); clear ha1)
    | (go_at_call 72; refine (take_any s W0 W1 B _ b mb (mc + 1) tv x ((c :: r).drop x.length) a acc k 0 hpos HA1.out).mono ?_; rintro e w2 ⟨rfl, tv2, ha2⟩; have HA2 := Lib.hid ha2; clear ha2))
  go_ret
  exact ⟨rfl, tv2, mc + 1, by omega, HA2.out⟩

set_option maxRecDepth 100000 in
set_option maxHeartbeats 1000000 in
theorem mWord_bad (s : T) (W0 W1 : World) (B : Nat) (w : World) (b mb mc : Nat) (tv : Value) (c : UInt8) (r : T) (a : Nat) (acc : List Tk) (hmc : mc ≤ a) (h : LxAt s W0 W1 B w b mb mc tv (c :: r) a acc) (hc : ltr c = true) (hk : kindV ((c :: r).takeWhile ltd) = .tuple #[.int .i64 0, .bool false]) :
    Calls Tryd.prog 46 #[.pointer (some ⟨b, 0, none⟩)] w fun e w' => e = .returned (.int .i64 4) ∧ LxAt s W0 W1 B w' b mb (mc + 1) tv (c :: r) a acc := by
  have hrow := (show Row w b 69 _ from h.row_)
  have c0 := hrow.cell 0
  simp at c0
  have hll : (c :: r).length ≤ 1000000 := by have := congrArg List.length h.rest_; rw [List.length_drop] at this; have := h.short_; omega
  have hl := lxLetter_any (c.toNat : Int) w
  rw [show isL (c.toNat : Int) = true from hc] at hl
  have HL := Lib.hid hl
  have HRUN := Lib.hid (runName_any (c :: r) w (by omega))
  have hle := takeWhile_le (p := ltd) (c :: r)
  generalize hxe : (c :: r).takeWhile ltd = x at HRUN hle hk ⊢
  have hma : mc ≤ 1000000 := by have := h.le_; have := h.short_; omega
  have HKD : Hid (Calls Tryd.prog 71 #[.pointer (some ⟨b, 0, none⟩), .string ⟨x.toArray⟩] w fun e w' => e = .returned (.tuple #[.int .i64 0, .bool false]) ∧ LxAt s W0 W1 B w' b mb (mc + 1) tv (c :: r) a acc) := by
    have := kind_any s W0 W1 B w b mb mc tv (c :: r) a acc x (by omega) hma h
    rw [hk] at this
    exact this
  clear hrow h hl hc hk hxe
  go_enter Tryd.func46, Tryd.ntmps46
  go_wp2_with (first
    | (go_at_call 68; refine HL.out.mono ?_; rintro e w1 ⟨rfl, rfl⟩)
    | (go_at_call 69; refine HRUN.out.mono ?_; rintro e w1 ⟨rfl, rfl⟩)
    | (go_at_call 71; refine HKD.out.mono ?_; rintro e w1 ⟨rfl, ha1⟩; have HA1 := Lib.hid ha1; clear ha1))
  go_ret
  exact ⟨rfl, HA1.out⟩

end Go.Proofs.YtfajnflfonechaaDoor
