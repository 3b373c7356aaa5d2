/- DERIVED. The code's parts: numbers. -/
import Derived.Test.YtfajnflfonechaaDoorLxM
import Derived.Lib.ParseIntBTie
namespace Go.Proofs.YtfajnflfonechaaDoor
open Go.RowKit

theorem valS_ge (x : T) : ∀ acc, acc ≤ valS acc x := by
  induction x with
  | nil => intro acc; exact Nat.le_refl _
  | cons c r ih => intro acc; unfold valS; have := ih (10 * acc + (c.toNat - 48)); omega
theorem parse_val (x : T) : ∀ acc : Nat, (∀ c ∈ x, dgt c = true) → acc < 18446744073709551616 → Lib.parseUint10 acc x = if valS acc x < 18446744073709551616 then .ok (valS acc x) else .range := by
  induction x with
  | nil =>
    intro acc _ h
    show Lib.NumEnd.ok acc = if acc < 18446744073709551616 then Lib.NumEnd.ok acc else Lib.NumEnd.range
    rw [if_pos h]
  | cons c r ih =>
    intro acc hd h
    have hc := hd c (List.mem_cons_self ..)
    unfold dgt isD at hc
    have hc := of_decide_eq_true hc
    have e1 : 48 ≤ c.toNat ∧ c.toNat ≤ 57 := by omega
    have hge := valS_ge r (10 * acc + (c.toNat - 48))
    rw [Lib.parseUint10, if_pos e1, show valS acc (c :: r) = valS (10 * acc + (c.toNat - 48)) r from rfl]
    have e2 : acc * 10 + (c.toNat - 48) = 10 * acc + (c.toNat - 48) := by omega
    rw [e2]
    by_cases h1 : 1844674407370955162 ≤ acc
    · have h3 : ¬ valS (10 * acc + (c.toNat - 48)) r < 18446744073709551616 := by omega
      rw [if_pos h1, if_neg h3]
    · by_cases h2 : 18446744073709551616 ≤ 10 * acc + (c.toNat - 48)
      · have h3 : ¬ valS (10 * acc + (c.toNat - 48)) r < 18446744073709551616 := by omega
        rw [if_neg h1, if_pos h2, if_neg h3]
      · rw [if_neg h1, if_neg h2]
        exact ih _ (fun d hd' => hd d (List.mem_cons_of_mem _ hd')) (by omega)
theorem parse_digits {c : UInt8} {r : T} (h : ∀ d ∈ c :: r, dgt d = true) : Lib.parseIntB 64 (c :: r) = if valS 0 (c :: r) ≤ 9223372036854775807 then .ok (valS 0 (c :: r) : Nat) else .range := by
  have hc := h c (List.mem_cons_self ..)
  unfold dgt isD at hc
  have hc := of_decide_eq_true hc
  rw [Lib.parseIntB_64]
  unfold Lib.atoiAll
  have h43 : ¬ (c.toNat = 43 ∨ c.toNat = 45) := by omega
  have h45 : ¬ c.toNat = 45 := by omega
  have hif : (if c.toNat = 43 ∨ c.toNat = 45 then r else c :: r) = c :: r := if_neg h43
  have hmag : Lib.parseMag (c :: r) = if valS 0 (c :: r) < 18446744073709551616 then .ok (valS 0 (c :: r)) else .range := by
    unfold Lib.parseMag
    rw [if_neg (by simp), parse_val _ 0 h (by omega)]
  simp only [hif, hmag]
  generalize valS 0 (c :: r) = v
  by_cases h1 : v ≤ 9223372036854775807
  · have h2 : v < 18446744073709551616 := by omega
    have h3 : ¬ (¬ c.toNat = 45 ∧ 9223372036854775808 ≤ v) := fun h => by omega
    have h4 : ¬ (c.toNat = 45 ∧ 9223372036854775808 < v) := fun h => h45 h.1
    rw [if_pos h2, if_pos h1]
    show (if ¬ c.toNat = 45 ∧ 9223372036854775808 ≤ v then Lib.NumEnd.range else if c.toNat = 45 ∧ 9223372036854775808 < v then Lib.NumEnd.range else Lib.NumEnd.ok (if c.toNat = 45 then -(v : Int) else v)) = _
    rw [if_neg h3, if_neg h4, if_neg h45]
  · rw [if_neg h1]
    by_cases h2 : v < 18446744073709551616
    · have h3 : ¬ c.toNat = 45 ∧ 9223372036854775808 ≤ v := ⟨h45, by omega⟩
      rw [if_pos h2]
      show (if ¬ c.toNat = 45 ∧ 9223372036854775808 ≤ v then Lib.NumEnd.range else if c.toNat = 45 ∧ 9223372036854775808 < v then Lib.NumEnd.range else Lib.NumEnd.ok (if c.toNat = 45 then -(v : Int) else v)) = _
      rw [if_pos h3]
    · rw [if_neg h2]

set_option maxRecDepth 100000 in
set_option maxHeartbeats 1000000 in
theorem mNum_off (s : T) (W0 W1 : World) (B : Nat) (w : World) (b mb mc : Nat) (tv : Value) (c : UInt8) (r : T) (a : Nat) (acc : List Tk) (hmc : mc ≤ a) (h : LxAt s W0 W1 B w b mb mc tv (c :: r) a acc) (hc : dgt c = false) :
    Calls Tryd.prog 47 #[.pointer (some ⟨b, 0, none⟩)] w (Part s W0 W1 B b mb 0 (c :: r) a acc) := by
  have hrow := (show Row w b 69 _ from h.row_)
  have c0 := hrow.cell 0
  simp at c0
  have hll : (c :: r).length ≤ 1000000 := by have := congrArg List.length h.rest_; rw [List.length_drop] at this; have := h.short_; omega
  have hrun := runNum_any (c :: r) w (by omega)
  rw [List.takeWhile_cons, if_neg (by rw [hc]; decide)] at hrun
  have HRUN := Lib.hid hrun
  have HAT := Lib.hid h
  clear hrow h hc hrun
  go_enter Tryd.func47, Tryd.ntmps47
  go_wp2_with (go_at_call 69; refine HRUN.out.mono ?_; rintro e w1 ⟨rfl, rfl⟩)
  go_ret
  exact ⟨rfl, tv, mc, hmc, HAT.out⟩

set_option maxRecDepth 100000 in
set_option maxHeartbeats 1000000 in
theorem mNum_on (s : T) (W0 W1 : World) (B : Nat) (w : World) (b mb mc : Nat) (tv : Value) (c : UInt8) (r : T) (a : Nat) (acc : List Tk) (hmc : mc ≤ a) (h : LxAt s W0 W1 B w b mb mc tv (c :: r) a acc) (hc : dgt c = true) (hk : valS 0 ((c :: r).takeWhile dgt) ≤ 9223372036854775807) :
    Calls Tryd.prog 47 #[.pointer (some ⟨b, 0, none⟩)] w (Part s W0 W1 B b mb 0 ((c :: r).drop ((c :: r).takeWhile dgt).length) (a + ((c :: r).takeWhile dgt).length) (acc ++ [⟨3, (c :: r).takeWhile dgt, (valS 0 ((c :: r).takeWhile dgt) : Nat), a⟩])) := by
  have hrow := (show Row w b 69 _ from h.row_)
  have c0 := hrow.cell 0
  simp at c0
  have hll : (c :: r).length ≤ 1000000 := by have := congrArg List.length h.rest_; rw [List.length_drop] at this; have := h.short_; omega
  have HRUN := Lib.hid (runNum_any (c :: r) w (by omega))
  have hpos : 0 < ((c :: r).takeWhile dgt).length := takeWhile_pos hc
  have hx := takeWhile_take (p := dgt) (c :: r)
  have hle := takeWhile_le (p := dgt) (c :: r)
  have hall : ∀ d ∈ (c :: r).takeWhile dgt, dgt d = true := fun d hd => List.all_eq_true.1 List.all_takeWhile d hd
  have hcons : (c :: r).takeWhile dgt = c :: r.takeWhile dgt := by rw [List.takeWhile_cons, if_pos hc]
  have hpd : Lib.parseIntB 64 ((c :: r).takeWhile dgt) = .ok (valS 0 ((c :: r).takeWhile dgt) : Nat) := by
    have := parse_digits (c := c) (r := r.takeWhile dgt) (by rw [← hcons]; exact hall)
    rw [← hcons, if_pos hk] at this
    exact this
  generalize hxe : (c :: r).takeWhile dgt = x at HRUN hpos hx hle hk hpd ⊢
  have hlx : c :: r = x ++ (c :: r).drop x.length := by
    have := List.take_append_drop x.length (c :: r)
    rw [← hx] at this
    exact this.symm
  have HAT : Hid (LxAt s W0 W1 B w b mb mc tv (x ++ (c :: r).drop x.length) a acc) := Lib.hid (by rw [← hlx]; exact h)
  obtain ⟨v, hv⟩ : ∃ v : Int, v = (valS 0 x : Nat) := ⟨_, rfl⟩
  rw [← hv] at hpd ⊢
  have HPI := Lib.hid (Tryd.strconv_ParseInt_10_at64_ok ⟨x.toArray⟩ (by show x.toArray.size ≤ _; simp; omega) v hpd w)
  have hne : (x == []) = false := by cases x with | nil => simp at hpos | cons p q => rfl
  have hne2 : ¬ x = [] := by rintro rfl; simp at hpos
  clear hrow h hc hk hxe hx hlx hall hcons hpd hv
  go_enter Tryd.func47, Tryd.ntmps47
  go_wp2_with (first
    | (go_at_call 69; refine HRUN.out.mono ?_; rintro e w1 ⟨rfl, rfl⟩)
    | (go_at_call 74; refine HPI.out.mono ?_; rintro e w1 ⟨rfl, hw1⟩; have HB1 : Hid (Below w.heap.size w w1) := Lib.hid (by rcases hw1 with rfl | ⟨t, rfl⟩; exact Below.refl _ _; exact bytesWorld_below _ _ _); have HA1 := Lib.hid (HAT.out.later HB1.out); clear hw1)
    | (go_at_call 72; refine (take_any s W0 W1 B _ b mb mc tv x ((c :: r).drop x.length) a acc 3 v hpos HA1.out).mono ?_; rintro e w2 ⟨rfl, tv2, ha2⟩; have HA2 := Lib.hid ha2; clear ha2))
  go_ret
  exact ⟨rfl, tv2, mc, by omega, HA2.out⟩

set_option maxRecDepth 100000 in
set_option maxHeartbeats 1000000 in
theorem mNum_bad (s : T) (W0 W1 : World) (B : Nat) (w : World) (b mb mc : Nat) (tv : Value) (c : UInt8) (r : T) (a : Nat) (acc : List Tk) (h : LxAt s W0 W1 B w b mb mc tv (c :: r) a acc) (hc : dgt c = true) (hk : ¬ valS 0 ((c :: r).takeWhile dgt) ≤ 9223372036854775807) :
    Calls Tryd.prog 47 #[.pointer (some ⟨b, 0, none⟩)] w fun e w' => e = .returned (.int .i64 4) ∧ LxAt s W0 W1 B w' b mb mc tv (c :: r) a acc := by
  have hrow := (show Row w b 69 _ from h.row_)
  have c0 := hrow.cell 0
  simp at c0
  have hll : (c :: r).length ≤ 1000000 := by have := congrArg List.length h.rest_; rw [List.length_drop] at this; have := h.short_; omega
  have HRUN := Lib.hid (runNum_any (c :: r) w (by omega))
  have hpos : 0 < ((c :: r).takeWhile dgt).length := takeWhile_pos hc
  have hle := takeWhile_le (p := dgt) (c :: r)
  have hall : ∀ d ∈ (c :: r).takeWhile dgt, dgt d = true := fun d hd => List.all_eq_true.1 List.all_takeWhile d hd
  have hcons : (c :: r).takeWhile dgt = c :: r.takeWhile dgt := by rw [List.takeWhile_cons, if_pos hc]
  have hpd : Lib.parseIntB 64 ((c :: r).takeWhile dgt) = .range := by
    have := parse_digits (c := c) (r := r.takeWhile dgt) (by rw [← hcons]; exact hall)
    rw [← hcons, if_neg hk] at this
    exact this
  obtain ⟨tp, p, hrng⟩ := (h.env_.later h.below_).range_
  generalize hxe : (c :: r).takeWhile dgt = x at HRUN hpos hle hk hpd ⊢
  have HAT := Lib.hid h
  have HPI := Lib.hid (Tryd.strconv_ParseInt_10_at64_range ⟨x.toArray⟩ (by show x.toArray.size ≤ _; simp; omega) hpd _ w hrng (.inr ⟨tp, p, rfl⟩))
  have hne : (x == []) = false := by cases x with | nil => simp at hpos | cons p q => rfl
  have hne2 : ¬ x = [] := by rintro rfl; simp at hpos
  clear hrow h hc hk hxe hall hcons hpd hrng
  go_enter Tryd.func47, Tryd.ntmps47
  go_wp2_with (first
    | (go_at_call 69; refine HRUN.out.mono ?_; rintro e w1 ⟨rfl, rfl⟩)
    | (go_at_call 74; refine HPI.out.mono ?_; rintro e w1 ⟨N, rfl, hN, hN2, hb1⟩; have HA1 := Lib.hid (HAT.out.later hb1); clear hb1 hN hN2))
  go_ret
  exact ⟨rfl, HA1.out⟩

end Go.Proofs.YtfajnflfonechaaDoor
