/- DERIVED. The walks of the reader: Text, Read, Section. -/
import Derived.Test.YtclgblmhicabnaaReader2
import Derived.Test.YtclgblmhicabnaaAwake
namespace Go.Proofs.Ytclgblmhicabnaa
open Go.RowKit Crc Nums Rd

theorem Lies.only {w w' : World} {p : Nat} {A : Option Addr} {xs : List Value} (h : Lies w p A xs) (hg : w.grownBy w' (some p)) (hp : p ≤ w.heap.size) : Lies w' p A xs :=
  h.keep fun a ha => World.cell?_of_block (hg.block a.block (by omega) (by simp; omega))

/-- A run of bytes, as it is handed back. -/
def Read_ (w : World) (p : Nat) (l : List UInt8) (s : St) (en : Ending) (w' : World) : Prop :=
  en = .returned (.string ⟨l.toArray⟩) ∧ RD w' p s ∧ w.grownBy w' (some p)

set_option maxRecDepth 100000 in
set_option maxHeartbeats 1000000 in
theorem Text_any (p most : Nat) (s : St) (w : World) (h : RD w p s) (hm : most < 18446744073709551616) :
    Calls Try.prog 31 #[.pointer (some ⟨p, 0, none⟩), .int .u64 most] w (Read_ w p (textS most s).1 (textS most s).2) := by
  have HV := Lib.hid (Var_any p most s w h)
  have hle := varS_le most s
  have hp := h.lt
  clear h
  go_enter Try.func31, Try.ntmps31
  go_wp2_with fail
  refine HV.out.mono ?_
  rintro e w1 ⟨rfl, hR1, hG1⟩
  have HT := Lib.hid (take_any p (varS most s).1 (varS most s).2 w1 hR1 (by omega))
  have HG1 := Lib.hid hG1
  clear hR1 hG1
  go_wp2_with fail
  refine HT.out.mono ?_
  rintro e w2 ⟨A, c, rfl, hL, hR2, hG2⟩
  have hc := run_str (P := Try.prog) w2 23 5 9 Try.underlying23 Try.underlying5 Try.underlying9 A _ c _ rfl (hL.more (Nat.le_of_lt hR2.lt))
  have HR2 := Lib.hid hR2
  have HG2 := Lib.hid (only_trans HG1.out hG2)
  clear hL hR2 hG2
  go_wp2_with fail
  go_ret
  exact ⟨rfl, HR2.out, HG2.out⟩

/-- A new slice of bytes. -/
def Cloned (w : World) (l : List UInt8) (en : Ending) (w' : World) : Prop :=
  ∃ A c, en = .returned (.slice A l.length c) ∧ Lies w' w'.heap.size A (bytesV l) ∧ l.length ≤ c ∧ c ≤ 9223372036854775807 ∧ Below w.heap.size w w'

theorem Owns.room {w : World} {B : Nat} {e : TypeId} {A : Option Addr} {n c : Nat} {xs : List Value} (h : Owns w B e (.slice A n c) xs) : xs.length ≤ c ∧ c ≤ 9223372036854775807 := by
  rcases h.2 with ⟨hv, hx⟩ | ⟨g, cap, cur, hv, hbg, hg, hnc, hcm, _⟩
  · injection hv with _ h2 h3
    omega
  · injection hv with _ h2 h3
    unfold maxLen at hcm
    omega

set_option maxRecDepth 100000 in
set_option maxHeartbeats 1000000 in
theorem Clone_any (A : Option Addr) (c : Nat) (l : List UInt8) (w : World) (hA : Lies w w.heap.size A (bytesV l)) (hl : l.length ≤ 1099511627776) :
    Calls Try.prog 45 #[.slice A l.length c] w (Cloned w l) := by
  obtain ⟨i0, hi0, hz0, hz1, hz2⟩ := info_parts u8_info
  have HA := Lib.hid hA
  have hnil := fun W => Lib.run_eql_slice_nil (P := Try.prog) W 23 5 A l.length c 0 0 Try.underlying23
  cases A with
  | none =>
    have hl0 : l = [] := by
      cases l with
      | nil => rfl
      | cons x l =>
        obtain ⟨b, off, h, _⟩ := hA (by simp [bytesV])
        cases h
    subst hl0
    clear hA
    simp only [List.length_nil] at hnil ⊢
    go_enter Try.func45, Try.ntmps45
    go_wp2_with fail
    go_ret
    exact ⟨none, 0, rfl, Lies.none_, Nat.le_refl _, by omega, Below.refl _ _⟩
  | some a =>
    clear hA
    go_enter Try.func45, Try.ntmps45
    go_wp2_with (at_builtin; go_must (refine wpList_app _ rfl (.tmp 5) (.tmp 6) _ rfl w.heap.size 5 i0 _ 1 Try.underlying23 hi0 hz0 hz1 hz2 rfl (by omega) _ rfl _ (Owns.made w #[] 0 rfl (Nat.le_refl _) (by simp [maxLen])) _ _ _ rfl (bytesV l) (HA.out.below ((Below.refl _ _).alloc (Nat.le_refl _) _) |>.more (by simp)) (bytesV_length l).symm ?_ ?_ ?_ ?_; rotate_left; (focus exact bytesV_one l); (focus (simp [bytesV_length]; omega)); (focus simp); intro v1 w1 hO1 hB1))
    go_ret
    rw [List.nil_append] at hO1
    obtain ⟨A1, c1, rfl, hL⟩ := hO1.form
    have hr := hO1.room
    rw [bytesV_length] at hr
    refine ⟨A1, c1, ?_, hL, hr.1, hr.2, ((Below.refl _ _).alloc (Nat.le_refl _) _).trans hB1⟩
    rw [← bytesV_length l]
    rfl

/-- A new reader. -/
def Made (w : World) (s : St) (en : Ending) (w' : World) : Prop :=
  ∃ p, en = .returned (.pointer (some ⟨p, 0, none⟩)) ∧ w.heap.size ≤ p ∧ RD w' p s ∧ Below w.heap.size w w'

set_option maxRecDepth 100000 in
set_option maxHeartbeats 1000000 in
theorem Read_any (A : Option Addr) (c : Nat) (l : List UInt8) (w : World) (hA : Lies w w.heap.size A (bytesV l)) (hl : l.length ≤ 1099511627776) :
    Calls Try.prog 21 #[.slice A l.length c] w (Made w (l, 0)) := by
  have HC := Lib.hid (Clone_any A c l w hA hl)
  clear hA
  go_enter Try.func21, Try.ntmps21
  go_wp2_with fail
  refine HC.out.mono ?_
  rintro e w1 ⟨A1, c1, rfl, hL, h1, h2, hB⟩
  have HL := Lib.hid hL
  have HB := Lib.hid hB
  clear hL hB
  go_wp2_with fail
  go_ret
  refine ⟨w1.heap.size, rfl, HB.out.size, ⟨A1, c1, Row.made w1 _ _, ?_, h1, h2, fun h => absurd rfl h⟩, HB.out.alloc HB.out.size _⟩
  exact HL.out.below ((Below.refl _ _).alloc (Nat.le_refl _) _)

/-- What Section hands back and leaves. -/
def Sectioned (w : World) (p : Nat) (n s : St) (en : Ending) (w' : World) : Prop :=
  ∃ q, en = .returned (.pointer (some ⟨q, 0, none⟩)) ∧ w.heap.size ≤ q ∧ RD w' q n ∧ RD w' p s ∧ w.grownBy w' (some p)

theorem only_more {a b c : World} {p : Nat} (h : a.grownBy b (some p)) (k : Below b.heap.size b c) : a.grownBy c (some p) := only_trans h (only_below k _)
theorem only_new {a b c : World} {p q : Nat} (h : a.grownBy b (some p)) (k : b.grownBy c (some q)) (hq : a.heap.size ≤ q) : a.grownBy c (some p) :=
  ⟨k.os.trans h.os, k.tape.trans h.tape, k.output.trans h.output, Nat.le_trans h.size k.size, fun i hi hne => (k.block i (Nat.lt_of_lt_of_le hi h.size) (by simp; omega)).trans (h.block i hi hne)⟩

set_option maxRecDepth 100000 in
set_option maxHeartbeats 2000000 in
theorem Section_any (p : Nat) (id : UInt8) (s : St) (w : World) (h : RD w p s) :
    Calls Try.prog 27 #[.pointer (some ⟨p, 0, none⟩), .int .u8 id.toNat] w (Sectioned w p (secS id.toNat s) (sec3 id.toNat s)) := by
  have hp := h.lt
  have HB := Lib.hid (Byte_any p s w h)
  have hid := id.toNat_lt
  have hx := num1_lt s
  clear h
  obtain ⟨s1, hs1⟩ : ∃ s1, s1 = sec1 id.toNat s := ⟨_, rfl⟩
  obtain ⟨b, hb⟩ : ∃ b, b = num 4 s1 := ⟨_, rfl⟩
  obtain ⟨t, ht⟩ : ∃ t, t = take_ b.1 b.2 := ⟨_, rfl⟩
  obtain ⟨d, hd⟩ : ∃ d, d = num 4 t.2 := ⟨_, rfl⟩
  have hbl : b.1 < 4294967296 := by rw [hb]; exact num4_lt s1
  have hdl : d.1 < 4294967296 := by rw [hd]; exact num4_lt t.2
  have htl : t.1.length ≤ 4294967296 := by rw [ht]; exact Nat.le_trans (take_length b.1 b.2) (by omega)
  have HB1 : Hid (∀ W, RD W p s1 → Calls Try.prog 29 #[.pointer (some ⟨p, 0, none⟩)] W (Numbered W p .u32 b.1 b.2)) := fun W h => by rw [hb]; exact U32_any p s1 W h
  have HT1 : Hid (∀ W, RD W p b.2 → Calls Try.prog 53 #[.pointer (some ⟨p, 0, none⟩), .int .u64 b.1] W (Took W p t.1 t.2)) := fun W h => by rw [ht]; exact take_any p b.1 b.2 W h (by omega)
  have HD1 : Hid (∀ W, RD W p t.2 → Calls Try.prog 29 #[.pointer (some ⟨p, 0, none⟩)] W (Numbered W p .u32 d.1 d.2)) := fun W h => by rw [hd]; exact U32_any p t.2 W h
  have e3 : sec3 id.toNat s = if d.1 = crc t.1 then d.2 else fail 3 d.2 := by rw [hd, ht, hb, hs1]; rfl
  have eS : secS id.toNat s = fail (sec3 id.toNat s).2 (t.1, 0) := by rw [ht, hb, hs1]; rfl
  obtain ⟨s3, hs3⟩ : ∃ s3, s3 = sec3 id.toNat s := ⟨_, rfl⟩
  rw [eS, ← hs3]
  rw [← hs3] at e3
  have E3 := Lib.hid e3
  have S1 := Lib.hid hs1
  clear hb ht hd e3 eS hs3 hs1
  have hr1 : ∀ W t, RD W p t → W.cell? ⟨p, 1, none⟩ = some (.int .i64 t.2) := fun W t ⟨A, c, hr, _⟩ => by have := hr.cell 1; simpa using this
  have HR1 := Lib.hid hr1
  clear hr1
  by_cases hne : (num 1 s).1 = id.toNat
  case' pos =>
    have e1 : (((num 1 s).1 : Int) != (id.toNat : Int)) = false := by rw [hne]; simp
    have H1 : Hid (s1 = (num 1 s).2) := by rw [S1.out]; unfold sec1 Hid; rw [if_pos hne]
    clear hne
    go_enter Try.func27, Try.ntmps27
    go_wp2_with fail
    refine HB.out.mono ?_
    rintro e w1 ⟨rfl, hR1, hG1⟩
    rw [← H1.out] at hR1
    have HG1 := Lib.hid hG1
    have HW1 := Lib.hid hR1
    clear hR1 hG1
    go_wp2_with fail
  case' neg =>
    have e1 : (((num 1 s).1 : Int) != (id.toNat : Int)) = true := bne_iff_ne.2 (by omega)
    have H1 : Hid (s1 = fail 2 (num 1 s).2) := by rw [S1.out]; unfold sec1 Hid; rw [if_neg hne]
    clear hne
    go_enter Try.func27, Try.ntmps27
    go_wp2_with fail
    refine HB.out.mono ?_
    rintro e w0 ⟨rfl, hR0, hG0⟩
    have HF := Lib.hid (Fail_any p 2 _ w0 hR0)
    have HG0 := Lib.hid hG0
    clear hR0 hG0
    go_wp2_with fail
    refine HF.out.mono ?_
    rintro e w1 ⟨rfl, hR1, hG1⟩
    rw [← H1.out] at hR1
    have HG1 := Lib.hid (only_trans HG0.out hG1)
    have HW1 := Lib.hid hR1
    clear hR1 hG1
    go_wp2_with fail
  all_goals
    refine (HB1.out _ HW1.out).mono ?_
    rintro e w2 ⟨rfl, hR2, hG2⟩
    have HG2 := Lib.hid (only_trans HG1.out hG2)
    have HW2 := Lib.hid hR2
    clear hR2 hG2
    go_wp2_with fail
    refine (HT1.out _ HW2.out).mono ?_
    rintro e w3 ⟨A, c, rfl, hL3, hR3, hG3⟩
    have HG3 := Lib.hid (only_trans HG2.out hG3)
    have HW3 := Lib.hid hR3
    have HL3 := Lib.hid hL3
    clear hR3 hG3 hL3
    go_wp2_with fail
    refine (HD1.out _ HW3.out).mono ?_
    rintro e w4 ⟨rfl, hR4, hG4⟩
    have HL4 := Lib.hid (HL3.out.only hG4 (Nat.le_of_lt HW3.out.lt))
    have HG4 := Lib.hid (only_trans HG3.out hG4)
    have HW4 := Lib.hid hR4
    clear hR4 hG4
    go_wp2_with fail
    refine (Sum_any A c t.1 w4 (HL4.out.more (Nat.le_of_lt HW4.out.lt)) (by omega)).mono ?_
    rintro e w5 ⟨rfl, hB5⟩
    have HW5 := Lib.hid (HW4.out.below hB5 HW4.out.lt)
    have HL5 := Lib.hid (HL4.out.below (hB5.mono (Nat.le_of_lt HW4.out.lt)))
    have HG5 := Lib.hid (only_more HG4.out hB5)
    clear hB5
    by_cases hs : d.1 = crc t.1
    case' pos =>
      have e2 : (((d.1 : Nat) : Int) != ((crc t.1 : Nat) : Int)) = false := by rw [hs]; simp
      have H3 : Hid (s3 = d.2) := by rw [E3.out, if_pos hs]; exact rfl
      have HW6 : Hid (RD w5 p s3) := by rw [H3.out]; exact HW5.out
      have HL6 := HL5
      have HG6 := HG5
      clear hs
      go_wp2_with fail
    case' neg =>
      have e2 : (((d.1 : Nat) : Int) != ((crc t.1 : Nat) : Int)) = true := bne_iff_ne.2 (by omega)
      have H3 : Hid (s3 = fail 3 d.2) := by rw [E3.out, if_neg hs]; exact rfl
      have HF := Lib.hid (Fail_any p 3 _ w5 HW5.out)
      clear hs
      go_wp2_with fail
      refine HF.out.mono ?_
      rintro e w6 ⟨rfl, hR6, hG6⟩
      rw [← H3.out] at hR6
      have HL6 := Lib.hid (HL5.out.only hG6 (Nat.le_of_lt HW5.out.lt))
      have HG6 := Lib.hid (only_trans HG5.out hG6)
      have HW6 := Lib.hid hR6
      clear hR6 hG6
      go_wp2_with fail
    all_goals
      refine (Read_any A c t.1 _ (HL6.out.more (Nat.le_of_lt HW6.out.lt)) (by omega)).mono ?_
      rintro e w7 ⟨q, rfl, hq, hQ, hB7⟩
      have hpq : p < q := Nat.lt_of_lt_of_le HW6.out.lt hq
      have hwq := Nat.le_trans HG6.out.size hq
      have HW7 := Lib.hid (HW6.out.below hB7 HW6.out.lt)
      have HG7 := Lib.hid (only_more HG6.out hB7)
      have HQ7 := Lib.hid hQ
      have c1 := HR1.out _ _ HW7.out
      clear hB7 hQ hq
      go_wp2_with fail
      refine (Fail_any q s3.2 _ _ HQ7.out).mono ?_
      rintro e w8 ⟨rfl, hQ8, hG8⟩
      have HW8 := Lib.hid (HW7.out.other hG8 hpq)
      have HQ8 := Lib.hid hQ8
      have HG8 := Lib.hid (only_new HG7.out hG8 hwq)
      clear hQ8 hG8
      go_wp2_with fail
      go_ret
      exact ⟨q, rfl, hwq, HQ8.out, HW8.out, HG8.out⟩

end Go.Proofs.Ytclgblmhicabnaa
