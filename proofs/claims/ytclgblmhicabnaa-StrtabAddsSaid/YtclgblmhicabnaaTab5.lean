/- DERIVED. StrtabReads: the examples of chapter 2 (awake), and the law. -/
import Derived.Test.YtclgblmhicabnaaTab4
import Derived.Test.YtclgblmhicabnaaAwake
import Derived.Test.YtclgblmhicabnaaAsked4
namespace Go.Proofs.Ytclgblmhicabnaa
open Go.RowKit Crc Nums Rd
attribute [local go_sem] Tame.Op Tame.upon

theorem add1 : addX [] [97] = ([[97]], 0, 0) := by decide +kernel
theorem add2 : addX [[97]] [98] = ([[97], [98]], 1, 0) := by decide +kernel
theorem add3 : addX [[97], [98]] [97] = ([[97], [98]], 0, 0) := by decide +kernel
theorem tab2 : tabB [[97], [98]] = [2, 1, 97, 1, 98] := by decide +kernel

set_option maxRecDepth 100000 in
set_option maxHeartbeats 1000000 in
theorem awake2_any (w : World) :
    Calls Try.prog 41 #[] w fun e w' => e = .returned (.bool true) ∧ Below w.heap.size w w' := by
  have A1 : Hid (∀ W B p, TB W B p [] → Calls Try.prog 33 #[.pointer (some ⟨p, 0, none⟩), .string ⟨#[97]⟩] W (Added W B p ([[97]], 0, 0))) := fun W B p h => by rw [← add1]; exact Add_any B p [] [97] W h (by decide) (by simp) (by decide)
  have A2 : Hid (∀ W B p, TB W B p [[97]] → Calls Try.prog 33 #[.pointer (some ⟨p, 0, none⟩), .string ⟨#[98]⟩] W (Added W B p ([[97], [98]], 1, 0))) := fun W B p h => by rw [← add2]; exact Add_any B p [[97]] [98] W h (by decide) (by simp) (by decide)
  have A3 : Hid (∀ W B p, TB W B p [[97], [98]] → Calls Try.prog 33 #[.pointer (some ⟨p, 0, none⟩), .string ⟨#[97]⟩] W (Added W B p ([[97], [98]], 0, 0))) := fun W B p h => by rw [← add3]; exact Add_any B p [[97], [98]] [97] W h (by decide) (by simp) (by decide)
  go_enter Try.func41, Try.ntmps41
  go_wp2_with (go_at_call 32; refine (New_any w).mono ?_; rintro e w1 ⟨p, rfl, hT, hB1⟩; have HT1 := Lib.hid hT; have HB1 := Lib.hid hB1; clear hT hB1)
  refine (A1.out _ _ p HT1.out).mono ?_
  rintro e w2 ⟨rfl, hT, hB⟩
  have HT2 := Lib.hid hT
  have HB2 := Lib.hid (HB1.out.trans hB)
  clear hT hB
  go_wp2_with fail
  refine (A2.out _ _ p HT2.out).mono ?_
  rintro e w3 ⟨rfl, hT, hB⟩
  have HT3 := Lib.hid hT
  have HB3 := Lib.hid (HB2.out.trans hB)
  clear hT hB
  go_wp2_with fail
  refine (A3.out _ _ p HT3.out).mono ?_
  rintro e w4 ⟨rfl, hT, hB⟩
  have HT4 := Lib.hid hT
  have HB4 := Lib.hid (HB3.out.trans hB)
  clear hT hB
  go_wp2_with fail
  refine (TabPut_any w4.heap.size p _ _ _ [] w4 HT4.out (.inl (Owns.nil w4 w4.heap.size 5)) rfl (by decide)).mono ?_
  rintro e w5 ⟨v5, rfl, hO, hB⟩
  rw [tab2, List.nil_append] at hO
  have hc := run_str_of (w := w5) 23 5 9 Try.underlying23 Try.underlying5 Try.underlying9 hO
  have HB5 := Lib.hid (HB4.out.trans (hB.mono HB4.out.size))
  clear hO hB
  go_wp2_with fail
  go_ret
  exact ⟨rfl, HB5.out⟩

/-- A later world than W, that keeps all that lay below H0. -/
def Past (H0 : Nat) (W w : World) : Prop := Below H0 W w ∧ H0 ≤ w.heap.size
theorem Past.later {H0 : Nat} {W w w' : World} (hl : Tame.Later w w') (h : Past H0 W w) : Past H0 W w' := ⟨h.1.trans (Below.mono (B := w.heap.size) hl h.2), Nat.le_trans h.2 (Below.size (B := w.heap.size) hl)⟩
theorem Past.later' {H0 : Nat} {W w w' : World} (h : Past H0 W w) (hl : Tame.Later w.drew w') : Past H0 W w' := Past.later (Tame.Later.trans w w.drew w' (Below.refl _ _).drew hl) h

def NewRd (H0 : Nat) (s : St) (v : Value) (w : World) : Prop := ∃ p, v = .pointer (some ⟨p, 0, none⟩) ∧ H0 ≤ p ∧ RD w p s
def NewRf (H0 : Nat) (s : St) (v : Value) (w : World) : Prop := ∃ p, v = .pointer (some ⟨p, 0, none⟩) ∧ H0 ≤ p ∧ RF w p s
theorem NewRd.later {H0 : Nat} {s : St} {v : Value} {w w' : World} (h : NewRd H0 s v w) (hl : Tame.Later w w') : NewRd H0 s v w' := by
  obtain ⟨p, hv, hp, hR⟩ := h
  exact ⟨p, hv, hp, hR.below hl hR.lt⟩
theorem NewRf.later {H0 : Nat} {s : St} {v : Value} {w w' : World} (h : NewRf H0 s v w) (hl : Tame.Later w w') : NewRf H0 s v w' := by
  obtain ⟨p, hv, hp, hR⟩ := h
  exact ⟨p, hv, hp, hR.below hl hR.lt⟩
theorem rf_str {w : World} {p : Nat} {s : St} (h : RF w p s) : w.cell? ⟨p, 0, none⟩ = some (.string ⟨s.1.toArray⟩) := by rw [h.1.cell]; rfl
theorem rd_ne {w : World} {p q : Nat} {s t : St} (h : RD w p s) (k : RF w q t) : p ≠ q := by
  rintro rfl
  obtain ⟨A, c, hr, _⟩ := h
  have := (hr.same k.1).1
  simp at this

set_option maxRecDepth 100000 in
set_option maxHeartbeats 4000000 in
theorem treads_main (A : Option Addr) (c : Nat) (l : List UInt8) (w : World) (hA : Lies w w.heap.size A (bytesV l)) (h1 : l.length ≤ 2000) :
    Calls Try.prog 8 #[.slice A l.length c] w fun e w' => e = .returned (.bool true) ∧ Below w.heap.size w w' := by
  have HA := Lib.hid hA
  clear hA
  have W6 : Hid (Past w.heap.size w w) := Lib.hid ⟨Below.refl _ _, Nat.le_refl _⟩
  obtain ⟨H0, hH0⟩ : ∃ H0, H0 = w.heap.size := ⟨_, rfl⟩
  rw [← hH0] at HA W6 ⊢
  have HH0 := Lib.hid hH0
  clear hH0
  have HLies : Hid (∀ W, Past H0 w W → Lies W W.heap.size A (bytesV l)) := fun W hW => (HA.out.below hW.1).more hW.2
  have CL : Hid (∀ W, Past H0 w W → Calls Try.prog 21 #[.slice A l.length c] W (Made W (l, 0))) := fun W hW => Read_any A c l W (HLies.out W hW) (by omega)
  go_enter Try.func8, Try.ntmps8
  go_wp2_with fail
  refine Tame.wp_region_tame (by kernel_rfl) (by kernel_rfl) Tame.Later.refl Tame.Later.trans ?_
  repeat
    ((first
      | (refine Tame.walk_some (o := ⟨some 11, _, _, _, _, _⟩) (NewRd H0 (l, 0)) (fun _ => rfl) (fun v w w' hl h => h.later hl) (fun vals w2 hL hd => ?_) ?_; (focus (have HS := Lib.hid (W6.out.later' hL); have HC := Lib.hid (CL.out w2 HS.out); clear hd; go_simp; exact HC.out.mono fun e w' ⟨x, he, hge, hr, hb⟩ => ⟨_, he, hb, x, rfl, Nat.le_trans HS.out.2 hge, hr⟩)))
      | (refine Tame.walk_known (o := ⟨some 13, _, _, _, _, _⟩) (fun _ => rfl) ?_; apply Exists.intro; refine ⟨fun vals w2 hL hd => ?_, ?_⟩; (focus (have h1 := W6.out.later' hL; have hc := run_str (P := Try.prog) w2 23 5 9 Try.underlying23 Try.underlying5 Try.underlying9 A l.length c l rfl (HLies.out w2 h1); clear hd h1; go_simp; exact Tame.Is.mk (Tame.Later.refl _))))
      | (refine Tame.walk_some (o := ⟨some 15, _, _, _, _, _⟩) (NewRf H0 (l, 0)) (fun _ => rfl) (fun v w w' hl h => h.later hl) (fun vals w2 hL hd => ?_) ?_; (focus (have h1 := (W6.out.later' hL).2; clear hd; go_simp; exact Tame.Has.mk ((Below.refl _ _).alloc (Nat.le_refl _) _) ⟨_, rfl, h1, Row.made w2 _ _, by show l.length ≤ _; omega, fun h => absurd rfl h⟩)))
      | (refine Tame.walk_some (o := ⟨some 3, _, _, _, _, _⟩) (NewRd H0 (l, 0)) (fun _ => rfl) (fun v w w' hl h => h.later hl) (fun vals w2 hL hd => ?_) ?_; (focus (have h := Lib.hid (hd ⟨1, .data⟩ (by simp) rfl _ rfl : NewRd H0 (l, 0) (vals 1) w2); clear hd; go_simp; exact Tame.Has.mk (Tame.Later.refl _) h.out)))
      | (refine Tame.walk_some (o := ⟨some 4, _, _, _, _, _⟩) (NewRf H0 (l, 0)) (fun _ => rfl) (fun v w w' hl h => h.later hl) (fun vals w2 hL hd => ?_) ?_; (focus (have h := Lib.hid (hd ⟨5, .data⟩ (by simp) rfl _ rfl : NewRf H0 (l, 0) (vals 5) w2); clear hd; go_simp; exact Tame.Has.mk (Tame.Later.refl _) h.out)))
      | (refine Tame.walk_known (fun _ => rfl) ?_; apply Exists.intro; refine ⟨fun vals w2 hL hd => ?_, ?_⟩; (focus (go_simp; first | exact Tame.Is.mk (Tame.Later.refl _) | (rw [if_neg]; (focus exact Tame.Is.mk (Tame.Later.refl _)); omega)))))
     simp only [Act.put, List.setIfInBounds_toArray, List.set_cons_zero, List.set_cons_succ, List.nil_append, List.cons_append, List.length_cons, List.length_nil, Nat.zero_add, Nat.reduceAdd])
  refine Tame.walk_end fun vals w2 hL hts => ?_
  obtain ⟨p0, hv0, hp0, hR0⟩ : NewRd H0 (l, 0) (vals 6) w2 := hts 6 _ rfl
  obtain ⟨q0, hv1, hq0, hF0⟩ : NewRf H0 (l, 0) (vals 7) w2 := hts 7 _ rfl
  have W2 := Lib.hid (W6.out.later' hL)
  have hpq := rd_ne hR0 hF0
  rw [hv0, hv1]
  have HR0 := Lib.hid hR0
  have HF0 := Lib.hid hF0
  clear hts hL hv0 hv1 hR0 hF0 HLies CL HA W6
  obtain ⟨R, hR⟩ : ∃ R, R = readTab (l, 0) := ⟨_, rfl⟩
  have CT : Hid (Calls Try.prog 42 #[.pointer (some ⟨p0, 0, none⟩)] w2 (Tabled w2 p0 R)) := by rw [hR]; exact TabRead_any p0 (l, 0) w2 HR0.out
  have CR : Hid (∀ W, RF W q0 (l, 0) → Calls Try.prog 43 #[.pointer (some ⟨q0, 0, none⟩)] W (RTabled W q0 R)) := fun W h => by rw [hR]; exact refTabRead_any q0 (l, 0) W h
  clear hR
  go_wp2_with fail
  refine CT.out.mono ?_
  rintro e w3 ⟨pt, rfl, hT, hR3, hG, hsh⟩
  have HF3 := Lib.hid (HF0.out.other hG (Ne.symm hpq))
  have HT3 := Lib.hid hT
  have HR3 := Lib.hid hR3
  have HG3 := Lib.hid hG
  have HSH := Lib.hid hsh
  clear hT hR3 hG hsh
  go_wp2_with fail
  refine (CR.out _ HF3.out).mono ?_
  rintro e w4 ⟨A4, c4, rfl, hl4, hF4, hG⟩
  have HT4 := Lib.hid (HT3.out.other hG HF0.out.lt)
  have HR4 := Lib.hid (RD.turn (by decide) (Turn.of_rf HF3.out hG) HR3.out)
  have HF4 := Lib.hid hF4
  have HL4 := Lib.hid hl4
  have W4 : Hid (Past H0 w w4) := Lib.hid (by
    have h2 := W2.out
    have h3 := HG3.out
    exact ⟨(h2.1.trans (grown_below h3 h2.2 (fun k hk => by cases hk; exact hp0))).trans (grown_below hG (Nat.le_trans h2.2 h3.size) (fun k hk => by cases hk; exact hq0)), Nat.le_trans h2.2 (Nat.le_trans h3.size hG.size)⟩)
  clear hl4 hF4 hG HT3 HR3 HF3 HR0 HF0 CT CR HG3 W2
  have CLike : Hid (∀ W, Tame.Later w4.drew W → Calls Try.prog 35 #[.pointer (some ⟨pt, 0, none⟩), .slice A4 R.1.length c4] W fun e w' => e = .returned (.bool true) ∧ W = w') := fun W hL => by
    have hb : Below w4.heap.size w4 W := (Below.refl _ _).drew.trans hL
    exact like_any A4 _ pt c4 R.1 W (HT4.out.later hb) (HL4.out.later hb) (fun x hx => by have := HSH.out x hx; unfold maxLen; omega)
  have HR5 : Hid (∀ W, Tame.Later w4.drew W → RD W p0 R.2) := fun W hL => HR4.out.below ((Below.refl _ _).drew.trans hL) HR4.out.lt
  have HF5 : Hid (∀ W, Tame.Later w4.drew W → RF W q0 R.2) := fun W hL => HF4.out.below ((Below.refl _ _).drew.trans hL) HF4.out.lt
  have hrl := HF4.out.2.1
  clear HT4 HR4 HF4 HL4 HSH
  go_wp2_with fail
  refine Tame.wp_region_tame (by kernel_rfl) (by kernel_rfl) Tame.Later.refl Tame.Later.trans ?_
  repeat
    ((first
      | (refine Tame.walk_known (o := ⟨some 24, _, _, _, _, _⟩) (fun _ => rfl) ?_; apply Exists.intro; refine ⟨fun vals w2 hL hd => ?_, ?_⟩; (focus (have HC := Lib.hid (CLike.out w2 hL); clear hd; go_simp; exact Tame.known_same HC.out)))
      | (refine Tame.walk_known (o := ⟨some 27, _, _, _, _, _⟩) (fun _ => rfl) ?_; apply Exists.intro; refine ⟨fun vals w2 hL hd => ?_, ?_⟩; (focus (have HC := Lib.hid (Err_any p0 R.2 w2 (HR5.out w2 hL)); clear hd; go_simp; exact Tame.known_same HC.out)))
      | (refine Tame.walk_known (o := ⟨some 36, _, _, _, _, _⟩) (fun _ => rfl) ?_; apply Exists.intro; refine ⟨fun vals w2 hL hd => ?_, ?_⟩; (focus (have HC := Lib.hid (Left_any p0 R.2 w2 (HR5.out w2 hL)); clear hd; go_simp; exact Tame.known_same HC.out)))
      | (refine Tame.walk_known (o := ⟨some 31, _, _, _, _, _⟩) (fun _ => rfl) ?_; apply Exists.intro; refine ⟨fun vals w2 hL hd => ?_, ?_⟩; (focus (have hc0 := rf_err (HF5.out w2 hL); clear hd; go_simp; exact Tame.Is.mk (Tame.Later.refl _))))
      | (refine Tame.walk_known (o := ⟨some 40, _, _, _, _, _⟩) (fun _ => rfl) ?_; apply Exists.intro; refine ⟨fun vals w2 hL hd => ?_, ?_⟩; (focus (have hc0 := rf_str (HF5.out w2 hL); clear hd; go_simp; exact Tame.Is.mk (Tame.Later.refl _))))
      | (refine Tame.walk_known (o := ⟨some 41, _, _, _, _, _⟩) (fun _ => rfl) ?_; apply Exists.intro; refine ⟨fun vals w2 hL hd => ?_, ?_⟩; (focus (clear hd; go_simp; exact Tame.Is.mk (Tame.Later.refl _))))
      | (refine Tame.walk_known (o := ⟨some 45, _, _, _, _, _⟩) (fun _ => rfl) ?_; apply Exists.intro; refine ⟨fun vals w2 hL hd => ?_, ?_⟩; (focus (clear hd; go_simp; exact Tame.known (awake2_any _))))
      | (refine Tame.walk_known (fun _ => rfl) ?_; apply Exists.intro; refine ⟨fun vals w2 hL hd => ?_, ?_⟩; (focus (go_simp; first | exact Tame.Is.mk (Tame.Later.refl _) | (rw [if_neg]; (focus exact Tame.Is.mk (Tame.Later.refl _)); omega)))))
     simp only [Act.put, List.setIfInBounds_toArray, List.set_cons_zero, List.set_cons_succ, List.nil_append, List.cons_append])
  refine Tame.walk_end fun vals w5 hL5 hts => ?_
  have W5 := Lib.hid (W4.out.later' hL5)
  clear hts hL5
  go_wp2_with fail
  go_ret
  exact ⟨rfl, W5.out.1⟩

set_option maxRecDepth 100000 in
set_option maxHeartbeats 1000000 in
theorem treads_any (A : Option Addr) (c : Nat) (l : List UInt8) (n : Nat) (w : World) (hn : l.length = n) (hA : Lies w w.heap.size A (bytesV l)) (hm : n ≤ 9223372036854775807) :
    Calls Try.prog 8 #[.slice A n c] w fun e w' => e = .returned (.bool true) ∧ Below w.heap.size w w' := by
  by_cases h : n ≤ 2000
  · subst hn
    exact treads_main A c l w hA h
  · clear hn
    go_enter Try.func8, Try.ntmps8
    go_wp2_with fail
    go_ret
    exact ⟨rfl, Below.refl _ _⟩

end Go.Proofs.Ytclgblmhicabnaa
