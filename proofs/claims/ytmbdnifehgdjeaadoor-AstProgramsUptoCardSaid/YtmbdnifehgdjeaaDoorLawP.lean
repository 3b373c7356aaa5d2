/- DERIVED. The law of programs: the walk. -/
import Derived.Test.YtmbdnifehgdjeaaDoorOwnP
import Derived.Test.YtmbdnifehgdjeaaDoorPRefSame
import Derived.Test.YtmbdnifehgdjeaaDoorPSame
import Derived.Test.YtmbdnifehgdjeaaDoorPRight
import Derived.Test.YtmbdnifehgdjeaaDoorRefNode
import Derived.Test.YtmbdnifehgdjeaaDoorGreat
import Derived.Test.YtmbdnifehgdjeaaDoorAwake3
namespace Go.Proofs.YtmbdnifehgdjeaaDoor
open Go.RowKit
attribute [local go_sem] Tame.Op Tame.upon

def PX (l : List Nd) (v : Value) (w : World) : Prop := ∃ A c, v = .agg #[.slice A l.length c] ∧ NS w (Old w) A l
theorem NS.old {l : List Nd} {A : Option Addr} {w w' : World} (h : NS w (Old w) A l) (hb : Below w.heap.size w w') : NS w' (Old w') A l := h.move fun b hb' => ⟨Nat.lt_of_lt_of_le hb' hb.size, hb.block b hb'⟩
theorem PX.later {l : List Nd} {v : Value} {w w' : World} (h : PX l v w) (hl : Tame.Later w w') : PX l v w' := by
  obtain ⟨A, c, hv, hk⟩ := h
  exact ⟨A, c, hv, hk.old hl⟩

set_option maxRecDepth 100000 in
set_option maxHeartbeats 4000000 in
theorem progs_any (p o : List Nd) (A B : Option Addr) (c d : Nat) (s : T) (w : World) (hp : okNs p) (ho : okNs o) (hpl : p.length ≤ 1099511627775) (hol : o.length ≤ 1099511627775) (hA : NS w (Old w) A p) (hB : NS w (Old w) B o) (hs : s.length ≤ 1099511627776) (ht : ShapesAt w) :
    Calls Tryd.prog 4 #[.agg #[.slice A p.length c], .agg #[.slice B o.length d], .string ⟨s.toArray⟩] w fun q w' => q = .returned (.bool true) ∧ Below w.heap.size w w' := by
  have HG1 : Hid (∀ w2, Below w.heap.size w w2 → Calls Tryd.prog 19 #[.agg #[.slice A p.length c]] w2 (YesNo w2.heap.size w2)) := fun w2 hb => Great_any p A c w2 _ hp (hA.old hb) (fun _ h => h)
  have HG2 : Hid (∀ w2, Below w.heap.size w w2 → Calls Tryd.prog 19 #[.agg #[.slice B o.length d]] w2 (YesNo w2.heap.size w2)) := fun w2 hb => Great_any o B d w2 _ ho (hB.old hb) (fun _ h => h)
  have HOP : Hid (∀ w2, Below w.heap.size w w2 → Calls Tryd.prog 20 #[.agg #[.slice A p.length c]] w2 (ProgMade w2 p)) := fun w2 hb => ownProg_any p A c w2 _ hp hpl (hA.old hb) (fun _ h => h)
  have HP := Lib.hid hp
  have HO := Lib.hid ho
  have HA := Lib.hid hA
  have HB := Lib.hid hB
  have HT := Lib.hid ht
  clear hp ho hA hB ht
  have HPB0 : Hid (Row ((w.alloc (.cells #[.slice A p.length c] 41)).alloc (.cells #[.slice B o.length d] 41)) w.heap.size 41 #[.slice A p.length c]) := (Row.made w 41 _).alloc _
  have HOB0 : Hid (Row ((w.alloc (.cells #[.slice A p.length c] 41)).alloc (.cells #[.slice B o.length d] 41)) (w.heap.size + 1) 41 #[.slice B o.length d]) := by
    have := Row.made (w.alloc (.cells #[.slice A p.length c] 41)) 41 #[.slice B o.length d]
    rw [World.size_alloc] at this
    exact this
  have HB0 : Hid (Below w.heap.size w ((w.alloc (.cells #[.slice A p.length c] 41)).alloc (.cells #[.slice B o.length d] 41))) := ((Below.refl _ _).alloc (Nat.le_refl _) _).alloc (by simp) _
  go_enter Tryd.func4, Tryd.ntmps4
  go_wp2_with (first
    | (go_at_call 19; refine (HG1.out _ HB0.out).mono ?_; rintro q w1 ⟨b1, rfl, hb1⟩; have HB1 := Lib.hid (HB0.out.trans (hb1.mono HB0.out.size)); have HPB1 := Lib.hid (HPB0.out.below hb1 HPB0.out.lt); have HOB1 := Lib.hid (HOB0.out.below hb1 HOB0.out.lt); have c1 := HOB1.out.cell 0; simp at c1; have e1 := HPB1.out.cell 0; simp at e1; clear hb1 HG1)
    | (go_at_call 19; refine (HG2.out _ HB1.out).mono ?_; rintro q w2 ⟨b2, rfl, hb2⟩; have HB2 := Lib.hid (HB1.out.trans (hb2.mono HB1.out.size)); have HPB2 := Lib.hid (HPB1.out.below hb2 HPB1.out.lt); have HOB2 := Lib.hid (HOB1.out.below hb2 HOB1.out.lt); have c2 := HOB2.out.cell 0; simp at c2; have e2 := HPB2.out.cell 0; simp at e2; clear hb2 HG2)
    | (go_at_call 20; refine (HOP.out _ HB2.out).mono ?_; rintro q w3 ⟨A3, c3, rfl, hk3, hb3⟩; have HK3 := Lib.hid hk3; have HB3 := Lib.hid (HB2.out.trans (hb3.mono HB2.out.size)); have HPB3 := Lib.hid (HPB2.out.below hb3 HPB2.out.lt); have HOB3 := Lib.hid (HOB2.out.below hb3 HOB2.out.lt); clear hk3 hb3 HOP))
  all_goals first
    | (go_ret; exact ⟨rfl, HB2.out⟩)
    | (go_ret; exact ⟨rfl, HB1.out⟩)
    | skip
  have hk4 : NS (w3.alloc (.cells #[.slice A3 p.length c3] 45)) (Old (w3.alloc (.cells #[.slice A3 p.length c3] 45))) A3 p := HK3.out.move fun b hb => ⟨by have := hb.2; simp [Old]; omega, Below.heap_alloc _ _ _ hb.2⟩
  have hb4 : Below w.heap.size w (w3.alloc (.cells #[.slice A3 p.length c3] 45)) := HB3.out.alloc HB3.out.size _
  have HXB : Hid (Row (w3.alloc (.cells #[.slice A3 p.length c3] 45)) w3.heap.size 45 #[.slice A3 p.length c3]) := Row.made _ _ _
  have HPB : Hid (Row (w3.alloc (.cells #[.slice A3 p.length c3] 45)) w.heap.size 41 #[.slice A p.length c]) := HPB3.out.alloc _
  have HOB : Hid (Row (w3.alloc (.cells #[.slice A3 p.length c3] 45)) (w.heap.size + 1) 41 #[.slice B o.length d]) := HOB3.out.alloc _
  generalize w3.alloc (.cells #[.slice A3 p.length c3] 45) = w4 at hk4 hb4 HXB HPB HOB ⊢
  have hp4 := HA.out.old hb4
  have ho4 := HB.out.old hb4
  have ht4 := HT.out.later hb4
  have HP' := HP.out
  have HO' := HO.out
  have HB4 := Lib.hid hb4
  have C1 : Hid (∀ w2, Below w4.heap.size w4 w2 → Calls Tryd.prog 21 #[.agg #[.slice A3 p.length c3]] w2 fun q w' => q = .returned (.bool (nodesB p)) ∧ Below w2.heap.size w2 w') := fun w2 h => PRight_any p A3 c3 w2 _ HP' (ht4.later h) (hk4.old h) (fun _ h => h)
  have C2 : Hid (∀ w2, Below w4.heap.size w4 w2 → Calls Tryd.prog 22 #[.agg #[.slice A p.length c]] w2 fun q w' => q = .returned (.bool (nodesB p)) ∧ Below w2.heap.size w2 w') := fun w2 h => refRight_any p A c w2 _ HP' (hp4.old h) (fun _ h => h)
  have C3 : Hid (∀ w2, Below w4.heap.size w4 w2 → Calls Tryd.prog 20 #[.agg #[.slice B o.length d]] w2 (ProgMade w2 o)) := fun w2 h => ownProg_any o B d w2 _ HO' hol (ho4.old h) (fun _ h => h)
  have C4 : Hid (∀ w2 A2 c2, Below w4.heap.size w4 w2 → NS w2 (Old w2) A2 o → Calls Tryd.prog 23 #[.agg #[.slice A3 p.length c3], .agg #[.slice A2 o.length c2]] w2 fun q w' => q = .returned (.bool (sm sameN p o)) ∧ Below w2.heap.size w2 w') := fun w2 A2 c2 h hk => PSame_any p o A3 A2 c3 c2 w2 _ HP' HO' (hk4.old h) hk (fun _ h => h)
  have C5 : Hid (∀ w2, Below w4.heap.size w4 w2 → Calls Tryd.prog 24 #[.agg #[.slice A p.length c], .agg #[.slice B o.length d]] w2 fun q w' => q = .returned (.bool (sm sameN p o)) ∧ Below w2.heap.size w2 w') := fun w2 h => refSame_any p o A B c d w2 _ HP' HO' (hp4.old h) (ho4.old h) (fun _ h => h)
  have C6 : Hid (∀ w2, Below w4.heap.size w4 w2 → Calls Tryd.prog 25 #[.string ⟨s.toArray⟩] w2 fun q w' => q = .returned (.bool (nameB s)) ∧ Below w2.heap.size w2 w') := fun w2 _ => Name_any s w2 hs
  have C7 : Hid (∀ w2, Below w4.heap.size w4 w2 → Calls Tryd.prog 26 #[.string ⟨s.toArray⟩] w2 fun q w' => q = .returned (.bool (nameB s)) ∧ Below w2.heap.size w2 w') := fun w2 _ => refName_any s w2 hs
  have C8 : Hid (∀ w2, Below w4.heap.size w4 w2 → Calls Tryd.prog 27 #[.string ⟨s.toArray⟩] w2 fun q w' => q = .returned (.bool (wordB s)) ∧ Below w2.heap.size w2 w') := fun w2 _ => aWord_any s w2 hs
  have C9 : Hid (∀ w2, Below w4.heap.size w4 w2 → Calls Tryd.prog 28 #[.string ⟨s.toArray⟩] w2 fun q w' => q = .returned (.bool (wordB s)) ∧ Below w2.heap.size w2 w') := fun w2 _ => Word_any s w2
  have C10 : Hid (∀ w2, Below w4.heap.size w4 w2 → Calls Tryd.prog 18 #[] w2 fun q w' => q = .returned (.bool true) ∧ Below w2.heap.size w2 w') := fun w2 h => awake3_any w2 (ht4.later h)
  clear hk4 hb4 hp4 ho4 ht4 HP' HO' HPB0 HOB0 HPB1 HOB1 HPB2 HOB2 HPB3 HOB3 HB0 HB1 HB2 HB3 HK3 c1 c2 e1 e2
  generalize nodesB p = g1 at C1 C2
  generalize sm sameN p o = g2 at C4 C5
  generalize nameB s = g3 at C6 C7
  generalize wordB s = g4 at C8 C9
  refine Tame.wp_region_tame (by kernel_rfl) (by kernel_rfl) Tame.Later.refl Tame.Later.trans ?_
  repeat
    ((first
      | (refine Tame.walk_known (o := ⟨some 21, _, _, _, _, _⟩) (fun _ => rfl) ?_; apply Exists.intro; refine ⟨fun vals w2 hL hd => ?_, ?_⟩; (focus (have b := later_drew (B := w4.heap.size) hL (Nat.le_refl _); have r := HXB.out.below b HXB.out.lt; have u0 := r.cell 0; clear hd hL b r; simp at u0; go_simp; exact Tame.Is.mk (Tame.Later.refl _))))
      | (refine Tame.walk_known (o := ⟨some 27, _, _, _, _, _⟩) (fun _ => rfl) ?_; apply Exists.intro; refine ⟨fun vals w2 hL hd => ?_, ?_⟩; (focus (have b := later_drew (B := w4.heap.size) hL (Nat.le_refl _); have r := HXB.out.below b HXB.out.lt; have u0 := r.cell 0; clear hd hL b r; simp at u0; go_simp; exact Tame.Is.mk (Tame.Later.refl _))))
      | (refine Tame.walk_known (o := ⟨some 23, _, _, _, _, _⟩) (fun _ => rfl) ?_; apply Exists.intro; refine ⟨fun vals w2 hL hd => ?_, ?_⟩; (focus (have b := later_drew (B := w4.heap.size) hL (Nat.le_refl _); have r := HPB.out.below b HPB.out.lt; have u0 := r.cell 0; clear hd hL b r; simp at u0; go_simp; exact Tame.Is.mk (Tame.Later.refl _))))
      | (refine Tame.walk_known (o := ⟨some 31, _, _, _, _, _⟩) (fun _ => rfl) ?_; apply Exists.intro; refine ⟨fun vals w2 hL hd => ?_, ?_⟩; (focus (have b := later_drew (B := w4.heap.size) hL (Nat.le_refl _); have r := HPB.out.below b HPB.out.lt; have u0 := r.cell 0; clear hd hL b r; simp at u0; go_simp; exact Tame.Is.mk (Tame.Later.refl _))))
      | (refine Tame.walk_known (o := ⟨some 28, _, _, _, _, _⟩) (fun _ => rfl) ?_; apply Exists.intro; refine ⟨fun vals w2 hL hd => ?_, ?_⟩; (focus (have b := later_drew (B := w4.heap.size) hL (Nat.le_refl _); have r := HOB.out.below b HOB.out.lt; have u0 := r.cell 0; clear hd hL b r; simp at u0; go_simp; exact Tame.Is.mk (Tame.Later.refl _))))
      | (refine Tame.walk_known (o := ⟨some 32, _, _, _, _, _⟩) (fun _ => rfl) ?_; apply Exists.intro; refine ⟨fun vals w2 hL hd => ?_, ?_⟩; (focus (have b := later_drew (B := w4.heap.size) hL (Nat.le_refl _); have r := HOB.out.below b HOB.out.lt; have u0 := r.cell 0; clear hd hL b r; simp at u0; go_simp; exact Tame.Is.mk (Tame.Later.refl _))))
      | (refine Tame.walk_known (o := ⟨some 22, _, _, _, _, _⟩) (fun _ => rfl) ?_; apply Exists.intro; refine ⟨fun vals w2 hL hd => ?_, ?_⟩; (focus (have b := later_drew (B := w4.heap.size) hL (Nat.le_refl _); have HC := Lib.hid (C1.out _ b); clear hd hL b; go_simp; exact Tame.known HC.out)))
      | (refine Tame.walk_known (o := ⟨some 24, _, _, _, _, _⟩) (fun _ => rfl) ?_; apply Exists.intro; refine ⟨fun vals w2 hL hd => ?_, ?_⟩; (focus (have b := later_drew (B := w4.heap.size) hL (Nat.le_refl _); have HC := Lib.hid (C2.out _ b); clear hd hL b; go_simp; exact Tame.known HC.out)))
      | (refine Tame.walk_some (o := ⟨some 29, _, _, _, _, _⟩) (PX o) (fun _ => rfl) (fun v w w' hl h => h.later hl) (fun vals w2 hL hd => ?_) ?_; (focus (have b := later_drew (B := w4.heap.size) hL (Nat.le_refl _); have HC := Lib.hid (C3.out _ b); clear hd hL b; go_simp; refine HC.out.mono ?_; rintro q w' ⟨A2, c2, rfl, hk2, hb2⟩; exact ⟨_, rfl, hb2, A2, c2, rfl, hk2.move fun b hb => ⟨hb.2, rfl⟩⟩)))
      | (refine Tame.walk_known (o := ⟨some 30, _, _, _, _, _⟩) (fun _ => rfl) ?_; apply Exists.intro; refine ⟨fun vals w2 hL hd => ?_, ?_⟩; (focus (have b := later_drew (B := w4.heap.size) hL (Nat.le_refl _); have hv : PX o (vals 8) w2 := hd ⟨8, .data⟩ (by simp) rfl _ rfl; clear hd hL; obtain ⟨A2, c2, hv, hk2⟩ := hv; have HC := Lib.hid (C4.out _ A2 c2 b hk2); clear b hk2; go_simp; exact Tame.known HC.out)))
      | (refine Tame.walk_known (o := ⟨some 33, _, _, _, _, _⟩) (fun _ => rfl) ?_; apply Exists.intro; refine ⟨fun vals w2 hL hd => ?_, ?_⟩; (focus (have b := later_drew (B := w4.heap.size) hL (Nat.le_refl _); have HC := Lib.hid (C5.out _ b); clear hd hL b; go_simp; exact Tame.known HC.out)))
      | (refine Tame.walk_known (o := ⟨some 38, _, _, _, _, _⟩) (fun _ => rfl) ?_; apply Exists.intro; refine ⟨fun vals w2 hL hd => ?_, ?_⟩; (focus (have b := later_drew (B := w4.heap.size) hL (Nat.le_refl _); have HC := Lib.hid (C6.out _ b); clear hd hL b; go_simp; exact Tame.known HC.out)))
      | (refine Tame.walk_known (o := ⟨some 40, _, _, _, _, _⟩) (fun _ => rfl) ?_; apply Exists.intro; refine ⟨fun vals w2 hL hd => ?_, ?_⟩; (focus (have b := later_drew (B := w4.heap.size) hL (Nat.le_refl _); have HC := Lib.hid (C7.out _ b); clear hd hL b; go_simp; exact Tame.known HC.out)))
      | (refine Tame.walk_known (o := ⟨some 45, _, _, _, _, _⟩) (fun _ => rfl) ?_; apply Exists.intro; refine ⟨fun vals w2 hL hd => ?_, ?_⟩; (focus (have b := later_drew (B := w4.heap.size) hL (Nat.le_refl _); have HC := Lib.hid (C8.out _ b); clear hd hL b; go_simp; exact Tame.known HC.out)))
      | (refine Tame.walk_known (o := ⟨some 47, _, _, _, _, _⟩) (fun _ => rfl) ?_; apply Exists.intro; refine ⟨fun vals w2 hL hd => ?_, ?_⟩; (focus (have b := later_drew (B := w4.heap.size) hL (Nat.le_refl _); have HC := Lib.hid (C9.out _ b); clear hd hL b; go_simp; exact Tame.known HC.out)))
      | (refine Tame.walk_known (o := ⟨some 51, _, _, _, _, _⟩) (fun _ => rfl) ?_; apply Exists.intro; refine ⟨fun vals w2 hL hd => ?_, ?_⟩; (focus (have b := later_drew (B := w4.heap.size) hL (Nat.le_refl _); have HC := Lib.hid (C10.out _ b); clear hd hL b; go_simp; exact Tame.known HC.out)))
      | (refine Tame.walk_known (fun _ => rfl) ?_; apply Exists.intro; refine ⟨fun vals w2 hL hd => ?_, ?_⟩; (focus (go_simp; first | exact Tame.Is.mk (Tame.Later.refl _) | (rw [if_neg]; (focus exact Tame.Is.mk (Tame.Later.refl _)); omega)))))
     simp only [Act.put, List.setIfInBounds_toArray, List.set_cons_zero, List.set_cons_succ, List.nil_append, List.cons_append, List.length_cons, List.length_nil, Nat.zero_add, Nat.reduceAdd])
  refine Tame.walk_end fun vals w5 hL _ => ?_
  have HB5 : Hid (Below w4.heap.size w4 w5) := later_drew hL (Nat.le_refl _)
  clear hL
  go_wp2_with fail
  go_ret
  exact ⟨rfl, HB4.out.trans (HB5.out.mono HB4.out.size)⟩

end Go.Proofs.YtmbdnifehgdjeaaDoor
