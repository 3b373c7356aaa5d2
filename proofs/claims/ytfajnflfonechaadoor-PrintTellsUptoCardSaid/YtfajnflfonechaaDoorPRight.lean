/- DERIVED. Whether a program may be: the code's Program.Right. -/
import Derived.Test.YtfajnflfonechaaDoorNode
import Derived.Test.YtfajnflfonechaaDoorRight
namespace Go.Proofs.YtfajnflfonechaaDoor
open Go.RowKit
attribute [local go_sem] Tame.Op Tame.upon

/-- The words' own test of a node, as a value. -/
def FMV (v : Value) (w : World) : Prop := ∃ b, v = .func (.func 52) #[.map (some b)] #[] ∧ WM w b
theorem FMV.later {v : Value} {w w' : World} (h : FMV v w) (hl : Tame.Later w w') : FMV v w' := by
  obtain ⟨b, hv, hm⟩ := h
  exact ⟨b, hv, hm.later hl⟩

set_option maxRecDepth 100000 in
set_option maxHeartbeats 1000000 in
theorem PRight_any (l : List Nd) (A : Option Addr) (c : Nat) (w : World) (S : Nat → Prop) (hl : okNs l) (ht : ShapesAt w) (hA : NS w S A l) (hS : ∀ b, S b → b < w.heap.size) :
    Calls Tryd.prog 29 #[.agg #[.slice A l.length c]] w fun e w' => e = .returned (.bool (nodesB l)) ∧ Below w.heap.size w w' := by
  have HR : Hid (Row (w.alloc (.cells #[.slice A l.length c] 53)) w.heap.size 53 #[.slice A l.length c]) := Lib.hid (Row.made w 53 _)
  have HB0 : Hid (Below w.heap.size w (w.alloc (.cells #[.slice A l.length c] 53))) := Lib.hid ((Below.refl _ _).alloc (Nat.le_refl _) _)
  have HC : Hid (∀ b w2, Below w.heap.size w w2 → WM w2 b → Calls Tryd.prog 50 #[.slice A l.length c, .func (.func 52) #[.map (some b)] #[]] w2 fun e w' => e = .returned (.bool (nodesB l)) ∧ Below w2.heap.size w2 w') := fun b w2 hb2 hm =>
    allN_any b l A c w2 S hl hm (ht.later hb2) (hA.move (stay hS hb2)) (stay_lt hS hb2)
  clear ht hA
  go_enter Tryd.func29, Tryd.ntmps29
  go_wp2_with fail
  refine Tame.wp_region_tame (by kernel_rfl) (by kernel_rfl) Tame.Later.refl Tame.Later.trans ?_
  repeat
    ((first
      | (refine Tame.walk_known (o := ⟨some 4, _, _, _, _, _⟩) (fun _ => rfl) ?_; apply Exists.intro; refine ⟨fun vals w2 hL hd => ?_, ?_⟩; (focus (have hb2 : Below (w.heap.size + 1) (w.alloc (.cells #[.slice A l.length c] 53)) w2 := later_drew hL (by simp); have r := HR.out.below hb2 (Nat.lt_succ_self _); have c0 := r.cell 0; clear hd hL hb2 r; simp at c0; go_simp; exact Tame.Is.mk (Tame.Later.refl _))))
      | (refine Tame.walk_some (o := ⟨some 5, _, _, _, _, _⟩) (WMV) (fun _ => rfl) (fun v w w' hl h => h.later hl) (fun vals w2 hL hd => ?_) ?_; (focus (have HC := Lib.hid (allWords_any w2); clear hd hL; go_simp; refine HC.out.mono ?_; rintro e w' ⟨b, rfl, hm, _, hb⟩; exact ⟨_, rfl, hb, b, rfl, hm⟩)))
      | (refine Tame.walk_some (o := ⟨some 6, _, _, _, _, _⟩) (FMV) (fun _ => rfl) (fun v w w' hl h => h.later hl) (fun vals w2 hL hd => ?_) ?_; (focus (have hm : WMV (vals 2) w2 := hd ⟨2, .data⟩ (by simp) rfl _ rfl; clear hd hL; obtain ⟨b, hv, hm⟩ := hm; have HM := Lib.hid hm; clear hm; go_simp; exact Tame.Has.mk (Tame.Later.refl _) ⟨b, rfl, HM.out⟩)))
      | (refine Tame.walk_known (o := ⟨some 7, _, _, _, _, _⟩) (fun _ => rfl) ?_; apply Exists.intro; refine ⟨fun vals w2 hL hd => ?_, ?_⟩; (focus (have hb2 : Below w.heap.size w w2 := HB0.out.trans (later_drew hL (by simp)); have hm : FMV (vals 3) w2 := hd ⟨3, .data⟩ (by simp) rfl _ rfl; clear hd hL; obtain ⟨b, hv, hm⟩ := hm; have HCC := Lib.hid (HC.out b w2 hb2 hm); clear hb2 hm; go_simp; exact Tame.known HCC.out)))
      | (refine Tame.walk_known (fun _ => rfl) ?_; apply Exists.intro; refine ⟨fun vals w2 hL hd => ?_, ?_⟩; (focus (go_simp; first | exact Tame.Is.mk (Tame.Later.refl _) | (rw [if_neg]; (focus exact Tame.Is.mk (Tame.Later.refl _)); omega)))))
     simp only [Act.put, List.setIfInBounds_toArray, List.set_cons_zero, List.set_cons_succ, List.nil_append, List.cons_append, List.length_cons, List.length_nil, Nat.zero_add, Nat.reduceAdd])
  refine Tame.walk_end fun vals w2 hL _ => ?_
  have HB2 : Hid (Below w.heap.size w w2) := HB0.out.trans (later_drew hL (by simp))
  clear hL
  go_wp2_with fail
  go_ret
  exact ⟨rfl, HB2.out⟩

end Go.Proofs.YtfajnflfonechaaDoor
