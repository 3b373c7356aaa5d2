/- DERIVED. Whether an expression may be: RightExpr, Right. -/
import Derived.Test.YtfajnflfonechaaDoorExpr
import Derived.Test.YtfajnflfonechaaDoorShape
import Derived.Test.YtfajnflfonechaaDoorTamg
import Derived.Test.YtfajnflfonechaaDoorSameB
namespace Go.Proofs.YtfajnflfonechaaDoor
open Go.RowKit
attribute [local go_sem] Tame.Op Tame.upon

set_option maxRecDepth 100000 in
set_option maxHeartbeats 1000000 in
theorem RightExpr_any (x : X) (A : Option Addr) (c : Nat) (w : World) (S : Nat → Prop) (hok : x.ok) (hsz : x.size ≤ 1099511627775) (hk : KS w S A x.ks) (hS : ∀ b, S b → b < w.heap.size) :
    Calls Tryd.prog 16 #[ev x A c] w fun e w' => e = .returned (.bool (rightB x)) ∧ Below w.heap.size w w' := by
  have hr0 := Row.made w 46 #[.int .i64 x.k, .int .i64 x.o, .int .i64 x.n, .string ⟨x.s.toArray⟩, .slice A x.ks.length c]
  have HR := Lib.hid hr0
  have hSH : ∀ w2, Below w.heap.size w w2 → Calls Tryd.prog 35 #[.agg #[.int .i64 x.k, .int .i64 x.o, .int .i64 x.n, .string ⟨x.s.toArray⟩, .slice A x.ks.length c]] w2 fun e w' => e = .returned (.bool x.shape) ∧ Below w2.heap.size w2 w' := fun w2 hb2 =>
    shape_any x.size hsz x A c w2 S (Nat.le_refl _) hok (hk.later hS hb2) (fun b h => Nat.lt_of_lt_of_le (hS b h) hb2.size)
  have HDE : Hid (∀ w2, Below w.heap.size w w2 → Calls Tryd.prog 36 #[.agg #[.int .i64 x.k, .int .i64 x.o, .int .i64 x.n, .string ⟨x.s.toArray⟩, .slice A x.ks.length c]] w2 fun e w' => e = .returned (.int .i64 (x.depth : Nat)) ∧ Below w2.heap.size w2 w') := fun w2 hb2 =>
    refDepth_any x.size x A c w2 S (Nat.le_refl _) (by omega) (hk.later hS hb2) (fun b h => Nat.lt_of_lt_of_le (hS b h) hb2.size)
  simp only [ev]
  clear hr0 hk
  have ARM : True := trivial
  by_cases hs : x.shape = true
  · rw [hs] at hSH
    have HSH := Lib.hid hSH
    have HX : Hid (rightB x = inB x.depth 200) := Lib.hid (by simp [rightB, hs])
    clear hSH hs
    by_cases hd : x.depth ≤ 200
    · have HD : Hid (inB x.depth 200 = true) := inB_true hd
      have hd2 : (x.depth : Int) ≤ 200 := by omega
      clear hd
      go_enter Tryd.func16, Tryd.ntmps16
      go_wp2_with (first
        | (go_at_call 35; refine (HSH.out _ ((Below.refl _ _).alloc (Nat.le_refl _) _)).mono ?_; rintro e w1 ⟨rfl, hb1⟩; have HB1 := Lib.hid hb1; have r := HR.out.below hb1 HR.out.lt; have c0 := r.cell 0; have c1 := r.cell 1; have c2 := r.cell 2; have c3 := r.cell 3; have c4 := r.cell 4; simp at c0 c1 c2 c3 c4; clear hb1 r)
        | (go_at_call 36; refine (HDE.out _ (((Below.refl _ _).alloc (Nat.le_refl _) _).trans (HB1.out.mono (by simp)))).mono ?_; rintro e w2 ⟨rfl, hb2⟩; have HB2 := Lib.hid hb2; clear hb2))
      go_ret
      exact ⟨ret_b (HX.out.trans HD.out).symm, (((Below.refl _ _).alloc (Nat.le_refl _) _).trans (HB1.out.mono (by simp))).trans (HB2.out.mono (by have := HB1.out.size; simp at this; omega))⟩
    · have HD : Hid (inB x.depth 200 = false) := inB_false hd
      have hd2 : ¬ (x.depth : Int) ≤ 200 := by omega
      clear hd
      go_enter Tryd.func16, Tryd.ntmps16
      go_wp2_with (first
        | (go_at_call 35; refine (HSH.out _ ((Below.refl _ _).alloc (Nat.le_refl _) _)).mono ?_; rintro e w1 ⟨rfl, hb1⟩; have HB1 := Lib.hid hb1; have r := HR.out.below hb1 HR.out.lt; have c0 := r.cell 0; have c1 := r.cell 1; have c2 := r.cell 2; have c3 := r.cell 3; have c4 := r.cell 4; simp at c0 c1 c2 c3 c4; clear hb1 r)
        | (go_at_call 36; refine (HDE.out _ (((Below.refl _ _).alloc (Nat.le_refl _) _).trans (HB1.out.mono (by simp)))).mono ?_; rintro e w2 ⟨rfl, hb2⟩; have HB2 := Lib.hid hb2; clear hb2))
      go_ret
      exact ⟨ret_b ((decide_eq_false (by omega)).trans (HX.out.trans HD.out).symm), (((Below.refl _ _).alloc (Nat.le_refl _) _).trans (HB1.out.mono (by simp))).trans (HB2.out.mono (by have := HB1.out.size; simp at this; omega))⟩
  · have hs' : x.shape = false := by simpa using hs
    rw [hs'] at hSH
    have HSH := Lib.hid hSH
    have HX : Hid (rightB x = false) := Lib.hid (by simp [rightB, hs'])
    clear hSH hs hs'
    go_enter Tryd.func16, Tryd.ntmps16
    go_wp2_with (go_at_call 35; refine (HSH.out _ ((Below.refl _ _).alloc (Nat.le_refl _) _)).mono ?_; rintro e w1 ⟨rfl, hb1⟩; have HB1 := Lib.hid hb1; clear hb1)
    go_ret
    exact ⟨ret_b HX.out.symm, ((Below.refl _ _).alloc (Nat.le_refl _) _).trans (HB1.out.mono (by simp))⟩

theorem later_drew {B : Nat} {W w2 : World} (hL : Tame.Later W.drew w2) (h : B ≤ W.heap.size) : Below B W w2 := ((Below.refl B W).drew).trans (Below.mono hL h)

/-- The words as a value. -/
def WMV (v : Value) (w : World) : Prop := ∃ b, v = .map (some b) ∧ WM w b
theorem WMV.later {v : Value} {w w' : World} (h : WMV v w) (hl : Tame.Later w w') : WMV v w' := by
  obtain ⟨b, hv, hm⟩ := h
  exact ⟨b, hv, WMk.later hm hl⟩

set_option maxRecDepth 100000 in
set_option maxHeartbeats 1000000 in
theorem Right_any (x : X) (A : Option Addr) (c : Nat) (w : World) (S : Nat → Prop) (ht : ShapesAt w) (hok : x.ok) (hsz : x.size ≤ 1099511627775) (hk : KS w S A x.ks) (hS : ∀ b, S b → b < w.heap.size) :
    Calls Tryd.prog 42 #[ev x A c] w fun e w' => e = .returned (.bool (rightB x)) ∧ Below w.heap.size w w' := by
  have HR : Hid (Row (w.alloc (.cells #[.int .i64 x.k, .int .i64 x.o, .int .i64 x.n, .string ⟨x.s.toArray⟩, .slice A x.ks.length c] 61)) w.heap.size 61 #[.int .i64 x.k, .int .i64 x.o, .int .i64 x.n, .string ⟨x.s.toArray⟩, .slice A x.ks.length c]) := Lib.hid (Row.made w 61 _)
  have HB0 : Hid (Below w.heap.size w (w.alloc (.cells #[.int .i64 x.k, .int .i64 x.o, .int .i64 x.n, .string ⟨x.s.toArray⟩, .slice A x.ks.length c] 61))) := Lib.hid ((Below.refl _ _).alloc (Nat.le_refl _) _)
  have HC : Hid (∀ b w2, Below w.heap.size w w2 → WM w2 b → Calls Tryd.prog 59 #[.map (some b), .agg #[.int .i64 x.k, .int .i64 x.o, .int .i64 x.n, .string ⟨x.s.toArray⟩, .slice A x.ks.length c]] w2 fun e w' => e = .returned (.bool (rightB x)) ∧ Below w2.heap.size w2 w') := fun b w2 hb2 hm =>
    expr_any b x A c w2 S hm (ht.later hb2) hok hsz (hk.later hS hb2) (fun q h => Nat.lt_of_lt_of_le (hS q h) hb2.size)
  simp only [ev]
  clear ht hk
  go_enter Tryd.func42, Tryd.ntmps42
  go_wp2_with fail
  refine Tame.wp_region_tame (by kernel_rfl) (by kernel_rfl) Tame.Later.refl Tame.Later.trans ?_
  repeat
    ((first
      | (refine Tame.walk_some (o := ⟨some 3, _, _, _, _, _⟩) (WMV) (fun _ => rfl) (fun v w w' hl h => h.later hl) (fun vals w2 hL hd => ?_) ?_; (focus (have HC := Lib.hid (allWords_any w2); clear hd hL; go_simp; refine HC.out.mono ?_; rintro e w' ⟨b, rfl, hm, _, hb⟩; exact ⟨_, rfl, hb, b, rfl, hm⟩)))
      | (refine Tame.walk_known (o := ⟨some 4, _, _, _, _, _⟩) (fun _ => rfl) ?_; apply Exists.intro; refine ⟨fun vals w2 hL hd => ?_, ?_⟩; (focus (have hb2 : Below (w.heap.size + 1) (w.alloc (.cells #[.int .i64 x.k, .int .i64 x.o, .int .i64 x.n, .string ⟨x.s.toArray⟩, .slice A x.ks.length c] 61)) w2 := later_drew hL (by simp) ; have r := HR.out.below hb2 (Nat.lt_succ_self _); have c0 := r.cell 0; have c1 := r.cell 1; have c2 := r.cell 2; have c3 := r.cell 3; have c4 := r.cell 4; clear hd hL hb2 r; simp at c0 c1 c2 c3 c4; go_simp; exact Tame.Is.mk (Tame.Later.refl _))))
      | (refine Tame.walk_known (o := ⟨some 5, _, _, _, _, _⟩) (fun _ => rfl) ?_; apply Exists.intro; refine ⟨fun vals w2 hL hd => ?_, ?_⟩; (focus (have hb2 : Below w.heap.size w w2 := HB0.out.trans (later_drew hL (by simp)); have hm : WMV (vals 0) w2 := hd ⟨0, .data⟩ (by simp) rfl _ rfl; clear hd hL; obtain ⟨b, hv, hm⟩ := hm; have HCC := Lib.hid (HC.out b w2 hb2 hm); clear hb2 hm; go_simp; exact Tame.known HCC.out)))
      | (refine Tame.walk_known (fun _ => rfl) ?_; apply Exists.intro; refine ⟨fun vals w2 hL hd => ?_, ?_⟩; (focus (go_simp; first | exact Tame.Is.mk (Tame.Later.refl _) | (rw [if_neg]; (focus exact Tame.Is.mk (Tame.Later.refl _)); omega)))))
     simp only [Act.put, List.setIfInBounds_toArray, List.set_cons_zero, List.set_cons_succ, List.nil_append, List.cons_append, List.length_nil])
  refine Tame.walk_end fun vals w2 hL _ => ?_
  have HB2 : Hid (Below w.heap.size w w2) := HB0.out.trans (later_drew hL (by simp))
  clear hL
  go_wp2_with fail
  go_ret
  exact ⟨rfl, HB2.out⟩

end Go.Proofs.YtfajnflfonechaaDoor
