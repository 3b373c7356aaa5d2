/- Parts: Expr, Eqn, Node, Shape, Right. -/
import Derived.Test.YtdabndiaflagpaaGreatDoorB03
import Derived.Test.YtdabndiaflagpaaGreatDoorB19
import Derived.Test.YtdabndiaflagpaaGreatDoorB00
import Derived.Test.YtdabndiaflagpaaGreatDoorB04
import Derived.Test.YtdabndiaflagpaaGreatDoorB25
set_option maxRecDepth 100000
set_option maxHeartbeats 4000000
set_option linter.unusedVariables false
namespace Go.Proofs.YtdabndiaflagpaaGreatDoor
open Go.RowKit Go.Shelf
attribute [local go_sem] Oper.semAt_some

theorem later_keeps {B : Nat} {W W' : World} (h : Below W.heap.size W W') : KeepsFrom B W W' := KeepsFrom.of_grownBy (only_below h none) (fun j e => by cases e)
theorem row_own {β : Type} {B g : Nat} {t : TypeId} {cs : Array Value} : OwnFrom B (fun (_ : β) W => Row W g t cs) := fun _ W W' row hs hg hr => by
  refine hs.grown hg (fun e => ?_)
  obtain ⟨_, o, ho, hc⟩ := hr g e.symm
  unfold Row at hs
  rw [hs] at ho
  injection ho with ho
  subst ho
  simp [Obj.isCells] at hc

/-- What expr finds. -/
noncomputable def rightB (x : X) : Bool := inB x.depth 200 && x.shape
theorem X.all_stop {xs ys : List X} (h : ys <+: xs) {y : X} (hy : y ∈ ys) (hf : fitB y = false) : xs.all fitB = false := by
  obtain ⟨r, rfl⟩ := h
  rw [List.all_append, Bool.and_eq_false_iff]
  left
  rw [List.all_eq_false]
  exact ⟨y, hy, by simp [hf]⟩

set_option maxRecDepth 100000 in
set_option maxHeartbeats 4000000 in
theorem expr_any (b : Nat) (x : X) (A : Option Addr) (c : Nat) (w : World) (S : Nat → Prop) (hw : WM w b) (ht : ShapesAt w) (hok : x.ok) (hsz : x.size ≤ 1099511627775) (hk : KS w S A x.ks) (hS : ∀ b, S b → b < w.heap.size) :
    Calls Tryz.prog 69 #[.map (some b), ev x A c] w fun e w' => e = .returned (.bool (rightB x)) ∧ Below w.heap.size w w' := by
  have hIn : ∀ w2, Below w.heap.size w w2 → Calls Tryz.prog 107 #[.agg #[.int .i64 x.k, .int .i64 x.o, .int .i64 x.n, .string ⟨x.s.toArray⟩, .slice A x.ks.length c], .int .i64 200] w2 fun e w' => e = .returned (.bool (inB x.depth 200)) ∧ Below w2.heap.size w2 w' := fun w2 hb2 =>
    within_any 200 200 x A c w2 S rfl (by omega) (Nat.le_trans (X.sizes_length x.ks) (by cases x; simp only [X.size, X.ks] at hsz ⊢; omega)) (fun y hy => by
      obtain ⟨i, hi⟩ := List.mem_iff_getElem?.1 hy
      have := X.sizes_at hi
      cases x
      simp only [X.size, X.ks] at hsz this
      omega) (hk.later hS hb2) (fun b h => Nat.lt_of_lt_of_le (hS b h) hb2.size)
  have HQ0 : Hid (Row (((w.alloc (.cells #[.map (some b)] 123)).alloc (.cells #[.int .i64 x.k, .int .i64 x.o, .int .i64 x.n, .string ⟨x.s.toArray⟩, .slice A x.ks.length c] 46)).alloc (.cells #[.bool false] 4)) w.heap.size 123 #[.map (some b)]) := Lib.hid (((Row.made w 123 _).alloc _).alloc _)
  have HQ1 : Hid (Row (((w.alloc (.cells #[.map (some b)] 123)).alloc (.cells #[.int .i64 x.k, .int .i64 x.o, .int .i64 x.n, .string ⟨x.s.toArray⟩, .slice A x.ks.length c] 46)).alloc (.cells #[.bool false] 4)) (w.heap.size + 1) 46 #[.int .i64 x.k, .int .i64 x.o, .int .i64 x.n, .string ⟨x.s.toArray⟩, .slice A x.ks.length c]) := by have := Row.made (w.alloc (.cells #[.map (some b)] 123)) 46 #[.int .i64 x.k, .int .i64 x.o, .int .i64 x.n, .string ⟨x.s.toArray⟩, .slice A x.ks.length c]; rw [World.size_alloc] at this; exact Lib.hid (this.alloc _)
  have HQ2 : Hid (Row (((w.alloc (.cells #[.map (some b)] 123)).alloc (.cells #[.int .i64 x.k, .int .i64 x.o, .int .i64 x.n, .string ⟨x.s.toArray⟩, .slice A x.ks.length c] 46)).alloc (.cells #[.bool false] 4)) (w.heap.size + 2) 4 #[.bool false]) := by have := Row.made ((w.alloc (.cells #[.map (some b)] 123)).alloc (.cells #[.int .i64 x.k, .int .i64 x.o, .int .i64 x.n, .string ⟨x.s.toArray⟩, .slice A x.ks.length c] 46)) 4 #[.bool false]; rw [World.size_alloc, World.size_alloc] at this; exact Lib.hid this
  have HQB : Hid (Below w.heap.size w (((w.alloc (.cells #[.map (some b)] 123)).alloc (.cells #[.int .i64 x.k, .int .i64 x.o, .int .i64 x.n, .string ⟨x.s.toArray⟩, .slice A x.ks.length c] 46)).alloc (.cells #[.bool false] 4))) := Lib.hid ((((Below.refl _ _).alloc (Nat.le_refl _) _).alloc (by simp) _).alloc (by simp; omega) _)
  have HQS : Hid ((((w.alloc (.cells #[.map (some b)] 123)).alloc (.cells #[.int .i64 x.k, .int .i64 x.o, .int .i64 x.n, .string ⟨x.s.toArray⟩, .slice A x.ks.length c] 46)).alloc (.cells #[.bool false] 4)).heap.size = w.heap.size + 3) := Lib.hid (by simp)
  simp only [ev]
  by_cases hd : inB x.depth 200 = true
  · have HR : Hid (rightB x = x.shape) := Lib.hid (by simp [rightB, hd])
    rw [hd] at hIn
    have HIN := Lib.hid hIn
    have HK := Lib.hid hk
    have HWM := Lib.hid hw
    have HT := Lib.hid ht
    clear hIn hd hw ht
    refine (callsIn_wide (n := 5)).1 ?_
    refine callsIn_of_wp_marks Tryz.func69 rfl trivial ?_ rfl
    simp only [Tryz.ntmps69, List.size_toArray, List.length_cons, List.length_nil, Nat.reduceAdd, Nat.reduceSub, Array.replicate_succ, Array.replicate_zero, List.push_toArray, List.append_toArray, List.nil_append, List.cons_append]
    gi_wp2_with (first
      | (refine ⟨trivial, ?_⟩; gi_at_call 107; refine (callsIn_wide.2 (HIN.out _ ((((Below.refl _ _).alloc (Nat.le_refl _) _).alloc (by simp) _).alloc (by simp; omega) _))).mono ?_; rintro e w1 ⟨rfl, hb1⟩; have HB1 := Lib.hid hb1; have r0 := HQ0.out.below hb1 HQ0.out.lt; have r1 := HQ1.out.below hb1 HQ1.out.lt; have r2 := HQ2.out.below hb1 HQ2.out.lt; have a0 := r0.cell 0; have c0 := r1.cell 0; have c1 := r1.cell 1; have c2 := r1.cell 2; have c3 := r1.cell 3; have c4 := r1.cell 4; have z0 := r2.cell 0; have z1 := r2.free 0; simp at a0 c0 c1 c2 c3 c4 z0; have H0 := Lib.hid r0; have H2 := Lib.hid r2; clear hb1 r0 r1 r2)
      | (refine ⟨trivial, ?_⟩; gi_at_call 108; refine (callsIn_wide.2 (Walk_any x A c _)).mono ?_; rintro e w2 ⟨rfl, rfl⟩))
    have hb1 : Below w.heap.size w w1 := HQB.out.trans (HB1.out.mono (by have := HQS.out; omega))
    have hz1 : w.heap.size + 3 ≤ w1.heap.size := by have := HB1.out.size; rw [HQS.out] at this; exact this
    have hb3 : Below w.heap.size w ((w1).alloc (.cells #[.int .i64 x.k, .int .i64 x.o, .int .i64 x.n, .string ⟨x.s.toArray⟩, .slice A x.ks.length c] 46)) := hb1.alloc (by omega) _
    have hz3 : ((w1).alloc (.cells #[.int .i64 x.k, .int .i64 x.o, .int .i64 x.n, .string ⟨x.s.toArray⟩, .slice A x.ks.length c] 46)).heap.size = w1.heap.size + 1 := by simp
    have hr0 : Row ((w1).alloc (.cells #[.int .i64 x.k, .int .i64 x.o, .int .i64 x.n, .string ⟨x.s.toArray⟩, .slice A x.ks.length c] 46)) w.heap.size 123 #[.map (some b)] := H0.out.alloc _
    have hr2 : Row ((w1).alloc (.cells #[.int .i64 x.k, .int .i64 x.o, .int .i64 x.n, .string ⟨x.s.toArray⟩, .slice A x.ks.length c] 46)) (w.heap.size + 2) 4 #[.bool false] := H2.out.alloc _
    have hp3 : Row ((w1).alloc (.cells #[.int .i64 x.k, .int .i64 x.o, .int .i64 x.n, .string ⟨x.s.toArray⟩, .slice A x.ks.length c] 46)) w1.heap.size 46 #[.int .i64 x.k, .int .i64 x.o, .int .i64 x.n, .string ⟨x.s.toArray⟩, .slice A x.ks.length c] := Row.made _ _ _
    clear a0 c0 c1 c2 c3 c4 z0 z1
    generalize (w1).alloc (.cells #[.int .i64 x.k, .int .i64 x.o, .int .i64 x.n, .string ⟨x.s.toArray⟩, .slice A x.ks.length c] 46) = W3 at hb3 hz3 hr0 hr2 hp3 ⊢
    refine wpIn_rangeFunc_ownH rfl (by omega) (gf := 136) (lb := #[.pointer (some ⟨w1.heap.size, 0, none⟩)]) rfl trivial (enters_of Tryz.func136 (by kernel_rfl) rfl)
      (walk_stops w S (fun _ => False) w.heap.size 4 (fun b hb => ⟨hS b hb, fun h => h⟩) (fun b hb => hb.elim) ⟨A, c, x, HK.out, hok, hsz⟩ w1.heap.size W3 hsz (fun b hb => hb3.block b (hS b hb)) (by omega) (fun b hb => by have := hS b hb; omega) hp3)
      (fun h k => h.trans k) (kp_b (by omega)) (Below.refl _ _) (fun _ => rfl)
      (fun pre W => ((Row W w.heap.size 123 #[.map (some b)] ∧ Row W (w.heap.size + 2) 4 #[.bool false]) ∧ (∀ i ∈ pre, fitB i.x = true)) ∧ Below w.heap.size w W)
      (fun j pre W => (Row W (w.heap.size + 2) 4 #[.bool false] ∧ (j = .ret ∧ ∃ i ∈ pre, fitB i.x = false)) ∧ Below w.heap.size w W)
      (OwnFrom.and (OwnFrom.and (OwnFrom.and row_own row_own) (fun _ _ _ _ hs _ _ => hs)) (ownFrom_below (Nat.le_refl _) (by omega)))
      (fun _ => OwnFrom.and (OwnFrom.and row_own (fun _ _ _ _ hs _ _ => hs)) (ownFrom_below (Nat.le_refl _) (by omega)))
      ⟨⟨⟨hr0, hr2⟩, fun i hi => by cases hi⟩, hb3⟩
      (fun i a' W => ∃ Bx, Row W Bx 46 #[.int .i64 i.x.k, .int .i64 i.x.o, .int .i64 i.x.n, .string ⟨i.x.s.toArray⟩, .slice i.A i.x.ks.length i.c] ∧ a' = { tmps := #[.map (some b), .agg #[.int .i64 x.k, .int .i64 x.o, .int .i64 x.n, .string ⟨x.s.toArray⟩, .slice A x.ks.length c], .pointer (some ⟨w.heap.size, 0, none⟩), .pointer (some ⟨w.heap.size + 1, 0, none⟩), .pointer (some ⟨w.heap.size + 1 + 1, 0, none⟩), .pointer (some ⟨Bx, 0, none⟩), .agg #[.int .i64 x.k, .int .i64 x.o, .int .i64 x.n, .string ⟨x.s.toArray⟩, .slice A x.ks.length c], .bool true, .bool false, .agg #[.int .i64 x.k, .int .i64 x.o, .int .i64 x.n, .string ⟨x.s.toArray⟩, .slice A x.ks.length c], .func (.func 136) #[] #[.pointer (some ⟨w1.heap.size, 0, none⟩)], Item.v i, undef, undef, undef, undef], defers := [] })
      (fun i a' _ X Y row hs hg hr => by obtain ⟨Bx, h1, h2⟩ := hs; exact ⟨Bx, row_own (B := W3.heap.size) () X Y row h1 hg hr, h2⟩)
      ?assign ?body ?done ?stop
    case assign =>
      rintro l pre i W K ⟨⟨⟨q0, q2⟩, hall⟩, hB⟩ hK
      simp only [Item.v, ev]
      gi_wp2
      exact hK _ _ (later_keeps ((Below.refl _ _).alloc (Nat.le_refl _) _)) (KpW.of_later ((Below.refl _ _).alloc (Nat.le_refl _) _) hB.size) ⟨⟨⟨q0.alloc _, q2.alloc _⟩, hall⟩, hB.alloc hB.size _⟩ ⟨W.heap.size, Row.made _ _ _, rfl⟩
    case body =>
      rintro l pre i a' W hl ⟨r, hr⟩ ⟨⟨⟨q0, q2⟩, hall⟩, hB⟩ ⟨Bx, bX, rfl⟩ hlen
      have hC : Calls Tryz.prog 109 #[.map (some b), .agg #[.int .i64 i.x.k, .int .i64 i.x.o, .int .i64 i.x.n, .string ⟨i.x.s.toArray⟩, .slice i.A i.x.ks.length i.c]] W fun e w' => e = .returned (.bool (fitB i.x)) ∧ Below W.heap.size W w' :=
        fits_any b i.x i.A i.c W (WMk.later HWM.out hB) (HT.out.later hB) (X.ok_n i.ok) (X.ok_s i.ok) (X.ks_le (Nat.le_trans i.small (by omega)))
      have a0 := q0.cell 0
      have c0 := bX.cell 0
      have c1 := bX.cell 1
      have c2 := bX.cell 2
      have c3 := bX.cell 3
      have c4 := bX.cell 4
      simp at a0 c0 c1 c2 c3 c4
      have HA := Lib.hid hall
      have HBB := Lib.hid hB
      have Q0 := Lib.hid q0
      have Q2 := Lib.hid q2
      simp only [Item.v, ev]
      clear q0 q2 hall hB bX hlen hr hl
      by_cases he : fitB i.x = true
      · rw [he] at hC
        have HC := Lib.hid hC
        have HE := Lib.hid he
        clear hC he
        gi_wp2_with (refine ⟨trivial, ?_⟩; gi_at_call 109; refine (CallsIn.inRound l (callsIn_wide.2 HC.out)).mono ?_; rintro e w2 ⟨rfl, hb2⟩; have HB2 := Lib.hid hb2; clear hb2)
        refine ⟨later_keeps HB2.out, KpW.of_later HB2.out HBB.out.size, ⟨⟨Q0.out.below HB2.out Q0.out.lt, Q2.out.below HB2.out Q2.out.lt⟩, fun q hq => ?_⟩, HBB.out.trans (HB2.out.mono HBB.out.size)⟩
        rcases List.mem_append.1 hq with hq | hq
        · exact HA.out q hq
        · simp at hq; rw [hq]; exact HE.out
      · have he' : fitB i.x = false := by simpa using he
        rw [he'] at hC
        have HC := Lib.hid hC
        have HE := Lib.hid he'
        clear hC he he'
        gi_wp2_with (refine ⟨trivial, ?_⟩; gi_at_call 109; refine (CallsIn.inRound l (callsIn_wide.2 HC.out)).mono ?_; rintro e w2 ⟨rfl, hb2⟩; have HB2 := Lib.hid hb2; have q3 := Q2.out.below hb2 Q2.out.lt; have Q3 := Lib.hid q3; have z0 := q3.cell 0; have z1 := q3.free 0; simp at z0; clear hb2 q3)
        refine ⟨(later_keeps HB2.out).trans ((KeepsOthers.setCell _ _ _).from _), ⟨?_, rfl, i, by simp, HE.out⟩, (HBB.out.trans (HB2.out.mono HBB.out.size)).setCell (p := ⟨w.heap.size + 2, 0, none⟩) (Nat.le_add_right _ _) _⟩
        have := Q3.out.set 0 (.bool false)
        simpa using this
    case done =>
      rintro D ys W hD hys ⟨⟨⟨q0, q2⟩, hall⟩, hB⟩ hK
      have hR2 : rightB x = true := by
        rw [HR.out, X.shape_walk, List.all_eq_true]
        intro y hy
        have : y ∈ ys.map (·.x) := by rw [hys]; exact hy
        obtain ⟨i, hi, rfl⟩ := List.mem_map.1 this
        exact hall i hi
      have z0 := q2.cell 0
      have z1 := q2.free 0
      simp at z0
      have HR2 := Lib.hid hR2
      have HBB := Lib.hid hB
      have HD := Lib.hid hD
      have Q2 := Lib.hid q2
      have HKD := Lib.hid hK
      clear hR2 hB hD hall hys q0 q2 hK
      gi_wp2
      have hk2 := (KeepsOthers.setCell W ⟨w.heap.size + 2, 0, none⟩ (.bool true)).same D _ HKD.out rfl
      have zz : (W.setCell ⟨w.heap.size + 2, 0, none⟩ (.bool true)).cell? ⟨w.heap.size + 2, 0, none⟩ = some (.bool true) := World.cell?_setCell_same' _ _ _ (by rw [z0]; rfl)
      have zz2 := cell_kept zz (grownBy_putObj' _ D (.deferred none)) (fun r e => by cases e; exact ⟨_, hk2, rfl⟩)
      refine ⟨by simp, .inl ⟨_, _, rfl, run_takeDeferred hk2, ?_⟩⟩
      refine ⟨.bool true, by simp [results, Tryz.results69, go_sem]; rw [zz2], by rw [HR2.out], ?_⟩
      exact (HBB.out.setCell (p := ⟨w.heap.size + 2, 0, none⟩) (Nat.le_add_right _ _) _).trans (belowK_b (w := w) (Nat.le_refl _) _ D _ _ (by have := HD.out; have := HBB.out.size; omega) hk2 rfl rfl)
    case stop =>
      rintro D j pre W hD hsp ⟨⟨q2, rfl, i, hi, hf⟩, hB⟩ hK
      have hR2 : rightB x = false := by
        rw [HR.out, X.shape_walk]
        exact X.all_stop hsp (List.mem_map_of_mem hi) hf
      have z0 := q2.cell 0
      simp at z0
      have HR2 := Lib.hid hR2
      have HBB := Lib.hid hB
      have HD := Lib.hid hD
      have HKD := Lib.hid hK
      clear hR2 hB hD hsp q2 hK hi hf
      gi_wp2
      have zz2 := cell_kept z0 (grownBy_putObj' _ D (.deferred none)) (fun r e => by cases e; exact ⟨_, HKD.out, rfl⟩)
      refine ⟨by simp, .inl ⟨_, _, rfl, run_takeDeferred HKD.out, ?_⟩⟩
      refine ⟨.bool false, by simp [results, Tryz.results69, go_sem]; rw [zz2], by rw [HR2.out], ?_⟩
      exact HBB.out.trans (belowK_b (w := w) (Nat.le_refl _) _ D _ _ (by have := HD.out; have := HBB.out.size; omega) HKD.out rfl rfl)
  · have hd' : inB x.depth 200 = false := by simpa using hd
    have HR : Hid (rightB x = false) := Lib.hid (by simp [rightB, hd'])
    rw [hd'] at hIn
    have HIN := Lib.hid hIn
    clear hIn hd hd' hw ht hk
    refine (callsIn_wide (n := 5)).1 ?_
    refine callsIn_of_wp_marks Tryz.func69 rfl trivial ?_ rfl
    simp only [Tryz.ntmps69, List.size_toArray, List.length_cons, List.length_nil, Nat.reduceAdd, Nat.reduceSub, Array.replicate_succ, Array.replicate_zero, List.push_toArray, List.append_toArray, List.nil_append, List.cons_append]
    gi_wp2_with (refine ⟨trivial, ?_⟩; gi_at_call 107; refine (callsIn_wide.2 (HIN.out _ ((((Below.refl _ _).alloc (Nat.le_refl _) _).alloc (by simp) _).alloc (by simp; omega) _))).mono ?_; rintro e w1 ⟨rfl, hb1⟩; have HB1 := Lib.hid hb1; have r0 := HQ0.out.below hb1 HQ0.out.lt; have r1 := HQ1.out.below hb1 HQ1.out.lt; have r2 := HQ2.out.below hb1 HQ2.out.lt; have a0 := r0.cell 0; have c0 := r1.cell 0; have c1 := r1.cell 1; have c2 := r1.cell 2; have c3 := r1.cell 3; have c4 := r1.cell 4; have z0 := r2.cell 0; have z1 := r2.free 0; simp at a0 c0 c1 c2 c3 c4 z0; have H0 := Lib.hid r0; have H2 := Lib.hid r2; clear hb1 r0 r1 r2)
    have zz : (w1.setCell ⟨w.heap.size + 2, 0, none⟩ (.bool false)).cell? ⟨w.heap.size + 2, 0, none⟩ = some (.bool false) := World.cell?_setCell_same' _ _ _ (by rw [z0]; rfl)
    refine ⟨.bool false, by simp [results, Tryz.results69, go_sem]; rw [zz], by rw [HR.out], ?_⟩
    exact (HQB.out.trans (HB1.out.mono (by have := HQS.out; omega))).setCell (p := ⟨w.heap.size + 2, 0, none⟩) (Nat.le_add_right _ _) _

end Go.Proofs.YtdabndiaflagpaaGreatDoor
namespace Go.Proofs.YtdabndiaflagpaaGreatDoor
open Go.RowKit

noncomputable def eqB (q : Q) : Bool := someB q.lhs.length && namesB q.lhs && rightB q.rhs
noncomputable def eqsB (l : List Q) : Bool := l.all eqB && fewB l.length

end Go.Proofs.YtdabndiaflagpaaGreatDoor
namespace Go.Proofs.YtdabndiaflagpaaGreatDoor
open Go.RowKit

noncomputable def nodeB (n : Nd) : Bool := nameB n.name && varsB n.ins && someB n.outs.length && varsB n.outs && varsB n.locals && eqsB n.eqs
noncomputable def nodesB (l : List Nd) : Bool := l.all nodeB && fewB l.length

end Go.Proofs.YtdabndiaflagpaaGreatDoor
namespace Go.Proofs.YtdabndiaflagpaaGreatDoor
open Go.RowKit

set_option maxRecDepth 100000 in
set_option maxHeartbeats 20000000 in
theorem shape_any (N : Nat) (hM : N ≤ 1099511627775) : ∀ (x : X) (A : Option Addr) (c : Nat) (w : World) (S : Nat → Prop), x.size ≤ N → x.ok → KS w S A x.ks → (∀ b, S b → b < w.heap.size) →
    Calls Tryz.prog 37 #[ev x A c] w fun e w' => e = .returned (.bool x.shape) ∧ Below w.heap.size w w' := by
  induction N with
  | zero => intro x A c w S h; have := x.size_pos; omega
  | succ N ih0 =>
    have ih := ih0 (by omega)
    clear ih0
    intro x A c w S hN hok hk hS
    obtain ⟨k, o, n, s, ks⟩ := x
    simp only [X.size, X.ks, ev, X.k, X.o, X.n, X.s] at hN hk ⊢
    unfold X.ok at hok
    obtain ⟨hn9, hs9, hoks⟩ := hok
    have hr0 := Row.made w 52 #[.int .i64 k, .int .i64 o, .int .i64 n, .string ⟨s.toArray⟩, .slice A ks.length c]
    have hlen := X.sizes_length ks
    have HK := Lib.hid hk
    have HR := Lib.hid hr0
    have HOK := Lib.hid hoks
    clear hk hr0 hoks
    go_enter Tryz.func37, Tryz.ntmps37
    go_wp2_with fail
    go_loopw [2, 3] (fun r i wr => r = .bool false ∧ ∃ j : Nat, j ≤ ks.length ∧ i = .int .i64 j ∧ (∀ (q : Nat) y, q < j → ks[q]? = some y → y.shape = true) ∧ Below (w.heap.size + 1) (w.alloc (.cells #[.int .i64 k, .int .i64 o, .int .i64 n, .string ⟨s.toArray⟩, .slice A ks.length c] 52)) wr)
      (fun _ i _ => ks.length - (intOf i).toNat)
    case atStart => exact ⟨rfl, 0, by omega, rfl, fun q y h => by omega, Below.refl _ _⟩
    case round =>
      obtain ⟨rfl, j, hj, rfl, hs, hb⟩ := hrel
      have hr1 := HR.out.below hb (by omega)
      have c4 := hr1.cell 4
      simp at c4
      have hbw : Below w.heap.size w wr := ((Below.refl _ w).alloc (Nat.le_refl _) _).trans (hb.mono (by omega))
      have hws := hbw.size
      have HSM := Lib.hid hs
      have HBW := Lib.hid hbw
      have HB := Lib.hid hb
      clear hs
      by_cases hlt : j < ks.length
      · obtain ⟨y, hy⟩ : ∃ y, ks[j]? = some y := ⟨_, List.getElem?_eq_getElem hlt⟩
        obtain ⟨b, off, A', c', rfl, d0, d1, d2, d3, d4, hk', hbl⟩ := HK.out.kid_at hS hbw hy
        have CL := ih y A' c' wr S (by have := X.sizes_at hy; omega) (X.oks_at hy HOK.out) hk' (fun b h => Nat.lt_of_lt_of_le (hS b h) hws)
        simp only [ev] at CL
        have HY := Lib.hid hy
        by_cases he : y.shape = true
        · rw [he] at CL
          have HC := Lib.hid CL
          have HE := Lib.hid he
          clear CL hy hb hk' hbw hr1 he
          go_wp2_with (go_at_call 37; refine HC.out.mono ?_; rintro e w1 ⟨rfl, hb1⟩; have HB1 := Lib.hid hb1; clear hb1)
          go_roundw
          case rel => exact ⟨rfl, j + 1, by omega, by go_num, fun q u hq hu => by
            by_cases e : q = j
            · subst e; rw [HY.out] at hu; injection hu with hu; rw [← hu]; exact HE.out
            · exact HSM.out q u (by omega) hu, HB.out.trans (HB1.out.mono (by have := HB.out.size; simp at this; omega))⟩
          case measure => simp [intOf]; omega
        · have he' : y.shape = false := by simpa using he
          rw [he'] at CL
          have HC := Lib.hid CL
          have HE : Hid ((X.mk k o n s ks).shape = false) := Lib.hid (by simp [X.shape, X.shapes_at hy he'])
          clear CL hy hb hk' hbw hr1 he he'
          go_wp2_with (go_at_call 37; refine HC.out.mono ?_; rintro e w1 ⟨rfl, hb1⟩; have HB1 := Lib.hid hb1; clear hb1)
          go_ret
          exact ⟨ret_d HE.out.symm, HBW.out.trans (HB1.out.mono hws)⟩
      · have hE : (X.mk k o n s ks).shape = fitB (.mk k o n s ks) := by
          have := X.shapes_all (xs := ks) fun q x hx => HSM.out q x (by
            rcases Nat.lt_or_ge q ks.length with h' | h'
            · omega
            · rw [List.getElem?_eq_none h'] at hx; cases hx) hx
          simp [X.shape, this]
        have HE := Lib.hid hE
        have c0 := hr1.cell 0
        have c1 := hr1.cell 1
        have c2 := hr1.cell 2
        have c3 := hr1.cell 3
        simp at c0 c1 c2 c3
        obtain rfl : j = ks.length := by omega
        clear hE hb hbw hr1 ih hlt hj
        by_cases hk0 : k = 0
        · subst hk0
          have HX : Hid (fitP (.mk 0 o n s ks) ↔ (0 ≤ o ∧ o ≤ 0 ∧ 0 ≤ n ∧ n ≤ 9223372036854775807 ∧ calP s false ∧ 0 ≤ ks.length ∧ ks.length ≤ 0)) := Lib.hid (by simp [fitP, fitK, X.k, X.o, X.n, X.s, X.ks])
          by_cases hs0 : s = []
          · subst hs0
            by_cases ho0 : o = 0
            · subst ho0
              by_cases hnN : 0 ≤ n
              · by_cases hl1 : ks.length = 0
                · have hl1' : (ks.length : Int) = 0 := by omega
                  have HF : Hid (fitB (.mk 0 0 n [] ks) = true) := fitB_true (HX.out.2 ⟨by omega, by omega, by omega, by omega, rfl, by omega, by omega⟩)
                  go_wp2_with fail
                  go_ret
                  exact ⟨ret_d (HE.out.trans HF.out).symm, HBW.out⟩
                · have l1 : ((ks.length : Int) == 0) = false := beq_eq_false_iff_ne.2 (by omega)
                  have l2 : (ks.length == 0) = false := by simpa using hl1
                  have HF : Hid (fitB (.mk 0 0 n [] ks) = false) := fitB_false fun hp => by have hq := HX.out.1 hp; omega
                  go_wp2_with fail
                  go_ret
                  exact ⟨ret_d (HE.out.trans HF.out).symm, HBW.out⟩
              · have HF : Hid (fitB (.mk 0 0 n [] ks) = false) := fitB_false fun hp => by have hq := HX.out.1 hp; omega
                go_wp2_with fail
                go_ret
                exact ⟨ret_d (HE.out.trans HF.out).symm, HBW.out⟩
            · have q1 : (o == 0) = false := by simpa using ho0
              have q2 : (o != 0) = true := by simpa using ho0
              have HF : Hid (fitB (.mk 0 o n [] ks) = false) := fitB_false fun hp => by have hq := HX.out.1 hp; omega
              go_wp2_with fail
              go_ret
              exact ⟨ret_d (HE.out.trans HF.out).symm, HBW.out⟩
          · have q1 : (s == []) = false := by simpa using hs0
            have q2 : (s != []) = true := by simpa using hs0
            have q3 : (!s.isEmpty) = true := by cases s with | nil => exact absurd rfl hs0 | cons a l => rfl
            have HS0 := Lib.hid hs0
            clear hs0
            have HF : Hid (fitB (.mk 0 o n s ks) = false) := fitB_false fun hp => by have hq := HX.out.1 hp; exact HS0.out hq.2.2.2.2.1
            go_wp2_with fail
            go_ret
            exact ⟨ret_d (HE.out.trans HF.out).symm, HBW.out⟩
        by_cases hk1 : k = 1
        · subst hk1
          have HX : Hid (fitP (.mk 1 o n s ks) ↔ (0 ≤ o ∧ o ≤ 0 ∧ 0 ≤ n ∧ n ≤ 1 ∧ calP s false ∧ 0 ≤ ks.length ∧ ks.length ≤ 0)) := Lib.hid (by simp [fitP, fitK, X.k, X.o, X.n, X.s, X.ks])
          clear hk0
          by_cases hs0 : s = []
          · subst hs0
            by_cases ho0 : o = 0
            · subst ho0
              by_cases hnN : 0 ≤ n
              · by_cases hl1 : ks.length = 0
                · have hl1' : (ks.length : Int) = 0 := by omega
                  by_cases hx1 : n ≤ 1
                  · have HF : Hid (fitB (.mk 1 0 n [] ks) = true) := fitB_true (HX.out.2 ⟨by omega, by omega, by omega, by omega, rfl, by omega, by omega⟩)
                    go_wp2_with fail
                    go_ret
                    exact ⟨ret_d (HE.out.trans HF.out).symm, HBW.out⟩
                  · have HF : Hid (fitB (.mk 1 0 n [] ks) = false) := fitB_false fun hp => by have hq := HX.out.1 hp; omega
                    go_wp2_with fail
                    go_ret
                    exact ⟨ret_d (HE.out.trans HF.out).symm, HBW.out⟩
                · have l1 : ((ks.length : Int) == 0) = false := beq_eq_false_iff_ne.2 (by omega)
                  have l2 : (ks.length == 0) = false := by simpa using hl1
                  have HF : Hid (fitB (.mk 1 0 n [] ks) = false) := fitB_false fun hp => by have hq := HX.out.1 hp; omega
                  go_wp2_with fail
                  go_ret
                  exact ⟨ret_d (HE.out.trans HF.out).symm, HBW.out⟩
              · have HF : Hid (fitB (.mk 1 0 n [] ks) = false) := fitB_false fun hp => by have hq := HX.out.1 hp; omega
                go_wp2_with fail
                go_ret
                exact ⟨ret_d (HE.out.trans HF.out).symm, HBW.out⟩
            · have q1 : (o == 0) = false := by simpa using ho0
              have q2 : (o != 0) = true := by simpa using ho0
              have HF : Hid (fitB (.mk 1 o n [] ks) = false) := fitB_false fun hp => by have hq := HX.out.1 hp; omega
              go_wp2_with fail
              go_ret
              exact ⟨ret_d (HE.out.trans HF.out).symm, HBW.out⟩
          · have q1 : (s == []) = false := by simpa using hs0
            have q2 : (s != []) = true := by simpa using hs0
            have q3 : (!s.isEmpty) = true := by cases s with | nil => exact absurd rfl hs0 | cons a l => rfl
            have HS0 := Lib.hid hs0
            clear hs0
            have HF : Hid (fitB (.mk 1 o n s ks) = false) := fitB_false fun hp => by have hq := HX.out.1 hp; exact HS0.out hq.2.2.2.2.1
            go_wp2_with fail
            go_ret
            exact ⟨ret_d (HE.out.trans HF.out).symm, HBW.out⟩
        by_cases hk2 : k = 2
        · subst hk2
          have HX : Hid (fitP (.mk 2 o n s ks) ↔ (0 ≤ o ∧ o ≤ 0 ∧ 0 ≤ n ∧ n ≤ 0 ∧ calP s true ∧ 0 ≤ ks.length ∧ ks.length ≤ 0)) := Lib.hid (by simp [fitP, fitK, X.k, X.o, X.n, X.s, X.ks])
          clear hk0
          clear hk1
          by_cases hn0 : n = 0
          · subst hn0
            by_cases ho0 : o = 0
            · subst ho0
              by_cases hl1 : ks.length = 0
              · have hl1' : (ks.length : Int) = 0 := by omega
                have HC0 : Hid (∀ w2, Below wr.heap.size wr w2 → Calls Tryz.prog 54 #[.string ⟨s.toArray⟩] w2 fun e w' => e = .returned (.bool (nameB s)) ∧ Below w2.heap.size w2 w') := fun w2 _ => refName_any s w2 hs9
                by_cases hx1 : nameB s = true
                · have HC : Hid (∀ w2, Below wr.heap.size wr w2 → Calls Tryz.prog 54 #[.string ⟨s.toArray⟩] w2 fun e w' => e = .returned (.bool true) ∧ Below w2.heap.size w2 w') := fun w2 h => by rw [← hx1]; exact HC0.out w2 h
                  have HF : Hid (fitB (.mk 2 0 0 s ks) = true) := fitB_true (HX.out.2 ⟨by omega, by omega, by omega, by omega, hx1, by omega, by omega⟩)
                  clear hx1 HC0
                  go_wp2_with (go_at_call 54; refine (HC.out _ (Below.refl _ _)).mono ?_; rintro e w1 ⟨rfl, hb1⟩; have HB1 := Lib.hid hb1; clear hb1)
                  go_ret
                  exact ⟨ret_d (HE.out.trans HF.out).symm, HBW.out.trans (HB1.out.mono hws)⟩
                · have hx2 : nameB s = false := by simpa using hx1
                  have HC : Hid (∀ w2, Below wr.heap.size wr w2 → Calls Tryz.prog 54 #[.string ⟨s.toArray⟩] w2 fun e w' => e = .returned (.bool false) ∧ Below w2.heap.size w2 w') := fun w2 h => by rw [← hx2]; exact HC0.out w2 h
                  have HF : Hid (fitB (.mk 2 0 0 s ks) = false) := fitB_false fun hp => hx1 (HX.out.1 hp).2.2.2.2.1
                  clear hx1 hx2 HC0
                  go_wp2_with (go_at_call 54; refine (HC.out _ (Below.refl _ _)).mono ?_; rintro e w1 ⟨rfl, hb1⟩; have HB1 := Lib.hid hb1; clear hb1)
                  go_ret
                  exact ⟨ret_d (HE.out.trans HF.out).symm, HBW.out.trans (HB1.out.mono hws)⟩
              · have l1 : ((ks.length : Int) == 0) = false := beq_eq_false_iff_ne.2 (by omega)
                have l2 : (ks.length == 0) = false := by simpa using hl1
                have HF : Hid (fitB (.mk 2 0 0 s ks) = false) := fitB_false fun hp => by have hq := HX.out.1 hp; omega
                go_wp2_with fail
                go_ret
                exact ⟨ret_d (HE.out.trans HF.out).symm, HBW.out⟩
            · have q1 : (o == 0) = false := by simpa using ho0
              have q2 : (o != 0) = true := by simpa using ho0
              have HF : Hid (fitB (.mk 2 o 0 s ks) = false) := fitB_false fun hp => by have hq := HX.out.1 hp; omega
              go_wp2_with fail
              go_ret
              exact ⟨ret_d (HE.out.trans HF.out).symm, HBW.out⟩
          · have q1 : (n == 0) = false := by simpa using hn0
            have q2 : (n != 0) = true := by simpa using hn0
            have HF : Hid (fitB (.mk 2 o n s ks) = false) := fitB_false fun hp => by have hq := HX.out.1 hp; omega
            go_wp2_with fail
            go_ret
            exact ⟨ret_d (HE.out.trans HF.out).symm, HBW.out⟩
        by_cases hk3 : k = 3
        · subst hk3
          have HX : Hid (fitP (.mk 3 o n s ks) ↔ (0 ≤ o ∧ o ≤ 2 ∧ 0 ≤ n ∧ n ≤ 0 ∧ calP s false ∧ 1 ≤ ks.length ∧ ks.length ≤ 1)) := Lib.hid (by simp [fitP, fitK, X.k, X.o, X.n, X.s, X.ks])
          clear hk0
          clear hk1
          clear hk2
          by_cases hn0 : n = 0
          · subst hn0
            by_cases hs0 : s = []
            · subst hs0
              by_cases hoN : 0 ≤ o
              · by_cases hl1 : ks.length = 1
                · have hl1' : (ks.length : Int) = 1 := by omega
                  by_cases hx1 : o ≤ 2
                  · have HF : Hid (fitB (.mk 3 o 0 [] ks) = true) := fitB_true (HX.out.2 ⟨by omega, by omega, by omega, by omega, rfl, by omega, by omega⟩)
                    go_wp2_with fail
                    go_ret
                    exact ⟨ret_d (HE.out.trans HF.out).symm, HBW.out⟩
                  · have HF : Hid (fitB (.mk 3 o 0 [] ks) = false) := fitB_false fun hp => by have hq := HX.out.1 hp; omega
                    go_wp2_with fail
                    go_ret
                    exact ⟨ret_d (HE.out.trans HF.out).symm, HBW.out⟩
                · have l1 : ((ks.length : Int) == 1) = false := beq_eq_false_iff_ne.2 (by omega)
                  have l2 : (ks.length == 1) = false := by simpa using hl1
                  have HF : Hid (fitB (.mk 3 o 0 [] ks) = false) := fitB_false fun hp => by have hq := HX.out.1 hp; omega
                  go_wp2_with fail
                  go_ret
                  exact ⟨ret_d (HE.out.trans HF.out).symm, HBW.out⟩
              · have HF : Hid (fitB (.mk 3 o 0 [] ks) = false) := fitB_false fun hp => by have hq := HX.out.1 hp; omega
                go_wp2_with fail
                go_ret
                exact ⟨ret_d (HE.out.trans HF.out).symm, HBW.out⟩
            · have q1 : (s == []) = false := by simpa using hs0
              have q2 : (s != []) = true := by simpa using hs0
              have q3 : (!s.isEmpty) = true := by cases s with | nil => exact absurd rfl hs0 | cons a l => rfl
              have HS0 := Lib.hid hs0
              clear hs0
              have HF : Hid (fitB (.mk 3 o 0 s ks) = false) := fitB_false fun hp => by have hq := HX.out.1 hp; exact HS0.out hq.2.2.2.2.1
              go_wp2_with fail
              go_ret
              exact ⟨ret_d (HE.out.trans HF.out).symm, HBW.out⟩
          · have q1 : (n == 0) = false := by simpa using hn0
            have q2 : (n != 0) = true := by simpa using hn0
            have HF : Hid (fitB (.mk 3 o n s ks) = false) := fitB_false fun hp => by have hq := HX.out.1 hp; omega
            go_wp2_with fail
            go_ret
            exact ⟨ret_d (HE.out.trans HF.out).symm, HBW.out⟩
        by_cases hk4 : k = 4
        · subst hk4
          have HX : Hid (fitP (.mk 4 o n s ks) ↔ (0 ≤ o ∧ o ≤ 15 ∧ 0 ≤ n ∧ n ≤ 0 ∧ calP s false ∧ 2 ≤ ks.length ∧ ks.length ≤ 2)) := Lib.hid (by simp [fitP, fitK, X.k, X.o, X.n, X.s, X.ks])
          clear hk0
          clear hk1
          clear hk2
          clear hk3
          by_cases hn0 : n = 0
          · subst hn0
            by_cases hs0 : s = []
            · subst hs0
              by_cases hoN : 0 ≤ o
              · by_cases hl1 : ks.length = 2
                · have hl1' : (ks.length : Int) = 2 := by omega
                  by_cases hx1 : o ≤ 15
                  · have HF : Hid (fitB (.mk 4 o 0 [] ks) = true) := fitB_true (HX.out.2 ⟨by omega, by omega, by omega, by omega, rfl, by omega, by omega⟩)
                    go_wp2_with fail
                    go_ret
                    exact ⟨ret_d (HE.out.trans HF.out).symm, HBW.out⟩
                  · have HF : Hid (fitB (.mk 4 o 0 [] ks) = false) := fitB_false fun hp => by have hq := HX.out.1 hp; omega
                    go_wp2_with fail
                    go_ret
                    exact ⟨ret_d (HE.out.trans HF.out).symm, HBW.out⟩
                · have l1 : ((ks.length : Int) == 2) = false := beq_eq_false_iff_ne.2 (by omega)
                  have l2 : (ks.length == 2) = false := by simpa using hl1
                  have HF : Hid (fitB (.mk 4 o 0 [] ks) = false) := fitB_false fun hp => by have hq := HX.out.1 hp; omega
                  go_wp2_with fail
                  go_ret
                  exact ⟨ret_d (HE.out.trans HF.out).symm, HBW.out⟩
              · have HF : Hid (fitB (.mk 4 o 0 [] ks) = false) := fitB_false fun hp => by have hq := HX.out.1 hp; omega
                go_wp2_with fail
                go_ret
                exact ⟨ret_d (HE.out.trans HF.out).symm, HBW.out⟩
            · have q1 : (s == []) = false := by simpa using hs0
              have q2 : (s != []) = true := by simpa using hs0
              have q3 : (!s.isEmpty) = true := by cases s with | nil => exact absurd rfl hs0 | cons a l => rfl
              have HS0 := Lib.hid hs0
              clear hs0
              have HF : Hid (fitB (.mk 4 o 0 s ks) = false) := fitB_false fun hp => by have hq := HX.out.1 hp; exact HS0.out hq.2.2.2.2.1
              go_wp2_with fail
              go_ret
              exact ⟨ret_d (HE.out.trans HF.out).symm, HBW.out⟩
          · have q1 : (n == 0) = false := by simpa using hn0
            have q2 : (n != 0) = true := by simpa using hn0
            have HF : Hid (fitB (.mk 4 o n s ks) = false) := fitB_false fun hp => by have hq := HX.out.1 hp; omega
            go_wp2_with fail
            go_ret
            exact ⟨ret_d (HE.out.trans HF.out).symm, HBW.out⟩
        by_cases hk5 : k = 5
        · subst hk5
          have HX : Hid (fitP (.mk 5 o n s ks) ↔ (0 ≤ o ∧ o ≤ 0 ∧ 0 ≤ n ∧ n ≤ 0 ∧ calP s false ∧ 3 ≤ ks.length ∧ ks.length ≤ 3)) := Lib.hid (by simp [fitP, fitK, X.k, X.o, X.n, X.s, X.ks])
          clear hk0
          clear hk1
          clear hk2
          clear hk3
          clear hk4
          by_cases hn0 : n = 0
          · subst hn0
            by_cases hs0 : s = []
            · subst hs0
              by_cases ho0 : o = 0
              · subst ho0
                by_cases hl1 : ks.length = 3
                · have hl1' : (ks.length : Int) = 3 := by omega
                  have HF : Hid (fitB (.mk 5 0 0 [] ks) = true) := fitB_true (HX.out.2 ⟨by omega, by omega, by omega, by omega, rfl, by omega, by omega⟩)
                  go_wp2_with fail
                  go_ret
                  exact ⟨ret_d (HE.out.trans HF.out).symm, HBW.out⟩
                · have l1 : ((ks.length : Int) == 3) = false := beq_eq_false_iff_ne.2 (by omega)
                  have l2 : (ks.length == 3) = false := by simpa using hl1
                  have HF : Hid (fitB (.mk 5 0 0 [] ks) = false) := fitB_false fun hp => by have hq := HX.out.1 hp; omega
                  go_wp2_with fail
                  go_ret
                  exact ⟨ret_d (HE.out.trans HF.out).symm, HBW.out⟩
              · have q1 : (o == 0) = false := by simpa using ho0
                have q2 : (o != 0) = true := by simpa using ho0
                have HF : Hid (fitB (.mk 5 o 0 [] ks) = false) := fitB_false fun hp => by have hq := HX.out.1 hp; omega
                go_wp2_with fail
                go_ret
                exact ⟨ret_d (HE.out.trans HF.out).symm, HBW.out⟩
            · have q1 : (s == []) = false := by simpa using hs0
              have q2 : (s != []) = true := by simpa using hs0
              have q3 : (!s.isEmpty) = true := by cases s with | nil => exact absurd rfl hs0 | cons a l => rfl
              have HS0 := Lib.hid hs0
              clear hs0
              have HF : Hid (fitB (.mk 5 o 0 s ks) = false) := fitB_false fun hp => by have hq := HX.out.1 hp; exact HS0.out hq.2.2.2.2.1
              go_wp2_with fail
              go_ret
              exact ⟨ret_d (HE.out.trans HF.out).symm, HBW.out⟩
          · have q1 : (n == 0) = false := by simpa using hn0
            have q2 : (n != 0) = true := by simpa using hn0
            have HF : Hid (fitB (.mk 5 o n s ks) = false) := fitB_false fun hp => by have hq := HX.out.1 hp; omega
            go_wp2_with fail
            go_ret
            exact ⟨ret_d (HE.out.trans HF.out).symm, HBW.out⟩
        by_cases hk6 : k = 6
        · subst hk6
          have HX : Hid (fitP (.mk 6 o n s ks) ↔ (0 ≤ o ∧ o ≤ 0 ∧ 0 ≤ n ∧ n ≤ 0 ∧ calP s true ∧ 0 ≤ ks.length ∧ ks.length ≤ 1000)) := Lib.hid (by simp [fitP, fitK, X.k, X.o, X.n, X.s, X.ks])
          clear hk0
          clear hk1
          clear hk2
          clear hk3
          clear hk4
          clear hk5
          by_cases hn0 : n = 0
          · subst hn0
            by_cases ho0 : o = 0
            · subst ho0
              by_cases hl1 : (ks.length : Int) ≤ 1000
              · have HC0 : Hid (∀ w2, Below wr.heap.size wr w2 → Calls Tryz.prog 54 #[.string ⟨s.toArray⟩] w2 fun e w' => e = .returned (.bool (nameB s)) ∧ Below w2.heap.size w2 w') := fun w2 _ => refName_any s w2 hs9
                by_cases hx1 : nameB s = true
                · have HC : Hid (∀ w2, Below wr.heap.size wr w2 → Calls Tryz.prog 54 #[.string ⟨s.toArray⟩] w2 fun e w' => e = .returned (.bool true) ∧ Below w2.heap.size w2 w') := fun w2 h => by rw [← hx1]; exact HC0.out w2 h
                  have HF : Hid (fitB (.mk 6 0 0 s ks) = true) := fitB_true (HX.out.2 ⟨by omega, by omega, by omega, by omega, hx1, by omega, by omega⟩)
                  clear hx1 HC0
                  go_wp2_with (go_at_call 54; refine (HC.out _ (Below.refl _ _)).mono ?_; rintro e w1 ⟨rfl, hb1⟩; have HB1 := Lib.hid hb1; clear hb1)
                  go_ret
                  exact ⟨ret_d (HE.out.trans HF.out).symm, HBW.out.trans (HB1.out.mono hws)⟩
                · have hx2 : nameB s = false := by simpa using hx1
                  have HC : Hid (∀ w2, Below wr.heap.size wr w2 → Calls Tryz.prog 54 #[.string ⟨s.toArray⟩] w2 fun e w' => e = .returned (.bool false) ∧ Below w2.heap.size w2 w') := fun w2 h => by rw [← hx2]; exact HC0.out w2 h
                  have HF : Hid (fitB (.mk 6 0 0 s ks) = false) := fitB_false fun hp => hx1 (HX.out.1 hp).2.2.2.2.1
                  clear hx1 hx2 HC0
                  go_wp2_with (go_at_call 54; refine (HC.out _ (Below.refl _ _)).mono ?_; rintro e w1 ⟨rfl, hb1⟩; have HB1 := Lib.hid hb1; clear hb1)
                  go_ret
                  exact ⟨ret_d (HE.out.trans HF.out).symm, HBW.out.trans (HB1.out.mono hws)⟩
              · have HF : Hid (fitB (.mk 6 0 0 s ks) = false) := fitB_false fun hp => by have hq := HX.out.1 hp; omega
                go_wp2_with fail
                go_ret
                exact ⟨ret_d (HE.out.trans HF.out).symm, HBW.out⟩
            · have q1 : (o == 0) = false := by simpa using ho0
              have q2 : (o != 0) = true := by simpa using ho0
              have HF : Hid (fitB (.mk 6 o 0 s ks) = false) := fitB_false fun hp => by have hq := HX.out.1 hp; omega
              go_wp2_with fail
              go_ret
              exact ⟨ret_d (HE.out.trans HF.out).symm, HBW.out⟩
          · have q1 : (n == 0) = false := by simpa using hn0
            have q2 : (n != 0) = true := by simpa using hn0
            have HF : Hid (fitB (.mk 6 o n s ks) = false) := fitB_false fun hp => by have hq := HX.out.1 hp; omega
            go_wp2_with fail
            go_ret
            exact ⟨ret_d (HE.out.trans HF.out).symm, HBW.out⟩
        have HX : Hid (fitP (.mk k o n s ks) ↔ False) := Lib.hid ⟨fun hp => by simp only [fitP, X.k] at hp; omega, fun h => h.elim⟩
        have HF : Hid (fitB (.mk k o n s ks) = false) := fitB_false fun hp => HX.out.1 hp
        by_cases hneg : k < 0
        · have hkk : k ≤ 1 := by omega
          have g0 : (k == 0) = false := by simpa using hk0
          have g0' : (k != 0) = true := by simpa using hk0
          have g1 : (k == 1) = false := by simpa using hk1
          have g1' : (k != 1) = true := by simpa using hk1
          have g2 : (k == 2) = false := by simpa using hk2
          have g2' : (k != 2) = true := by simpa using hk2
          have g3 : (k == 3) = false := by simpa using hk3
          have g3' : (k != 3) = true := by simpa using hk3
          have g4 : (k == 4) = false := by simpa using hk4
          have g4' : (k != 4) = true := by simpa using hk4
          have g5 : (k == 5) = false := by simpa using hk5
          have g5' : (k != 5) = true := by simpa using hk5
          have g6 : (k == 6) = false := by simpa using hk6
          have g6' : (k != 6) = true := by simpa using hk6
          clear hk0 hk1 hk2 hk3 hk4 hk5 hk6 hneg
          by_cases hs0 : s = []
          · subst hs0
            by_cases ho0 : o = 0
            · subst ho0
              by_cases hnN : 0 ≤ n
              · go_wp2_with fail
                go_ret
                exact ⟨ret_d (HE.out.trans HF.out).symm, HBW.out⟩
              · go_wp2_with fail
                go_ret
                exact ⟨ret_d (HE.out.trans HF.out).symm, HBW.out⟩
            · have q1 : (o == 0) = false := by simpa using ho0
              have q2 : (o != 0) = true := by simpa using ho0
              go_wp2_with fail
              go_ret
              exact ⟨ret_d (HE.out.trans HF.out).symm, HBW.out⟩
          · have q1 : (s == []) = false := by simpa using hs0
            have q2 : (s != []) = true := by simpa using hs0
            have q3 : (!s.isEmpty) = true := by cases s with | nil => exact absurd rfl hs0 | cons a l => rfl
            have HS0 := Lib.hid hs0
            clear hs0
            go_wp2_with fail
            go_ret
            exact ⟨ret_d (HE.out.trans HF.out).symm, HBW.out⟩
        · have hkk : 7 ≤ k := by omega
          have g0 : (k == 0) = false := by simpa using hk0
          have g0' : (k != 0) = true := by simpa using hk0
          have g1 : (k == 1) = false := by simpa using hk1
          have g1' : (k != 1) = true := by simpa using hk1
          have g2 : (k == 2) = false := by simpa using hk2
          have g2' : (k != 2) = true := by simpa using hk2
          have g3 : (k == 3) = false := by simpa using hk3
          have g3' : (k != 3) = true := by simpa using hk3
          have g4 : (k == 4) = false := by simpa using hk4
          have g4' : (k != 4) = true := by simpa using hk4
          have g5 : (k == 5) = false := by simpa using hk5
          have g5' : (k != 5) = true := by simpa using hk5
          have g6 : (k == 6) = false := by simpa using hk6
          have g6' : (k != 6) = true := by simpa using hk6
          clear hk0 hk1 hk2 hk3 hk4 hk5 hk6 hneg
          by_cases hn0 : n = 0
          · subst hn0
            by_cases hs0 : s = []
            · subst hs0
              by_cases ho0 : o = 0
              · subst ho0
                go_wp2_with fail
                go_ret
                exact ⟨ret_d (HE.out.trans HF.out).symm, HBW.out⟩
              · have q1 : (o == 0) = false := by simpa using ho0
                have q2 : (o != 0) = true := by simpa using ho0
                go_wp2_with fail
                go_ret
                exact ⟨ret_d (HE.out.trans HF.out).symm, HBW.out⟩
            · have q1 : (s == []) = false := by simpa using hs0
              have q2 : (s != []) = true := by simpa using hs0
              have q3 : (!s.isEmpty) = true := by cases s with | nil => exact absurd rfl hs0 | cons a l => rfl
              have HS0 := Lib.hid hs0
              clear hs0
              go_wp2_with fail
              go_ret
              exact ⟨ret_d (HE.out.trans HF.out).symm, HBW.out⟩
          · have q1 : (n == 0) = false := by simpa using hn0
            have q2 : (n != 0) = true := by simpa using hn0
            go_wp2_with fail
            go_ret
            exact ⟨ret_d (HE.out.trans HF.out).symm, HBW.out⟩

end Go.Proofs.YtdabndiaflagpaaGreatDoor
namespace Go.Proofs.YtdabndiaflagpaaGreatDoor
open Go.RowKit
attribute [local go_sem] Tame.Op Tame.upon

set_option maxRecDepth 100000 in
set_option maxHeartbeats 1000000 in
theorem RightExpr_any (x : X) (A : Option Addr) (c : Nat) (w : World) (S : Nat → Prop) (hok : x.ok) (hsz : x.size ≤ 1099511627775) (hk : KS w S A x.ks) (hS : ∀ b, S b → b < w.heap.size) :
    Calls Tryz.prog 19 #[ev x A c] w fun e w' => e = .returned (.bool (rightB x)) ∧ Below w.heap.size w w' := by
  have hr0 := Row.made w 52 #[.int .i64 x.k, .int .i64 x.o, .int .i64 x.n, .string ⟨x.s.toArray⟩, .slice A x.ks.length c]
  have HR := Lib.hid hr0
  have hSH : ∀ w2, Below w.heap.size w w2 → Calls Tryz.prog 37 #[.agg #[.int .i64 x.k, .int .i64 x.o, .int .i64 x.n, .string ⟨x.s.toArray⟩, .slice A x.ks.length c]] w2 fun e w' => e = .returned (.bool x.shape) ∧ Below w2.heap.size w2 w' := fun w2 hb2 =>
    shape_any x.size hsz x A c w2 S (Nat.le_refl _) hok (hk.later hS hb2) (fun b h => Nat.lt_of_lt_of_le (hS b h) hb2.size)
  have HDE : Hid (∀ w2, Below w.heap.size w w2 → Calls Tryz.prog 38 #[.agg #[.int .i64 x.k, .int .i64 x.o, .int .i64 x.n, .string ⟨x.s.toArray⟩, .slice A x.ks.length c]] w2 fun e w' => e = .returned (.int .i64 (x.depth : Nat)) ∧ Below w2.heap.size w2 w') := fun w2 hb2 =>
    refDepth_any x.size x A c w2 S (Nat.le_refl _) (by omega) (hk.later hS hb2) (fun b h => Nat.lt_of_lt_of_le (hS b h) hb2.size)
  simp only [ev]
  clear hr0 hk
  have ARM : True := trivial
  by_cases hs : x.shape = true
  · rw [hs] at hSH
    have HSH := Lib.hid hSH
    have HX : Hid (rightB x = inB x.depth 200) := Lib.hid (by simp [rightB, hs])
    clear hSH hs
    by_cases hd : x.depth ≤ 200
    · have HD : Hid (inB x.depth 200 = true) := inB_true hd
      have hd2 : (x.depth : Int) ≤ 200 := by omega
      clear hd
      go_enter Tryz.func19, Tryz.ntmps19
      go_wp2_with (first
        | (go_at_call 37; refine (HSH.out _ ((Below.refl _ _).alloc (Nat.le_refl _) _)).mono ?_; rintro e w1 ⟨rfl, hb1⟩; have HB1 := Lib.hid hb1; have r := HR.out.below hb1 HR.out.lt; have c0 := r.cell 0; have c1 := r.cell 1; have c2 := r.cell 2; have c3 := r.cell 3; have c4 := r.cell 4; simp at c0 c1 c2 c3 c4; clear hb1 r)
        | (go_at_call 38; refine (HDE.out _ (((Below.refl _ _).alloc (Nat.le_refl _) _).trans (HB1.out.mono (by simp)))).mono ?_; rintro e w2 ⟨rfl, hb2⟩; have HB2 := Lib.hid hb2; clear hb2))
      go_ret
      exact ⟨ret_b (HX.out.trans HD.out).symm, (((Below.refl _ _).alloc (Nat.le_refl _) _).trans (HB1.out.mono (by simp))).trans (HB2.out.mono (by have := HB1.out.size; simp at this; omega))⟩
    · have HD : Hid (inB x.depth 200 = false) := inB_false hd
      have hd2 : ¬ (x.depth : Int) ≤ 200 := by omega
      clear hd
      go_enter Tryz.func19, Tryz.ntmps19
      go_wp2_with (first
        | (go_at_call 37; refine (HSH.out _ ((Below.refl _ _).alloc (Nat.le_refl _) _)).mono ?_; rintro e w1 ⟨rfl, hb1⟩; have HB1 := Lib.hid hb1; have r := HR.out.below hb1 HR.out.lt; have c0 := r.cell 0; have c1 := r.cell 1; have c2 := r.cell 2; have c3 := r.cell 3; have c4 := r.cell 4; simp at c0 c1 c2 c3 c4; clear hb1 r)
        | (go_at_call 38; refine (HDE.out _ (((Below.refl _ _).alloc (Nat.le_refl _) _).trans (HB1.out.mono (by simp)))).mono ?_; rintro e w2 ⟨rfl, hb2⟩; have HB2 := Lib.hid hb2; clear hb2))
      go_ret
      exact ⟨ret_b ((decide_eq_false (by omega)).trans (HX.out.trans HD.out).symm), (((Below.refl _ _).alloc (Nat.le_refl _) _).trans (HB1.out.mono (by simp))).trans (HB2.out.mono (by have := HB1.out.size; simp at this; omega))⟩
  · have hs' : x.shape = false := by simpa using hs
    rw [hs'] at hSH
    have HSH := Lib.hid hSH
    have HX : Hid (rightB x = false) := Lib.hid (by simp [rightB, hs'])
    clear hSH hs hs'
    go_enter Tryz.func19, Tryz.ntmps19
    go_wp2_with (go_at_call 37; refine (HSH.out _ ((Below.refl _ _).alloc (Nat.le_refl _) _)).mono ?_; rintro e w1 ⟨rfl, hb1⟩; have HB1 := Lib.hid hb1; clear hb1)
    go_ret
    exact ⟨ret_b HX.out.symm, ((Below.refl _ _).alloc (Nat.le_refl _) _).trans (HB1.out.mono (by simp))⟩

theorem later_drew {B : Nat} {W w2 : World} (hL : Tame.Later W.drew w2) (h : B ≤ W.heap.size) : Below B W w2 := ((Below.refl B W).drew).trans (Below.mono hL h)

/-- The words as a value. -/
def WMV (v : Value) (w : World) : Prop := ∃ b, v = .map (some b) ∧ WM w b
theorem WMV.later {v : Value} {w w' : World} (h : WMV v w) (hl : Tame.Later w w') : WMV v w' := by
  obtain ⟨b, hv, hm⟩ := h
  exact ⟨b, hv, WMk.later hm hl⟩

set_option maxRecDepth 100000 in
set_option maxHeartbeats 1000000 in
theorem Right_any (x : X) (A : Option Addr) (c : Nat) (w : World) (S : Nat → Prop) (ht : ShapesAt w) (hok : x.ok) (hsz : x.size ≤ 1099511627775) (hk : KS w S A x.ks) (hS : ∀ b, S b → b < w.heap.size) :
    Calls Tryz.prog 39 #[ev x A c] w fun e w' => e = .returned (.bool (rightB x)) ∧ Below w.heap.size w w' := by
  have HR : Hid (Row (w.alloc (.cells #[.int .i64 x.k, .int .i64 x.o, .int .i64 x.n, .string ⟨x.s.toArray⟩, .slice A x.ks.length c] 46)) w.heap.size 46 #[.int .i64 x.k, .int .i64 x.o, .int .i64 x.n, .string ⟨x.s.toArray⟩, .slice A x.ks.length c]) := Lib.hid (Row.made w 46 _)
  have HB0 : Hid (Below w.heap.size w (w.alloc (.cells #[.int .i64 x.k, .int .i64 x.o, .int .i64 x.n, .string ⟨x.s.toArray⟩, .slice A x.ks.length c] 46))) := Lib.hid ((Below.refl _ _).alloc (Nat.le_refl _) _)
  have HC : Hid (∀ b w2, Below w.heap.size w w2 → WM w2 b → Calls Tryz.prog 69 #[.map (some b), .agg #[.int .i64 x.k, .int .i64 x.o, .int .i64 x.n, .string ⟨x.s.toArray⟩, .slice A x.ks.length c]] w2 fun e w' => e = .returned (.bool (rightB x)) ∧ Below w2.heap.size w2 w') := fun b w2 hb2 hm =>
    expr_any b x A c w2 S hm (ht.later hb2) hok hsz (hk.later hS hb2) (fun q h => Nat.lt_of_lt_of_le (hS q h) hb2.size)
  simp only [ev]
  clear ht hk
  go_enter Tryz.func39, Tryz.ntmps39
  go_wp2_with fail
  refine Tame.wp_region_tame (by kernel_rfl) (by kernel_rfl) Tame.Later.refl Tame.Later.trans ?_
  repeat
    ((first
      | (refine Tame.walk_some (o := ⟨some 3, _, _, _, _, _⟩) (WMV) (fun _ => rfl) (fun v w w' hl h => h.later hl) (fun vals w2 hL hd => ?_) ?_; (focus (have HC := Lib.hid (allWords_any w2); clear hd hL; go_simp; refine HC.out.mono ?_; rintro e w' ⟨b, rfl, hm, _, hb⟩; exact ⟨_, rfl, hb, b, rfl, hm⟩)))
      | (refine Tame.walk_known (o := ⟨some 4, _, _, _, _, _⟩) (fun _ => rfl) ?_; apply Exists.intro; refine ⟨fun vals w2 hL hd => ?_, ?_⟩; (focus (have hb2 : Below (w.heap.size + 1) (w.alloc (.cells #[.int .i64 x.k, .int .i64 x.o, .int .i64 x.n, .string ⟨x.s.toArray⟩, .slice A x.ks.length c] 46)) w2 := later_drew hL (by simp) ; have r := HR.out.below hb2 (Nat.lt_succ_self _); have c0 := r.cell 0; have c1 := r.cell 1; have c2 := r.cell 2; have c3 := r.cell 3; have c4 := r.cell 4; clear hd hL hb2 r; simp at c0 c1 c2 c3 c4; go_simp; exact Tame.Is.mk (Tame.Later.refl _))))
      | (refine Tame.walk_known (o := ⟨some 5, _, _, _, _, _⟩) (fun _ => rfl) ?_; apply Exists.intro; refine ⟨fun vals w2 hL hd => ?_, ?_⟩; (focus (have hb2 : Below w.heap.size w w2 := HB0.out.trans (later_drew hL (by simp)); have hm : WMV (vals 0) w2 := hd ⟨0, .data⟩ (by simp) rfl _ rfl; clear hd hL; obtain ⟨b, hv, hm⟩ := hm; have HCC := Lib.hid (HC.out b w2 hb2 hm); clear hb2 hm; go_simp; exact Tame.known HCC.out)))
      | (refine Tame.walk_known (fun _ => rfl) ?_; apply Exists.intro; refine ⟨fun vals w2 hL hd => ?_, ?_⟩; (focus (go_simp; first | exact Tame.Is.mk (Tame.Later.refl _) | (rw [if_neg]; (focus exact Tame.Is.mk (Tame.Later.refl _)); omega)))))
     simp only [Act.put, List.setIfInBounds_toArray, List.set_cons_zero, List.set_cons_succ, List.nil_append, List.cons_append, List.length_nil])
  refine Tame.walk_end fun vals w2 hL _ => ?_
  have HB2 : Hid (Below w.heap.size w w2) := HB0.out.trans (later_drew hL (by simp))
  clear hL
  go_wp2_with fail
  go_ret
  exact ⟨rfl, HB2.out⟩

end Go.Proofs.YtdabndiaflagpaaGreatDoor
