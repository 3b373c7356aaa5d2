/- DERIVED. Whether an expression may be: the code's expr. -/
import Derived.Test.YtfajnflfonechaaDoorWalk2
import Derived.Test.YtfajnflfonechaaDoorFits
import Derived.Test.YtfajnflfonechaaDoorEx2
namespace Go.Proofs.YtfajnflfonechaaDoor
open Go.RowKit Go.Shelf
attribute [local go_sem] Oper.semAt_some

theorem later_keeps {B : Nat} {W W' : World} (h : Below W.heap.size W W') : KeepsFrom B W W' := KeepsFrom.of_grownBy (only_below h none) (fun j e => by cases e)
theorem row_own {β : Type} {B g : Nat} {t : TypeId} {cs : Array Value} : OwnFrom B (fun (_ : β) W => Row W g t cs) := fun _ W W' row hs hg hr => by
  refine hs.grown hg (fun e => ?_)
  obtain ⟨_, o, ho, hc⟩ := hr g e.symm
  unfold Row at hs
  rw [hs] at ho
  injection ho with ho
  subst ho
  simp [Obj.isCells] at hc

/-- What expr finds. -/
noncomputable def rightB (x : X) : Bool := inB x.depth 200 && x.shape
theorem X.all_stop {xs ys : List X} (h : ys <+: xs) {y : X} (hy : y ∈ ys) (hf : fitB y = false) : xs.all fitB = false := by
  obtain ⟨r, rfl⟩ := h
  rw [List.all_append, Bool.and_eq_false_iff]
  left
  rw [List.all_eq_false]
  exact ⟨y, hy, by simp [hf]⟩

set_option maxRecDepth 100000 in
set_option maxHeartbeats 4000000 in
theorem expr_any (b : Nat) (x : X) (A : Option Addr) (c : Nat) (w : World) (S : Nat → Prop) (hw : WM w b) (ht : ShapesAt w) (hok : x.ok) (hsz : x.size ≤ 1099511627775) (hk : KS w S A x.ks) (hS : ∀ b, S b → b < w.heap.size) :
    Calls Tryd.prog 59 #[.map (some b), ev x A c] w fun e w' => e = .returned (.bool (rightB x)) ∧ Below w.heap.size w w' := by
  have hIn : ∀ w2, Below w.heap.size w w2 → Calls Tryd.prog 83 #[.agg #[.int .i64 x.k, .int .i64 x.o, .int .i64 x.n, .string ⟨x.s.toArray⟩, .slice A x.ks.length c], .int .i64 200] w2 fun e w' => e = .returned (.bool (inB x.depth 200)) ∧ Below w2.heap.size w2 w' := fun w2 hb2 =>
    within_any 200 200 x A c w2 S rfl (by omega) (Nat.le_trans (X.sizes_length x.ks) (by cases x; simp only [X.size, X.ks] at hsz ⊢; omega)) (fun y hy => by
      obtain ⟨i, hi⟩ := List.mem_iff_getElem?.1 hy
      have := X.sizes_at hi
      cases x
      simp only [X.size, X.ks] at hsz this
      omega) (hk.later hS hb2) (fun b h => Nat.lt_of_lt_of_le (hS b h) hb2.size)
  have HQ0 : Hid (Row (((w.alloc (.cells #[.map (some b)] 105)).alloc (.cells #[.int .i64 x.k, .int .i64 x.o, .int .i64 x.n, .string ⟨x.s.toArray⟩, .slice A x.ks.length c] 61)).alloc (.cells #[.bool false] 4)) w.heap.size 105 #[.map (some b)]) := Lib.hid (((Row.made w 105 _).alloc _).alloc _)
  have HQ1 : Hid (Row (((w.alloc (.cells #[.map (some b)] 105)).alloc (.cells #[.int .i64 x.k, .int .i64 x.o, .int .i64 x.n, .string ⟨x.s.toArray⟩, .slice A x.ks.length c] 61)).alloc (.cells #[.bool false] 4)) (w.heap.size + 1) 61 #[.int .i64 x.k, .int .i64 x.o, .int .i64 x.n, .string ⟨x.s.toArray⟩, .slice A x.ks.length c]) := by have := Row.made (w.alloc (.cells #[.map (some b)] 105)) 61 #[.int .i64 x.k, .int .i64 x.o, .int .i64 x.n, .string ⟨x.s.toArray⟩, .slice A x.ks.length c]; rw [World.size_alloc] at this; exact Lib.hid (this.alloc _)
  have HQ2 : Hid (Row (((w.alloc (.cells #[.map (some b)] 105)).alloc (.cells #[.int .i64 x.k, .int .i64 x.o, .int .i64 x.n, .string ⟨x.s.toArray⟩, .slice A x.ks.length c] 61)).alloc (.cells #[.bool false] 4)) (w.heap.size + 2) 4 #[.bool false]) := by have := Row.made ((w.alloc (.cells #[.map (some b)] 105)).alloc (.cells #[.int .i64 x.k, .int .i64 x.o, .int .i64 x.n, .string ⟨x.s.toArray⟩, .slice A x.ks.length c] 61)) 4 #[.bool false]; rw [World.size_alloc, World.size_alloc] at this; exact Lib.hid this
  have HQB : Hid (Below w.heap.size w (((w.alloc (.cells #[.map (some b)] 105)).alloc (.cells #[.int .i64 x.k, .int .i64 x.o, .int .i64 x.n, .string ⟨x.s.toArray⟩, .slice A x.ks.length c] 61)).alloc (.cells #[.bool false] 4))) := Lib.hid ((((Below.refl _ _).alloc (Nat.le_refl _) _).alloc (by simp) _).alloc (by simp; omega) _)
  have HQS : Hid ((((w.alloc (.cells #[.map (some b)] 105)).alloc (.cells #[.int .i64 x.k, .int .i64 x.o, .int .i64 x.n, .string ⟨x.s.toArray⟩, .slice A x.ks.length c] 61)).alloc (.cells #[.bool false] 4)).heap.size = w.heap.size + 3) := Lib.hid (by simp)
  simp only [ev]
  by_cases hd : inB x.depth 200 = true
  · have HR : Hid (rightB x = x.shape) := Lib.hid (by simp [rightB, hd])
    rw [hd] at hIn
    have HIN := Lib.hid hIn
    have HK := Lib.hid hk
    have HWM := Lib.hid hw
    have HT := Lib.hid ht
    clear hIn hd hw ht
    refine (callsIn_wide (n := 5)).1 ?_
    refine callsIn_of_wp_marks Tryd.func59 rfl trivial ?_ rfl
    simp only [Tryd.ntmps59, List.size_toArray, List.length_cons, List.length_nil, Nat.reduceAdd, Nat.reduceSub, Array.replicate_succ, Array.replicate_zero, List.push_toArray, List.append_toArray, List.nil_append, List.cons_append]
    gi_wp2_with (first
      | (refine ⟨trivial, ?_⟩; gi_at_call 83; refine (callsIn_wide.2 (HIN.out _ ((((Below.refl _ _).alloc (Nat.le_refl _) _).alloc (by simp) _).alloc (by simp; omega) _))).mono ?_; rintro e w1 ⟨rfl, hb1⟩; have HB1 := Lib.hid hb1; have r0 := HQ0.out.below hb1 HQ0.out.lt; have r1 := HQ1.out.below hb1 HQ1.out.lt; have r2 := HQ2.out.below hb1 HQ2.out.lt; have a0 := r0.cell 0; have c0 := r1.cell 0; have c1 := r1.cell 1; have c2 := r1.cell 2; have c3 := r1.cell 3; have c4 := r1.cell 4; have z0 := r2.cell 0; have z1 := r2.free 0; simp at a0 c0 c1 c2 c3 c4 z0; have H0 := Lib.hid r0; have H2 := Lib.hid r2; clear hb1 r0 r1 r2)
      | (refine ⟨trivial, ?_⟩; gi_at_call 84; refine (callsIn_wide.2 (Walk_any x A c _)).mono ?_; rintro e w2 ⟨rfl, rfl⟩))
    have hb1 : Below w.heap.size w w1 := HQB.out.trans (HB1.out.mono (by have := HQS.out; omega))
    have hz1 : w.heap.size + 3 ≤ w1.heap.size := by have := HB1.out.size; rw [HQS.out] at this; exact this
    have hb3 : Below w.heap.size w ((w1).alloc (.cells #[.int .i64 x.k, .int .i64 x.o, .int .i64 x.n, .string ⟨x.s.toArray⟩, .slice A x.ks.length c] 61)) := hb1.alloc (by omega) _
    have hz3 : ((w1).alloc (.cells #[.int .i64 x.k, .int .i64 x.o, .int .i64 x.n, .string ⟨x.s.toArray⟩, .slice A x.ks.length c] 61)).heap.size = w1.heap.size + 1 := by simp
    have hr0 : Row ((w1).alloc (.cells #[.int .i64 x.k, .int .i64 x.o, .int .i64 x.n, .string ⟨x.s.toArray⟩, .slice A x.ks.length c] 61)) w.heap.size 105 #[.map (some b)] := H0.out.alloc _
    have hr2 : Row ((w1).alloc (.cells #[.int .i64 x.k, .int .i64 x.o, .int .i64 x.n, .string ⟨x.s.toArray⟩, .slice A x.ks.length c] 61)) (w.heap.size + 2) 4 #[.bool false] := H2.out.alloc _
    have hp3 : Row ((w1).alloc (.cells #[.int .i64 x.k, .int .i64 x.o, .int .i64 x.n, .string ⟨x.s.toArray⟩, .slice A x.ks.length c] 61)) w1.heap.size 61 #[.int .i64 x.k, .int .i64 x.o, .int .i64 x.n, .string ⟨x.s.toArray⟩, .slice A x.ks.length c] := Row.made _ _ _
    clear a0 c0 c1 c2 c3 c4 z0 z1
    generalize (w1).alloc (.cells #[.int .i64 x.k, .int .i64 x.o, .int .i64 x.n, .string ⟨x.s.toArray⟩, .slice A x.ks.length c] 61) = W3 at hb3 hz3 hr0 hr2 hp3 ⊢
    refine wpIn_rangeFunc_ownH rfl (by omega) (gf := 105) (lb := #[.pointer (some ⟨w1.heap.size, 0, none⟩)]) rfl trivial (enters_of Tryd.func105 (by kernel_rfl) rfl)
      (walk_stops w S (fun _ => False) w.heap.size 4 (fun b hb => ⟨hS b hb, fun h => h⟩) (fun b hb => hb.elim) ⟨A, c, x, HK.out, hok, hsz⟩ w1.heap.size W3 hsz (fun b hb => hb3.block b (hS b hb)) (by omega) (fun b hb => by have := hS b hb; omega) hp3)
      (fun h k => h.trans k) (kp_b (by omega)) (Below.refl _ _) (fun _ => rfl)
      (fun pre W => ((Row W w.heap.size 105 #[.map (some b)] ∧ Row W (w.heap.size + 2) 4 #[.bool false]) ∧ (∀ i ∈ pre, fitB i.x = true)) ∧ Below w.heap.size w W)
      (fun j pre W => (Row W (w.heap.size + 2) 4 #[.bool false] ∧ (j = .ret ∧ ∃ i ∈ pre, fitB i.x = false)) ∧ Below w.heap.size w W)
      (OwnFrom.and (OwnFrom.and (OwnFrom.and row_own row_own) (fun _ _ _ _ hs _ _ => hs)) (ownFrom_below (Nat.le_refl _) (by omega)))
      (fun _ => OwnFrom.and (OwnFrom.and row_own (fun _ _ _ _ hs _ _ => hs)) (ownFrom_below (Nat.le_refl _) (by omega)))
      ⟨⟨⟨hr0, hr2⟩, fun i hi => by cases hi⟩, hb3⟩
      (fun i a' W => ∃ Bx, Row W Bx 61 #[.int .i64 i.x.k, .int .i64 i.x.o, .int .i64 i.x.n, .string ⟨i.x.s.toArray⟩, .slice i.A i.x.ks.length i.c] ∧ a' = { tmps := #[.map (some b), .agg #[.int .i64 x.k, .int .i64 x.o, .int .i64 x.n, .string ⟨x.s.toArray⟩, .slice A x.ks.length c], .pointer (some ⟨w.heap.size, 0, none⟩), .pointer (some ⟨w.heap.size + 1, 0, none⟩), .pointer (some ⟨w.heap.size + 1 + 1, 0, none⟩), .pointer (some ⟨Bx, 0, none⟩), .agg #[.int .i64 x.k, .int .i64 x.o, .int .i64 x.n, .string ⟨x.s.toArray⟩, .slice A x.ks.length c], .bool true, .bool false, .agg #[.int .i64 x.k, .int .i64 x.o, .int .i64 x.n, .string ⟨x.s.toArray⟩, .slice A x.ks.length c], .func (.func 105) #[] #[.pointer (some ⟨w1.heap.size, 0, none⟩)], Item.v i, undef, undef, undef, undef], defers := [] })
      (fun i a' _ X Y row hs hg hr => by obtain ⟨Bx, h1, h2⟩ := hs; exact ⟨Bx, row_own (B := W3.heap.size) () X Y row h1 hg hr, h2⟩)
      ?assign ?body ?done ?stop
    case assign =>
      rintro l pre i W K ⟨⟨⟨q0, q2⟩, hall⟩, hB⟩ hK
      simp only [Item.v, ev]
      gi_wp2
      exact hK _ _ (later_keeps ((Below.refl _ _).alloc (Nat.le_refl _) _)) (Kp.of_later ((Below.refl _ _).alloc (Nat.le_refl _) _) hB.size) ⟨⟨⟨q0.alloc _, q2.alloc _⟩, hall⟩, hB.alloc hB.size _⟩ ⟨W.heap.size, Row.made _ _ _, rfl⟩
    case body =>
      rintro l pre i a' W hl ⟨r, hr⟩ ⟨⟨⟨q0, q2⟩, hall⟩, hB⟩ ⟨Bx, bX, rfl⟩ hlen
      have hC : Calls Tryd.prog 85 #[.map (some b), .agg #[.int .i64 i.x.k, .int .i64 i.x.o, .int .i64 i.x.n, .string ⟨i.x.s.toArray⟩, .slice i.A i.x.ks.length i.c]] W fun e w' => e = .returned (.bool (fitB i.x)) ∧ Below W.heap.size W w' :=
        fits_any b i.x i.A i.c W (WMk.later HWM.out hB) (HT.out.later hB) (X.ok_n i.ok) (X.ok_s i.ok) (X.ks_le (Nat.le_trans i.small (by omega)))
      have a0 := q0.cell 0
      have c0 := bX.cell 0
      have c1 := bX.cell 1
      have c2 := bX.cell 2
      have c3 := bX.cell 3
      have c4 := bX.cell 4
      simp at a0 c0 c1 c2 c3 c4
      have HA := Lib.hid hall
      have HBB := Lib.hid hB
      have Q0 := Lib.hid q0
      have Q2 := Lib.hid q2
      simp only [Item.v, ev]
      clear q0 q2 hall hB bX hlen hr hl
      by_cases he : fitB i.x = true
      · rw [he] at hC
        have HC := Lib.hid hC
        have HE := Lib.hid he
        clear hC he
        gi_wp2_with (refine ⟨trivial, ?_⟩; gi_at_call 85; refine (CallsIn.inRound l (callsIn_wide.2 HC.out)).mono ?_; rintro e w2 ⟨rfl, hb2⟩; have HB2 := Lib.hid hb2; clear hb2)
        refine ⟨later_keeps HB2.out, Kp.of_later HB2.out HBB.out.size, ⟨⟨Q0.out.below HB2.out Q0.out.lt, Q2.out.below HB2.out Q2.out.lt⟩, fun q hq => ?_⟩, HBB.out.trans (HB2.out.mono HBB.out.size)⟩
        rcases List.mem_append.1 hq with hq | hq
        · exact HA.out q hq
        · simp at hq; rw [hq]; exact HE.out
      · have he' : fitB i.x = false := by simpa using he
        rw [he'] at hC
        have HC := Lib.hid hC
        have HE := Lib.hid he'
        clear hC he he'
        gi_wp2_with (refine ⟨trivial, ?_⟩; gi_at_call 85; refine (CallsIn.inRound l (callsIn_wide.2 HC.out)).mono ?_; rintro e w2 ⟨rfl, hb2⟩; have HB2 := Lib.hid hb2; have q3 := Q2.out.below hb2 Q2.out.lt; have Q3 := Lib.hid q3; have z0 := q3.cell 0; have z1 := q3.free 0; simp at z0; clear hb2 q3)
        refine ⟨(later_keeps HB2.out).trans ((KeepsOthers.setCell _ _ _).from _), ⟨?_, rfl, i, by simp, HE.out⟩, (HBB.out.trans (HB2.out.mono HBB.out.size)).setCell (p := ⟨w.heap.size + 2, 0, none⟩) (Nat.le_add_right _ _) _⟩
        have := Q3.out.set 0 (.bool false)
        simpa using this
    case done =>
      rintro D ys W hD hys ⟨⟨⟨q0, q2⟩, hall⟩, hB⟩ hK
      have hR2 : rightB x = true := by
        rw [HR.out, X.shape_walk, List.all_eq_true]
        intro y hy
        have : y ∈ ys.map (·.x) := by rw [hys]; exact hy
        obtain ⟨i, hi, rfl⟩ := List.mem_map.1 this
        exact hall i hi
      have z0 := q2.cell 0
      have z1 := q2.free 0
      simp at z0
      have HR2 := Lib.hid hR2
      have HBB := Lib.hid hB
      have HD := Lib.hid hD
      have Q2 := Lib.hid q2
      have HKD := Lib.hid hK
      clear hR2 hB hD hall hys q0 q2 hK
      gi_wp2
      have hk2 := (KeepsOthers.setCell W ⟨w.heap.size + 2, 0, none⟩ (.bool true)).same D _ HKD.out rfl
      have zz : (W.setCell ⟨w.heap.size + 2, 0, none⟩ (.bool true)).cell? ⟨w.heap.size + 2, 0, none⟩ = some (.bool true) := World.cell?_setCell_same' _ _ _ (by rw [z0]; rfl)
      have zz2 := cell_kept zz (grownBy_putObj' _ D (.deferred none)) (fun r e => by cases e; exact ⟨_, hk2, rfl⟩)
      refine ⟨by simp, .inl ⟨_, _, rfl, run_takeDeferred hk2, ?_⟩⟩
      refine ⟨.bool true, by simp [results, Tryd.results59, go_sem]; rw [zz2], by rw [HR2.out], ?_⟩
      exact (HBB.out.setCell (p := ⟨w.heap.size + 2, 0, none⟩) (Nat.le_add_right _ _) _).trans (belowK_b (w := w) (Nat.le_refl _) _ D _ _ (by have := HD.out; have := HBB.out.size; omega) hk2 rfl rfl)
    case stop =>
      rintro D j pre W hD hsp ⟨⟨q2, rfl, i, hi, hf⟩, hB⟩ hK
      have hR2 : rightB x = false := by
        rw [HR.out, X.shape_walk]
        exact X.all_stop hsp (List.mem_map_of_mem hi) hf
      have z0 := q2.cell 0
      simp at z0
      have HR2 := Lib.hid hR2
      have HBB := Lib.hid hB
      have HD := Lib.hid hD
      have HKD := Lib.hid hK
      clear hR2 hB hD hsp q2 hK hi hf
      gi_wp2
      have zz2 := cell_kept z0 (grownBy_putObj' _ D (.deferred none)) (fun r e => by cases e; exact ⟨_, HKD.out, rfl⟩)
      refine ⟨by simp, .inl ⟨_, _, rfl, run_takeDeferred HKD.out, ?_⟩⟩
      refine ⟨.bool false, by simp [results, Tryd.results59, go_sem]; rw [zz2], by rw [HR2.out], ?_⟩
      exact HBB.out.trans (belowK_b (w := w) (Nat.le_refl _) _ D _ _ (by have := HD.out; have := HBB.out.size; omega) HKD.out rfl rfl)
  · have hd' : inB x.depth 200 = false := by simpa using hd
    have HR : Hid (rightB x = false) := Lib.hid (by simp [rightB, hd'])
    rw [hd'] at hIn
    have HIN := Lib.hid hIn
    clear hIn hd hd' hw ht hk
    refine (callsIn_wide (n := 5)).1 ?_
    refine callsIn_of_wp_marks Tryd.func59 rfl trivial ?_ rfl
    simp only [Tryd.ntmps59, List.size_toArray, List.length_cons, List.length_nil, Nat.reduceAdd, Nat.reduceSub, Array.replicate_succ, Array.replicate_zero, List.push_toArray, List.append_toArray, List.nil_append, List.cons_append]
    gi_wp2_with (refine ⟨trivial, ?_⟩; gi_at_call 83; refine (callsIn_wide.2 (HIN.out _ ((((Below.refl _ _).alloc (Nat.le_refl _) _).alloc (by simp) _).alloc (by simp; omega) _))).mono ?_; rintro e w1 ⟨rfl, hb1⟩; have HB1 := Lib.hid hb1; have r0 := HQ0.out.below hb1 HQ0.out.lt; have r1 := HQ1.out.below hb1 HQ1.out.lt; have r2 := HQ2.out.below hb1 HQ2.out.lt; have a0 := r0.cell 0; have c0 := r1.cell 0; have c1 := r1.cell 1; have c2 := r1.cell 2; have c3 := r1.cell 3; have c4 := r1.cell 4; have z0 := r2.cell 0; have z1 := r2.free 0; simp at a0 c0 c1 c2 c3 c4 z0; have H0 := Lib.hid r0; have H2 := Lib.hid r2; clear hb1 r0 r1 r2)
    have zz : (w1.setCell ⟨w.heap.size + 2, 0, none⟩ (.bool false)).cell? ⟨w.heap.size + 2, 0, none⟩ = some (.bool false) := World.cell?_setCell_same' _ _ _ (by rw [z0]; rfl)
    refine ⟨.bool false, by simp [results, Tryd.results59, go_sem]; rw [zz], by rw [HR.out], ?_⟩
    exact (HQB.out.trans (HB1.out.mono (by have := HQS.out; omega))).setCell (p := ⟨w.heap.size + 2, 0, none⟩) (Nat.le_add_right _ _) _

end Go.Proofs.YtfajnflfonechaaDoor
