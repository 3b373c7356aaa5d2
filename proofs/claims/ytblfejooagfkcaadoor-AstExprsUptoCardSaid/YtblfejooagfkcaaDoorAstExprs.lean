/- DERIVED. The law of expressions: the walk. -/
import Derived.Test.YtblfejooagfkcaaDoorLaw3
namespace Go.Proofs.YtblfejooagfkcaaDoor
open Go.RowKit Go.Shelf
attribute [local go_sem] Oper.semAt_some Tame.Op Tame.upon

set_option maxRecDepth 100000 in
set_option maxHeartbeats 4000000 in
theorem exprs_big1 (e o : X) (A B : Option Addr) (c d : Nat) (z : Int) (w : World) (hk : KS w (Old w) A e.ks) (hk2 : KS w (Old w) B o.ks) (hs : e.size ≤ 1099511627775) (hs2 : o.size ≤ 1099511627775) (h1 : 400 < e.size) :
    Calls Tryd.prog 3 #[ev e A c, ev o B d, .int .u8 z] w fun q w' => q = .returned (.bool true) ∧ Below w.heap.size w w' := by
  have HS1 : Hid (∀ w2, Below w.heap.size w w2 → Calls Tryd.prog 7 #[.agg #[.int .i64 (e).k, .int .i64 (e).o, .int .i64 (e).n, .string ⟨(e).s.toArray⟩, .slice A (e).ks.length c]] w2 fun q w' => q = .returned (.int .i64 (e.size : Nat)) ∧ Below w2.heap.size w2 w') := fun w2 hb2 => refSize_any e.size e A c w2 _ (Nat.le_refl _) (by omega) (hk.old hb2) (fun _ h => h)
  have HS2 : Hid (∀ w2, Below w.heap.size w w2 → Calls Tryd.prog 7 #[.agg #[.int .i64 (o).k, .int .i64 (o).o, .int .i64 (o).n, .string ⟨(o).s.toArray⟩, .slice B (o).ks.length d]] w2 fun q w' => q = .returned (.int .i64 (o.size : Nat)) ∧ Below w2.heap.size w2 w') := fun w2 hb2 => refSize_any o.size o B d w2 _ (Nat.le_refl _) (by omega) (hk2.old hb2) (fun _ h => h)
  have HV0 : Hid (Vars3 w.heap.size e o 0 w (((w.alloc (.cells #[.int .i64 (e).k, .int .i64 (e).o, .int .i64 (e).n, .string ⟨(e).s.toArray⟩, .slice A (e).ks.length c] 24)).alloc (.cells #[.int .i64 (o).k, .int .i64 (o).o, .int .i64 (o).n, .string ⟨(o).s.toArray⟩, .slice B (o).ks.length d] 24)).alloc (.cells #[.bool false] 4))) := by
    have r1 := ((Row.made w 24 #[.int .i64 (e).k, .int .i64 (e).o, .int .i64 (e).n, .string ⟨(e).s.toArray⟩, .slice A (e).ks.length c]).alloc (.cells #[.int .i64 (o).k, .int .i64 (o).o, .int .i64 (o).n, .string ⟨(o).s.toArray⟩, .slice B (o).ks.length d] 24)).alloc (.cells #[.bool false] 4)
    have r2 := Row.made (w.alloc (.cells #[.int .i64 (e).k, .int .i64 (e).o, .int .i64 (e).n, .string ⟨(e).s.toArray⟩, .slice A (e).ks.length c] 24)) 24 #[.int .i64 (o).k, .int .i64 (o).o, .int .i64 (o).n, .string ⟨(o).s.toArray⟩, .slice B (o).ks.length d]
    have r3 := Row.made ((w.alloc (.cells #[.int .i64 (e).k, .int .i64 (e).o, .int .i64 (e).n, .string ⟨(e).s.toArray⟩, .slice A (e).ks.length c] 24)).alloc (.cells #[.int .i64 (o).k, .int .i64 (o).o, .int .i64 (o).n, .string ⟨(o).s.toArray⟩, .slice B (o).ks.length d] 24)) 4 #[.bool false]
    rw [World.size_alloc] at r2
    rw [World.size_alloc, World.size_alloc] at r3
    have hb : Below w.heap.size w (((w.alloc (.cells #[.int .i64 (e).k, .int .i64 (e).o, .int .i64 (e).n, .string ⟨(e).s.toArray⟩, .slice A (e).ks.length c] 24)).alloc (.cells #[.int .i64 (o).k, .int .i64 (o).o, .int .i64 (o).n, .string ⟨(o).s.toArray⟩, .slice B (o).ks.length d] 24)).alloc (.cells #[.bool false] 4)) := (((Below.refl _ _).alloc (Nat.le_refl _) _).alloc (by simp) _).alloc (by simp; omega) _
    have hm : ∀ q, Old w q → Sx w.heap.size (((w.alloc (.cells #[.int .i64 (e).k, .int .i64 (e).o, .int .i64 (e).n, .string ⟨(e).s.toArray⟩, .slice A (e).ks.length c] 24)).alloc (.cells #[.int .i64 (o).k, .int .i64 (o).o, .int .i64 (o).n, .string ⟨(o).s.toArray⟩, .slice B (o).ks.length d] 24)).alloc (.cells #[.bool false] 4)) q ∧ (((w.alloc (.cells #[.int .i64 (e).k, .int .i64 (e).o, .int .i64 (e).n, .string ⟨(e).s.toArray⟩, .slice A (e).ks.length c] 24)).alloc (.cells #[.int .i64 (o).k, .int .i64 (o).o, .int .i64 (o).n, .string ⟨(o).s.toArray⟩, .slice B (o).ks.length d] 24)).alloc (.cells #[.bool false] 4)).heap[q]? = w.heap[q]? := fun q hq => by
      have hq' : q < w.heap.size := hq
      exact ⟨⟨by simp; omega, by omega, by omega, by omega⟩, hb.block q hq'⟩
    exact ⟨⟨A, c, r1, hk.move hm⟩, ⟨B, d, r2.alloc _, hk2.move hm⟩, r3, hb, by simp⟩
  have HR2 : Hid (Row (((w.alloc (.cells #[.int .i64 (e).k, .int .i64 (e).o, .int .i64 (e).n, .string ⟨(e).s.toArray⟩, .slice A (e).ks.length c] 24)).alloc (.cells #[.int .i64 (o).k, .int .i64 (o).o, .int .i64 (o).n, .string ⟨(o).s.toArray⟩, .slice B (o).ks.length d] 24)).alloc (.cells #[.bool false] 4)) (w.heap.size + 1) 24 #[.int .i64 (o).k, .int .i64 (o).o, .int .i64 (o).n, .string ⟨(o).s.toArray⟩, .slice B (o).ks.length d]) := by
    have r2 := Row.made (w.alloc (.cells #[.int .i64 (e).k, .int .i64 (e).o, .int .i64 (e).n, .string ⟨(e).s.toArray⟩, .slice A (e).ks.length c] 24)) 24 #[.int .i64 (o).k, .int .i64 (o).o, .int .i64 (o).n, .string ⟨(o).s.toArray⟩, .slice B (o).ks.length d]
    rw [World.size_alloc] at r2
    exact Lib.hid (r2.alloc _)
  have h1' : (400 : Int) < (e.size : Int) := by omega
  simp only [ev]
  clear hk hk2
  refine (callsIn_wide (n := 5)).1 ?_
  refine callsIn_of_wp_marks Tryd.func3 rfl trivial ?_ rfl
  simp only [Tryd.ntmps3, List.size_toArray, List.length_cons, List.length_nil, Nat.reduceAdd, Nat.reduceSub, Array.replicate_succ, Array.replicate_zero, List.push_toArray, List.append_toArray, List.nil_append, List.cons_append]
  refine wpIn_wide.2 ?_
  go_wp2_with (go_at_call 7; refine (HS1.out _ HV0.out.b_).mono ?_; rintro q w1 ⟨rfl, hb1⟩; have HB1 := Lib.hid hb1; have HV1 := Lib.hid (HV0.out.later hb1); have r := HV1.out.r_; have z0 := r.cell 0; have z1 := r.free 0; simp at z0; have r2 := HR2.out.below hb1 HR2.out.lt; have o0 := r2.cell 0; have o1 := r2.cell 1; have o2 := r2.cell 2; have o3 := r2.cell 3; have o4 := r2.cell 4; simp at o0 o1 o2 o3 o4; clear hb1 r r2 HS1)
  have zz : (w1.setCell ⟨w.heap.size + 2, 0, none⟩ (.bool true)).cell? ⟨w.heap.size + 2, 0, none⟩ = some (.bool true) := World.cell?_setCell_same' _ _ _ (by rw [z0]; rfl)
  exact ⟨.bool true, by simp [results, Tryd.results3, go_sem]; rw [zz], rfl, HV1.out.b_.setCell (p := ⟨w.heap.size + 2, 0, none⟩) (Nat.le_add_right _ _) _⟩

set_option maxRecDepth 100000 in
set_option maxHeartbeats 4000000 in
theorem exprs_big2 (e o : X) (A B : Option Addr) (c d : Nat) (z : Int) (w : World) (hk : KS w (Old w) A e.ks) (hk2 : KS w (Old w) B o.ks) (hs : e.size ≤ 1099511627775) (hs2 : o.size ≤ 1099511627775) (h1 : ¬ 400 < e.size) (h2 : 400 < o.size) :
    Calls Tryd.prog 3 #[ev e A c, ev o B d, .int .u8 z] w fun q w' => q = .returned (.bool true) ∧ Below w.heap.size w w' := by
  have HS1 : Hid (∀ w2, Below w.heap.size w w2 → Calls Tryd.prog 7 #[.agg #[.int .i64 (e).k, .int .i64 (e).o, .int .i64 (e).n, .string ⟨(e).s.toArray⟩, .slice A (e).ks.length c]] w2 fun q w' => q = .returned (.int .i64 (e.size : Nat)) ∧ Below w2.heap.size w2 w') := fun w2 hb2 => refSize_any e.size e A c w2 _ (Nat.le_refl _) (by omega) (hk.old hb2) (fun _ h => h)
  have HS2 : Hid (∀ w2, Below w.heap.size w w2 → Calls Tryd.prog 7 #[.agg #[.int .i64 (o).k, .int .i64 (o).o, .int .i64 (o).n, .string ⟨(o).s.toArray⟩, .slice B (o).ks.length d]] w2 fun q w' => q = .returned (.int .i64 (o.size : Nat)) ∧ Below w2.heap.size w2 w') := fun w2 hb2 => refSize_any o.size o B d w2 _ (Nat.le_refl _) (by omega) (hk2.old hb2) (fun _ h => h)
  have HV0 : Hid (Vars3 w.heap.size e o 0 w (((w.alloc (.cells #[.int .i64 (e).k, .int .i64 (e).o, .int .i64 (e).n, .string ⟨(e).s.toArray⟩, .slice A (e).ks.length c] 24)).alloc (.cells #[.int .i64 (o).k, .int .i64 (o).o, .int .i64 (o).n, .string ⟨(o).s.toArray⟩, .slice B (o).ks.length d] 24)).alloc (.cells #[.bool false] 4))) := by
    have r1 := ((Row.made w 24 #[.int .i64 (e).k, .int .i64 (e).o, .int .i64 (e).n, .string ⟨(e).s.toArray⟩, .slice A (e).ks.length c]).alloc (.cells #[.int .i64 (o).k, .int .i64 (o).o, .int .i64 (o).n, .string ⟨(o).s.toArray⟩, .slice B (o).ks.length d] 24)).alloc (.cells #[.bool false] 4)
    have r2 := Row.made (w.alloc (.cells #[.int .i64 (e).k, .int .i64 (e).o, .int .i64 (e).n, .string ⟨(e).s.toArray⟩, .slice A (e).ks.length c] 24)) 24 #[.int .i64 (o).k, .int .i64 (o).o, .int .i64 (o).n, .string ⟨(o).s.toArray⟩, .slice B (o).ks.length d]
    have r3 := Row.made ((w.alloc (.cells #[.int .i64 (e).k, .int .i64 (e).o, .int .i64 (e).n, .string ⟨(e).s.toArray⟩, .slice A (e).ks.length c] 24)).alloc (.cells #[.int .i64 (o).k, .int .i64 (o).o, .int .i64 (o).n, .string ⟨(o).s.toArray⟩, .slice B (o).ks.length d] 24)) 4 #[.bool false]
    rw [World.size_alloc] at r2
    rw [World.size_alloc, World.size_alloc] at r3
    have hb : Below w.heap.size w (((w.alloc (.cells #[.int .i64 (e).k, .int .i64 (e).o, .int .i64 (e).n, .string ⟨(e).s.toArray⟩, .slice A (e).ks.length c] 24)).alloc (.cells #[.int .i64 (o).k, .int .i64 (o).o, .int .i64 (o).n, .string ⟨(o).s.toArray⟩, .slice B (o).ks.length d] 24)).alloc (.cells #[.bool false] 4)) := (((Below.refl _ _).alloc (Nat.le_refl _) _).alloc (by simp) _).alloc (by simp; omega) _
    have hm : ∀ q, Old w q → Sx w.heap.size (((w.alloc (.cells #[.int .i64 (e).k, .int .i64 (e).o, .int .i64 (e).n, .string ⟨(e).s.toArray⟩, .slice A (e).ks.length c] 24)).alloc (.cells #[.int .i64 (o).k, .int .i64 (o).o, .int .i64 (o).n, .string ⟨(o).s.toArray⟩, .slice B (o).ks.length d] 24)).alloc (.cells #[.bool false] 4)) q ∧ (((w.alloc (.cells #[.int .i64 (e).k, .int .i64 (e).o, .int .i64 (e).n, .string ⟨(e).s.toArray⟩, .slice A (e).ks.length c] 24)).alloc (.cells #[.int .i64 (o).k, .int .i64 (o).o, .int .i64 (o).n, .string ⟨(o).s.toArray⟩, .slice B (o).ks.length d] 24)).alloc (.cells #[.bool false] 4)).heap[q]? = w.heap[q]? := fun q hq => by
      have hq' : q < w.heap.size := hq
      exact ⟨⟨by simp; omega, by omega, by omega, by omega⟩, hb.block q hq'⟩
    exact ⟨⟨A, c, r1, hk.move hm⟩, ⟨B, d, r2.alloc _, hk2.move hm⟩, r3, hb, by simp⟩
  have HR2 : Hid (Row (((w.alloc (.cells #[.int .i64 (e).k, .int .i64 (e).o, .int .i64 (e).n, .string ⟨(e).s.toArray⟩, .slice A (e).ks.length c] 24)).alloc (.cells #[.int .i64 (o).k, .int .i64 (o).o, .int .i64 (o).n, .string ⟨(o).s.toArray⟩, .slice B (o).ks.length d] 24)).alloc (.cells #[.bool false] 4)) (w.heap.size + 1) 24 #[.int .i64 (o).k, .int .i64 (o).o, .int .i64 (o).n, .string ⟨(o).s.toArray⟩, .slice B (o).ks.length d]) := by
    have r2 := Row.made (w.alloc (.cells #[.int .i64 (e).k, .int .i64 (e).o, .int .i64 (e).n, .string ⟨(e).s.toArray⟩, .slice A (e).ks.length c] 24)) 24 #[.int .i64 (o).k, .int .i64 (o).o, .int .i64 (o).n, .string ⟨(o).s.toArray⟩, .slice B (o).ks.length d]
    rw [World.size_alloc] at r2
    exact Lib.hid (r2.alloc _)
  have h1' : ¬ (400 : Int) < (e.size : Int) := by omega
  have h2' : (400 : Int) < (o.size : Int) := by omega
  simp only [ev]
  clear hk hk2
  refine (callsIn_wide (n := 5)).1 ?_
  refine callsIn_of_wp_marks Tryd.func3 rfl trivial ?_ rfl
  simp only [Tryd.ntmps3, List.size_toArray, List.length_cons, List.length_nil, Nat.reduceAdd, Nat.reduceSub, Array.replicate_succ, Array.replicate_zero, List.push_toArray, List.append_toArray, List.nil_append, List.cons_append]
  refine wpIn_wide.2 ?_
  go_wp2_with (first | (go_at_call 7; refine (HS1.out _ HV0.out.b_).mono ?_; rintro q w1 ⟨rfl, hb1⟩; have HB1 := Lib.hid hb1; have HV1 := Lib.hid (HV0.out.later hb1); have r := HV1.out.r_; have z0 := r.cell 0; have z1 := r.free 0; simp at z0; have r2 := HR2.out.below hb1 HR2.out.lt; have o0 := r2.cell 0; have o1 := r2.cell 1; have o2 := r2.cell 2; have o3 := r2.cell 3; have o4 := r2.cell 4; simp at o0 o1 o2 o3 o4; clear hb1 r r2 HS1) | (go_at_call 7; refine (HS2.out _ HV1.out.b_).mono ?_; rintro q w2 ⟨rfl, hb2⟩; have HB2 := Lib.hid hb2; have HV2 := Lib.hid (HV1.out.later hb2); have r := HV2.out.r_; have y0 := r.cell 0; have y1 := r.free 0; simp at y0; clear hb2 r HS2))
  have zz : (w2.setCell ⟨w.heap.size + 2, 0, none⟩ (.bool true)).cell? ⟨w.heap.size + 2, 0, none⟩ = some (.bool true) := World.cell?_setCell_same' _ _ _ (by rw [y0]; rfl)
  exact ⟨.bool true, by simp [results, Tryd.results3, go_sem]; rw [zz], rfl, HV2.out.b_.setCell (p := ⟨w.heap.size + 2, 0, none⟩) (Nat.le_add_right _ _) _⟩

set_option maxRecDepth 100000 in
set_option maxHeartbeats 8000000 in
theorem exprs_main (e o : X) (A B : Option Addr) (c d : Nat) (z : Int) (w : World) (hk : KS w (Old w) A e.ks) (hk2 : KS w (Old w) B o.ks) (hs : e.size ≤ 400) (hs2 : o.size ≤ 400) (hok : e.ok) (hz0 : 0 ≤ z) (hz9 : z ≤ 255) (ht : ShapesAt w) :
    Calls Tryd.prog 3 #[ev e A c, ev o B d, .int .u8 z] w fun q w' => q = .returned (.bool true) ∧ Below w.heap.size w w' := by
  have HS1 : Hid (∀ w2, Below w.heap.size w w2 → Calls Tryd.prog 7 #[.agg #[.int .i64 (e).k, .int .i64 (e).o, .int .i64 (e).n, .string ⟨(e).s.toArray⟩, .slice A (e).ks.length c]] w2 fun q w' => q = .returned (.int .i64 (e.size : Nat)) ∧ Below w2.heap.size w2 w') := fun w2 hb2 => refSize_any e.size e A c w2 _ (Nat.le_refl _) (by omega) (hk.old hb2) (fun _ h => h)
  have HS2 : Hid (∀ w2, Below w.heap.size w w2 → Calls Tryd.prog 7 #[.agg #[.int .i64 (o).k, .int .i64 (o).o, .int .i64 (o).n, .string ⟨(o).s.toArray⟩, .slice B (o).ks.length d]] w2 fun q w' => q = .returned (.int .i64 (o.size : Nat)) ∧ Below w2.heap.size w2 w') := fun w2 hb2 => refSize_any o.size o B d w2 _ (Nat.le_refl _) (by omega) (hk2.old hb2) (fun _ h => h)
  have HV0 : Hid (Vars3 w.heap.size e o 0 w (((w.alloc (.cells #[.int .i64 (e).k, .int .i64 (e).o, .int .i64 (e).n, .string ⟨(e).s.toArray⟩, .slice A (e).ks.length c] 24)).alloc (.cells #[.int .i64 (o).k, .int .i64 (o).o, .int .i64 (o).n, .string ⟨(o).s.toArray⟩, .slice B (o).ks.length d] 24)).alloc (.cells #[.bool false] 4))) := by
    have r1 := ((Row.made w 24 #[.int .i64 (e).k, .int .i64 (e).o, .int .i64 (e).n, .string ⟨(e).s.toArray⟩, .slice A (e).ks.length c]).alloc (.cells #[.int .i64 (o).k, .int .i64 (o).o, .int .i64 (o).n, .string ⟨(o).s.toArray⟩, .slice B (o).ks.length d] 24)).alloc (.cells #[.bool false] 4)
    have r2 := Row.made (w.alloc (.cells #[.int .i64 (e).k, .int .i64 (e).o, .int .i64 (e).n, .string ⟨(e).s.toArray⟩, .slice A (e).ks.length c] 24)) 24 #[.int .i64 (o).k, .int .i64 (o).o, .int .i64 (o).n, .string ⟨(o).s.toArray⟩, .slice B (o).ks.length d]
    have r3 := Row.made ((w.alloc (.cells #[.int .i64 (e).k, .int .i64 (e).o, .int .i64 (e).n, .string ⟨(e).s.toArray⟩, .slice A (e).ks.length c] 24)).alloc (.cells #[.int .i64 (o).k, .int .i64 (o).o, .int .i64 (o).n, .string ⟨(o).s.toArray⟩, .slice B (o).ks.length d] 24)) 4 #[.bool false]
    rw [World.size_alloc] at r2
    rw [World.size_alloc, World.size_alloc] at r3
    have hb : Below w.heap.size w (((w.alloc (.cells #[.int .i64 (e).k, .int .i64 (e).o, .int .i64 (e).n, .string ⟨(e).s.toArray⟩, .slice A (e).ks.length c] 24)).alloc (.cells #[.int .i64 (o).k, .int .i64 (o).o, .int .i64 (o).n, .string ⟨(o).s.toArray⟩, .slice B (o).ks.length d] 24)).alloc (.cells #[.bool false] 4)) := (((Below.refl _ _).alloc (Nat.le_refl _) _).alloc (by simp) _).alloc (by simp; omega) _
    have hm : ∀ q, Old w q → Sx w.heap.size (((w.alloc (.cells #[.int .i64 (e).k, .int .i64 (e).o, .int .i64 (e).n, .string ⟨(e).s.toArray⟩, .slice A (e).ks.length c] 24)).alloc (.cells #[.int .i64 (o).k, .int .i64 (o).o, .int .i64 (o).n, .string ⟨(o).s.toArray⟩, .slice B (o).ks.length d] 24)).alloc (.cells #[.bool false] 4)) q ∧ (((w.alloc (.cells #[.int .i64 (e).k, .int .i64 (e).o, .int .i64 (e).n, .string ⟨(e).s.toArray⟩, .slice A (e).ks.length c] 24)).alloc (.cells #[.int .i64 (o).k, .int .i64 (o).o, .int .i64 (o).n, .string ⟨(o).s.toArray⟩, .slice B (o).ks.length d] 24)).alloc (.cells #[.bool false] 4)).heap[q]? = w.heap[q]? := fun q hq => by
      have hq' : q < w.heap.size := hq
      exact ⟨⟨by simp; omega, by omega, by omega, by omega⟩, hb.block q hq'⟩
    exact ⟨⟨A, c, r1, hk.move hm⟩, ⟨B, d, r2.alloc _, hk2.move hm⟩, r3, hb, by simp⟩
  have HR2 : Hid (Row (((w.alloc (.cells #[.int .i64 (e).k, .int .i64 (e).o, .int .i64 (e).n, .string ⟨(e).s.toArray⟩, .slice A (e).ks.length c] 24)).alloc (.cells #[.int .i64 (o).k, .int .i64 (o).o, .int .i64 (o).n, .string ⟨(o).s.toArray⟩, .slice B (o).ks.length d] 24)).alloc (.cells #[.bool false] 4)) (w.heap.size + 1) 24 #[.int .i64 (o).k, .int .i64 (o).o, .int .i64 (o).n, .string ⟨(o).s.toArray⟩, .slice B (o).ks.length d]) := by
    have r2 := Row.made (w.alloc (.cells #[.int .i64 (e).k, .int .i64 (e).o, .int .i64 (e).n, .string ⟨(e).s.toArray⟩, .slice A (e).ks.length c] 24)) 24 #[.int .i64 (o).k, .int .i64 (o).o, .int .i64 (o).n, .string ⟨(o).s.toArray⟩, .slice B (o).ks.length d]
    rw [World.size_alloc] at r2
    exact Lib.hid (r2.alloc _)
  have h1' : ¬ (400 : Int) < (e.size : Int) := by omega
  have h2' : ¬ (400 : Int) < (o.size : Int) := by omega
  have HT := Lib.hid ht
  simp only [ev]
  clear hk hk2 ht
  obtain ⟨m, hm⟩ : ∃ m : Nat, (m : Int) = z % 251 := ⟨(z % 251).toNat, by omega⟩
  have hm9 : m ≤ 250 := by omega
  have HM := Lib.hid hm
  clear hm
  refine (callsIn_wide (n := 5)).1 ?_
  refine callsIn_of_wp_marks Tryd.func3 rfl trivial ?_ rfl
  simp only [Tryd.ntmps3, List.size_toArray, List.length_cons, List.length_nil, Nat.reduceAdd, Nat.reduceSub, Array.replicate_succ, Array.replicate_zero, List.push_toArray, List.append_toArray, List.nil_append, List.cons_append]
  refine wpIn_wide.2 ?_
  go_wp2_with (first | (go_at_call 7; refine (HS1.out _ HV0.out.b_).mono ?_; rintro q w1 ⟨rfl, hb1⟩; have HB1 := Lib.hid hb1; have HV1 := Lib.hid (HV0.out.later hb1); have r := HV1.out.r_; have z0 := r.cell 0; have z1 := r.free 0; simp at z0; have r2 := HR2.out.below hb1 HR2.out.lt; have o0 := r2.cell 0; have o1 := r2.cell 1; have o2 := r2.cell 2; have o3 := r2.cell 3; have o4 := r2.cell 4; simp at o0 o1 o2 o3 o4; clear hb1 r r2 HS1) | (go_at_call 7; refine (HS2.out _ HV1.out.b_).mono ?_; rintro q w2 ⟨rfl, hb2⟩; have HB2 := Lib.hid hb2; have HV2 := Lib.hid (HV1.out.later hb2); have r := HV2.out.r_; have y0 := r.cell 0; have y1 := r.free 0; simp at y0; clear hb2 r HS2))
  clear z0 z1 y0 y1 o0 o1 o2 o3 o4
  go_loopw [7] (fun i wr => ∃ j : Nat, j ≤ m ∧ i = .int .i64 j ∧ Vars3 w.heap.size e o j w wr) (fun i _ => m - (intOf i).toNat)
  case atStart => exact ⟨0, by omega, rfl, HV2.out⟩
  case round =>
    obtain ⟨j, hj, rfl, hv⟩ := hrel
    have HV := Lib.hid hv
    obtain ⟨A1, c1, hr1, hk1⟩ := hv.e_
    have hlh := hr1.lt
    have HR1 := Lib.hid hr1
    have HK1 := Lib.hid hk1
    have b0 := hr1.cell 0
    have b1 := hr1.cell 1
    have b2 := hr1.cell 2
    have b3 := hr1.cell 3
    have b4 := hr1.cell 4
    have f0 := hr1.free 0
    have f1 := hr1.free 1
    have f2 := hr1.free 2
    have f3 := hr1.free 3
    have f4 := hr1.free 4
    simp [c5] at b0 b1 b2 b3 b4
    clear hv hr1 hk1
    by_cases hlt : j < m
    · have hlt' : (j : Int) < z % 251 := by have := HM.out; omega
      go_wp2_with fail
      exact ⟨⟨j + 1, by omega, by go_num, Vars3.step HV.out HR1.out HK1.out _ rfl⟩, by simp [intOf]; omega⟩
    · have hlt' : ¬ (j : Int) < z % 251 := by have := HM.out; omega
      obtain rfl : j = m := by omega
      have hE : X.size (X.wrap j e) ≤ 1099511627775 := by rw [X.wrap_size]; omega
      have HOW : Hid (Calls Tryd.prog 8 #[.agg #[.int .i64 (X.wrap j e).k, .int .i64 (X.wrap j e).o, .int .i64 (X.wrap j e).n, .string ⟨(X.wrap j e).s.toArray⟩, .slice A1 (X.wrap j e).ks.length c1]] wr (OwnMade wr (X.wrap j e))) := Own_any _ (X.wrap j e) A1 c1 wr _ (Nat.le_refl _) hE HK1.out (fun b hb => hb.1)
      clear f0 f1 f2 f3 f4
      go_wp2_with (go_at_call 8; refine HOW.out.mono ?_; rintro q w3 ⟨A3, c3, rfl, hk3, hb3⟩; simp only [ev]; have HK3 := Lib.hid hk3; have HB3 := Lib.hid hb3; clear hk3 hb3)
      have hxo : X.ok (X.wrap j e) := X.wrap_ok j hok
      have hxs : X.size (X.wrap j e) ≤ 1000 := by rw [X.wrap_size]; omega
      have hv4 : Vars3 w.heap.size e o j w (w3.alloc (.cells #[.int .i64 (X.wrap j e).k, .int .i64 (X.wrap j e).o, .int .i64 (X.wrap j e).n, .string ⟨(X.wrap j e).s.toArray⟩, .slice A3 (X.wrap j e).ks.length c3] 28)) := HV.out.later (HB3.out.trans ((Below.refl _ _).alloc HB3.out.size _))
      have hp4 : Row (w3.alloc (.cells #[.int .i64 (X.wrap j e).k, .int .i64 (X.wrap j e).o, .int .i64 (X.wrap j e).n, .string ⟨(X.wrap j e).s.toArray⟩, .slice A3 (X.wrap j e).ks.length c3] 28)) w3.heap.size 28 #[.int .i64 (X.wrap j e).k, .int .i64 (X.wrap j e).o, .int .i64 (X.wrap j e).n, .string ⟨(X.wrap j e).s.toArray⟩, .slice A3 (X.wrap j e).ks.length c3] := Row.made _ _ _
      have hk4 : KS (w3.alloc (.cells #[.int .i64 (X.wrap j e).k, .int .i64 (X.wrap j e).o, .int .i64 (X.wrap j e).n, .string ⟨(X.wrap j e).s.toArray⟩, .slice A3 (X.wrap j e).ks.length c3] 28)) (Old (w3.alloc (.cells #[.int .i64 (X.wrap j e).k, .int .i64 (X.wrap j e).o, .int .i64 (X.wrap j e).n, .string ⟨(X.wrap j e).s.toArray⟩, .slice A3 (X.wrap j e).ks.length c3] 28))) A3 (X.wrap j e).ks := HK3.out.move fun b hb => ⟨by show b < _; rw [World.size_alloc]; omega, Below.heap_alloc _ _ _ hb.2⟩
      have he4 : Row (w3.alloc (.cells #[.int .i64 (X.wrap j e).k, .int .i64 (X.wrap j e).o, .int .i64 (X.wrap j e).n, .string ⟨(X.wrap j e).s.toArray⟩, .slice A3 (X.wrap j e).ks.length c3] 28)) w.heap.size 24 #[.int .i64 (X.wrap j e).k, .int .i64 (X.wrap j e).o, .int .i64 (X.wrap j e).n, .string ⟨(X.wrap j e).s.toArray⟩, .slice A1 (X.wrap j e).ks.length c1] := (HR1.out.below HB3.out HR1.out.lt).alloc _
      have hl4 : Below wr.heap.size wr (w3.alloc (.cells #[.int .i64 (X.wrap j e).k, .int .i64 (X.wrap j e).o, .int .i64 (X.wrap j e).n, .string ⟨(X.wrap j e).s.toArray⟩, .slice A3 (X.wrap j e).ks.length c3] 28)) := HB3.out.trans ((Below.refl _ _).alloc HB3.out.size _)
      have hke4 : KS (w3.alloc (.cells #[.int .i64 (X.wrap j e).k, .int .i64 (X.wrap j e).o, .int .i64 (X.wrap j e).n, .string ⟨(X.wrap j e).s.toArray⟩, .slice A3 (X.wrap j e).ks.length c3] 28)) (Old (w3.alloc (.cells #[.int .i64 (X.wrap j e).k, .int .i64 (X.wrap j e).o, .int .i64 (X.wrap j e).n, .string ⟨(X.wrap j e).s.toArray⟩, .slice A3 (X.wrap j e).ks.length c3] 28))) A1 (X.wrap j e).ks := HK1.out.move fun b hb => ⟨Nat.lt_of_lt_of_le hb.1 hl4.size, hl4.block b hb.1⟩
      obtain ⟨B1, d1, ho4, hko5⟩ := hv4.o_
      have hko4 : KS (w3.alloc (.cells #[.int .i64 (X.wrap j e).k, .int .i64 (X.wrap j e).o, .int .i64 (X.wrap j e).n, .string ⟨(X.wrap j e).s.toArray⟩, .slice A3 (X.wrap j e).ks.length c3] 28)) (Old (w3.alloc (.cells #[.int .i64 (X.wrap j e).k, .int .i64 (X.wrap j e).o, .int .i64 (X.wrap j e).n, .string ⟨(X.wrap j e).s.toArray⟩, .slice A3 (X.wrap j e).ks.length c3] 28))) B1 o.ks := hko5.move fun b hb => ⟨hb.1, rfl⟩
      have hr4 := hv4.r_
      have hb4 := hv4.b_
      have hs4 := hv4.s_
      have ht4 := HT.out.later hb4
      have hpn : w3.heap.size < (w3.alloc (.cells #[.int .i64 (X.wrap j e).k, .int .i64 (X.wrap j e).o, .int .i64 (X.wrap j e).n, .string ⟨(X.wrap j e).s.toArray⟩, .slice A3 (X.wrap j e).ks.length c3] 28)).heap.size := by rw [World.size_alloc]; omega
      have hp3 : w.heap.size + 3 ≤ w3.heap.size := Nat.le_trans HV.out.s_ HB3.out.size
      clear HV HR1 HK1 HB3 HK3 HOW hv4 hl4 hE b0 b1 b2 b3 b4 HV0 HV1 HV2 HB1 HB2 HR2 hlh hko5
      generalize w3.alloc (.cells #[.int .i64 (X.wrap j e).k, .int .i64 (X.wrap j e).o, .int .i64 (X.wrap j e).n, .string ⟨(X.wrap j e).s.toArray⟩, .slice A3 (X.wrap j e).ks.length c3] 28) = w4 at hp4 hk4 he4 hke4 ho4 hko4 hr4 hb4 hs4 ht4 hpn ⊢
      generalize w3.heap.size = p at hp4 hpn hp3 ⊢
      generalize X.wrap j e = x at hxo hxs hp4 hk4 he4 hke4 ⊢
      clear w3 wr
      have HP := Lib.hid hp4
      have HEB := Lib.hid he4
      have HOB : Hid (Row w4 (w.heap.size + 1) 24 #[.int .i64 o.k, .int .i64 o.o, .int .i64 o.n, .string ⟨o.s.toArray⟩, .slice B1 o.ks.length d1]) := Lib.hid ho4
      have HRB := Lib.hid hr4
      have HB4 := Lib.hid hb4
      have HT4 := Lib.hid ht4
      have HKX := Lib.hid hk4
      have C1 : Hid (∀ w2, Below w4.heap.size w4 w2 → Calls Tryd.prog 9 #[.agg #[.int .i64 x.k, .int .i64 x.o, .int .i64 x.n, .string ⟨x.s.toArray⟩, .slice A3 x.ks.length c3]] w2 fun q w' => q = .returned (.bool (rightB x)) ∧ Below w2.heap.size w2 w') := fun w2 h => Right_any x A3 c3 w2 _ (ht4.later h) hxo (by omega) (hk4.old h) (fun _ h => h)
      have C2 : Hid (∀ w2, Below w4.heap.size w4 w2 → Calls Tryd.prog 10 #[.agg #[.int .i64 x.k, .int .i64 x.o, .int .i64 x.n, .string ⟨x.s.toArray⟩, .slice A1 x.ks.length c1]] w2 fun q w' => q = .returned (.bool (rightB x)) ∧ Below w2.heap.size w2 w') := fun w2 h => RightExpr_any x A1 c1 w2 _ hxo (by omega) (hke4.old h) (fun _ h => h)
      have C3 : Hid (∀ w2, Below w4.heap.size w4 w2 → Calls Tryd.prog 11 #[.agg #[.int .i64 x.k, .int .i64 x.o, .int .i64 x.n, .string ⟨x.s.toArray⟩, .slice A3 x.ks.length c3]] w2 fun q w' => q = .returned (.int .i64 (x.depth : Nat)) ∧ Below w2.heap.size w2 w') := fun w2 h => Depth_any x.size x A3 c3 w2 _ (Nat.le_refl _) (by omega) (hk4.old h) (fun _ h => h)
      have C4 : Hid (∀ w2, Below w4.heap.size w4 w2 → Calls Tryd.prog 12 #[.agg #[.int .i64 x.k, .int .i64 x.o, .int .i64 x.n, .string ⟨x.s.toArray⟩, .slice A1 x.ks.length c1]] w2 fun q w' => q = .returned (.int .i64 (x.depth : Nat)) ∧ Below w2.heap.size w2 w') := fun w2 h => refDepth_any x.size x A1 c1 w2 _ (Nat.le_refl _) (by omega) (hke4.old h) (fun _ h => h)
      have C5 : Hid (∀ w2, Below w4.heap.size w4 w2 → Calls Tryd.prog 13 #[.agg #[.int .i64 x.k, .int .i64 x.o, .int .i64 x.n, .string ⟨x.s.toArray⟩, .slice A3 x.ks.length c3]] w2 fun q w' => q = .returned (.int .i64 (x.size : Nat)) ∧ Below w2.heap.size w2 w') := fun w2 h => Size_any x A3 c3 w2 _ hxo (by omega) (hk4.old h) (fun _ h => h)
      have C6 : Hid (∀ w2, Below w4.heap.size w4 w2 → Calls Tryd.prog 7 #[.agg #[.int .i64 x.k, .int .i64 x.o, .int .i64 x.n, .string ⟨x.s.toArray⟩, .slice A1 x.ks.length c1]] w2 fun q w' => q = .returned (.int .i64 (x.size : Nat)) ∧ Below w2.heap.size w2 w') := fun w2 h => refSize_any x.size x A1 c1 w2 _ (Nat.le_refl _) (by omega) (hke4.old h) (fun _ h => h)
      have C7 : Hid (∀ w2, Below w4.heap.size w4 w2 → Calls Tryd.prog 8 #[.agg #[.int .i64 o.k, .int .i64 o.o, .int .i64 o.n, .string ⟨o.s.toArray⟩, .slice B1 o.ks.length d1]] w2 (OwnMade w2 o)) := fun w2 h => Own_any o.size o B1 d1 w2 _ (Nat.le_refl _) (by omega) (hko4.old h) (fun _ h => h)
      have C8 : Hid (∀ w2 A2 c2, Below w4.heap.size w4 w2 → KS w2 (Old w2) A2 o.ks → Calls Tryd.prog 14 #[.agg #[.int .i64 x.k, .int .i64 x.o, .int .i64 x.n, .string ⟨x.s.toArray⟩, .slice A3 x.ks.length c3], .agg #[.int .i64 o.k, .int .i64 o.o, .int .i64 o.n, .string ⟨o.s.toArray⟩, .slice A2 o.ks.length c2]] w2 fun q w' => q = .returned (.bool (x.same o)) ∧ Below w2.heap.size w2 w') := fun w2 A2 c2 h hk => Same_all x.size (by omega) x o A3 A2 c3 c2 w2 _ (Nat.le_refl _) (hk4.old h) (by omega) hk (fun _ h => h)
      have C9 : Hid (∀ w2, Below w4.heap.size w4 w2 → Calls Tryd.prog 15 #[.agg #[.int .i64 x.k, .int .i64 x.o, .int .i64 x.n, .string ⟨x.s.toArray⟩, .slice A1 x.ks.length c1], .agg #[.int .i64 o.k, .int .i64 o.o, .int .i64 o.n, .string ⟨o.s.toArray⟩, .slice B1 o.ks.length d1]] w2 fun q w' => q = .returned (.bool (x.same o)) ∧ Below w2.heap.size w2 w') := fun w2 h => SameExpr_any x.size (by omega) x o A1 B1 c1 d1 w2 _ (Nat.le_refl _) (hke4.old h) (by omega) (hko4.old h) (fun _ h => h)
      have C10 : Hid (∀ w2, Below w4.heap.size w4 w2 → Calls Tryd.prog 14 #[.agg #[.int .i64 x.k, .int .i64 x.o, .int .i64 x.n, .string ⟨x.s.toArray⟩, .slice A3 x.ks.length c3], .agg #[.int .i64 x.k, .int .i64 x.o, .int .i64 x.n, .string ⟨x.s.toArray⟩, .slice A3 x.ks.length c3]] w2 fun q w' => q = .returned (.bool true) ∧ Below w2.heap.size w2 w') := fun w2 h => by
        have := Same_all x.size (by omega) x x A3 A3 c3 c3 w2 _ (Nat.le_refl _) (hk4.old h) (by omega) (hk4.old h) (fun _ h => h)
        rw [X.same_refl] at this
        exact this
      clear hp4 hk4 he4 hke4 ho4 hko4 hr4 hb4 ht4
      refine Tame.wp_region_tame (by kernel_rfl) (by kernel_rfl) Tame.Later.refl Tame.Later.trans ?_
      repeat
        ((first
          | (refine Tame.walk_known (o := ⟨some 32, _, _, _, _, _⟩) (fun _ => rfl) ?_; apply Exists.intro; refine ⟨fun vals w2 hL hd => ?_, ?_⟩; (focus (have b := later_drew (B := w4.heap.size) hL (Nat.le_refl _); have r := HP.out.below b HP.out.lt; have u0 := r.cell 0; have u1 := r.cell 1; have u2 := r.cell 2; have u3 := r.cell 3; have u4 := r.cell 4; clear hd hL b r; simp at u0 u1 u2 u3 u4; go_simp; exact Tame.Is.mk (Tame.Later.refl _))))
          | (refine Tame.walk_known (o := ⟨some 38, _, _, _, _, _⟩) (fun _ => rfl) ?_; apply Exists.intro; refine ⟨fun vals w2 hL hd => ?_, ?_⟩; (focus (have b := later_drew (B := w4.heap.size) hL (Nat.le_refl _); have r := HP.out.below b HP.out.lt; have u0 := r.cell 0; have u1 := r.cell 1; have u2 := r.cell 2; have u3 := r.cell 3; have u4 := r.cell 4; clear hd hL b r; simp at u0 u1 u2 u3 u4; go_simp; exact Tame.Is.mk (Tame.Later.refl _))))
          | (refine Tame.walk_known (o := ⟨some 45, _, _, _, _, _⟩) (fun _ => rfl) ?_; apply Exists.intro; refine ⟨fun vals w2 hL hd => ?_, ?_⟩; (focus (have b := later_drew (B := w4.heap.size) hL (Nat.le_refl _); have r := HP.out.below b HP.out.lt; have u0 := r.cell 0; have u1 := r.cell 1; have u2 := r.cell 2; have u3 := r.cell 3; have u4 := r.cell 4; clear hd hL b r; simp at u0 u1 u2 u3 u4; go_simp; exact Tame.Is.mk (Tame.Later.refl _))))
          | (refine Tame.walk_known (o := ⟨some 52, _, _, _, _, _⟩) (fun _ => rfl) ?_; apply Exists.intro; refine ⟨fun vals w2 hL hd => ?_, ?_⟩; (focus (have b := later_drew (B := w4.heap.size) hL (Nat.le_refl _); have r := HP.out.below b HP.out.lt; have u0 := r.cell 0; have u1 := r.cell 1; have u2 := r.cell 2; have u3 := r.cell 3; have u4 := r.cell 4; clear hd hL b r; simp at u0 u1 u2 u3 u4; go_simp; exact Tame.Is.mk (Tame.Later.refl _))))
          | (refine Tame.walk_known (o := ⟨some 62, _, _, _, _, _⟩) (fun _ => rfl) ?_; apply Exists.intro; refine ⟨fun vals w2 hL hd => ?_, ?_⟩; (focus (have b := later_drew (B := w4.heap.size) hL (Nat.le_refl _); have r := HP.out.below b HP.out.lt; have u0 := r.cell 0; have u1 := r.cell 1; have u2 := r.cell 2; have u3 := r.cell 3; have u4 := r.cell 4; clear hd hL b r; simp at u0 u1 u2 u3 u4; go_simp; exact Tame.Is.mk (Tame.Later.refl _))))
          | (refine Tame.walk_known (o := ⟨some 63, _, _, _, _, _⟩) (fun _ => rfl) ?_; apply Exists.intro; refine ⟨fun vals w2 hL hd => ?_, ?_⟩; (focus (have b := later_drew (B := w4.heap.size) hL (Nat.le_refl _); have r := HP.out.below b HP.out.lt; have u0 := r.cell 0; have u1 := r.cell 1; have u2 := r.cell 2; have u3 := r.cell 3; have u4 := r.cell 4; clear hd hL b r; simp at u0 u1 u2 u3 u4; go_simp; exact Tame.Is.mk (Tame.Later.refl _))))
          | (refine Tame.walk_known (o := ⟨some 34, _, _, _, _, _⟩) (fun _ => rfl) ?_; apply Exists.intro; refine ⟨fun vals w2 hL hd => ?_, ?_⟩; (focus (have b := later_drew (B := w4.heap.size) hL (Nat.le_refl _); have r := HEB.out.below b HEB.out.lt; have u0 := r.cell 0; have u1 := r.cell 1; have u2 := r.cell 2; have u3 := r.cell 3; have u4 := r.cell 4; clear hd hL b r; simp at u0 u1 u2 u3 u4; go_simp; exact Tame.Is.mk (Tame.Later.refl _))))
          | (refine Tame.walk_known (o := ⟨some 40, _, _, _, _, _⟩) (fun _ => rfl) ?_; apply Exists.intro; refine ⟨fun vals w2 hL hd => ?_, ?_⟩; (focus (have b := later_drew (B := w4.heap.size) hL (Nat.le_refl _); have r := HEB.out.below b HEB.out.lt; have u0 := r.cell 0; have u1 := r.cell 1; have u2 := r.cell 2; have u3 := r.cell 3; have u4 := r.cell 4; clear hd hL b r; simp at u0 u1 u2 u3 u4; go_simp; exact Tame.Is.mk (Tame.Later.refl _))))
          | (refine Tame.walk_known (o := ⟨some 47, _, _, _, _, _⟩) (fun _ => rfl) ?_; apply Exists.intro; refine ⟨fun vals w2 hL hd => ?_, ?_⟩; (focus (have b := later_drew (B := w4.heap.size) hL (Nat.le_refl _); have r := HEB.out.below b HEB.out.lt; have u0 := r.cell 0; have u1 := r.cell 1; have u2 := r.cell 2; have u3 := r.cell 3; have u4 := r.cell 4; clear hd hL b r; simp at u0 u1 u2 u3 u4; go_simp; exact Tame.Is.mk (Tame.Later.refl _))))
          | (refine Tame.walk_known (o := ⟨some 56, _, _, _, _, _⟩) (fun _ => rfl) ?_; apply Exists.intro; refine ⟨fun vals w2 hL hd => ?_, ?_⟩; (focus (have b := later_drew (B := w4.heap.size) hL (Nat.le_refl _); have r := HEB.out.below b HEB.out.lt; have u0 := r.cell 0; have u1 := r.cell 1; have u2 := r.cell 2; have u3 := r.cell 3; have u4 := r.cell 4; clear hd hL b r; simp at u0 u1 u2 u3 u4; go_simp; exact Tame.Is.mk (Tame.Later.refl _))))
          | (refine Tame.walk_known (o := ⟨some 53, _, _, _, _, _⟩) (fun _ => rfl) ?_; apply Exists.intro; refine ⟨fun vals w2 hL hd => ?_, ?_⟩; (focus (have b := later_drew (B := w4.heap.size) hL (Nat.le_refl _); have r := HOB.out.below b HOB.out.lt; have u0 := r.cell 0; have u1 := r.cell 1; have u2 := r.cell 2; have u3 := r.cell 3; have u4 := r.cell 4; clear hd hL b r; simp at u0 u1 u2 u3 u4; go_simp; exact Tame.Is.mk (Tame.Later.refl _))))
          | (refine Tame.walk_known (o := ⟨some 57, _, _, _, _, _⟩) (fun _ => rfl) ?_; apply Exists.intro; refine ⟨fun vals w2 hL hd => ?_, ?_⟩; (focus (have b := later_drew (B := w4.heap.size) hL (Nat.le_refl _); have r := HOB.out.below b HOB.out.lt; have u0 := r.cell 0; have u1 := r.cell 1; have u2 := r.cell 2; have u3 := r.cell 3; have u4 := r.cell 4; clear hd hL b r; simp at u0 u1 u2 u3 u4; go_simp; exact Tame.Is.mk (Tame.Later.refl _))))
          | (refine Tame.walk_known (o := ⟨some 33, _, _, _, _, _⟩) (fun _ => rfl) ?_; apply Exists.intro; refine ⟨fun vals w2 hL hd => ?_, ?_⟩; (focus (have b := later_drew (B := w4.heap.size) hL (Nat.le_refl _); have HC := Lib.hid (C1.out _ b); clear hd hL b; go_simp; exact Tame.known HC.out)))
          | (refine Tame.walk_known (o := ⟨some 35, _, _, _, _, _⟩) (fun _ => rfl) ?_; apply Exists.intro; refine ⟨fun vals w2 hL hd => ?_, ?_⟩; (focus (have b := later_drew (B := w4.heap.size) hL (Nat.le_refl _); have HC := Lib.hid (C2.out _ b); clear hd hL b; go_simp; exact Tame.known HC.out)))
          | (refine Tame.walk_known (o := ⟨some 39, _, _, _, _, _⟩) (fun _ => rfl) ?_; apply Exists.intro; refine ⟨fun vals w2 hL hd => ?_, ?_⟩; (focus (have b := later_drew (B := w4.heap.size) hL (Nat.le_refl _); have HC := Lib.hid (C3.out _ b); clear hd hL b; go_simp; exact Tame.known HC.out)))
          | (refine Tame.walk_known (o := ⟨some 41, _, _, _, _, _⟩) (fun _ => rfl) ?_; apply Exists.intro; refine ⟨fun vals w2 hL hd => ?_, ?_⟩; (focus (have b := later_drew (B := w4.heap.size) hL (Nat.le_refl _); have HC := Lib.hid (C4.out _ b); clear hd hL b; go_simp; exact Tame.known HC.out)))
          | (refine Tame.walk_known (o := ⟨some 46, _, _, _, _, _⟩) (fun _ => rfl) ?_; apply Exists.intro; refine ⟨fun vals w2 hL hd => ?_, ?_⟩; (focus (have b := later_drew (B := w4.heap.size) hL (Nat.le_refl _); have HC := Lib.hid (C5.out _ b); clear hd hL b; go_simp; exact Tame.known HC.out)))
          | (refine Tame.walk_known (o := ⟨some 48, _, _, _, _, _⟩) (fun _ => rfl) ?_; apply Exists.intro; refine ⟨fun vals w2 hL hd => ?_, ?_⟩; (focus (have b := later_drew (B := w4.heap.size) hL (Nat.le_refl _); have HC := Lib.hid (C6.out _ b); clear hd hL b; go_simp; exact Tame.known HC.out)))
          | (refine Tame.walk_some (o := ⟨some 54, _, _, _, _, _⟩) (VX o) (fun _ => rfl) (fun v w w' hl h => h.later hl) (fun vals w2 hL hd => ?_) ?_; (focus (have b := later_drew (B := w4.heap.size) hL (Nat.le_refl _); have HC := Lib.hid (C7.out _ b); clear hd hL b; go_simp; refine HC.out.mono ?_; rintro q w' ⟨A2, c2, rfl, hk2, hb2⟩; exact ⟨_, rfl, hb2, A2, c2, rfl, hk2.move fun b hb => ⟨hb.2, rfl⟩⟩)))
          | (refine Tame.walk_known (o := ⟨some 55, _, _, _, _, _⟩) (fun _ => rfl) ?_; apply Exists.intro; refine ⟨fun vals w2 hL hd => ?_, ?_⟩; (focus (have b := later_drew (B := w4.heap.size) hL (Nat.le_refl _); have hv : VX o (vals 22) w2 := hd ⟨22, .data⟩ (by simp) rfl _ rfl; clear hd hL; obtain ⟨A2, c2, hv, hk2⟩ := hv; simp only [ev] at hv; have HC := Lib.hid (C8.out _ A2 c2 b hk2); clear b hk2; go_simp; exact Tame.known HC.out)))
          | (refine Tame.walk_known (o := ⟨some 58, _, _, _, _, _⟩) (fun _ => rfl) ?_; apply Exists.intro; refine ⟨fun vals w2 hL hd => ?_, ?_⟩; (focus (have b := later_drew (B := w4.heap.size) hL (Nat.le_refl _); have HC := Lib.hid (C9.out _ b); clear hd hL b; go_simp; exact Tame.known HC.out)))
          | (refine Tame.walk_known (o := ⟨some 64, _, _, _, _, _⟩) (fun _ => rfl) ?_; apply Exists.intro; refine ⟨fun vals w2 hL hd => ?_, ?_⟩; (focus (have b := later_drew (B := w4.heap.size) hL (Nat.le_refl _); have HC := Lib.hid (C10.out _ b); clear hd hL b; go_simp; exact Tame.known HC.out)))
          | (refine Tame.walk_known (fun _ => rfl) ?_; apply Exists.intro; refine ⟨fun vals w2 hL hd => ?_, ?_⟩; (focus (go_simp; first | exact Tame.Is.mk (Tame.Later.refl _) | (rw [if_neg]; (focus exact Tame.Is.mk (Tame.Later.refl _)); omega)))))
         simp only [Act.put, List.setIfInBounds_toArray, List.set_cons_zero, List.set_cons_succ, List.nil_append, List.cons_append, List.length_cons, List.length_nil, Nat.zero_add, Nat.reduceAdd])
      refine Tame.walk_end fun vals w5 hL _ => ?_
      have HB5 : Hid (Below w4.heap.size w4 w5) := later_drew hL (Nat.le_refl _)
      have hz5 := HB5.out.size
      have rp := HP.out.below HB5.out HP.out.lt
      have e0 := rp.cell 0
      have e1 := rp.cell 1
      have e2 := rp.cell 2
      have e3 := rp.cell 3
      have e4 := rp.cell 4
      simp at e0 e1 e2 e3 e4
      clear hL rp
      have hnil := seq_nil
      go_wp2_with (go_at_call 16; refine (Walk_any x A3 c3 _).mono ?_; rintro q w6 ⟨rfl, rfl⟩)
      have hz7 : ((w5.alloc (.cells #[.int .i64 x.k, .int .i64 x.o, .int .i64 x.n, .string ⟨x.s.toArray⟩, .slice A3 x.ks.length c3] 28)).alloc (.cells #[.int .i64 0] 3)).heap.size = w5.heap.size + 2 := by simp
      have hb7 : Below w5.heap.size w5 ((w5.alloc (.cells #[.int .i64 x.k, .int .i64 x.o, .int .i64 x.n, .string ⟨x.s.toArray⟩, .slice A3 x.ks.length c3] 28)).alloc (.cells #[.int .i64 0] 3)) := ((Below.refl _ _).alloc (Nat.le_refl _) _).alloc (by simp) _
      have hp7 : Row ((w5.alloc (.cells #[.int .i64 x.k, .int .i64 x.o, .int .i64 x.n, .string ⟨x.s.toArray⟩, .slice A3 x.ks.length c3] 28)).alloc (.cells #[.int .i64 0] 3)) w5.heap.size 28 #[.int .i64 x.k, .int .i64 x.o, .int .i64 x.n, .string ⟨x.s.toArray⟩, .slice A3 x.ks.length c3] := (Row.made _ _ _).alloc _
      have hn7 : Row ((w5.alloc (.cells #[.int .i64 x.k, .int .i64 x.o, .int .i64 x.n, .string ⟨x.s.toArray⟩, .slice A3 x.ks.length c3] 28)).alloc (.cells #[.int .i64 0] 3)) (w5.heap.size + 1) 3 #[.int .i64 0] := by have := Row.made (w5.alloc (.cells #[.int .i64 x.k, .int .i64 x.o, .int .i64 x.n, .string ⟨x.s.toArray⟩, .slice A3 x.ks.length c3] 28)) 3 #[.int .i64 0]; rw [World.size_alloc] at this; exact this
      have hx7 : Row ((w5.alloc (.cells #[.int .i64 x.k, .int .i64 x.o, .int .i64 x.n, .string ⟨x.s.toArray⟩, .slice A3 x.ks.length c3] 28)).alloc (.cells #[.int .i64 0] 3)) p 28 #[.int .i64 x.k, .int .i64 x.o, .int .i64 x.n, .string ⟨x.s.toArray⟩, .slice A3 x.ks.length c3] := (HP.out.below HB5.out HP.out.lt).below hb7 (by omega)
      have hr7 : Row ((w5.alloc (.cells #[.int .i64 x.k, .int .i64 x.o, .int .i64 x.n, .string ⟨x.s.toArray⟩, .slice A3 x.ks.length c3] 28)).alloc (.cells #[.int .i64 0] 3)) (w.heap.size + 2) 4 #[.bool false] := (HRB.out.below HB5.out HRB.out.lt).below hb7 (by omega)
      have hw7 : Below w.heap.size w ((w5.alloc (.cells #[.int .i64 x.k, .int .i64 x.o, .int .i64 x.n, .string ⟨x.s.toArray⟩, .slice A3 x.ks.length c3] 28)).alloc (.cells #[.int .i64 0] 3)) := (HB4.out.trans (HB5.out.mono (by omega))).trans (hb7.mono (by omega))
      have h47 : Below w4.heap.size w4 ((w5.alloc (.cells #[.int .i64 x.k, .int .i64 x.o, .int .i64 x.n, .string ⟨x.s.toArray⟩, .slice A3 x.ks.length c3] 28)).alloc (.cells #[.int .i64 0] 3)) := HB5.out.trans (hb7.mono hz5)
      clear e0 e1 e2 e3 e4 hnil
      generalize hw7e : (w5.alloc (.cells #[.int .i64 x.k, .int .i64 x.o, .int .i64 x.n, .string ⟨x.s.toArray⟩, .slice A3 x.ks.length c3] 28)).alloc (.cells #[.int .i64 0] 3) = w7 at hz7 hb7 hp7 hn7 hx7 hr7 hw7 h47 ⊢
      clear hw7e
      generalize hq : w5.heap.size = q at hz7 hb7 hp7 hn7 hz5 ⊢
      clear HB5
      have HX7 := Lib.hid hx7
      have HR7 := Lib.hid hr7
      have HW7 := Lib.hid hw7
      have H47 := Lib.hid h47
      refine (wpIn_wide (n := 5)).1 (with_frame ?_)
      intro fr hfr
      refine wpIn_rangeFunc_ownH rfl (by omega) (gf := 36) (lb := #[.pointer (some ⟨q, 0, none⟩)]) (by rw [hfr]; rfl) trivial (enters_of Tryd.func36 (by kernel_rfl) rfl)
        (walk_stops w4 (Old w4) (fun b => b = q + 1) (q + 2) 4 (fun b hb => ⟨by have hb' : b < w4.heap.size := hb; omega, by have hb' : b < w4.heap.size := hb; omega⟩) (fun b hb => by omega) ⟨A3, c3, x, HKX.out, hxo, by omega⟩ q w7 (by simp only; omega) (fun b hb => h47.block b hb) (by omega) (fun b hb => Nat.lt_of_lt_of_le hb h47.size) hp7)
        (fun h k => h.trans k) (kp_b (by omega)) (Below.refl _ _) (fun _ => rfl)
        (fun pre W => (Row W (q + 1) 3 #[.int .i64 (pre.length : Nat)] ∧ Kp (q + 2) (fun b => b = q + 1) w7 W) ∧ Below w.heap.size w7 W)
        (fun j pre W => (Row W (w.heap.size + 2) 4 #[.bool false] ∧ (j = .ret ∧ ∃ i, pre = [i] ∧ i.x.same x = false)) ∧ Below w.heap.size w7 W)
        (OwnFrom.and (OwnFrom.and (fun pre X Y row hs hg hr => row_own (B := w7.heap.size) () X Y row hs hg hr) (ownFrom_kp (by omega) (Nat.le_refl _))) (ownFrom_below (by omega) (by omega)))
        (fun _ => OwnFrom.and (OwnFrom.and row_own (fun _ _ _ _ hs _ _ => hs)) (ownFrom_below (by omega) (by omega)))
        ⟨⟨hn7, Kp.refl _ _ _⟩, Below.refl _ _⟩
        (fun i a' W => ∃ Bx, (Row W Bx 28 #[.int .i64 i.x.k, .int .i64 i.x.o, .int .i64 i.x.n, .string ⟨i.x.s.toArray⟩, .slice i.A i.x.ks.length i.c] ∧ q + 2 ≤ Bx) ∧ a' = { tmps := (fr.tmps.setIfInBounds 72 (Item.v i)).setIfInBounds 11 (.pointer (some ⟨Bx, 0, none⟩)), defers := [] })
        (fun i a' _ X Y row hs hg hr => by obtain ⟨Bx, ⟨h1, h3⟩, h2⟩ := hs; exact ⟨Bx, ⟨row_own (B := w7.heap.size) () X Y row h1 hg hr, h3⟩, h2⟩)
        ?assign ?body ?done ?stop
      case assign =>
        rintro l pre i W K ⟨⟨q1, q2⟩, hB⟩ hK
        subst hfr
        simp only [Item.v, ev]
        have hsz := q2.size
        gi_wp2
        exact hK _ _ (later_keeps ((Below.refl _ _).alloc (Nat.le_refl _) _)) (Kp.of_later ((Below.refl _ _).alloc (Nat.le_refl _) _) (by omega)) ⟨⟨q1.alloc _, q2.trans (Kp.of_later ((Below.refl _ _).alloc (Nat.le_refl _) _) (by omega))⟩, hB.alloc (by omega) _⟩ ⟨W.heap.size, ⟨Row.made _ _ _, by omega⟩, rfl⟩
      case body =>
        rintro l pre i a' W hl ⟨r, hr⟩ ⟨⟨q1, q2⟩, hB⟩ ⟨Bx, ⟨bX, hBx⟩, rfl⟩ hlen
        subst hfr
        simp only [Item.v, ev, List.setIfInBounds_toArray, List.set_cons_zero, List.set_cons_succ]
        have hw7 : q + 2 ≤ W.heap.size := by have := q2.size; omega
        have hxW : Row W p 28 #[.int .i64 x.k, .int .i64 x.o, .int .i64 x.n, .string ⟨x.s.toArray⟩, .slice A3 x.ks.length c3] := q2.row HX7.out (by omega)
        have hrW : Row W (w.heap.size + 2) 4 #[.bool false] := q2.row HR7.out (by omega)
        have hmv : ∀ b, Old w4 b → Old w4 b ∧ W.heap[b]? = w4.heap[b]? := fun b hb => ⟨hb, by
          have hb' : b < w4.heap.size := hb
          exact (q2.old b (by omega) (by omega)).trans (H47.out.block b hb')⟩
        have hki : KS W (Old w4) i.A i.x.ks := i.kids.move hmv
        have hkx : KS W (Old w4) A3 x.ks := HKX.out.move hmv
        have hSm : ∀ b, Old w4 b → b < W.heap.size := fun b hb => by have hb' : b < w4.heap.size := hb; omega
        have hC := Same_all i.x.size i.small i.x x i.A A3 i.c c3 W _ (Nat.le_refl _) hki (by omega) hkx hSm
        simp only [ev] at hC
        have n0 := q1.cell 0
        have n1 := q1.free 0
        have b0 := bX.cell 0
        have b1 := bX.cell 1
        have b2 := bX.cell 2
        have b3 := bX.cell 3
        have b4 := bX.cell 4
        have x0 := hxW.cell 0
        have x1 := hxW.cell 1
        have x2 := hxW.cell 2
        have x3 := hxW.cell 3
        have x4 := hxW.cell 4
        simp at n0 b0 b1 b2 b3 b4 x0 x1 x2 x3 x4
        simp only at hlen
        have HQ1 := Lib.hid q1
        have HQ2 := Lib.hid q2
        have HBB := Lib.hid hB
        have HRW := Lib.hid hrW
        clear q1 q2 hB hrW hxW bX hmv hki hkx hSm hr hl
        rcases Nat.eq_zero_or_pos pre.length with h0 | h0
        · obtain rfl : pre = [] := List.eq_nil_of_length_eq_zero h0
          simp at n0
          clear h0
          by_cases he : i.x.same x = true
          · rw [he] at hC
            have HC := Lib.hid hC
            clear hC he
            gi_wp2_with (refine ⟨trivial, ?_⟩; gi_at_call 14; refine (CallsIn.inRound l (callsIn_wide.2 HC.out)).mono ?_; rintro u w8 ⟨rfl, hb8⟩; have HB8 := Lib.hid hb8; have r := HQ1.out.below hb8 HQ1.out.lt; have HR8 := Lib.hid r; have m0 := r.cell 0; have m1 := r.free 0; simp at m0; clear hb8 r)
            refine ⟨(later_keeps HB8.out).trans ((KeepsOthers.setCell _ _ _).from _), (Kp.of_later HB8.out hw7).trans (Kp.set (p := ⟨q + 1, 0, none⟩) _ rfl), ⟨?_, HQ2.out.trans ((Kp.of_later HB8.out hw7).trans (Kp.set (p := ⟨q + 1, 0, none⟩) _ rfl))⟩, (HBB.out.trans (HB8.out.mono (by omega))).setCell (p := ⟨q + 1, 0, none⟩) (by show w.heap.size ≤ q + 1; omega) _⟩
            have := HR8.out.set 0 (.int .i64 1)
            simpa using this
          · have he' : i.x.same x = false := by simpa using he
            rw [he'] at hC
            have HC := Lib.hid hC
            have HE := Lib.hid he'
            clear hC he he'
            gi_wp2_with (refine ⟨trivial, ?_⟩; gi_at_call 14; refine (CallsIn.inRound l (callsIn_wide.2 HC.out)).mono ?_; rintro u w8 ⟨rfl, hb8⟩; have HB8 := Lib.hid hb8; have r := HRW.out.below hb8 HRW.out.lt; have HR8 := Lib.hid r; have m0 := r.cell 0; have m1 := r.free 0; simp at m0; clear hb8 r)
            refine ⟨(later_keeps HB8.out).trans ((KeepsOthers.setCell _ _ _).from _), ⟨?_, rfl, i, rfl, HE.out⟩, (HBB.out.trans (HB8.out.mono (by omega))).setCell (p := ⟨w.heap.size + 2, 0, none⟩) (Nat.le_add_right _ _) _⟩
            have := HR8.out.set 0 (.bool false)
            simpa using this
        · have hne : ((pre.length : Int) == 0) = false := beq_eq_false_iff_ne.2 (by omega)
          have hne2 : pre ≠ [] := by rintro rfl; simp at h0
          have hne3 : (pre.length == 0) = false := by simpa using hne2
          clear hC
          gi_wp2
          refine ⟨trivial, ?_⟩
          gi_wp2
          refine ⟨(KeepsOthers.setCell _ _ _).from _, Kp.set (p := ⟨q + 1, 0, none⟩) _ rfl, ⟨?_, HQ2.out.trans (Kp.set (p := ⟨q + 1, 0, none⟩) _ rfl)⟩, HBB.out.setCell (p := ⟨q + 1, 0, none⟩) (by show w.heap.size ≤ q + 1; omega) _⟩
          have := HQ1.out.set 0 (.int .i64 ((pre.length : Int) + 1))
          rw [List.length_append]
          simpa using this
      case done =>
        rintro D ys W hD hys ⟨⟨q1, q2⟩, hB⟩ hK
        have hl : ys.length = x.size := by have := congrArg List.length hys; simpa [X.walk_length] using this
        rw [hl] at q1
        subst hfr
        have hw7 : q + 2 ≤ W.heap.size := by have := q2.size; omega
        have hxW : Row W p 28 #[.int .i64 x.k, .int .i64 x.o, .int .i64 x.n, .string ⟨x.s.toArray⟩, .slice A3 x.ks.length c3] := q2.row HX7.out (by omega)
        have hrW : Row W (w.heap.size + 2) 4 #[.bool false] := q2.row HR7.out (by omega)
        have hmv : ∀ b, Old w4 b → Old w4 b ∧ W.heap[b]? = w4.heap[b]? := fun b hb => ⟨hb, by
          have hb' : b < w4.heap.size := hb
          exact (q2.old b (by omega) (by omega)).trans (H47.out.block b hb')⟩
        have hkx : KS W (Old w4) A3 x.ks := HKX.out.move hmv
        have hSm : ∀ b, Old w4 b → b < W.heap.size := fun b hb => by have hb' : b < w4.heap.size := hb; omega
        have htW : ShapesAt W := HT4.out.move ((q2.old _ (by have := HT4.out.lt; omega) (by have := HT4.out.lt; omega)).trans (H47.out.block _ HT4.out.lt))
        have CS : Hid (∀ w2, Below W.heap.size W w2 → Calls Tryd.prog 13 #[.agg #[.int .i64 x.k, .int .i64 x.o, .int .i64 x.n, .string ⟨x.s.toArray⟩, .slice A3 x.ks.length c3]] w2 fun q w' => q = .returned (.int .i64 (x.size : Nat)) ∧ Below w2.heap.size w2 w') := fun w2 h => Size_any x A3 c3 w2 _ hxo (by omega) (hkx.later hSm h) (fun b hb => Nat.lt_of_lt_of_le (hSm b hb) h.size)
        have CA : Hid (∀ w2, Below W.heap.size W w2 → Calls Tryd.prog 17 #[] w2 fun q w' => q = .returned (.bool true) ∧ Below w2.heap.size w2 w') := fun w2 h => awake3_any w2 (htW.later h)
        have HQ1 := Lib.hid q1
        have HXW := Lib.hid hxW
        have HRW := Lib.hid hrW
        have HBW := Lib.hid (HW7.out.trans hB)
        have HKD := Lib.hid hK
        have HD := Lib.hid hD
        clear q1 q2 hB hrW hxW hmv hkx hSm htW hys hl hK
        go_wp2_with fail
        refine Tame.wp_region_tamg (L := Tame.Later) (M := fun _ a b => a.grownBy b (some (w.heap.size + 2))) (gs := [⟨Below W.heap.size W, []⟩]) [7] (by kernel_rfl) (by kernel_rfl) Tame.Later.refl (fun _ w => World.grownBy.refl w _) (fun k g hk => by
          rcases k with _ | k
          · obtain rfl : (⟨Below W.heap.size W, []⟩ : Tame.Ghost) = g := by simpa using hk
            exact ⟨(Below.refl _ _).drew, fun a b hl h => h.trans (Below.mono hl h.size), fun j _ hj => by cases hj⟩
          · simp at hk) ?_
        repeat
          ((first
            | (refine Tame.walk3_known (o := ⟨some 83, _, _, _, _, _⟩) (by kernel_rfl) (fun _ => rfl) ?_; apply Exists.intro; refine ⟨fun vals w2 hG hd => ?_, ?_⟩; (focus (have r := HQ1.out.below (hG 0 _ rfl (by kernel_rfl) : Below W.heap.size W w2) HQ1.out.lt; have u0 := r.cell 0; clear hG hd r; simp at u0; go_simp; exact Tame.Is.mk (Tame.Later.refl _))))
            | (refine Tame.walk3_known (o := ⟨some 84, _, _, _, _, _⟩) (by kernel_rfl) (fun _ => rfl) ?_; apply Exists.intro; refine ⟨fun vals w2 hG hd => ?_, ?_⟩; (focus (have r := HXW.out.below (hG 0 _ rfl (by kernel_rfl) : Below W.heap.size W w2) HXW.out.lt; have u0 := r.cell 0; have u1 := r.cell 1; have u2 := r.cell 2; have u3 := r.cell 3; have u4 := r.cell 4; clear hG hd r; simp at u0 u1 u2 u3 u4; go_simp; exact Tame.Is.mk (Tame.Later.refl _))))
            | (refine Tame.walk3_known (o := ⟨some 85, _, _, _, _, _⟩) (by kernel_rfl) (fun _ => rfl) ?_; apply Exists.intro; refine ⟨fun vals w2 hG hd => ?_, ?_⟩; (focus (have HC := Lib.hid (CS.out _ (hG 0 _ rfl (by kernel_rfl) : Below W.heap.size W w2)); clear hG hd; go_simp; exact Tame.known HC.out)))
            | (refine Tame.walk3_known (o := ⟨some 88, _, _, _, _, _⟩) (by kernel_rfl) (fun _ => rfl) ?_; apply Exists.intro; refine ⟨fun vals w2 hG hd => ?_, ?_⟩; (focus (have HC := Lib.hid (CA.out _ (hG 0 _ rfl (by kernel_rfl) : Below W.heap.size W w2)); clear hG hd; go_simp; exact Tame.known HC.out)))
            | (refine Tame.walk3_lays (o := ⟨none, Op.store _ _ _, _, _, _, _⟩) (fun _ w2 => Final3 w.heap.size D w w2 ∧ w.heap.size ≤ w2.heap.size) none [] [] (fun _ => rfl) (by kernel_rfl) (by kernel_rfl) (by kernel_rfl) (fun _ _ _ _ h => h) (fun _ a b hl h => ⟨h.1.later h.2 hl, Nat.le_trans h.2 (Below.size hl)⟩) (fun j _ hk => by cases hk) (fun vals w2 hG hd => ?_) ?_; (focus (have hb := (hG 0 _ rfl (by kernel_rfl) : Below W.heap.size W w2); have r := HRW.out.below hb HRW.out.lt; have HR9 := Lib.hid r; have HB9 := Lib.hid hb; have u0 := r.cell 0; have u1 := r.free 0; clear hG hd hb r; simp at u0; go_simp; exact ⟨only_set (only_refl w2 (w.heap.size + 2)) 0 (.bool true), ⟨by have := HR9.out.set 0 (.bool true); simpa using this, (HBW.out.trans (HB9.out.mono (by omega))).setCell (p := ⟨w.heap.size + 2, 0, none⟩) (Nat.le_add_right _ _) _, (Below.heap_setCell w2 ⟨w.heap.size + 2, 0, none⟩ (.bool true) D (by have := HD.out; show D ≠ w.heap.size + 2; omega)).trans ((HB9.out.block D (Array.getElem?_eq_some_iff.1 HKD.out).1).trans HKD.out)⟩, by have := HB9.out.size; simp; omega⟩)))
            | (refine Tame.walk3_known (by kernel_rfl) (fun _ => rfl) ?_; apply Exists.intro; refine ⟨fun vals w2 hG hd => ?_, ?_⟩; (focus (go_simp; first | exact Tame.Is.mk (Tame.Later.refl _) | (rw [if_neg]; (focus exact Tame.Is.mk (Tame.Later.refl _)); omega)))))
           simp only [Act.put, List.setIfInBounds_toArray, List.set_cons_zero, List.set_cons_succ, List.nil_append, List.cons_append, List.length_cons, List.length_nil, Nat.zero_add, Nat.reduceAdd])
        refine Tame.walk3_end fun vals w9 hG hts => ?_
        have f9 : Final3 w.heap.size D w w9 := (hts 7 _ rfl rfl : Final3 w.heap.size D w w9 ∧ w.heap.size ≤ w9.heap.size).1
        have F9 := Lib.hid f9
        clear f9 hts hG
        go_wp2_with fail
        have zz : w9.cell? ⟨w.heap.size + 2, 0, none⟩ = some (.bool true) := by simpa using F9.out.1.cell 0
        have hk9 := F9.out.2.2
        have zz2 := cell_kept zz (grownBy_putObj' _ D (.deferred none)) (fun r e => by cases e; exact ⟨_, hk9, rfl⟩)
        refine ⟨by simp, .inl ⟨_, _, rfl, run_takeDeferred hk9, ?_⟩⟩
        refine ⟨.bool true, by simp [results, Tryd.results3, go_sem]; rw [zz2], rfl, ?_⟩
        exact F9.out.2.1.trans (belowK_b (w := w) (Nat.le_refl _) _ D _ _ (by have := HD.out; omega) hk9 rfl rfl)
      case stop =>
        rintro D j pre W hD hsp ⟨⟨q1, rfl, i, rfl, hf⟩, hB⟩ hK
        exfalso
        obtain ⟨r, hr⟩ := hsp
        have e1 : i.x = x := by
          simp only [List.map_cons, List.map_nil, List.cons_append, List.nil_append] at hr
          cases hx : x with
          | mk k o n s ks =>
            rw [hx, X.walk] at hr
            injection hr with hr _
        rw [e1, X.same_refl] at hf
        cases hf

end Go.Proofs.YtblfejooagfkcaaDoor
