/- DERIVED. The table of what each kind has: its cells. Whether an expression has what its kind has: plain. -/
import Derived.Test.YtfajnflfonechaaDoorNm2
import Derived.Test.YtfajnflfonechaaDoorRows
import Derived.Lib.LaidTab
import Derived.Deep.Fields
namespace Go.Proofs.YtfajnflfonechaaDoor
open Go.RowKit Go.Deep

def litV : Lit → Value
  | .int k n => .int k n
  | .bool b => .bool b
  | .string l => .string ⟨l.toArray⟩
  | _ => undef

section
variable {H : Type} {enc : TypeId × Value → H} {P : Program} {w : World} {base : Nat} {sp : Nat → Bool} {held : Bool}
theorem cells_of_rows {t e : TypeId} {fs : Array Field} {n fuel : Nat} {cs : List Value} {rows : List (List Lit)} {p : List MemPlace} (ht : P.underlying t = some (.array n e)) (he : P.underlying e = some (.struct fs)) (hone : oneCellFields P fs = true) (hC : P.cellsOf e = fs.size) (hct : P.cellsOf t = n * fs.size)
    (hk : ∀ (j : Nat) (f : Field), fs[j]? = some f → ∀ (m : Nat) (v : Value) (l : Lit) (q : List MemPlace), DataW.trod enc P w base sp held m f.type [v] = some (.lit l, q) → v = litV l)
    (hr : ∀ r ∈ rows, r.length = fs.size)
    (h : DataW.trod enc P w base sp held fuel t cs = some (.agg (rows.map fun r => .agg (r.map .lit)), p)) : ∀ (i j : Nat) (r : List Lit) (l : Lit), rows[i]? = some r → r[j]? = some l → cs[i * fs.size + j]? = some (litV l) := by
  cases fuel with
  | zero => simp [DataW.trod] at h
  | succ fuel =>
    simp only [DataW.trod, ht, hC, hct] at h
    split at h
    · rename_i hl
      obtain ⟨xs, hm, hx⟩ := Option.map_eq_some_iff.1 h
      have hxs : xs.map (·.1) = rows.map fun r => (DataW.agg (r.map .lit) : DataW H) := by
        have := congrArg Prod.fst hx
        simpa using this
      intro i j r l hi hj
      have hin : i < n := by
        have h1 : xs.length = n := by simpa using Lib.mapM_length hm
        have h2 : xs.length = rows.length := by have := congrArg List.length hxs; simpa using this
        have h3 : i < rows.length := by
          rcases Nat.lt_or_ge i rows.length with h' | h'
          · exact h'
          · rw [List.getElem?_eq_none h'] at hi; cases hi
        omega
      obtain ⟨b, hb, hf⟩ := Lib.mapM_at hm i i (by simp [hin])
      have h2 : (xs.map (·.1))[i]? = some b.1 := by simp [hb]
      rw [hxs] at h2
      simp only [List.getElem?_map, hi, Option.map_some, Option.some.injEq] at h2
      obtain ⟨ys, m, _, hy, hlen, hyl, hg⟩ := DataW.trod_struct he hf
      have hy1 : b.1 = .agg (ys.map (·.1)) := by rw [hy]
      rw [hy1] at h2
      injection h2 with h2
      have hjr : j < r.length := by
        rcases Nat.lt_or_ge j r.length with h' | h'
        · exact h'
        · rw [List.getElem?_eq_none h'] at hj; cases hj
      have hjf : j < fs.size := by rw [← hr r (List.mem_of_getElem? hi)]; exact hjr
      have hyj : ys[j]? = some (ys[j]'(by omega)) := List.getElem?_eq_getElem (by omega)
      have h3 : (ys.map (·.1))[j]? = some (DataW.lit l) := by rw [← h2]; simp [hj]
      simp only [List.getElem?_map, hyj, Option.map_some, Option.some.injEq] at h3
      have hfj : fs[j]? = some fs[j] := Array.getElem?_eq_getElem hjf
      obtain ⟨ho, hc⟩ := hone_of hone j fs[j] hfj
      have h4 := hg j fs[j] hfj
      rw [ho, hc] at h4
      have hcl : ((cs.drop (i * fs.size)).take fs.size).length = fs.size := by rw [hlen, hC]
      have h5 : (((cs.drop (i * fs.size)).take fs.size).drop j).take 1 = [((cs.drop (i * fs.size)).take fs.size)[j]'(by omega)] := by
        rw [List.drop_eq_getElem_cons (by omega)]
        rfl
      rw [h5, hyj] at h4
      have h6 : ys[j]'(by omega) = (DataW.lit l, (ys[j]'(by omega)).2) := by rw [← h3]
      rw [h6] at h4
      have h7 := hk j fs[j] hfj _ _ l _ h4
      rw [← h7]
      have h8 : ((cs.drop (i * fs.size)).take fs.size)[j]? = some (((cs.drop (i * fs.size)).take fs.size)[j]'(by omega)) := List.getElem?_eq_getElem (by omega)
      rw [← h8, List.getElem?_take, if_pos hjf, List.getElem?_drop]
    · cases h
end

def shapesL : List (List Lit) := [[.int .i64 0, .int .i64 9223372036854775807, .bool false, .int .i64 0, .int .i64 0], [.int .i64 0, .int .i64 1, .bool false, .int .i64 0, .int .i64 0], [.int .i64 0, .int .i64 0, .bool true, .int .i64 0, .int .i64 0], [.int .i64 2, .int .i64 0, .bool false, .int .i64 1, .int .i64 1], [.int .i64 15, .int .i64 0, .bool false, .int .i64 2, .int .i64 2], [.int .i64 0, .int .i64 0, .bool false, .int .i64 3, .int .i64 3], [.int .i64 0, .int .i64 0, .bool true, .int .i64 0, .int .i64 1000]]
/-- The table stands as it is written. -/
def ShapesAt (w : World) : Prop := ∀ (i j : Nat) (r : List Lit) (l : Lit), shapesL[i]? = some r → r[j]? = some l → w.cell? ⟨4, i * 5 + j, none⟩ = some (litV l)

theorem gShapes : Tryd.prog.globalNamed "shuttlecock/ast.shapes" = some 4 := by kernel_rfl
theorem gShapesType : (Tryd.prog.globals[4]?).map (·.type) = some 158 := by kernel_rfl

theorem shapes_at {W : World} (h : laidMetH Tryd.prog [("shuttlecock/ast.shapes", Rows.laid_shuttlecock_ast_shapes)] W) : ShapesAt W := by
  obtain ⟨ps, ⟨g', t', cs, fuel, p, q, hg', ht', hvar, hd, _, _⟩, _⟩ := (h : laidMet Tryd.prog [("shuttlecock/ast.shapes", Rows.laid_shuttlecock_ast_shapes)] W)
  obtain rfl := Option.some.inj (gShapes.symm.trans hg')
  obtain rfl := Option.some.inj (gShapesType.symm.trans ht')
  have hc := cells_of_rows (rows := shapesL) Tryd.underlying158 Tryd.underlying157 (by kernel_rfl) (by kernel_rfl) (by kernel_rfl) (fun j f hf m v l q h => by
      match j, hf with
      | 0, hf => obtain rfl := Option.some.inj hf; obtain ⟨n, hv, hx, _⟩ := DataW.trod_int Tryd.underlying3 h; injection hx with hx; injection hx with hx; subst hx; injection hv
      | 1, hf => obtain rfl := Option.some.inj hf; obtain ⟨n, hv, hx, _⟩ := DataW.trod_int Tryd.underlying2 h; injection hx with hx; injection hx with hx; subst hx; injection hv
      | 2, hf => obtain rfl := Option.some.inj hf; obtain ⟨n, hv, hx⟩ := DataW.trod_bool Tryd.underlying4 h; injection hx with hx; injection hx with hx; subst hx; injection hv
      | 3, hf => obtain rfl := Option.some.inj hf; obtain ⟨n, hv, hx, _⟩ := DataW.trod_int Tryd.underlying3 h; injection hx with hx; injection hx with hx; subst hx; injection hv
      | 4, hf => obtain rfl := Option.some.inj hf; obtain ⟨n, hv, hx, _⟩ := DataW.trod_int Tryd.underlying3 h; injection hx with hx; injection hx with hx; subst hx; injection hv
      | j + 5, hf => simp at hf) (by simp [shapesL]) hd
  intro i j r l hi hj
  have := World.var?_cell gShapes hvar (i * 5 + j)
  rw [this]
  simpa using hc i j r l hi hj

theorem ShapesAt.move {w w' : World} (h : ShapesAt w) (hb : w'.heap[4]? = w.heap[4]?) : ShapesAt w' := fun i j r l hi hj => (World.cell?_of_block hb).trans (h i j r l hi hj)
theorem ShapesAt.lt {w : World} (h : ShapesAt w) : 4 < w.heap.size := World.block_lt_of_cell? w _ (h 0 0 _ _ rfl rfl)
theorem ShapesAt.later {w w' : World} (h : ShapesAt w) (hb : Below w.heap.size w w') : ShapesAt w' := h.move (hb.block _ h.lt)

/-! ### Plain -/
def calP (s : T) (named : Bool) : Prop := if named = true then nameB s = true else s = []
def fitK (lo g : Int) (named : Bool) (few most : Nat) (x : X) : Prop := 0 ≤ x.o ∧ x.o ≤ lo ∧ 0 ≤ x.n ∧ x.n ≤ g ∧ calP x.s named ∧ few ≤ x.ks.length ∧ x.ks.length ≤ most
def fitP (x : X) : Prop :=
  (x.k = 0 ∧ fitK 0 9223372036854775807 false 0 0 x) ∨ (x.k = 1 ∧ fitK 0 1 false 0 0 x) ∨ (x.k = 2 ∧ fitK 0 0 true 0 0 x) ∨ (x.k = 3 ∧ fitK 2 0 false 1 1 x) ∨ (x.k = 4 ∧ fitK 15 0 false 2 2 x) ∨ (x.k = 5 ∧ fitK 0 0 false 3 3 x) ∨ (x.k = 6 ∧ fitK 0 0 true 0 1000 x)
noncomputable def fitB (x : X) : Bool := @decide (fitP x) (Classical.propDecidable _)
theorem fitB_true {x : X} (h : fitP x) : fitB x = true := @decide_eq_true _ (Classical.propDecidable _) h
theorem fitB_false {x : X} (h : ¬ fitP x) : fitB x = false := @decide_eq_false _ (Classical.propDecidable _) h
mutual
noncomputable def X.shape : X → Bool
  | .mk k o n s ks => X.shapes ks && fitB (.mk k o n s ks)
noncomputable def X.shapes : List X → Bool
  | [] => true
  | x :: xs => x.shape && X.shapes xs
end
mutual
theorem X.shape_walk (x : X) : x.shape = x.walk.all fitB := by
  cases x with
  | mk k o n s ks => simp only [X.shape, X.walk, List.all_cons, X.shapes_walk ks]; exact Bool.and_comm _ _
theorem X.shapes_walk (xs : List X) : X.shapes xs = (X.walks xs).all fitB := by
  cases xs with
  | nil => rfl
  | cons x xs => simp only [X.shapes, X.walks, List.all_append, X.shape_walk x, X.shapes_walk xs]
end
theorem X.shapes_at {xs : List X} {i : Nat} {x : X} (h : xs[i]? = some x) (hf : x.shape = false) : X.shapes xs = false := by
  induction xs generalizing i with
  | nil => simp at h
  | cons y ys ih =>
    cases i with
    | zero => simp at h; subst h; simp [X.shapes, hf]
    | succ i => simp at h; simp [X.shapes, ih h]
theorem X.shapes_all {xs : List X} (h : ∀ (i : Nat) x, xs[i]? = some x → x.shape = true) : X.shapes xs = true := by
  induction xs with
  | nil => rfl
  | cons y ys ih => simp only [X.shapes, Bool.and_eq_true]; exact ⟨h 0 y rfl, ih fun i x hi => h (i + 1) x (by simpa using hi)⟩

end Go.Proofs.YtfajnflfonechaaDoor
