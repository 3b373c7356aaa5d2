/- Parts: PaE. -/
import Derived.ProofKit
import Derived.Deep.Slices
import Derived.Deep.Fields
import Derived.Test.YtdabndiaflagpaaGreatDoorRows
import Derived.Stop.LaidErr
import Derived.Shelf.Vars
import Derived.LaidMore
import Derived.OpenShut
import Derived.ChangeArms
import Derived.Deep.DeepWitnessRowRef
import Derived.Stop.Joined
import Derived.Test.YtdabndiaflagpaaGreatDoorB10
import Derived.Test.YtdabndiaflagpaaGreatDoorB03
set_option maxRecDepth 100000
set_option maxHeartbeats 4000000
set_option linter.unusedVariables false
namespace Go.Proofs.YtdabndiaflagpaaGreatDoor
open Go.RowKit Go.ChangeShapes Go.WideShapes Go.Deep

set_option maxRecDepth 100000 in
/-- A table of texts, cell by cell. -/
theorem cells_of_texts5 {H : Type} {enc : TypeId × Value → H} {w : World} {base : Nat} {sp : Nat → Bool} {held : Bool} {n fuel : Nat} {t e : TypeId} {cs : List Value} {rows : List T} {p : List MemPlace} (ht : Tryz.prog.underlying t = some (.array n e)) (he : Tryz.prog.underlying e = some .string) (hC : Tryz.prog.cellsOf e = 1)
    (h : DataW.trod enc Tryz.prog w base sp held fuel t cs = some (.agg (rows.map fun l => .lit (.string l)), p)) : ∀ (i : Nat) (l : T), rows[i]? = some l → cs[i]? = some (.string ⟨l.toArray⟩) := by
  obtain ⟨xs, m, rfl, hx, hlen, hn, hel⟩ := DataW.trod_array ht h
  have hxs : rows.map (fun l => (DataW.lit (.string l) : DataW H)) = xs.map (·.1) := by
    injection hx with hx _
    injection hx
  intro i l hi
  have hin : i < n := by
    have := congrArg List.length hxs
    simp only [List.length_map] at this
    have := (List.getElem?_eq_some_iff.1 hi).1
    omega
  have h1 := hel i hin
  rw [hC, Nat.mul_one] at h1
  have h2 : (xs.map (·.1))[i]? = some (.lit (.string l)) := by rw [← hxs]; simp [hi]
  rw [List.getElem?_map] at h2
  cases hy : xs[i]? with
  | none => rw [hy] at h2; cases h2
  | some y =>
    rw [hy] at h1 h2
    injection h2 with h2
    obtain ⟨s, h3, h4, _⟩ := DataW.trod_string he h1
    rw [h4] at h2
    injection h2 with h2
    injection h2 with h2
    have h5 : cs[i]? = some (.string s) := by
      have := congrArg (fun l : List Value => l[0]?) h3
      simpa using this
    rw [h5, ← h2]

section
variable {H : Type} {enc : TypeId × Value → H} {P : Program} {w : World} {base : Nat} {sp : Nat → Bool} {held : Bool}
/-- A struct of one-cell fields, field by field. -/
theorem struct_at5 {t : TypeId} {fs : Array Field} {fuel : Nat} {cs : List Value} {x : DataW H × List MemPlace} (hs : P.underlying t = some (.struct fs)) (hone : oneCellFields P fs = true) (hC : P.cellsOf t = fs.size) (h : DataW.trod enc P w base sp held fuel t cs = some x) :
    cs.length = fs.size ∧ ∃ (ys : List (DataW H × List MemPlace)) (m : Nat), x.1 = .agg (ys.map (·.1)) ∧ ys.length = fs.size ∧ ∀ (j : Nat) (f : Field), fs[j]? = some f → ∃ v y, cs[j]? = some v ∧ ys[j]? = some y ∧ DataW.trod enc P w base sp held m f.type [v] = some y := by
  obtain ⟨ys, m, _, hx, hl, hyl, hf⟩ := DataW.trod_struct hs h
  rw [hC] at hl
  refine ⟨hl, ys, m, by rw [hx], hyl, fun j f hj => ?_⟩
  have hjl : j < fs.size := (Array.getElem?_eq_some_iff.1 hj).1
  obtain ⟨ho, hc⟩ := hone_of hone j f hj
  have h1 := hf j f hj
  rw [ho, hc, List.drop_eq_getElem_cons (by omega : j < cs.length), List.take_succ_cons, List.take_zero, List.getElem?_eq_getElem (by omega : j < ys.length)] at h1
  exact ⟨_, _, List.getElem?_eq_getElem (by omega), List.getElem?_eq_getElem (by omega), h1⟩
end


def opD {H : Type} (p : T × Int) : DataW H := .agg [.lit (.string p.1), .lit (.int .i64 p.2)]
def levD {H : Type} (n : Nat) : DataW H := .agg [.lit (.int .i64 (joinZ n)), .slice ((opsP n).map opD) []]
theorem levels_data {H : Type} : (Rows.laid_shuttlecock_parse_levels : DataW H) = .agg ((List.range 7).map levD) := rfl
section
variable {H : Type} {enc : TypeId × Value → H} {W : World} {base : Nat} {sp : Nat → Bool} {held : Bool}
theorem op_at {fuel : Nat} {cs : List Value} {y : DataW H × List MemPlace} {p : T × Int} (h : DataW.trod enc Tryz.prog W base sp held fuel 249 cs = some y) (hy : y.1 = opD p) : cs = [.string ⟨p.1.toArray⟩, .int .i64 p.2] := by
  obtain ⟨hl, ys, m, hd, hyl, hf⟩ := struct_at5 Tryz.underlying249 (by kernel_rfl) (by kernel_rfl) h
  obtain ⟨v0, y0, a0, b0, t0⟩ := hf 0 _ rfl
  obtain ⟨v1, y1, a1, b1, t1⟩ := hf 1 _ rfl
  obtain ⟨s, hv0, hy0, _⟩ := DataW.trod_string Tryz.underlying9 t0
  obtain ⟨k, hv1, hy1, _⟩ := DataW.trod_int Tryz.underlying3 t1
  injection hv0 with hv0
  injection hv1 with hv1
  have hys : ys = [y0, y1] := by
    match ys, hyl with
    | [c0, c1], _ => simp at b0 b1; rw [b0, b1]
  have hcs : cs = [v0, v1] := by
    match cs, hl with
    | [c0, c1], _ => simp at a0 a1; rw [a0, a1]
  rw [hd, hys] at hy
  simp only [List.map_cons, List.map_nil, opD, DataW.agg.injEq, List.cons.injEq, and_true] at hy
  obtain ⟨e0, e1⟩ := hy
  rw [hy0] at e0
  rw [hy1] at e1
  simp only [DataW.lit.injEq, Lit.string.injEq, Lit.int.injEq, true_and] at e0 e1
  rw [hcs, hv0, hv1, ← e0, ← e1]
theorem lev_at {fuel : Nat} {cs : List Value} {y : DataW H × List MemPlace} {n : Nat} (h : DataW.trod enc Tryz.prog W base sp held fuel 239 cs = some y) (hy : y.1 = levD n) (hne : opsP n ≠ []) :
    ∃ q off c, cs = [.int .i64 (joinZ n), .slice (some ⟨q, off, none⟩) (opsP n).length c] ∧ ∀ (i : Nat) p, (opsP n)[i]? = some p → W.cell? ⟨q, off + i * 2, none⟩ = some (.string ⟨p.1.toArray⟩) ∧ W.cell? ⟨q, off + i * 2 + 1, none⟩ = some (.int .i64 p.2) := by
  obtain ⟨hl, ys, m, hd, hyl, hf⟩ := struct_at5 Tryz.underlying239 (by kernel_rfl) (by kernel_rfl) h
  obtain ⟨v0, y0, a0, b0, t0⟩ := hf 0 _ rfl
  obtain ⟨v1, y1, a1, b1, t1⟩ := hf 1 _ rfl
  obtain ⟨k, hv0, hy0, _⟩ := DataW.trod_int Tryz.underlying3 t0
  injection hv0 with hv0
  have hys : ys = [y0, y1] := by
    match ys, hyl with
    | [c0, c1], _ => simp at b0 b1; rw [b0, b1]
  have hcs : cs = [v0, v1] := by
    match cs, hl with
    | [c0, c1], _ => simp at a0 a1; rw [a0, a1]
  rw [hd, hys] at hy
  simp only [List.map_cons, List.map_nil, levD, DataW.agg.injEq, List.cons.injEq, and_true] at hy
  obtain ⟨e0, e1⟩ := hy
  rw [hy0] at e0
  simp only [DataW.lit.injEq, Lit.int.injEq, true_and] at e0
  rcases DataW.trod_slice Tryz.underlying237 t1 with ⟨_, hx⟩ | ⟨a, len, cap, elems, rest, m', _, hc, hx, _, _, _, hel, hi, _, _⟩
  · rw [hx] at e1; cases e1
  · injection hc with hc
    rw [hx] at e1
    simp only [DataW.slice.injEq] at e1
    have hC : Tryz.prog.cellsOf 249 = 2 := by kernel_rfl
    have hlen : len = (opsP n).length := by rw [← hel]; have := congrArg List.length e1.1; simpa using this
    rw [hC] at hi
    have cell : ∀ (i : Nat) p, (opsP n)[i]? = some p → W.cell? ((a.add (i * 2)).add 0) = some (.string ⟨p.1.toArray⟩) ∧ W.cell? ((a.add (i * 2)).add 1) = some (.int .i64 p.2) := fun i p hp => by
      have hil : i < len := by rw [hlen]; exact (List.getElem?_eq_some_iff.1 hp).1
      have h1 := hi i hil
      have h2 : (elems.map (·.1))[i]? = some (opD p) := by rw [e1.1]; simp [hp]
      rw [List.getElem?_map] at h2
      obtain ⟨z, hz, hz1⟩ := Option.map_eq_some_iff.1 h2
      rw [hz] at h1
      obtain ⟨cs', hc1, ht⟩ := Option.bind_eq_some_iff.1 h1
      obtain ⟨_, _, hat⟩ := World.cells?_some hc1
      have := op_at ht hz1
      subst this
      exact ⟨by rw [hat 0 (by decide)]; rfl, by rw [hat 1 (by decide)]; rfl⟩
    obtain ⟨q, off, spot⟩ := a
    have hspot : spot = none := by
      obtain ⟨p, hp⟩ : ∃ p, (opsP n)[0]? = some p := ⟨_, List.getElem?_eq_getElem (List.length_pos_iff.2 hne)⟩
      have := World.cell?_spot (cell 0 p hp).1
      simpa [Addr.add] using this
    subst hspot
    refine ⟨q, off, cap, by rw [hcs, hv0, hc, ← e0, hlen], fun i p hp => ?_⟩
    have := cell i p hp
    rw [addr_add, addr_add, addr_add] at this
    exact this
end
theorem gLev : Tryz.prog.globalNamed "shuttlecock/parse.levels" = some 6 := by kernel_rfl
theorem gLevType : (Tryz.prog.globals[6]?).map (·.type) = some 240 := by kernel_rfl
theorem gPref : Tryz.prog.globalNamed "shuttlecock/parse.prefixes" = some 10 := by kernel_rfl
theorem gPrefType : (Tryz.prog.globals[10]?).map (·.type) = some 178 := by kernel_rfl

theorem gSigns : Tryz.prog.globalNamed "shuttlecock/lex.signs" = some 3 := by kernel_rfl
theorem gSignsType : (Tryz.prog.globals[3]?).map (·.type) = some 194 := by kernel_rfl
theorem gRange : Tryz.prog.globalNamed "strconv.ErrRange" = some 9 := by kernel_rfl
theorem gRangeType : (Tryz.prog.globals[9]?).map (·.type) = some 165 := by kernel_rfl
theorem starErr : "*errors.errorString" = "*" ++ "errors.errorString" := by decide
theorem rowErr (u : TypeId) (h : Tryz.prog.typeName? 3 u = some "*errors.errorString") : u = 253 :=
  typeName_ptr_named (nm := "errors.errorString") (by rw [← starErr]; kernel_rfl) (by kernel_rfl) (by decide) u (by rw [← starErr]; exact h)

set_option maxRecDepth 100000 in
theorem shapes_at5 {W : World} {rest} (h : laidMet Tryz.prog (Rows.parseTellsRow.laid ++ rest) W) : ShapesAt W := by
  obtain ⟨ps, ⟨g', t', cs, fuel, p, q, hg', ht', hvar, hd, _, _⟩, _⟩ := h.tail.tail.tail
  obtain rfl := Option.some.inj (gShapes.symm.trans hg')
  obtain rfl := Option.some.inj (gShapesType.symm.trans ht')
  have hc := cells_of_rows (rows := shapesL) Tryz.underlying203 Tryz.underlying202 (by kernel_rfl) (by kernel_rfl) (by kernel_rfl) (fun j f hf m v l q h => by
      match j, hf with
      | 0, hf => obtain rfl := Option.some.inj hf; obtain ⟨n, hv, hx, _⟩ := DataW.trod_int Tryz.underlying3 h; injection hx with hx; injection hx with hx; subst hx; injection hv
      | 1, hf => obtain rfl := Option.some.inj hf; obtain ⟨n, hv, hx, _⟩ := DataW.trod_int Tryz.underlying2 h; injection hx with hx; injection hx with hx; subst hx; injection hv
      | 2, hf => obtain rfl := Option.some.inj hf; obtain ⟨n, hv, hx⟩ := DataW.trod_bool Tryz.underlying4 h; injection hx with hx; injection hx with hx; subst hx; injection hv
      | 3, hf => obtain rfl := Option.some.inj hf; obtain ⟨n, hv, hx, _⟩ := DataW.trod_int Tryz.underlying3 h; injection hx with hx; injection hx with hx; subst hx; injection hv
      | 4, hf => obtain rfl := Option.some.inj hf; obtain ⟨n, hv, hx, _⟩ := DataW.trod_int Tryz.underlying3 h; injection hx with hx; injection hx with hx; subst hx; injection hv
      | j + 5, hf => simp at hf) (by simp [shapesL]) hd
  intro i j r l hi hj
  have := World.var?_cell gShapes hvar (i * 5 + j)
  rw [this]
  simpa using hc i j r l hi hj
set_option maxRecDepth 100000 in
theorem lexEnv_at5 {W : World} {rest} (h : laidMet Tryz.prog (Rows.parseTellsRow.laid ++ rest) W) (hs : W.ShapedOpen Tryz.prog) : LexEnv W := by
  refine ⟨?_, .inr ?_, ?_⟩
  · exact Go.Proofs.cell_of_shapedOpen_int (zero := #[.int .i64 0]) (t := 3) hs (of_decide_eq_true (by kernel_rfl)) (by kernel_rfl) rfl (by kernel_rfl) (by kernel_rfl) Tryz.underlying3
  · obtain ⟨ps, ⟨g', t', cs, fuel, p, q, hg', ht', hvar, hd, _, _⟩, _⟩ := h.tail.tail.tail.tail.tail.tail
    obtain rfl := Option.some.inj (gSigns.symm.trans hg')
    obtain rfl := Option.some.inj (gSignsType.symm.trans ht')
    have hc := cells_of_texts5 (rows := signsL) Tryz.underlying194 Tryz.underlying9 (by kernel_rfl) hd
    intro i l hi
    have := World.var?_cell gSigns hvar i
    rw [this]
    simpa using hc i l hi
  · obtain ⟨a, s, hv, _⟩ := laid_sentinel h.tail.tail.tail.tail gRange gRangeType Tryz.underlying165 rowErr Tryz.underlying253 Tryz.underlying255 rfl rfl Tryz.underlying9 (by kernel_rfl) (by kernel_rfl)
    exact ⟨_, _, by have := World.var?_cell gRange hv 0; simpa using this⟩
set_option maxRecDepth 100000 in
theorem paEnv_at5 {W : World} {rest} (h : laidMet Tryz.prog (Rows.parseTellsRow.laid ++ rest) W) : PaEnv W.heap.size W := by
  have hpre : ∀ (i : Nat) t, presT[i]? = some t → W.cell? ⟨10, i, none⟩ = some (.string ⟨t.toArray⟩) := by
    obtain ⟨ps, ⟨g', t', cs, fuel, p, q, hg', ht', hvar, hd, _, _⟩, _⟩ := h.tail.tail.tail.tail.tail.tail.tail.tail
    obtain rfl := Option.some.inj (gPref.symm.trans hg')
    obtain rfl := Option.some.inj (gPrefType.symm.trans ht')
    have hc := cells_of_texts5 (rows := presT) Tryz.underlying178 Tryz.underlying9 (by kernel_rfl) hd
    intro i l hi
    have := World.var?_cell gPref hvar i
    rw [this]
    simpa using hc i l hi
  have hlev : ∀ n, n < 7 → W.cell? ⟨6, n * 2, none⟩ = some (.int .i64 (joinZ n)) ∧ ∃ q off c, W.cell? ⟨6, n * 2 + 1, none⟩ = some (.slice (some ⟨q, off, none⟩) (opsP n).length c) ∧ q < W.heap.size ∧
      ∀ (i : Nat) p, (opsP n)[i]? = some p → W.cell? ⟨q, off + i * 2, none⟩ = some (.string ⟨p.1.toArray⟩) ∧ W.cell? ⟨q, off + i * 2 + 1, none⟩ = some (.int .i64 p.2) := by
    obtain ⟨ps, ⟨g', t', cs, fuel, p, q, hg', ht', hvar, hd, _, _⟩, _⟩ := h.tail.tail.tail.tail.tail.tail.tail
    obtain rfl := Option.some.inj (gLev.symm.trans hg')
    obtain rfl := Option.some.inj (gLevType.symm.trans ht')
    obtain ⟨xs, m, _, hx, hlen, hn, hel⟩ := DataW.trod_array Tryz.underlying240 hd
    have hC : Tryz.prog.cellsOf 239 = 2 := by kernel_rfl
    rw [hC] at hel
    have hxs : xs.map (·.1) = (List.range 7).map levD := by
      injection hx with hx _
      rw [levels_data] at hx
      injection hx with hx
      exact hx.symm
    intro n h7
    have h1 := hel n h7
    have h2 : (xs.map (·.1))[n]? = some (levD n) := by rw [hxs]; simp [h7]
    rw [List.getElem?_map] at h2
    obtain ⟨y, hy, hy1⟩ := Option.map_eq_some_iff.1 h2
    rw [hy] at h1
    have hne : opsP n ≠ [] := by
      have : ∀ n, n < 7 → opsP n ≠ [] := by decide
      exact this n h7
    obtain ⟨q, off, c, hcs, hat⟩ := lev_at h1 hy1 hne
    have e0 : cs.toList[n * 2]? = some (.int .i64 (joinZ n)) := by
      have := congrArg (fun l : List Value => l[0]?) hcs
      simpa [List.getElem?_take, List.getElem?_drop] using this
    have e1 : cs.toList[n * 2 + 1]? = some (.slice (some ⟨q, off, none⟩) (opsP n).length c) := by
      have := congrArg (fun l : List Value => l[1]?) hcs
      simpa [List.getElem?_take, List.getElem?_drop] using this
    have k0 := World.var?_cell gLev hvar (n * 2)
    have k1 := World.var?_cell gLev hvar (n * 2 + 1)
    refine ⟨by rw [k0]; simpa using e0, q, off, c, by rw [k1]; simpa using e1, ?_, hat⟩
    obtain ⟨p, hp⟩ : ∃ p, (opsP n)[0]? = some p := ⟨_, List.getElem?_eq_getElem (List.length_pos_iff.2 hne)⟩
    exact World.block_lt_of_cell? W _ (hat 0 p hp).1
  exact ⟨hlev, hpre, World.block_lt_of_cell? W _ (hlev 0 (by decide)).1, World.block_lt_of_cell? W _ (hpre 0 _ rfl)⟩
end Go.Proofs.YtdabndiaflagpaaGreatDoor
