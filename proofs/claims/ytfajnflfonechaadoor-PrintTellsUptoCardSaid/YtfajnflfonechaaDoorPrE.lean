/- DERIVED. What the package-level variables hold when the law of Print is called; a world for the witness. -/
import Derived.Test.YtfajnflfonechaaDoorWe
import Derived.Test.YtfajnflfonechaaDoorRows
import Derived.Stop.LaidErr
import Derived.Shelf.Vars
import Derived.LaidMore
import Derived.OpenShut
import Derived.Deep.DeepWitnessRowRef
import Derived.Stop.Joined
import Derived.Test.YtfajnflfonechaaDoorPq
namespace Go.Proofs.YtfajnflfonechaaDoor
open Go.RowKit

set_option maxRecDepth 100000 in
/-- A table of texts, cell by cell. -/
theorem cells_of_texts6 {H : Type} {enc : TypeId × Value → H} {w : World} {base : Nat} {sp : Nat → Bool} {held : Bool} {n fuel : Nat} {t e : TypeId} {cs : List Value} {rows : List T} {p : List MemPlace} (ht : Tryd.prog.underlying t = some (.array n e)) (he : Tryd.prog.underlying e = some .string) (hC : Tryd.prog.cellsOf e = 1)
    (h : DataW.trod enc Tryd.prog w base sp held fuel t cs = some (.agg (rows.map fun l => .lit (.string l)), p)) : ∀ (i : Nat) (l : T), rows[i]? = some l → cs[i]? = some (.string ⟨l.toArray⟩) := by
  obtain ⟨xs, m, rfl, hx, hlen, hn, hel⟩ := DataW.trod_array ht h
  have hxs : rows.map (fun l => (DataW.lit (.string l) : DataW H)) = xs.map (·.1) := by
    injection hx with hx _
    injection hx
  intro i l hi
  have hin : i < n := by
    have := congrArg List.length hxs
    simp only [List.length_map] at this
    have := (List.getElem?_eq_some_iff.1 hi).1
    omega
  have h1 := hel i hin
  rw [hC, Nat.mul_one] at h1
  have h2 : (xs.map (·.1))[i]? = some (.lit (.string l)) := by rw [← hxs]; simp [hi]
  rw [List.getElem?_map] at h2
  cases hy : xs[i]? with
  | none => rw [hy] at h2; cases h2
  | some y =>
    rw [hy] at h1 h2
    injection h2 with h2
    obtain ⟨s, h3, h4, _⟩ := DataW.trod_string he h1
    rw [h4] at h2
    injection h2 with h2
    injection h2 with h2
    have h5 : cs[i]? = some (.string s) := by
      have := congrArg (fun l : List Value => l[0]?) h3
      simpa using this
    rw [h5, ← h2]
theorem gOps : Tryd.prog.globalNamed "shuttlecock/print.operators" = some 3 := by kernel_rfl
theorem gOpsType : (Tryd.prog.globals[3]?).map (·.type) = some 149 := by kernel_rfl
theorem gPre : Tryd.prog.globalNamed "shuttlecock/print.prefixes" = some 2 := by kernel_rfl
theorem gPreType : (Tryd.prog.globals[2]?).map (·.type) = some 145 := by kernel_rfl
theorem gTyp : Tryd.prog.globalNamed "shuttlecock/print.types" = some 1 := by kernel_rfl
theorem gTypType : (Tryd.prog.globals[1]?).map (·.type) = some 139 := by kernel_rfl
theorem gPowType : (Tryd.prog.globals[5]?).map (·.type) = some 180 := by kernel_rfl
def opRows : List (List Lit) := (List.range 16).map fun i => [.string (opS.getD i []), .int .i64 (levL.getD i 0)]
set_option maxRecDepth 100000 in
theorem printEnv_at {W : World} (hL : laidMetH Tryd.prog Rows.printTellsUptoRow.laid W) : ShapesAt W ∧ PrEnv W.heap.size W := by
  have h : laidMet Tryd.prog Rows.printTellsUptoRow.laid W := hL
  have hpow : Lib.TabIs Tryd.prog W "internal/strconv.uint64pow10" .u64 Lib.pow10Tab :=
    Lib.tabIs_of_head gPow gPowType Tryd.underlying180 Tryd.underlying162 (by kernel_rfl) (by kernel_rfl) h.tail.tail
  have hops : ∀ (i j : Nat) (r : List Lit) (l : Lit), opRows[i]? = some r → r[j]? = some l → W.cell? ⟨3, i * 2 + j, none⟩ = some (litV l) := by
    obtain ⟨ps, ⟨g', t', cs, fuel, p, q, hg', ht', hvar, hd, _, _⟩, _⟩ := h.tail.tail.tail.tail
    obtain rfl := Option.some.inj (gOps.symm.trans hg')
    obtain rfl := Option.some.inj (gOpsType.symm.trans ht')
    have hc := cells_of_rows (rows := opRows) Tryd.underlying149 Tryd.underlying148 (by kernel_rfl) (by kernel_rfl) (by kernel_rfl) (fun j f hf m v l q h => by
      match j, hf with
      | 0, hf => obtain rfl := Option.some.inj hf; obtain ⟨n, hv, hx, _⟩ := DataW.trod_string Tryd.underlying9 h; injection hx with hx; injection hx with hx; subst hx; injection hv
      | 1, hf => obtain rfl := Option.some.inj hf; obtain ⟨n, hv, hx, _⟩ := DataW.trod_int Tryd.underlying3 h; injection hx with hx; injection hx with hx; subst hx; injection hv
      | j + 2, hf => simp at hf) (by simp [opRows]) hd
    intro i j r l hi hj
    have := World.var?_cell gOps hvar (i * 2 + j)
    rw [this]
    simpa using hc i j r l hi hj
  have hpre : ∀ (i : Nat) t, preS[i]? = some t → W.cell? ⟨2, i, none⟩ = some (.string ⟨t.toArray⟩) := by
    obtain ⟨ps, ⟨g', t', cs, fuel, p, q, hg', ht', hvar, hd, _, _⟩, _⟩ := h.tail.tail.tail.tail.tail
    obtain rfl := Option.some.inj (gPre.symm.trans hg')
    obtain rfl := Option.some.inj (gPreType.symm.trans ht')
    have hc := cells_of_texts6 (rows := preS) Tryd.underlying145 Tryd.underlying9 (by kernel_rfl) hd
    intro i l hi
    have := World.var?_cell gPre hvar i
    rw [this]
    simpa using hc i l hi
  have htyp : ∀ (i : Nat) t, ([[105, 110, 116], [98, 111, 111, 108]] : List T)[i]? = some t → W.cell? ⟨1, i, none⟩ = some (.string ⟨t.toArray⟩) := by
    obtain ⟨ps, ⟨g', t', cs, fuel, p, q, hg', ht', hvar, hd, _, _⟩, _⟩ := h.tail.tail.tail.tail.tail.tail
    obtain rfl := Option.some.inj (gTyp.symm.trans hg')
    obtain rfl := Option.some.inj (gTypType.symm.trans ht')
    have hc := cells_of_texts6 (rows := [[105, 110, 116], [98, 111, 111, 108]]) Tryd.underlying139 Tryd.underlying9 (by kernel_rfl) hd
    intro i l hi
    have := World.var?_cell gTyp hvar i
    rw [this]
    simpa using hc i l hi
  refine ⟨?_, fun i t hi => ?_, fun i z hi => ?_, hpre, htyp, hpow, ?_⟩
  · obtain ⟨ps, ⟨g', t', cs, fuel, p, q, hg', ht', hvar, hd, _, _⟩, _⟩ := h.tail.tail.tail
    obtain rfl := Option.some.inj (gShapes.symm.trans hg')
    obtain rfl := Option.some.inj (gShapesType.symm.trans ht')
    have hc := cells_of_rows (rows := shapesL) Tryd.underlying158 Tryd.underlying157 (by kernel_rfl) (by kernel_rfl) (by kernel_rfl) (fun j f hf m v l q h => by
        match j, hf with
        | 0, hf => obtain rfl := Option.some.inj hf; obtain ⟨n, hv, hx, _⟩ := DataW.trod_int Tryd.underlying3 h; injection hx with hx; injection hx with hx; subst hx; injection hv
        | 1, hf => obtain rfl := Option.some.inj hf; obtain ⟨n, hv, hx, _⟩ := DataW.trod_int Tryd.underlying2 h; injection hx with hx; injection hx with hx; subst hx; injection hv
        | 2, hf => obtain rfl := Option.some.inj hf; obtain ⟨n, hv, hx⟩ := DataW.trod_bool Tryd.underlying4 h; injection hx with hx; injection hx with hx; subst hx; injection hv
        | 3, hf => obtain rfl := Option.some.inj hf; obtain ⟨n, hv, hx, _⟩ := DataW.trod_int Tryd.underlying3 h; injection hx with hx; injection hx with hx; subst hx; injection hv
        | 4, hf => obtain rfl := Option.some.inj hf; obtain ⟨n, hv, hx, _⟩ := DataW.trod_int Tryd.underlying3 h; injection hx with hx; injection hx with hx; subst hx; injection hv
        | j + 5, hf => simp at hf) (by simp [shapesL]) hd
    intro i j r l hi hj
    have := World.var?_cell gShapes hvar (i * 5 + j)
    rw [this]
    simpa using hc i j r l hi hj
  · have hi16 : i < 16 := (List.getElem?_eq_some_iff.1 hi).1
    have h1 := hops i 0 [.string (opS.getD i []), .int .i64 (levL.getD i 0)] (.string (opS.getD i [])) (by simp [opRows, hi16]) rfl
    rw [Nat.add_zero] at h1
    rw [h1, List.getD_eq_getElem?_getD, hi]
    rfl
  · have hi16 : i < 16 := (List.getElem?_eq_some_iff.1 hi).1
    have h1 := hops i 1 [.string (opS.getD i []), .int .i64 (levL.getD i 0)] (.int .i64 (levL.getD i 0)) (by simp [opRows, hi16]) rfl
    rw [h1, List.getD_eq_getElem?_getD, hi]
    rfl
  · refine ⟨World.block_lt_of_cell? W _ (hops 0 0 _ _ rfl rfl), World.block_lt_of_cell? W _ (hpre 0 _ rfl), World.block_lt_of_cell? W _ (htyp 0 _ rfl), World.block_lt_of_cell? W _ (hpow.cell gPow 0 (by decide))⟩

/-- THE WITNESS: the heap that the door's own run leaves. -/
theorem print_door_met (os : Os) (args : Array Value) : laidMetH Tryd.prog Rows.printTellsUptoRow.laid ((World.doorLaid Tryd.prog 110 os).forCall (fun _ _ => 0) ⟨#[], args, []⟩).memory :=
  laidMetH_of_parts3 (fuel := 8) (laidMet_of_run' 8 (by kernel_rfl) (by kernel_rfl)) (by kernel_rfl) (by kernel_rfl)

end Go.Proofs.YtfajnflfonechaaDoor
