/- DERIVED. What the package-level variables hold when a law of layer 4 is called; a world for the witness. -/
import Derived.Test.YtfajnflfonechaaDoorLxC
import Derived.Test.YtfajnflfonechaaDoorRows
import Derived.Stop.LaidErr
import Derived.Shelf.Vars
import Derived.LaidMore
import Derived.OpenShut
import Derived.Deep.DeepWitnessRowRef
import Derived.Stop.Joined
namespace Go.Proofs.YtfajnflfonechaaDoor
open Go.RowKit

theorem gSigns : Tryd.prog.globalNamed "shuttlecock/lex.signs" = some 0 := by kernel_rfl
theorem gSignsType : (Tryd.prog.globals[0]?).map (·.type) = some 131 := by kernel_rfl
theorem gRange : Tryd.prog.globalNamed "strconv.ErrRange" = some 7 := by kernel_rfl
theorem gRangeType : (Tryd.prog.globals[7]?).map (·.type) = some 128 := by kernel_rfl
theorem starErr : "*errors.errorString" = "*" ++ "errors.errorString" := by decide
theorem rowErr (u : TypeId) (h : Tryd.prog.typeName? 3 u = some "*errors.errorString") : u = 191 :=
  typeName_ptr_named (nm := "errors.errorString") (by rw [← starErr]; kernel_rfl) (by kernel_rfl) (by decide) u (by rw [← starErr]; exact h)
set_option maxRecDepth 100000 in
/-- A table of texts, cell by cell. -/
theorem cells_of_texts {H : Type} {enc : TypeId × Value → H} {w : World} {base : Nat} {sp : Nat → Bool} {held : Bool} {n fuel : Nat} {t e : TypeId} {cs : List Value} {rows : List T} {p : List MemPlace} (ht : Tryd.prog.underlying t = some (.array n e)) (he : Tryd.prog.underlying e = some .string) (hC : Tryd.prog.cellsOf e = 1)
    (h : DataW.trod enc Tryd.prog w base sp held fuel t cs = some (.agg (rows.map fun l => .lit (.string l)), p)) : ∀ (i : Nat) (l : T), rows[i]? = some l → cs[i]? = some (.string ⟨l.toArray⟩) := by
  obtain ⟨xs, m, rfl, hx, hlen, hn, hel⟩ := DataW.trod_array ht h
  have hxs : rows.map (fun l => (DataW.lit (.string l) : DataW H)) = xs.map (·.1) := by
    injection hx with hx _
    injection hx
  intro i l hi
  have hin : i < n := by
    have := congrArg List.length hxs
    simp only [List.length_map] at this
    have := (List.getElem?_eq_some_iff.1 hi).1
    omega
  have h1 := hel i hin
  rw [hC, Nat.mul_one] at h1
  have h2 : (xs.map (·.1))[i]? = some (.lit (.string l)) := by rw [← hxs]; simp [hi]
  rw [List.getElem?_map] at h2
  cases hy : xs[i]? with
  | none => rw [hy] at h2; cases h2
  | some y =>
    rw [hy] at h1 h2
    injection h2 with h2
    obtain ⟨s, h3, h4, _⟩ := DataW.trod_string he h1
    rw [h4] at h2
    injection h2 with h2
    injection h2 with h2
    have h5 : cs[i]? = some (.string s) := by
      have := congrArg (fun l : List Value => l[0]?) h3
      simpa using this
    rw [h5, ← h2]
set_option maxRecDepth 100000 in
theorem lexEnv_at {W : World} (hL : laidMetH Tryd.prog Rows.lexTellsRow.laid W) (hs : W.ShapedOpen Tryd.prog) : LexEnv W := by
  have h : laidMet Tryd.prog Rows.lexTellsRow.laid W := hL
  refine ⟨?_, .inr ?_, ?_⟩
  · exact Go.Proofs.cell_of_shapedOpen_int (zero := #[.int .i64 0]) (t := 3) hs (of_decide_eq_true (by kernel_rfl)) (by kernel_rfl) rfl (by kernel_rfl) (by kernel_rfl) Tryd.underlying3
  · obtain ⟨ps, ⟨g', t', cs, fuel, p, q, hg', ht', hvar, hd, _, _⟩, _⟩ := h.tail.tail.tail.tail.tail
    obtain rfl := Option.some.inj (gSigns.symm.trans hg')
    obtain rfl := Option.some.inj (gSignsType.symm.trans ht')
    have hc := cells_of_texts (rows := signsL) Tryd.underlying131 Tryd.underlying9 (by kernel_rfl) hd
    intro i l hi
    have := World.var?_cell gSigns hvar i
    rw [this]
    simpa using hc i l hi
  · obtain ⟨a, s, hv, _⟩ := laid_sentinel h.tail.tail.tail gRange gRangeType Tryd.underlying128 rowErr Tryd.underlying191 Tryd.underlying193 rfl rfl Tryd.underlying9 (by kernel_rfl) (by kernel_rfl)
    exact ⟨_, _, by have := World.var?_cell gRange hv 0; simpa using this⟩

/-- THE WITNESS: the heap that the door's own run leaves. -/
theorem lex_door_met (os : Os) (args : Array Value) : laidMetH Tryd.prog Rows.lexTellsRow.laid ((World.doorLaid Tryd.prog 110 os).forCall (fun _ _ => 0) ⟨#[], args, []⟩).memory :=
  laidMetH_of_parts3 (fuel := 8) (laidMet_of_run' 8 (by kernel_rfl) (by kernel_rfl)) (by kernel_rfl) (by kernel_rfl)

end Go.Proofs.YtfajnflfonechaaDoor
