/- DERIVED. The printer's writer (a builder within it): its bytes; what it writes. -/
import Derived.Test.YtfajnflfonechaaDoorTree
import Derived.Test.YtfajnflfonechaaDoorPgm
import Derived.Test.YtfajnflfonechaaDoorShelf
import Derived.Lib.Strings
import Derived.Lib.Slices
import Derived.Lib.Builder
import Derived.Lib.AppendStr
import Derived.Lib.UnsafeStr
import Derived.Lib.MakeNoZero
import Derived.Laws.Externs
import Derived.Deep.LoopGhost
namespace Go.Proofs.YtfajnflfonechaaDoor
open Go.RowKit

/-- The writer at block b (from B on, as its buffer) holds these bytes. -/
def WS (B b : Nat) (l : T) (w : World) : Prop := Lib.IsBuilder 84 5 B b (Lib.byteCells l) w
/-- What writing leaves: all below B, and all that are neither bytes nor writers. -/
structure Wrote (B : Nat) (w w' : World) : Prop where
  below_ : Below B w w'
  keep_ : ∀ (q : Nat) (cs : Array Value) (t : TypeId) (fr : Nat × Nat), w.heap[q]? = some (Obj.cells cs t fr) → t ≠ 5 → t ≠ 84 → w'.heap[q]? = w.heap[q]?
theorem Wrote.refl (B : Nat) (w : World) : Wrote B w w := ⟨Below.refl _ _, fun _ _ _ _ _ _ _ => rfl⟩
theorem Wrote.trans {B : Nat} {a b c : World} (h : Wrote B a b) (k : Wrote B b c) : Wrote B a c := ⟨h.below_.trans k.below_, fun q cs t fr hq h1 h2 => (k.keep_ q cs t fr ((h.keep_ q cs t fr hq h1 h2).trans hq) h1 h2).trans (h.keep_ q cs t fr hq h1 h2)⟩
theorem Wrote.later {B : Nat} {w w' : World} (hB : B ≤ w.heap.size) (h : Below w.heap.size w w') : Wrote B w w' := ⟨h.mono hB, fun q _ _ _ hq _ _ => h.block q (Array.getElem?_eq_some_iff.1 hq).1⟩
theorem Wrote.row {B : Nat} {w w' : World} (h : Wrote B w w') {q : Nat} {t : TypeId} {cs : Array Value} (hq : Row w q t cs) (h1 : t ≠ 5 := by decide) (h2 : t ≠ 84 := by decide) : Row w' q t cs := (h.keep_ q cs t (0, 0) hq h1 h2).trans hq
theorem WS.later {B b : Nat} {l : T} {w w' : World} (h : WS B b l w) (hb : Below w.heap.size w w') : WS B b l w' := by
  have key : ∀ p, Lib.BuilderAt 84 5 B b p (Lib.byteCells l) w → Lib.BuilderAt 84 5 B b p (Lib.byteCells l) w' := fun p ⟨hB, v, hbk, hown, hne⟩ =>
    ⟨hB, v, (hb.block b (Array.getElem?_eq_some_iff.1 hbk).1).trans hbk, hown.kept (only_below hb none) (by cases hv : v.ownBlock with | none => exact .inl rfl | some q => exact .inr (by simp)), hne⟩
  rcases h with h | h
  · exact .inl (key _ h)
  · exact .inr (key _ h)
theorem WS.lt {B b : Nat} {l : T} {w : World} (h : WS B b l w) : b < w.heap.size ∧ B ≤ b := by
  rcases h with h | h
  · exact ⟨h.lt, h.1⟩
  · exact ⟨h.lt, h.1⟩
/-- A new one. -/
theorem WS.made (w : World) : WS w.heap.size w.heap.size [] (w.alloc (.cells #[.pointer none, .slice none 0 0] 84)) := by
  refine .inl ⟨Nat.le_refl _, .slice none 0 0, Row.made _ _ _, World.ownsRow_nil _ _ _ _, by simp [Value.ownBlock]⟩

theorem wr_sizeB : (Tryd.prog.info? 82).map (·.size) = some 2 := by kernel_rfl
theorem wr_lies : liesAt Tryd.prog Tryd.prog.depth 84 (2 / Tryd.prog.cellsOf 84) 0 82 1 = true := by kernel_rfl
theorem wr_byte : (Tryd.prog.info? 5).map (fun i => (i.zero, i.size, i.bytes)) = some (some (.int .u8 0), 1, 1) := by kernel_rfl

set_option maxHeartbeats 1000000 in
set_option maxRecDepth 100000 in
theorem cc_used (b : Nat) (w : World) (h0 : w.cell? ⟨b, 0, none⟩ = some (.pointer (some ⟨b, 0, none⟩))) :
    Calls Tryd.prog 103 #[.pointer (some ⟨b, 0, none⟩)] w fun e w' => e = .returned (.tuple #[]) ∧ w' = w := by
  obtain ⟨j, hj, _⟩ := Option.map_eq_some_iff.1 wr_sizeB
  go_enter Tryd.func103, Tryd.ntmps103
  go_wp2_with fail
  rw [Lib.run_neq_ptr_same w _ Tryd.underlying79 hj]
  go_wp2_with fail
  go_end0
  exact ⟨rfl, rfl⟩

set_option maxHeartbeats 1000000 in
set_option maxRecDepth 100000 in
theorem cc_fresh (b : Nat) (w : World) (h0 : w.cell? ⟨b, 0, none⟩ = some (.pointer none)) (hsh : w.shape? b = some (84, 2)) (hfz : w.frozen? ⟨b, 0, none⟩ = false) :
    Calls Tryd.prog 103 #[.pointer (some ⟨b, 0, none⟩)] w fun e w' => e = .returned (.tuple #[]) ∧ w' = w.setCell ⟨b, 0, none⟩ (.pointer (some ⟨b, 0, none⟩)) := by
  obtain ⟨j, hj, hjs⟩ := Option.map_eq_some_iff.1 wr_sizeB
  go_enter Tryd.func103, Tryd.ntmps103
  go_wp2_with fail
  rw [Lib.run_to_unsafe w ⟨b, 0, none⟩ Tryd.underlying79 Tryd.underlying177 hj (by rw [hjs]; decide) hsh (Nat.zero_lt_succ 1)]
  simp only [Result.andThen]
  rw [Oper.upon_value]
  go_wp2_with fail
  rw [run_callFunc_extern Tryd.func120 (by kernel_rfl) (by kernel_rfl) (by kernel_rfl) (e := Extern.AbiNoEscape.same) (by kernel_rfl)]
  rw [Lib.run_noEscape]
  simp only [Result.andThen]
  rw [Oper.upon_value]
  go_wp2_with fail
  rw [Lib.run_from_unsafe w ⟨b, 0, none⟩ Tryd.underlying177 Tryd.underlying79 hj hsh wr_lies]
  simp only [Result.andThen]
  rw [Oper.upon_value]
  go_wp2_with fail
  go_end0
  exact ⟨rfl, rfl⟩

theorem cc_any (B b : Nat) (bs : List Value) (w : World) (h : Lib.IsBuilder 84 5 B b bs w) :
    Calls Tryd.prog 103 #[.pointer (some ⟨b, 0, none⟩)] w fun e w' => e = .returned (.tuple #[]) ∧ Lib.BuilderAt 84 5 B b (.pointer (some ⟨b, 0, none⟩)) bs w' ∧ Wrote B w w' := by
  rcases h with h | h
  · refine (cc_fresh b w h.cell0 h.shape h.frozen0).mono ?_
    rintro e w' ⟨rfl, rfl⟩
    obtain ⟨hB, v, hbk, _, _⟩ := id h
    refine ⟨rfl, h.used _, (Below.refl B w).setCell (p := ⟨b, 0, none⟩) h.1 _, fun q cs t fr hq _ h2 => Below.heap_setCell _ _ _ _ (fun e => ?_)⟩
    have e : q = b := e
    subst e
    rw [hbk] at hq
    injection hq with hq
    injection hq with _ hq _
    exact h2 hq.symm
  · refine (cc_used b w h.cell0).mono ?_
    rintro e w' ⟨rfl, rfl⟩
    exact ⟨rfl, h, Wrote.refl B _⟩

set_option maxHeartbeats 2000000 in
set_option maxRecDepth 100000 in
theorem ws_any (B b : Nat) (l x : T) (w : World) (h : WS B b l w) (hlen : l.length + x.length ≤ 140737488355328) (hBw : B ≤ w.heap.size) :
    Calls Tryd.prog 81 #[.pointer (some ⟨b, 0, none⟩), .string ⟨x.toArray⟩] w fun e w' => e = .returned (.tuple #[.int .i64 x.length, .nilIface]) ∧ WS B b (l ++ x) w' ∧ Wrote B w w' := by
  obtain ⟨i0, hi, hz0, hz1, hz2⟩ := info_parts wr_byte
  go_enter Tryd.func81, Tryd.ntmps81
  go_wp2_with (go_at_call 103; refine (cc_any B b _ _ h).mono ?_)
  rintro e w1 ⟨rfl, h1, hb1⟩
  obtain ⟨hB, v, hbk, hown, hne⟩ := h1
  have hbl := hb1.below_
  have c0 : w1.cell? ⟨b, 0, none⟩ = some (.pointer (some ⟨b, 0, none⟩)) := by rw [Lib.cell_of_heap hbk]; rfl
  have c1 : w1.cell? ⟨b, 1, none⟩ = some v := by rw [Lib.cell_of_heap hbk]; rfl
  have hsz : (⟨x.toArray⟩ : ByteArray).size = x.length := by simp [ByteArray.size]
  go_wp2_with (at_builtin; refine Lib.wpList_append_own_string _ rfl _ _ 80 9 rfl B 5 i0 Tryd.underlying80 Tryd.underlying9 hi hz0 hz1 hz2 _ _ _ rfl hown ⟨x.toArray⟩ rfl ?c3 ?c4 ?c5 ?_)
  case c3 => rw [hsz, Lib.byteCells_length]; unfold maxLen; omega
  case c4 => rw [hsz, Lib.byteCells_length]; omega
  case c5 => have := hbl.size; omega
  intro v' w2 hown' hgrow _
  have hlt : b < w1.heap.size := by
    rcases Nat.lt_or_ge b w1.heap.size with h' | h'
    · exact h'
    · simp [Array.getElem?_eq_none h'] at hbk
  have hb2 : w2.heap[b]? = some (.cells #[.pointer (some ⟨b, 0, none⟩), v] 84 (0, 0)) := by
    rw [hgrow.block b hlt (fun e => hne e.symm)]
    exact hbk
  have d0 : w2.cell? ⟨b, 0, none⟩ = some (.pointer (some ⟨b, 0, none⟩)) := by rw [Lib.cell_of_heap hb2]; rfl
  have d1 : w2.cell? ⟨b, 1, none⟩ = some v := by rw [Lib.cell_of_heap hb2]; rfl
  have f1 : w2.frozen? ⟨b, 1, none⟩ = false := Lib.frozen_of_heap hb2 1
  obtain ⟨ao, n', cap, rfl⟩ : ∃ ao n' cap, v' = .slice ao n' cap := by
    rcases hown'.2 with ⟨hv, _⟩ | ⟨g, cap, cur, hv, _⟩
    · exact ⟨_, _, _, hv⟩
    · exact ⟨_, _, _, hv⟩
  go_wp2_with fail
  go_ret2
  refine ⟨rfl, ?_, ?_⟩
  · refine .inr (Lib.BuilderAt.put (T := 84) (e := 5) hB hb2 (bs' := Lib.byteCells (l ++ x)) ?_ (by decide))
    rw [Lib.byteCells_append, List.length_append, Lib.byteCells_length, Lib.byteCells_length]
    rw [Lib.byteCells_length, show Lib.strCells ⟨x.toArray⟩ = Lib.byteCells x from rfl] at hown'
    exact hown'
  · refine hb1.trans ⟨((Below.refl B w1).grown hgrow (by have := hbl.size; omega) (fun k hk => (hown.lt k hk).1)).setCell (p := ⟨b, 1, none⟩) hB _, fun q cs t fr hq g1 g2 => ?_⟩
    have hqb : q ≠ b := by
      intro e
      subst e
      rw [hbk] at hq
      injection hq with hq
      injection hq with _ hq _
      exact g2 hq.symm
    rw [Below.heap_setCell _ _ _ _ hqb]
    refine hgrow.block q (Array.getElem?_eq_some_iff.1 hq).1 fun e => ?_
    rcases hown.2 with ⟨rfl, _⟩ | ⟨g, cap', cur, rfl, _, hg, _⟩
    · simp [Value.ownBlock] at e
    · simp only [Value.ownBlock, Option.some.injEq] at e
      subst e
      rw [hg] at hq
      injection hq with hq
      injection hq with _ hq _
      exact g1 hq.symm

/-- A row of texts of the caller's. -/
def txs (ts : List T) : Array Value := (ts.map fun t => Value.string ⟨t.toArray⟩).toArray
set_option maxHeartbeats 2000000 in
set_option maxRecDepth 100000 in
theorem put_any (B b : Nat) (l : T) (ts : List T) (g c : Nat) (w : World) (h : WS B b l w) (hlen : l.length + ts.flatten.length ≤ 1000000000) (hfew : ts.length ≤ 1000) (hBw : B ≤ w.heap.size) (hg : Row w g 9 (txs ts)) :
    Calls Tryd.prog 53 #[.pointer (some ⟨b, 0, none⟩), .slice (some ⟨g, 0, none⟩) ts.length c] w fun e w' => e = .returned (.tuple #[]) ∧ WS B b (l ++ ts.flatten) w' ∧ Wrote B w w' := by
  have HL := Lib.hid hlen
  have HH := Lib.hid h
  have HG := Lib.hid hg
  clear hlen h hg
  go_enter Tryd.func53, Tryd.ntmps53
  go_wp2_with fail
  go_loopg [8] ts.length (fun g' k wr => ∃ i : Nat, i + g' = ts.length ∧ k = .int .i64 (i : Int) ∧ WS B b (l ++ (ts.take i).flatten) wr ∧ Wrote B w wr)
  case atStart => exact ⟨0, by omega, rfl, by simpa using HH.out, Wrote.refl _ _⟩
  case round =>
    obtain ⟨i, hi, rfl, hws, hwr⟩ := hrel
    have HWS := Lib.hid hws
    have HWR := Lib.hid hwr
    clear hws hwr
    by_cases hit : i < ts.length
    · obtain ⟨t, ht⟩ : ∃ t, ts[i]? = some t := ⟨_, List.getElem?_eq_getElem hit⟩
      have hsn : (ts.take (i + 1)).flatten = (ts.take i).flatten ++ t := by rw [List.take_add_one, ht]; simp
      have HSN := Lib.hid hsn
      have hle : (l ++ (ts.take i).flatten).length + t.length ≤ 140737488355328 := by
        have h1 : (ts.take (i + 1)).flatten.length ≤ ts.flatten.length := by
          conv => rhs; rw [← List.take_append_drop (i + 1) ts, List.flatten_append, List.length_append]
          omega
        rw [hsn, List.length_append] at h1
        have := HL.out
        rw [List.length_append]
        omega
      have c0 : wr.cell? ⟨g, i, none⟩ = some (.string ⟨t.toArray⟩) := by
        rw [(HWR.out.row HG.out).cell i]
        simp [txs, ht]
      have HW := Lib.hid (ws_any B b _ t wr HWS.out hle (Nat.le_trans hBw HWR.out.below_.size))
      clear hsn ht hle
      go_wp2_with (go_at_call 81; refine HW.out.mono ?_; rintro e w9 ⟨rfl, hs9, hw9⟩; have HS9 := Lib.hid hs9; have HW9 := Lib.hid hw9; clear hs9 hw9)
      go_roundg (ts.length - (i + 1))
      case rel => exact ⟨i + 1, by omega, by go_num, by rw [HSN.out, ← List.append_assoc]; exact HS9.out, HWR.out.trans HW9.out⟩
      case measure => omega
    · obtain rfl : i = ts.length := by omega
      go_wp2_with fail
      go_end0
      exact ⟨rfl, by have := HWS.out; rw [List.take_length] at this; exact this, HWR.out⟩

/-! ### Its text -/
theorem usNone (W : World) (q : Option Addr) : (Builtin.unsafeString_ #[111, 3] 9 #[.pointer q, .int .i64 0]).run Tryd.prog W = .ok (.string .empty) W := Lib.run_unsafeString_none W _ _ _ q
set_option maxHeartbeats 2000000 in
set_option maxRecDepth 100000 in
theorem wstr_some (B b : Nat) (l : T) (w : World) (h : WS B b l w) (h0 : l ≠ []) :
    Calls Tryd.prog 31 #[.pointer (some ⟨b, 0, none⟩)] w fun e w' => e = .returned (.string ⟨l.toArray⟩) ∧ Below B w w' := by
  obtain ⟨p, hB, v, hbk, hown, hne⟩ : ∃ p, Lib.BuilderAt 84 5 B b p (Lib.byteCells l) w := by
    rcases h with h | h
    · exact ⟨_, h⟩
    · exact ⟨_, h⟩
  have hl0 : l.length ≠ 0 := by simpa using h0
  rw [Lib.byteCells_length] at hown
  obtain ⟨g, cap, cur, rfl, hbg, hg, hnc, hcm, hcs, htake⟩ : ∃ g cap cur, v = .slice (some ⟨g, 0, none⟩) l.length cap ∧ B ≤ g ∧ w.heap[g]? = some (.cells cur 5 (0, 0)) ∧ l.length ≤ cap ∧ cap ≤ maxLen ∧ cur.size = cap * 1 ∧ cur.toList.take (l.length * 1) = Lib.byteCells l := by
    rcases hown.2 with ⟨_, hz⟩ | ⟨g, cap, cur, hv, r⟩
    · exact absurd hz hl0
    · exact ⟨g, cap, cur, hv, r⟩
  have c1 : w.drew.cell? ⟨b, 1, none⟩ = some (.slice (some ⟨g, 0, none⟩) l.length cap) := by
    have : w.drew.heap[b]? = some (.cells #[p, .slice (some ⟨g, 0, none⟩) l.length cap] 84 (0, 0)) := hbk
    rw [Lib.cell_of_heap this]; rfl
  have hSD : (Builtin.unsafeSliceData_ #[80] 111 #[.slice (some ⟨g, 0, none⟩) l.length cap]).run Tryd.prog w.drew = .ok (.pointer (some ⟨g, 0, none⟩)) w.drew :=
    Lib.run_unsafeSliceData_row _ _ _ _ _ _ (by omega)
  have hUS : (Builtin.unsafeString_ #[111, 3] 9 #[.pointer (some ⟨g, 0, none⟩), .int .i64 l.length]).run Tryd.prog w.drew = .ok (.string ⟨l.toArray⟩) (w.drew.freeze ⟨g, 0, none⟩ l.length) := by
    refine Lib.run_unsafeString_row w.drew 111 3 9 5 Tryd.underlying111 (by kernel_rfl) g cur.size (by have hg' : w.drew.heap[g]? = some (.cells cur 5 (0, 0)) := hg; simp [World.shape?, hg']) l h0 (by omega) (by unfold maxLen at hcm; omega) ?_
    intro j x hx
    have := hown.cells (g := g) rfl j (.int .u8 x.toNat) (by simp [Lib.byteCells, hx])
    exact this
  go_enter Tryd.func31, Tryd.ntmps31
  go_wp2_with fail
  go_region
  all_goals (go_wp2_with fail; go_ret; exact ⟨rfl, Lib.below_freeze (Below.drew (Below.refl B w)) (p := ⟨g, 0, none⟩) hbg _⟩)

set_option maxHeartbeats 2000000 in
set_option maxRecDepth 100000 in
theorem wstr_none (B b : Nat) (w : World) (h : WS B b [] w) (hBw : B ≤ w.heap.size) :
    Calls Tryd.prog 31 #[.pointer (some ⟨b, 0, none⟩)] w fun e w' => e = .returned (.string ⟨#[]⟩) ∧ Below B w w' := by
  obtain ⟨p, hB, v, hbk, hown, hne⟩ : ∃ p, Lib.BuilderAt 84 5 B b p (Lib.byteCells []) w := by
    rcases h with h | h
    · exact ⟨_, h⟩
    · exact ⟨_, h⟩
  have hlt : b < w.heap.size := (Array.getElem?_eq_some_iff.1 hbk).1
  have hUS := usNone
  rcases hown.2 with ⟨rfl, _⟩ | ⟨g, cap, cur, rfl, _, hg, _⟩
  · have c1 : w.drew.cell? ⟨b, 1, none⟩ = some (.slice none 0 0) := by
      have : w.drew.heap[b]? = some (.cells #[p, .slice none 0 0] 84 (0, 0)) := hbk
      rw [Lib.cell_of_heap this]; rfl
    have hSD : (Builtin.unsafeSliceData_ #[80] 111 #[.slice none 0 0]).run Tryd.prog w.drew = .ok (.pointer none) w.drew := rfl
    go_enter Tryd.func31, Tryd.ntmps31
    go_wp2_with fail
    go_region
    all_goals (go_wp2_with fail; go_ret; exact ⟨rfl, Below.drew (Below.refl B w)⟩)
  · have hz : (Lib.byteCells []).length = 0 := rfl
    rw [hz] at hbk hown
    by_cases hc0 : cap = 0
    · subst hc0
      have c1 : w.drew.cell? ⟨b, 1, none⟩ = some (.slice (some ⟨g, 0, none⟩) 0 0) := by
        have : w.drew.heap[b]? = some (.cells #[p, .slice (some ⟨g, 0, none⟩) 0 0] 84 (0, 0)) := hbk
        rw [Lib.cell_of_heap this]; rfl
      have hSD : (Builtin.unsafeSliceData_ #[80] 111 #[.slice (some ⟨g, 0, none⟩) 0 0]).run Tryd.prog w.drew = .ok (.pointer (some ⟨w.drew.heap.size, 0, none⟩)) (w.drew.alloc (.view ⟨g, 0, none⟩ 5)) :=
        Lib.run_unsafeSliceData_zero w.drew _ _ 5 Tryd.underlying111 ⟨g, 0, none⟩ 0 (5, cur.size) (by have hg' : w.drew.heap[g]? = some (.cells cur 5 (0, 0)) := hg; simp [World.shape?, hg'])
      have c2 : (w.drew.alloc (.view ⟨g, 0, none⟩ 5)).cell? ⟨b, 1, none⟩ = some (.slice (some ⟨g, 0, none⟩) 0 0) := by
        have : (w.drew.alloc (.view ⟨g, 0, none⟩ 5)).heap[b]? = _ := (Lib.alloc_old w.drew _ b hlt).trans hbk
        rw [Lib.cell_of_heap this]; rfl
      have c3 : (w.alloc (.view ⟨g, 0, none⟩ 5)).drew.cell? ⟨b, 1, none⟩ = some (.slice (some ⟨g, 0, none⟩) 0 0) := c2
      have c0 : w.cell? ⟨b, 1, none⟩ = some (.slice (some ⟨g, 0, none⟩) 0 0) := c1
      go_enter Tryd.func31, Tryd.ntmps31
      go_wp2_with fail
      go_region
      all_goals (go_wp2_with fail; go_ret; exact ⟨rfl, (Below.drew (Below.refl B w)).alloc hBw _⟩)
    · have c1 : w.drew.cell? ⟨b, 1, none⟩ = some (.slice (some ⟨g, 0, none⟩) 0 cap) := by
        have : w.drew.heap[b]? = some (.cells #[p, .slice (some ⟨g, 0, none⟩) 0 cap] 84 (0, 0)) := hbk
        rw [Lib.cell_of_heap this]; rfl
      have hSD : (Builtin.unsafeSliceData_ #[80] 111 #[.slice (some ⟨g, 0, none⟩) 0 cap]).run Tryd.prog w.drew = .ok (.pointer (some ⟨g, 0, none⟩)) w.drew :=
        Lib.run_unsafeSliceData_row _ _ _ _ _ _ hc0
      clear hc0
      go_enter Tryd.func31, Tryd.ntmps31
      go_wp2_with fail
      go_region
      all_goals (go_wp2_with fail; go_ret; exact ⟨rfl, Below.drew (Below.refl B w)⟩)
theorem wstr_any (B b : Nat) (l : T) (w : World) (h : WS B b l w) (hBw : B ≤ w.heap.size) :
    Calls Tryd.prog 31 #[.pointer (some ⟨b, 0, none⟩)] w fun e w' => e = .returned (.string ⟨l.toArray⟩) ∧ Below B w w' := by
  by_cases h0 : l = []
  · subst h0; exact wstr_none B b w h hBw
  · exact wstr_some B b l w h h0

end Go.Proofs.YtfajnflfonechaaDoor
