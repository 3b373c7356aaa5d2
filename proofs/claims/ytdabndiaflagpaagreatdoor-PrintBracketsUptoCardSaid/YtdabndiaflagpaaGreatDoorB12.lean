/- Parts: Great, Wr, We0. -/
import Derived.Test.YtdabndiaflagpaaGreatDoorB00
import Derived.Lib.Strings
import Derived.Lib.Slices
import Derived.Lib.Builder
import Derived.Lib.AppendStr
import Derived.Lib.UnsafeStr
import Derived.Lib.MakeNoZero
import Derived.Laws.Externs
import Derived.Deep.LoopGhost
import Derived.Test.YtdabndiaflagpaaGreatDoorB04
import Derived.Deep.CutRange
import Derived.Lib.AppendIntMem
set_option maxRecDepth 100000
set_option maxHeartbeats 4000000
set_option linter.unusedVariables false
namespace Go.Proofs.YtdabndiaflagpaaGreatDoor
open Go.RowKit

set_option maxRecDepth 100000 in
theorem aWord_any (s : T) (w : World) (hl : s.length ≤ 1099511627776) : Calls Tryz.prog 152 #[.string ⟨s.toArray⟩] w fun e w' => e = .returned (.bool (wordB s)) ∧ Below w.heap.size w w' := by
  go_enter Tryz.func152, Tryz.ntmps152
  go_wp2_with (first
    | (go_at_call 52; refine (allWords_any w).mono ?_; rintro e w1 ⟨b, rfl, hm, hlt, hb⟩; have HM : Hid (WMk w1 b wordsL.reverse) := hm; have HB := Lib.hid hb; clear hm hb)
    | (with_reducible refine wpList_ask (o := ⟨some 5, _, _, _, _, _⟩) rfl _ _ rfl b _ rfl HM.out s rfl (by unfold maxLen; omega) ?_))
  go_ret
  exact ⟨ret_d rfl, HB.out⟩

end Go.Proofs.YtdabndiaflagpaaGreatDoor
namespace Go.Proofs.YtdabndiaflagpaaGreatDoor
open Go.RowKit

/-- The writer at block b (from B on, as its buffer) holds these bytes. -/
def WS (B b : Nat) (l : T) (w : World) : Prop := Lib.IsBuilder 87 5 B b (Lib.byteCells l) w
/-- What writing leaves: all below B, and all that are neither bytes nor writers. -/
structure Wrote (B : Nat) (w w' : World) : Prop where
  below_ : Below B w w'
  keep_ : ∀ (q : Nat) (cs : Array Value) (t : TypeId) (fr : Nat × Nat), w.heap[q]? = some (Obj.cells cs t fr) → t ≠ 5 → t ≠ 87 → w'.heap[q]? = w.heap[q]?
theorem Wrote.refl (B : Nat) (w : World) : Wrote B w w := ⟨Below.refl _ _, fun _ _ _ _ _ _ _ => rfl⟩
theorem Wrote.trans {B : Nat} {a b c : World} (h : Wrote B a b) (k : Wrote B b c) : Wrote B a c := ⟨h.below_.trans k.below_, fun q cs t fr hq h1 h2 => (k.keep_ q cs t fr ((h.keep_ q cs t fr hq h1 h2).trans hq) h1 h2).trans (h.keep_ q cs t fr hq h1 h2)⟩
theorem Wrote.later {B : Nat} {w w' : World} (hB : B ≤ w.heap.size) (h : Below w.heap.size w w') : Wrote B w w' := ⟨h.mono hB, fun q _ _ _ hq _ _ => h.block q (Array.getElem?_eq_some_iff.1 hq).1⟩
theorem Wrote.row {B : Nat} {w w' : World} (h : Wrote B w w') {q : Nat} {t : TypeId} {cs : Array Value} (hq : Row w q t cs) (h1 : t ≠ 5 := by decide) (h2 : t ≠ 87 := by decide) : Row w' q t cs := (h.keep_ q cs t (0, 0) hq h1 h2).trans hq
theorem WS.later {B b : Nat} {l : T} {w w' : World} (h : WS B b l w) (hb : Below w.heap.size w w') : WS B b l w' := by
  have key : ∀ p, Lib.BuilderAt 87 5 B b p (Lib.byteCells l) w → Lib.BuilderAt 87 5 B b p (Lib.byteCells l) w' := fun p ⟨hB, v, hbk, hown, hne⟩ =>
    ⟨hB, v, (hb.block b (Array.getElem?_eq_some_iff.1 hbk).1).trans hbk, hown.kept (only_below hb none) (by cases hv : v.ownBlock with | none => exact .inl rfl | some q => exact .inr (by simp)), hne⟩
  rcases h with h | h
  · exact .inl (key _ h)
  · exact .inr (key _ h)
/-- A new one. -/
theorem WS.made (w : World) : WS w.heap.size w.heap.size [] (w.alloc (.cells #[.pointer none, .slice none 0 0] 87)) := by
  refine .inl ⟨Nat.le_refl _, .slice none 0 0, Row.made _ _ _, World.ownsRow_nil _ _ _ _, by simp [Value.ownBlock]⟩

theorem wr_sizeB : (Tryz.prog.info? 85).map (·.size) = some 2 := by kernel_rfl
theorem wr_lies : liesAt Tryz.prog Tryz.prog.depth 87 (2 / Tryz.prog.cellsOf 87) 0 85 1 = true := by kernel_rfl
theorem wr_byte : (Tryz.prog.info? 5).map (fun i => (i.zero, i.size, i.bytes)) = some (some (.int .u8 0), 1, 1) := by kernel_rfl

set_option maxHeartbeats 1000000 in
set_option maxRecDepth 100000 in
theorem cc_used (b : Nat) (w : World) (h0 : w.cell? ⟨b, 0, none⟩ = some (.pointer (some ⟨b, 0, none⟩))) :
    Calls Tryz.prog 120 #[.pointer (some ⟨b, 0, none⟩)] w fun e w' => e = .returned (.tuple #[]) ∧ w' = w := by
  obtain ⟨j, hj, _⟩ := Option.map_eq_some_iff.1 wr_sizeB
  go_enter Tryz.func120, Tryz.ntmps120
  go_wp2_with fail
  rw [Lib.run_neq_ptr_same w _ Tryz.underlying83 hj]
  go_wp2_with fail
  go_end0
  exact ⟨rfl, rfl⟩

set_option maxHeartbeats 1000000 in
set_option maxRecDepth 100000 in
theorem cc_fresh (b : Nat) (w : World) (h0 : w.cell? ⟨b, 0, none⟩ = some (.pointer none)) (hsh : w.shape? b = some (87, 2)) (hfz : w.frozen? ⟨b, 0, none⟩ = false) :
    Calls Tryz.prog 120 #[.pointer (some ⟨b, 0, none⟩)] w fun e w' => e = .returned (.tuple #[]) ∧ w' = w.setCell ⟨b, 0, none⟩ (.pointer (some ⟨b, 0, none⟩)) := by
  obtain ⟨j, hj, hjs⟩ := Option.map_eq_some_iff.1 wr_sizeB
  go_enter Tryz.func120, Tryz.ntmps120
  go_wp2_with fail
  rw [Lib.run_to_unsafe w ⟨b, 0, none⟩ Tryz.underlying83 Tryz.underlying213 hj (by rw [hjs]; decide) hsh (Nat.zero_lt_succ 1)]
  simp only [Result.andThen]
  rw [Oper.upon_value]
  go_wp2_with fail
  rw [run_callFunc_extern Tryz.func146 (by kernel_rfl) (by kernel_rfl) (by kernel_rfl) (e := Extern.AbiNoEscape.same) (by kernel_rfl)]
  rw [Lib.run_noEscape]
  simp only [Result.andThen]
  rw [Oper.upon_value]
  go_wp2_with fail
  rw [Lib.run_from_unsafe w ⟨b, 0, none⟩ Tryz.underlying213 Tryz.underlying83 hj hsh wr_lies]
  simp only [Result.andThen]
  rw [Oper.upon_value]
  go_wp2_with fail
  go_end0
  exact ⟨rfl, rfl⟩

theorem cc_any (B b : Nat) (bs : List Value) (w : World) (h : Lib.IsBuilder 87 5 B b bs w) :
    Calls Tryz.prog 120 #[.pointer (some ⟨b, 0, none⟩)] w fun e w' => e = .returned (.tuple #[]) ∧ Lib.BuilderAt 87 5 B b (.pointer (some ⟨b, 0, none⟩)) bs w' ∧ Wrote B w w' := by
  rcases h with h | h
  · refine (cc_fresh b w h.cell0 h.shape h.frozen0).mono ?_
    rintro e w' ⟨rfl, rfl⟩
    obtain ⟨hB, v, hbk, _, _⟩ := id h
    refine ⟨rfl, h.used _, (Below.refl B w).setCell (p := ⟨b, 0, none⟩) h.1 _, fun q cs t fr hq _ h2 => Below.heap_setCell _ _ _ _ (fun e => ?_)⟩
    have e : q = b := e
    subst e
    rw [hbk] at hq
    injection hq with hq
    injection hq with _ hq _
    exact h2 hq.symm
  · refine (cc_used b w h.cell0).mono ?_
    rintro e w' ⟨rfl, rfl⟩
    exact ⟨rfl, h, Wrote.refl B _⟩

set_option maxHeartbeats 2000000 in
set_option maxRecDepth 100000 in
theorem ws_any (B b : Nat) (l x : T) (w : World) (h : WS B b l w) (hlen : l.length + x.length ≤ 140737488355328) (hBw : B ≤ w.heap.size) :
    Calls Tryz.prog 93 #[.pointer (some ⟨b, 0, none⟩), .string ⟨x.toArray⟩] w fun e w' => e = .returned (.tuple #[.int .i64 x.length, .nilIface]) ∧ WS B b (l ++ x) w' ∧ Wrote B w w' := by
  obtain ⟨i0, hi, hz0, hz1, hz2⟩ := info_parts wr_byte
  go_enter Tryz.func93, Tryz.ntmps93
  go_wp2_with (go_at_call 120; refine (cc_any B b _ _ h).mono ?_)
  rintro e w1 ⟨rfl, h1, hb1⟩
  obtain ⟨hB, v, hbk, hown, hne⟩ := h1
  have hbl := hb1.below_
  have c0 : w1.cell? ⟨b, 0, none⟩ = some (.pointer (some ⟨b, 0, none⟩)) := by rw [Lib.cell_of_heap hbk]; rfl
  have c1 : w1.cell? ⟨b, 1, none⟩ = some v := by rw [Lib.cell_of_heap hbk]; rfl
  have hsz : (⟨x.toArray⟩ : ByteArray).size = x.length := by simp [ByteArray.size]
  go_wp2_with (at_builtin; refine Lib.wpList_append_own_string _ rfl _ _ 32 9 rfl B 5 i0 Tryz.underlying32 Tryz.underlying9 hi hz0 hz1 hz2 _ _ _ rfl hown ⟨x.toArray⟩ rfl ?c3 ?c4 ?c5 ?_)
  case c3 => rw [hsz, Lib.byteCells_length]; unfold maxLen; omega
  case c4 => rw [hsz, Lib.byteCells_length]; omega
  case c5 => have := hbl.size; omega
  intro v' w2 hown' hgrow _
  have hlt : b < w1.heap.size := by
    rcases Nat.lt_or_ge b w1.heap.size with h' | h'
    · exact h'
    · simp [Array.getElem?_eq_none h'] at hbk
  have hb2 : w2.heap[b]? = some (.cells #[.pointer (some ⟨b, 0, none⟩), v] 87 (0, 0)) := by
    rw [hgrow.block b hlt (fun e => hne e.symm)]
    exact hbk
  have d0 : w2.cell? ⟨b, 0, none⟩ = some (.pointer (some ⟨b, 0, none⟩)) := by rw [Lib.cell_of_heap hb2]; rfl
  have d1 : w2.cell? ⟨b, 1, none⟩ = some v := by rw [Lib.cell_of_heap hb2]; rfl
  have f1 : w2.frozen? ⟨b, 1, none⟩ = false := Lib.frozen_of_heap hb2 1
  obtain ⟨ao, n', cap, rfl⟩ : ∃ ao n' cap, v' = .slice ao n' cap := by
    rcases hown'.2 with ⟨hv, _⟩ | ⟨g, cap, cur, hv, _⟩
    · exact ⟨_, _, _, hv⟩
    · exact ⟨_, _, _, hv⟩
  go_wp2_with fail
  go_ret2
  refine ⟨rfl, ?_, ?_⟩
  · refine .inr (Lib.BuilderAt.put (T := 87) (e := 5) hB hb2 (bs' := Lib.byteCells (l ++ x)) ?_ (by decide))
    rw [Lib.byteCells_append, List.length_append, Lib.byteCells_length, Lib.byteCells_length]
    rw [Lib.byteCells_length, show Lib.strCells ⟨x.toArray⟩ = Lib.byteCells x from rfl] at hown'
    exact hown'
  · refine hb1.trans ⟨((Below.refl B w1).grown hgrow (by have := hbl.size; omega) (fun k hk => (hown.lt k hk).1)).setCell (p := ⟨b, 1, none⟩) hB _, fun q cs t fr hq g1 g2 => ?_⟩
    have hqb : q ≠ b := by
      intro e
      subst e
      rw [hbk] at hq
      injection hq with hq
      injection hq with _ hq _
      exact g2 hq.symm
    rw [Below.heap_setCell _ _ _ _ hqb]
    refine hgrow.block q (Array.getElem?_eq_some_iff.1 hq).1 fun e => ?_
    rcases hown.2 with ⟨rfl, _⟩ | ⟨g, cap', cur, rfl, _, hg, _⟩
    · simp [Value.ownBlock] at e
    · simp only [Value.ownBlock, Option.some.injEq] at e
      subst e
      rw [hg] at hq
      injection hq with hq
      injection hq with _ hq _
      exact g1 hq.symm

/-- A row of texts of the caller's. -/
def txs (ts : List T) : Array Value := (ts.map fun t => Value.string ⟨t.toArray⟩).toArray
set_option maxHeartbeats 2000000 in
set_option maxRecDepth 100000 in
theorem put_any (B b : Nat) (l : T) (ts : List T) (g c : Nat) (w : World) (h : WS B b l w) (hlen : l.length + ts.flatten.length ≤ 1000000000) (hfew : ts.length ≤ 1000) (hBw : B ≤ w.heap.size) (hg : Row w g 9 (txs ts)) :
    Calls Tryz.prog 56 #[.pointer (some ⟨b, 0, none⟩), .slice (some ⟨g, 0, none⟩) ts.length c] w fun e w' => e = .returned (.tuple #[]) ∧ WS B b (l ++ ts.flatten) w' ∧ Wrote B w w' := by
  have HL := Lib.hid hlen
  have HH := Lib.hid h
  have HG := Lib.hid hg
  clear hlen h hg
  go_enter Tryz.func56, Tryz.ntmps56
  go_wp2_with fail
  go_loopg [8] ts.length (fun g' k wr => ∃ i : Nat, i + g' = ts.length ∧ k = .int .i64 (i : Int) ∧ WS B b (l ++ (ts.take i).flatten) wr ∧ Wrote B w wr)
  case atStart => exact ⟨0, by omega, rfl, by simpa using HH.out, Wrote.refl _ _⟩
  case round =>
    obtain ⟨i, hi, rfl, hws, hwr⟩ := hrel
    have HWS := Lib.hid hws
    have HWR := Lib.hid hwr
    clear hws hwr
    by_cases hit : i < ts.length
    · obtain ⟨t, ht⟩ : ∃ t, ts[i]? = some t := ⟨_, List.getElem?_eq_getElem hit⟩
      have hsn : (ts.take (i + 1)).flatten = (ts.take i).flatten ++ t := by rw [List.take_add_one, ht]; simp
      have HSN := Lib.hid hsn
      have hle : (l ++ (ts.take i).flatten).length + t.length ≤ 140737488355328 := by
        have h1 : (ts.take (i + 1)).flatten.length ≤ ts.flatten.length := by
          conv => rhs; rw [← List.take_append_drop (i + 1) ts, List.flatten_append, List.length_append]
          omega
        rw [hsn, List.length_append] at h1
        have := HL.out
        rw [List.length_append]
        omega
      have c0 : wr.cell? ⟨g, i, none⟩ = some (.string ⟨t.toArray⟩) := by
        rw [(HWR.out.row HG.out).cell i]
        simp [txs, ht]
      have HW := Lib.hid (ws_any B b _ t wr HWS.out hle (Nat.le_trans hBw HWR.out.below_.size))
      clear hsn ht hle
      go_wp2_with (go_at_call 93; refine HW.out.mono ?_; rintro e w9 ⟨rfl, hs9, hw9⟩; have HS9 := Lib.hid hs9; have HW9 := Lib.hid hw9; clear hs9 hw9)
      go_roundg (ts.length - (i + 1))
      case rel => exact ⟨i + 1, by omega, by go_num, by rw [HSN.out, ← List.append_assoc]; exact HS9.out, HWR.out.trans HW9.out⟩
      case measure => omega
    · obtain rfl : i = ts.length := by omega
      go_wp2_with fail
      go_end0
      exact ⟨rfl, by have := HWS.out; rw [List.take_length] at this; exact this, HWR.out⟩

/-! ### Its text -/
theorem usNone (W : World) (q : Option Addr) : (Builtin.unsafeString_ #[133, 3] 9 #[.pointer q, .int .i64 0]).run Tryz.prog W = .ok (.string .empty) W := Lib.run_unsafeString_none W _ _ _ q
set_option maxHeartbeats 2000000 in
set_option maxRecDepth 100000 in
theorem wstr_some (B b : Nat) (l : T) (w : World) (h : WS B b l w) (h0 : l ≠ []) :
    Calls Tryz.prog 30 #[.pointer (some ⟨b, 0, none⟩)] w fun e w' => e = .returned (.string ⟨l.toArray⟩) ∧ Below B w w' := by
  obtain ⟨p, hB, v, hbk, hown, hne⟩ : ∃ p, Lib.BuilderAt 87 5 B b p (Lib.byteCells l) w := by
    rcases h with h | h
    · exact ⟨_, h⟩
    · exact ⟨_, h⟩
  have hl0 : l.length ≠ 0 := by simpa using h0
  rw [Lib.byteCells_length] at hown
  obtain ⟨g, cap, cur, rfl, hbg, hg, hnc, hcm, hcs, htake⟩ : ∃ g cap cur, v = .slice (some ⟨g, 0, none⟩) l.length cap ∧ B ≤ g ∧ w.heap[g]? = some (.cells cur 5 (0, 0)) ∧ l.length ≤ cap ∧ cap ≤ maxLen ∧ cur.size = cap * 1 ∧ cur.toList.take (l.length * 1) = Lib.byteCells l := by
    rcases hown.2 with ⟨_, hz⟩ | ⟨g, cap, cur, hv, r⟩
    · exact absurd hz hl0
    · exact ⟨g, cap, cur, hv, r⟩
  have c1 : w.drew.cell? ⟨b, 1, none⟩ = some (.slice (some ⟨g, 0, none⟩) l.length cap) := by
    have : w.drew.heap[b]? = some (.cells #[p, .slice (some ⟨g, 0, none⟩) l.length cap] 87 (0, 0)) := hbk
    rw [Lib.cell_of_heap this]; rfl
  have hSD : (Builtin.unsafeSliceData_ #[32] 133 #[.slice (some ⟨g, 0, none⟩) l.length cap]).run Tryz.prog w.drew = .ok (.pointer (some ⟨g, 0, none⟩)) w.drew :=
    Lib.run_unsafeSliceData_row _ _ _ _ _ _ (by omega)
  have hUS : (Builtin.unsafeString_ #[133, 3] 9 #[.pointer (some ⟨g, 0, none⟩), .int .i64 l.length]).run Tryz.prog w.drew = .ok (.string ⟨l.toArray⟩) (w.drew.freeze ⟨g, 0, none⟩ l.length) := by
    refine Lib.run_unsafeString_row w.drew 133 3 9 5 Tryz.underlying133 (by kernel_rfl) g cur.size (by have hg' : w.drew.heap[g]? = some (.cells cur 5 (0, 0)) := hg; simp [World.shape?, hg']) l h0 (by omega) (by unfold maxLen at hcm; omega) ?_
    intro j x hx
    have := hown.cells (g := g) rfl j (.int .u8 x.toNat) (by simp [Lib.byteCells, hx])
    exact this
  go_enter Tryz.func30, Tryz.ntmps30
  go_wp2_with fail
  go_region
  all_goals (go_wp2_with fail; go_ret; exact ⟨rfl, Lib.below_freeze (Below.drew (Below.refl B w)) (p := ⟨g, 0, none⟩) hbg _⟩)

set_option maxHeartbeats 2000000 in
set_option maxRecDepth 100000 in
theorem wstr_none (B b : Nat) (w : World) (h : WS B b [] w) (hBw : B ≤ w.heap.size) :
    Calls Tryz.prog 30 #[.pointer (some ⟨b, 0, none⟩)] w fun e w' => e = .returned (.string ⟨#[]⟩) ∧ Below B w w' := by
  obtain ⟨p, hB, v, hbk, hown, hne⟩ : ∃ p, Lib.BuilderAt 87 5 B b p (Lib.byteCells []) w := by
    rcases h with h | h
    · exact ⟨_, h⟩
    · exact ⟨_, h⟩
  have hlt : b < w.heap.size := (Array.getElem?_eq_some_iff.1 hbk).1
  have hUS := usNone
  rcases hown.2 with ⟨rfl, _⟩ | ⟨g, cap, cur, rfl, _, hg, _⟩
  · have c1 : w.drew.cell? ⟨b, 1, none⟩ = some (.slice none 0 0) := by
      have : w.drew.heap[b]? = some (.cells #[p, .slice none 0 0] 87 (0, 0)) := hbk
      rw [Lib.cell_of_heap this]; rfl
    have hSD : (Builtin.unsafeSliceData_ #[32] 133 #[.slice none 0 0]).run Tryz.prog w.drew = .ok (.pointer none) w.drew := rfl
    go_enter Tryz.func30, Tryz.ntmps30
    go_wp2_with fail
    go_region
    all_goals (go_wp2_with fail; go_ret; exact ⟨rfl, Below.drew (Below.refl B w)⟩)
  · have hz : (Lib.byteCells []).length = 0 := rfl
    rw [hz] at hbk hown
    by_cases hc0 : cap = 0
    · subst hc0
      have c1 : w.drew.cell? ⟨b, 1, none⟩ = some (.slice (some ⟨g, 0, none⟩) 0 0) := by
        have : w.drew.heap[b]? = some (.cells #[p, .slice (some ⟨g, 0, none⟩) 0 0] 87 (0, 0)) := hbk
        rw [Lib.cell_of_heap this]; rfl
      have hSD : (Builtin.unsafeSliceData_ #[32] 133 #[.slice (some ⟨g, 0, none⟩) 0 0]).run Tryz.prog w.drew = .ok (.pointer (some ⟨w.drew.heap.size, 0, none⟩)) (w.drew.alloc (.view ⟨g, 0, none⟩ 5)) :=
        Lib.run_unsafeSliceData_zero w.drew _ _ 5 Tryz.underlying133 ⟨g, 0, none⟩ 0 (5, cur.size) (by have hg' : w.drew.heap[g]? = some (.cells cur 5 (0, 0)) := hg; simp [World.shape?, hg'])
      have c2 : (w.drew.alloc (.view ⟨g, 0, none⟩ 5)).cell? ⟨b, 1, none⟩ = some (.slice (some ⟨g, 0, none⟩) 0 0) := by
        have : (w.drew.alloc (.view ⟨g, 0, none⟩ 5)).heap[b]? = _ := (Lib.alloc_old w.drew _ b hlt).trans hbk
        rw [Lib.cell_of_heap this]; rfl
      have c3 : (w.alloc (.view ⟨g, 0, none⟩ 5)).drew.cell? ⟨b, 1, none⟩ = some (.slice (some ⟨g, 0, none⟩) 0 0) := c2
      have c0 : w.cell? ⟨b, 1, none⟩ = some (.slice (some ⟨g, 0, none⟩) 0 0) := c1
      go_enter Tryz.func30, Tryz.ntmps30
      go_wp2_with fail
      go_region
      all_goals (go_wp2_with fail; go_ret; exact ⟨rfl, (Below.drew (Below.refl B w)).alloc hBw _⟩)
    · have c1 : w.drew.cell? ⟨b, 1, none⟩ = some (.slice (some ⟨g, 0, none⟩) 0 cap) := by
        have : w.drew.heap[b]? = some (.cells #[p, .slice (some ⟨g, 0, none⟩) 0 cap] 87 (0, 0)) := hbk
        rw [Lib.cell_of_heap this]; rfl
      have hSD : (Builtin.unsafeSliceData_ #[32] 133 #[.slice (some ⟨g, 0, none⟩) 0 cap]).run Tryz.prog w.drew = .ok (.pointer (some ⟨g, 0, none⟩)) w.drew :=
        Lib.run_unsafeSliceData_row _ _ _ _ _ _ hc0
      clear hc0
      go_enter Tryz.func30, Tryz.ntmps30
      go_wp2_with fail
      go_region
      all_goals (go_wp2_with fail; go_ret; exact ⟨rfl, Below.drew (Below.refl B w)⟩)
theorem wstr_any (B b : Nat) (l : T) (w : World) (h : WS B b l w) (hBw : B ≤ w.heap.size) :
    Calls Tryz.prog 30 #[.pointer (some ⟨b, 0, none⟩)] w fun e w' => e = .returned (.string ⟨l.toArray⟩) ∧ Below B w w' := by
  by_cases h0 : l = []
  · subst h0; exact wstr_none B b w h hBw
  · exact wstr_some B b l w h h0

end Go.Proofs.YtdabndiaflagpaaGreatDoor
namespace Go.Proofs.YtdabndiaflagpaaGreatDoor
open Go.RowKit

/-- What the printer reads of package-level variables, in blocks below B. -/
structure PrEnv (B : Nat) (w : World) : Prop where
  ops_ : ∀ (i : Nat) t, opS[i]? = some t → w.cell? ⟨2, i * 2, none⟩ = some (.string ⟨t.toArray⟩)
  levs_ : ∀ (i : Nat) z, levL[i]? = some z → w.cell? ⟨2, i * 2 + 1, none⟩ = some (.int .i64 z)
  pre_ : ∀ (i : Nat) t, preS[i]? = some t → w.cell? ⟨1, i, none⟩ = some (.string ⟨t.toArray⟩)
  tab_ : Lib.TabIs Tryz.prog w "internal/strconv.uint64pow10" .u64 Lib.pow10Tab
  lt_ : 2 < B ∧ 1 < B ∧ 5 < B
theorem gPow : Tryz.prog.globalNamed "internal/strconv.uint64pow10" = some 5 := by kernel_rfl
theorem PrEnv.later {B : Nat} {w w' : World} (h : PrEnv B w) (hb : Below B w w') : PrEnv B w' := by
  obtain ⟨g1, g2, g4⟩ := h.lt_
  refine ⟨fun i t hi => (hb.cell (p := ⟨2, _, none⟩) g1).trans (h.ops_ i t hi), fun i z hi => (hb.cell (p := ⟨2, _, none⟩) g1).trans (h.levs_ i z hi), fun i t hi => (hb.cell (p := ⟨1, _, none⟩) g2).trans (h.pre_ i t hi), ?_, h.lt_⟩
  have ht := h.tab_
  unfold Lib.TabIs World.var? at ht ⊢
  rw [gPow] at ht ⊢
  simp only [Option.bind_some] at ht ⊢
  rw [hb.block 5 g4]
  exact ht

theorem fmt_any (n : Int) (h0 : 0 ≤ n) (h1 : n ≤ 9223372036854775807) (B : Nat) (w : World) (he : PrEnv B w) : Calls Tryz.prog 70 #[.int .i64 n, .int .i64 10] w fun e w' => e = .returned (.string ⟨(Lib.decDigits n.toNat).toArray⟩) ∧ Below w.heap.size w w' :=
  (Tryz.strconv_FormatInt_10 n (by omega) h1 w he.tab_).mono fun e w' ⟨h, k, os, hw⟩ => by
    refine ⟨by rw [h]; unfold Lib.itoa; rw [if_neg (by omega)], ?_⟩
    subst hw
    exact Lib.below_grow _ w (Nat.le_refl _) k os
theorem fmtB_any (n : Int) (w : World) : Calls Tryz.prog 71 #[.bool (n == 1)] w fun e w' => e = .returned (.string ⟨(boolS n).toArray⟩) ∧ w = w' :=
  (Tryz.strconv_FormatBool (n == 1) w).mono fun e w' ⟨h, hw⟩ => by
    refine ⟨?_, hw.symm⟩
    rw [h]
    unfold boolS Lib.formatBool
    by_cases hn : n = 1
    · rw [if_pos hn, if_pos (by simpa using hn)]; rfl
    · rw [if_neg hn, if_neg (by simpa using hn)]; rfl

/-- put of a new row of texts. -/
theorem put_lit (B b : Nat) (l : T) (ts : List T) (n c : Nat) (w : World) (h : WS B b l w) (hn : ts.length = n) (hlen : l.length + ts.flatten.length ≤ 1000000000) (hfew : n ≤ 1000) (hBw : B ≤ w.heap.size) :
    Calls Tryz.prog 56 #[.pointer (some ⟨b, 0, none⟩), .slice (some ⟨w.heap.size, 0, none⟩) n c] (w.alloc (.cells (txs ts) 9)) fun e w' => e = .returned (.tuple #[]) ∧ WS B b (l ++ ts.flatten) w' ∧ Wrote B w w' := by
  subst hn
  have hb : Below w.heap.size w (w.alloc (.cells (txs ts) 9)) := (Below.refl _ _).alloc (Nat.le_refl _) _
  exact (put_any B b l ts w.heap.size c _ (h.later hb) hlen hfew (Nat.le_trans hBw hb.size) (Row.made _ _ _)).mono fun e w' ⟨h1, h2, h3⟩ => ⟨h1, h2, (Wrote.later hBw hb).trans h3⟩

set_option maxRecDepth 100000 in
set_option maxHeartbeats 2000000 in
theorem asked_any (n : Int) (h0 : 0 ≤ n) (h1 : n ≤ 6) (w : World) : Calls Tryz.prog 114 #[.int .i64 n] w fun e w' => e = .returned (.tuple #[.int .i64 (askL n), .int .i64 (askR n)]) ∧ w = w' := by
  have : n = 0 ∨ n = 1 ∨ n = 2 ∨ n = 3 ∨ n = 4 ∨ n = 5 ∨ n = 6 := by omega
  rcases this with rfl | rfl | rfl | rfl | rfl | rfl | rfl
  all_goals
    go_enter Tryz.func114, Tryz.ntmps114
    go_wp2_with fail
    go_ret2
    exact ⟨rfl, rfl⟩

theorem lev_other {x : X} (h5 : x.k ≠ 5) (h4 : x.k ≠ 4) (h3 : x.k ≠ 3) : x.lev = 8 := by unfold X.lev; rw [if_neg h5, if_neg h4, if_neg h3]
theorem levL_at {i : Nat} (h : i < 16) : levL[i]? = some (levOf (i : Int)) ∧ 0 ≤ levOf (i : Int) ∧ levOf (i : Int) ≤ 6 := by
  have : ∀ i : Fin 16, levL[i.1]? = some (levOf (i.1 : Int)) ∧ 0 ≤ levOf (i.1 : Int) ∧ levOf (i.1 : Int) ≤ 6 := by decide
  exact this ⟨i, h⟩
theorem opS_at {i : Nat} (h : i < 16) : opS[i]? = some (opS.getD i []) := by
  have : ∀ i : Fin 16, opS[i.1]? = some (opS.getD i.1 []) := by decide
  exact this ⟨i, h⟩
theorem preS_at {i : Nat} (h : i < 3) : preS[i]? = some (preS.getD i []) := by
  have : ∀ i : Fin 3, preS[i.1]? = some (preS.getD i.1 []) := by decide
  exact this ⟨i, h⟩

set_option maxRecDepth 100000 in
set_option maxHeartbeats 4000000 in
theorem lev_any (x : X) (A : Option Addr) (c B : Nat) (w : World) (hx : x.shape = true) (he : PrEnv B w) (hB : B ≤ w.heap.size) : Calls Tryz.prog 143 #[ev x A c] w fun e w' => e = .returned (.int .i64 x.lev) ∧ Below w.heap.size w w' := by
  have hf := (shape_open hx).1
  clear hx
  cases x with
  | mk k o n s ks =>
    have hb : Below w.heap.size w (w.alloc (.cells #[.int .i64 k, .int .i64 o, .int .i64 n, .string ⟨s.toArray⟩, .slice A ks.length c] 46)) := (Below.refl _ _).alloc (Nat.le_refl _) _
    have hr : Row (w.alloc (.cells #[.int .i64 k, .int .i64 o, .int .i64 n, .string ⟨s.toArray⟩, .slice A ks.length c] 46)) w.heap.size 46 #[.int .i64 k, .int .i64 o, .int .i64 n, .string ⟨s.toArray⟩, .slice A ks.length c] := Row.made _ _ _
    have he2 := he.later (hb.mono hB)
    have HR := Lib.hid hr
    have HB := Lib.hid hb
    have HE := Lib.hid he2
    clear hb hr he2 he hB
    go_enter Tryz.func143, Tryz.ntmps143
    simp only [ev, X.k, X.o, X.n, X.s, X.ks]
    go_upto_region 1 with fail
    generalize w.alloc (.cells #[.int .i64 k, .int .i64 o, .int .i64 n, .string ⟨s.toArray⟩, .slice A ks.length c] 46) = w0 at HR HB HE ⊢
    have c0 := HR.out.cell 0
    have c1 := HR.out.cell 1
    simp at c0 c1
    by_cases h4 : k = 4
    · subst h4
      have ho : 0 ≤ o ∧ o ≤ 15 := by
        rcases hf with ⟨h1, _⟩ | ⟨h1, _⟩ | ⟨h1, _⟩ | ⟨h1, _⟩ | ⟨h1, h2⟩ | ⟨h1, _⟩ | ⟨h1, _⟩
        · exact absurd h1 (by simp [X.k])
        · exact absurd h1 (by simp [X.k])
        · exact absurd h1 (by simp [X.k])
        · exact absurd h1 (by simp [X.k])
        · exact ⟨h2.1, h2.2.1⟩
        · exact absurd h1 (by simp [X.k])
        · exact absurd h1 (by simp [X.k])
      obtain ⟨i, rfl⟩ : ∃ i : Nat, o = (i : Int) := ⟨o.toNat, by omega⟩
      have hi : i < 16 := by omega
      have c2 := HE.out.levs_ i _ (levL_at hi).1
      go_wp2_with fail
      go_ret
      exact ⟨rfl, HB.out⟩
    · have h4' : (k == 4) = false := by simpa using h4
      by_cases h5 : k = 5
      · subst h5
        go_wp2_with fail
        go_ret
        exact ⟨rfl, HB.out⟩
      · have h5' : (k == 5) = false := by simpa using h5
        by_cases h3 : k = 3
        · subst h3
          go_wp2_with fail
          go_ret
          exact ⟨rfl, HB.out⟩
        · have h3' : (k == 3) = false := by simpa using h3
          have HL : Hid ((X.mk k o n s ks).lev = 8) := Lib.hid (lev_other h5 h4 h3)
          clear h3 h4 h5 hf
          go_wp2_with fail
          go_ret
          exact ⟨congrArg (fun z => Ending.returned (.int .i64 z)) HL.out.symm, HB.out⟩

set_option maxRecDepth 100000 in
set_option maxHeartbeats 4000000 in
theorem neg_any (x : X) (A : Option Addr) (c : Nat) (w : World) : Calls Tryz.prog 112 #[ev x A c] w fun e w' => e = .returned (.bool (negB x)) ∧ Below w.heap.size w w' := by
  cases x with
  | mk k o n s ks =>
    have hb : Below w.heap.size w (w.alloc (.cells #[.int .i64 k, .int .i64 o, .int .i64 n, .string ⟨s.toArray⟩, .slice A ks.length c] 46)) := (Below.refl _ _).alloc (Nat.le_refl _) _
    have hr : Row (w.alloc (.cells #[.int .i64 k, .int .i64 o, .int .i64 n, .string ⟨s.toArray⟩, .slice A ks.length c] 46)) w.heap.size 46 #[.int .i64 k, .int .i64 o, .int .i64 n, .string ⟨s.toArray⟩, .slice A ks.length c] := Row.made _ _ _
    have HR := Lib.hid hr
    have HB := Lib.hid hb
    clear hb hr
    go_enter Tryz.func112, Tryz.ntmps112
    simp only [ev, X.k, X.o, X.n, X.s, X.ks]
    go_upto_region 1 with fail
    generalize w.alloc (.cells #[.int .i64 k, .int .i64 o, .int .i64 n, .string ⟨s.toArray⟩, .slice A ks.length c] 46) = w0 at HR HB ⊢
    have c0 := HR.out.cell 0
    have c1 := HR.out.cell 1
    simp at c0 c1
    by_cases h3 : k = 3
    · subst h3
      by_cases h0 : o = 0
      · subst h0
        go_wp2_with fail
        go_ret
        exact ⟨rfl, HB.out⟩
      · have h0' : (o == 0) = false := by simpa using h0
        have HL : Hid (negB (X.mk 3 o n s ks) = false) := Lib.hid (decide_eq_false fun h => h0 h.2)
        clear h0
        go_wp2_with fail
        go_ret
        exact ⟨ret_bool HL.out.symm, HB.out⟩
    · have h3' : (k == 3) = false := by simpa using h3
      have HL : Hid (negB (X.mk k o n s ks) = false) := Lib.hid (decide_eq_false fun h => h3 h.1)
      clear h3
      go_wp2_with fail
      go_ret
      exact ⟨ret_bool HL.out.symm, HB.out⟩

end Go.Proofs.YtdabndiaflagpaaGreatDoor
