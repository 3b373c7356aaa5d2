/- DERIVED. The code's look between tokens: a note, blanks. What it reads of the package-level variables. -/
import Derived.Test.YtfajnflfonechaaDoorLxB
import Derived.Test.YtfajnflfonechaaDoorShelf
namespace Go.Proofs.YtfajnflfonechaaDoor
open Go.RowKit

/-- What is read of package-level variables. -/
structure LexEnv (w : World) : Prop where
  maxLen_ : ∃ m : Int, w.cell? ⟨8, 0, none⟩ = some (.int .i64 m)
  signs_ : Row w 0 9 (signsL.map fun l => Value.string ⟨l.toArray⟩).toArray ∨ ∀ (i : Nat) l, signsL[i]? = some l → w.cell? ⟨0, i, none⟩ = some (.string ⟨l.toArray⟩)
  range_ : ∃ tp p, w.cell? ⟨7, 0, none⟩ = some (.iface tp p)
theorem LexEnv.signs {w : World} (h : LexEnv w) : ∀ (i : Nat) l, signsL[i]? = some l → w.cell? ⟨0, i, none⟩ = some (.string ⟨l.toArray⟩) := by
  rcases h.signs_ with h | h
  · intro i l hl
    rw [h.cell, ← Array.getElem?_toList]
    simp [hl]
  · exact h
theorem LexEnv.move {w w' : World} (h : LexEnv w) (hb : ∀ b, b < w.heap.size → b = 8 ∨ b = 0 ∨ b = 7 → w'.heap[b]? = w.heap[b]?) : LexEnv w' := by
  have hs := h.signs
  obtain ⟨⟨m, h1⟩, _, tp, p, h3⟩ := h
  have g1 := World.block_lt_of_cell? w _ h1
  have g3 := World.block_lt_of_cell? w _ h3
  refine ⟨⟨m, (World.cell?_of_block (hb _ g1 (.inl rfl))).trans h1⟩, .inr fun i l hl => ?_, tp, p, (World.cell?_of_block (hb _ g3 (.inr (.inr rfl)))).trans h3⟩
  have h2 := hs i l hl
  have g2 := World.block_lt_of_cell? w _ h2
  exact (World.cell?_of_block (hb _ g2 (.inr (.inl rfl)))).trans h2
theorem LexEnv.later {w w' : World} (h : LexEnv w) (hb : Below w.heap.size w w') : LexEnv w' := h.move fun b hlt _ => hb.block b hlt

theorem str_drop (s : T) (i : Nat) : (⟨s.toArray⟩ : ByteArray).extract i s.length = ⟨(s.drop i).toArray⟩ := by
  apply ByteArray.ext
  simp [ByteArray.data_extract]
  rw [List.take_of_length_le (by simp)]
theorem drewN_below (w : World) (n : Nat) : Below w.heap.size w (w.drewN n) := ⟨rfl, rfl, rfl, Nat.le_refl _, fun _ _ => rfl⟩

/-- strings.Cut at the end of a note. -/
theorem cut_note (l : T) : Lib.cut l [42, 41] = (match endOf l with | none => (l, [], false) | some n => (l.take n, l.drop (n + 2), true)) := by
  have key : Lib.index l [42, 41] = (match endOf l with | none => -1 | some n => (n : Int)) := by
    induction l with
    | nil => rfl
    | cons c r ih =>
      unfold Lib.index endOf
      by_cases hp : [42, 41].isPrefixOf (c :: r) = true
      · simp [hp]
      · simp only [hp, ih]
        cases endOf r with
        | none => simp
        | some n =>
          have : ((n : Int) == -1) = false := beq_eq_false_iff_ne.2 (by omega)
          simp [this]
  unfold Lib.cut
  rw [key]
  cases endOf l with
  | none => simp
  | some n => simp

def noteS (l : T) : T × Bool := match endOf (l.drop 2) with | none => ([], false) | some n => (l.take (n + 4), true)
theorem note_any (l : T) (w : World) (h2 : 2 ≤ l.length) (hl : l.length ≤ 1000000) (he : LexEnv w) : Calls Tryd.prog 92 #[.string ⟨l.toArray⟩] w fun e w' => e = .returned (.tuple #[.string ⟨(noteS l).1.toArray⟩, .bool (noteS l).2]) ∧ Below w.heap.size w w' := by
  obtain ⟨m, hm⟩ := he.maxLen_
  have hcut := Tryd.strings_Cut ⟨(l.drop 2).toArray⟩ ⟨#[42, 41]⟩ m w (by show (l.drop 2).toArray.size < _; simp; omega) hm
  simp only [cut_note] at hcut
  have hd := str_drop l 2
  cases hn : endOf (l.drop 2) with
  | none =>
    rw [hn] at hcut
    simp only at hcut
    have HC := Lib.hid hcut
    have HN : Hid (noteS l = ([], false)) := Lib.hid (by unfold noteS; rw [hn])
    clear hcut hm hn
    go_enter Tryd.func92, Tryd.ntmps92
    go_wp2_with (go_at_call 113; refine HC.out.mono ?_; rintro e w1 ⟨rfl, n, rfl⟩)
    go_ret2
    exact ⟨by rw [HN.out]; rfl, drewN_below _ _⟩
  | some n =>
    rw [hn] at hcut
    simp only at hcut
    have HC := Lib.hid hcut
    have HN : Hid (noteS l = (l.take (n + 4), true)) := Lib.hid (by unfold noteS; rw [hn])
    have hle := endOf_le _ _ hn
    rw [List.length_drop] at hle
    have hlen : ((l.drop 2).take n).length = n := by rw [List.length_take, List.length_drop]; omega
    have HLN := Lib.hid hlen
    clear hcut hm hn
    go_enter Tryd.func92, Tryd.ntmps92
    go_wp2_with (go_at_call 113; refine HC.out.mono ?_; rintro e w1 ⟨rfl, k, rfl⟩)
    go_ret2
    exact ⟨by rw [HN.out, show n + 4 = 2 + n + 2 by omega, ← str_take l (2 + n + 2)]; rfl, drewN_below _ _⟩

def betS (l : T) : T × Bool := if [45, 45].isPrefixOf l = true then (l.takeWhile nnl, true) else if [40, 42].isPrefixOf l = true then noteS l else (l.takeWhile blk, true)
theorem between_any (l : T) (w : World) (hl : l.length ≤ 1000000) (he : LexEnv w) : Calls Tryd.prog 66 #[.string ⟨l.toArray⟩] w fun e w' => e = .returned (.tuple #[.string ⟨(betS l).1.toArray⟩, .bool (betS l).2]) ∧ Below w.heap.size w w' := by
  have p1 : Hid (Calls Tryd.prog 75 #[.string ⟨l.toArray⟩, .string ⟨#[45, 45]⟩] w fun e w' => e = .returned (.bool ([45, 45].isPrefixOf l)) ∧ w' = w) := Tryd.strings_HasPrefix ⟨l.toArray⟩ ⟨#[45, 45]⟩ w
  have p2 : Hid (Calls Tryd.prog 75 #[.string ⟨l.toArray⟩, .string ⟨#[40, 42]⟩] w fun e w' => e = .returned (.bool ([40, 42].isPrefixOf l)) ∧ w' = w) := Tryd.strings_HasPrefix ⟨l.toArray⟩ ⟨#[40, 42]⟩ w
  have r1 : Hid (Calls Tryd.prog 69 #[.string ⟨l.toArray⟩, .func (.func 91) #[] #[]] w fun e w' => e = .returned (.string ⟨(l.takeWhile nnl).toArray⟩) ∧ w = w') := runLine_any l w (by omega)
  have r2 : Hid (Calls Tryd.prog 69 #[.string ⟨l.toArray⟩, .func (.func 93) #[] #[]] w fun e w' => e = .returned (.string ⟨(l.takeWhile blk).toArray⟩) ∧ w = w') := runBlank_any l w (by omega)
  by_cases h1 : [45, 45].isPrefixOf l = true
  · have HO : Hid (betS l = (l.takeWhile nnl, true)) := Lib.hid (by unfold betS; rw [if_pos h1])
    rw [h1] at p1
    clear h1
    go_enter Tryd.func66, Tryd.ntmps66
    go_wp2_with (first | (go_at_call 75; refine p1.out.mono ?_; rintro e w1 ⟨rfl, rfl⟩) | (go_at_call 69; refine r1.out.mono ?_; rintro e w1 ⟨rfl, rfl⟩))
    go_ret2
    exact ⟨by rw [HO.out]; rfl, Below.refl _ _⟩
  · have h1' : [45, 45].isPrefixOf l = false := (Bool.not_eq_true _).mp h1
    rw [h1'] at p1
    by_cases h2 : [40, 42].isPrefixOf l = true
    · have HO : Hid (betS l = noteS l) := Lib.hid (by unfold betS; rw [if_neg h1, if_pos h2])
      have hlen := prefix_len h2
      have n1 : Hid (Calls Tryd.prog 92 #[.string ⟨l.toArray⟩] w fun e w' => e = .returned (.tuple #[.string ⟨(noteS l).1.toArray⟩, .bool (noteS l).2]) ∧ Below w.heap.size w w') := note_any l w hlen hl he
      rw [h2] at p2
      clear h1 h1' h2
      go_enter Tryd.func66, Tryd.ntmps66
      go_wp2_with (first | (go_at_call 75; refine p1.out.mono ?_; rintro e w1 ⟨rfl, rfl⟩; clear p1) | (go_at_call 75; refine p2.out.mono ?_; rintro e w1 ⟨rfl, rfl⟩; clear p2) | (go_at_call 92; refine n1.out.mono ?_; rintro e w1 ⟨rfl, hb⟩; have HB := Lib.hid hb; clear hb))
      go_ret2
      exact ⟨by rw [HO.out]; rfl, HB.out⟩
    · have h2' : [40, 42].isPrefixOf l = false := (Bool.not_eq_true _).mp h2
      have HO : Hid (betS l = (l.takeWhile blk, true)) := Lib.hid (by unfold betS; rw [if_neg h1, if_neg h2])
      rw [h2'] at p2
      clear h1 h1' h2 h2'
      go_enter Tryd.func66, Tryd.ntmps66
      go_wp2_with (first | (go_at_call 75; refine p1.out.mono ?_; rintro e w1 ⟨rfl, rfl⟩; clear p1) | (go_at_call 75; refine p2.out.mono ?_; rintro e w1 ⟨rfl, rfl⟩; clear p2) | (go_at_call 69; refine r2.out.mono ?_; rintro e w1 ⟨rfl, rfl⟩))
      go_ret2
      exact ⟨by rw [HO.out]; rfl, Below.refl _ _⟩

end Go.Proofs.YtfajnflfonechaaDoor
