/- DERIVED. Names and words: plain; letters and digits of both sides; the words as a list, and as a map. -/
import Derived.Test.YtfajnflfonechaaDoorTree
import Derived.Test.YtfajnflfonechaaDoorProg
import Derived.Maps.OwnSet
namespace Go.Proofs.YtfajnflfonechaaDoor
open Go.RowKit

def isL (z : Int) : Bool := decide ((97 ≤ z ∧ z ≤ 122) ∨ (65 ≤ z ∧ z ≤ 90) ∨ z = 95)
def isD (z : Int) : Bool := decide (48 ≤ z ∧ z ≤ 57)
def wordsL : List T := [[97, 110, 100], [98, 111, 111, 108], [99, 111, 110, 115, 116], [100, 105, 118], [101, 108, 115, 101], [102, 97, 108, 115, 101], [105, 102], [105, 110, 116], [108, 101, 116], [109, 111, 100], [110, 111, 100, 101], [110, 111, 116], [111, 114], [112, 114, 101], [114, 101, 116, 117, 114, 110, 115], [116, 101, 108], [116, 104, 101, 110], [116, 114, 117, 101], [118, 97, 114], [120, 111, 114]]
def wordB (s : T) : Bool := decide (s ∈ wordsL)
def wordsV : Array Value := (wordsL.map fun l => Value.string ⟨l.toArray⟩).toArray

theorem ret_bool {a b : Bool} (h : a = b) : Ending.returned (.bool a) = Ending.returned (.bool b) := by rw [h]

theorem letter_any (z : Int) (w : World) : Calls Tryd.prog 101 #[.int .u8 z] w fun e w' => e = .returned (.bool (isL z)) ∧ w = w' := by
  by_cases h1 : 97 ≤ z <;> by_cases h2 : z ≤ 122 <;> by_cases h3 : 65 ≤ z <;> by_cases h4 : z ≤ 90 <;> by_cases h5 : z = 95
  all_goals first | (exfalso; omega) | skip
  all_goals
    first
      | (have h7 : z = 95 := h5
         clear h1 h2 h3 h4 h5
         subst h7
         have HL : Hid (isL 95 = true) := Lib.hid (by decide)
         go_enter Tryd.func101, Tryd.ntmps101
         go_wp2_with fail
         go_ret
         exact ⟨ret_bool HL.out.symm, rfl⟩)
      | (have HL : Hid (isL z = true) := decide_eq_true (by omega)
         have h6 : (z == 95) = false := by simpa using h5
         go_enter Tryd.func101, Tryd.ntmps101
         go_wp2_with fail
         go_ret
         exact ⟨ret_bool HL.out.symm, rfl⟩)
      | (have HL : Hid (isL z = false) := decide_eq_false (by omega)
         have h6 : (z == 95) = false := by simpa using h5
         go_enter Tryd.func101, Tryd.ntmps101
         go_wp2_with fail
         go_ret
         exact ⟨ret_bool HL.out.symm, rfl⟩)

theorem Letter_any (z : Int) (w : World) : Calls Tryd.prog 24 #[.int .u8 z] w fun e w' => e = .returned (.bool (isL z)) ∧ w = w' := by
  by_cases h1 : 97 ≤ z <;> by_cases h2 : z ≤ 122 <;> by_cases h3 : 65 ≤ z <;> by_cases h4 : z ≤ 90 <;> by_cases h5 : z = 95
  all_goals first | (exfalso; omega) | skip
  all_goals
    first
      | (have h7 : z = 95 := h5
         clear h1 h2 h3 h4 h5
         subst h7
         have HL : Hid (isL 95 = true) := Lib.hid (by decide)
         go_enter Tryd.func24, Tryd.ntmps24
         go_wp2_with fail
         go_ret
         exact ⟨ret_bool HL.out.symm, rfl⟩)
      | (have HL : Hid (isL z = true) := decide_eq_true (by omega)
         have h6 : (z == 95) = false := by simpa using h5
         go_enter Tryd.func24, Tryd.ntmps24
         go_wp2_with fail
         go_ret
         exact ⟨ret_bool HL.out.symm, rfl⟩)
      | (have HL : Hid (isL z = false) := decide_eq_false (by omega)
         have h6 : (z == 95) = false := by simpa using h5
         go_enter Tryd.func24, Tryd.ntmps24
         go_wp2_with fail
         go_ret
         exact ⟨ret_bool HL.out.symm, rfl⟩)

theorem digit_any (z : Int) (w : World) : Calls Tryd.prog 100 #[.int .u8 z] w fun e w' => e = .returned (.bool (isD z)) ∧ w = w' := by
  by_cases h1 : 48 ≤ z <;> by_cases h2 : z ≤ 57
  all_goals
    first
      | (have HL : Hid (isD z = true) := decide_eq_true (by omega)
         go_enter Tryd.func100, Tryd.ntmps100
         go_wp2_with fail
         go_ret
         exact ⟨ret_bool HL.out.symm, rfl⟩)
      | (have HL : Hid (isD z = false) := decide_eq_false (by omega)
         go_enter Tryd.func100, Tryd.ntmps100
         go_wp2_with fail
         go_ret
         exact ⟨ret_bool HL.out.symm, rfl⟩)

theorem Digit_any (z : Int) (w : World) : Calls Tryd.prog 25 #[.int .u8 z] w fun e w' => e = .returned (.bool (isD z)) ∧ w = w' := by
  by_cases h1 : 48 ≤ z <;> by_cases h2 : z ≤ 57
  all_goals
    first
      | (have HL : Hid (isD z = true) := decide_eq_true (by omega)
         go_enter Tryd.func25, Tryd.ntmps25
         go_wp2_with fail
         go_ret
         exact ⟨ret_bool HL.out.symm, rfl⟩)
      | (have HL : Hid (isD z = false) := decide_eq_false (by omega)
         go_enter Tryd.func25, Tryd.ntmps25
         go_wp2_with fail
         go_ret
         exact ⟨ret_bool HL.out.symm, rfl⟩)

/-! ### The words as a list -/
def WordsMade (w : World) (e : Ending) (w' : World) : Prop := ∃ g, e = .returned (.slice (some ⟨g, 0, none⟩) 20 20) ∧ Row w' g 9 wordsV ∧ Below w.heap.size w w'

theorem Words_any (w : World) : Calls Tryd.prog 49 #[] w (WordsMade w) := by
  go_enter Tryd.func49, Tryd.ntmps49
  go_wp2_with fail
  go_ret
  exact ⟨w.heap.size, rfl, Row.made _ _ _, (Below.refl _ _).alloc (Nat.le_refl _) _⟩

theorem Word_any (s : T) (w : World) : Calls Tryd.prog 26 #[.string ⟨s.toArray⟩] w fun e w' => e = .returned (.bool (wordB s)) ∧ Below w.heap.size w w' := by
  go_enter Tryd.func26, Tryd.ntmps26
  go_wp2_with (go_at_call 49; refine (Words_any w).mono ?_; rintro e w1 ⟨g, rfl, hr, hb⟩; have HR := Lib.hid hr; have HB := Lib.hid hb; clear hr hb)
  go_loop [4] (fun k => ∃ i : Nat, i ≤ 20 ∧ k = .int .i64 i ∧ ∀ (j : Nat) l, j < i → wordsL[j]? = some l → l ≠ s) (fun k => 20 - (intOf k).toNat)
  case atStart => exact ⟨0, by omega, rfl, fun j l h => by omega⟩
  case round =>
    obtain ⟨i, hi, rfl, hb⟩ := hrel
    have HN := Lib.hid hb
    clear hb
    by_cases hlt : i < 20
    · obtain ⟨l, hl⟩ : ∃ l, wordsL[i]? = some l := ⟨_, List.getElem?_eq_getElem (by simpa [wordsL] using hlt)⟩
      have hcell : w1.cell? ⟨g, i, none⟩ = some (.string ⟨l.toArray⟩) := by
        rw [HR.out.cell i]; simp [wordsV, hl]
      have HL := Lib.hid hl
      clear hl
      by_cases he : l = s
      · have HW : Hid (wordB s = true) := decide_eq_true (by rw [← he]; exact List.mem_of_getElem? HL.out)
        rw [he] at hcell
        clear he
        go_wp2_with fail
        go_ret
        exact ⟨ret_bool HW.out.symm, HB.out⟩
      · have hne : (l == s) = false := by simpa using he
        have HE := Lib.hid he
        clear he
        go_wp2_with fail
        refine ⟨⟨i + 1, by omega, by go_num, fun j m h hm => ?_⟩, by simp [intOf]; omega⟩
        by_cases hji : j = i
        · subst hji; rw [HL.out] at hm; injection hm with hm; rw [← hm]; exact HE.out
        · exact HN.out j m (by omega) hm
    · have HW : Hid (wordB s = false) := decide_eq_false (fun hm => by
        obtain ⟨j, hj⟩ := List.mem_iff_getElem?.1 hm
        have : j < 20 := by
          rcases Nat.lt_or_ge j 20 with h' | h'
          · exact h'
          · rw [List.getElem?_eq_none (by simpa [wordsL] using h')] at hj; cases hj
        exact HN.out j s (by omega) hj rfl)
      go_wp2_with fail
      go_ret
      exact ⟨ret_bool HW.out.symm, HB.out⟩

/-! ### The words as a map -/
def key (l : T) : Lit := .string l
theorem key_ne {l m : T} (h : l ≠ m) : key l ≠ key m := fun e => h (by unfold key at e; injection e)
theorem key_lit (l : T) : WideAt.IsKeyLit (key l) := trivial
theorem strKeyed : Maps.Keyed Tryd.prog 9 := Maps.string_keyed Tryd.underlying9
theorem zeroBool (w : World) : (zeroValue 4).run Tryd.prog w = .ok (.bool false) w := by kernel_rfl
theorem key_of (l : T) (h : l.length ≤ maxLen) : keyOf Tryd.prog 9 (.string ⟨l.toArray⟩) = some (key l) := WideMaps.keyOf_string_mk Tryd.underlying9 (s := ⟨l.toArray⟩) h

/-- In block b lies a map that says true of just these texts. -/
def WMk (w : World) (b : Nat) (ks : List T) : Prop :=
  ∃ D : DataW Unit, w.ownsMap Tryd.prog 9 (plainElem Tryd.prog 4) b ks.length D ∧ Maps.IsMap D ∧ ∀ s, D.atKey (key s) (.lit (.bool false)) = .lit (.bool (decide (s ∈ ks)))

theorem WMk.made (w : World) : WMk (w.alloc (.map #[] 0)) w.heap.size [] :=
  ⟨.map [], World.ownsMap_made (H := Unit) w Tryd.prog 9 (plainElem Tryd.prog 4), Maps.isMap_empty, fun _ => rfl⟩
theorem WMk.lt {w : World} {b : Nat} {ks : List T} (h : WMk w b ks) : b < w.heap.size := by
  obtain ⟨D, hm, _⟩ := h
  exact hm.lt
theorem WMk.later {w w' : World} {b : Nat} {ks : List T} (h : WMk w b ks) (hb : Below w.heap.size w w') : WMk w' b ks := by
  obtain ⟨D, hm, r⟩ := h
  exact ⟨D, hm.kept (only_below hb (row := none)) (by simp), r⟩
theorem WMk.move {w w' : World} {b : Nat} {ks : List T} (h : WMk w b ks) (hb : w'.heap[b]? = w.heap[b]?) : WMk w' b ks := by
  obtain ⟨D, ⟨es, clock, he, r⟩, q⟩ := h
  exact ⟨D, ⟨es, clock, hb.trans he, r⟩, q⟩


set_option maxRecDepth 100000 in
theorem wpList_word {w : World} {ops : Array Oper} {rest : List Oper} {o : Oper} {a : Act} {Q : Exit → Act → World → Prop} (hg : o.guard = none) (m x v : Operand) (hop : o.op = Op.insert 105 m x v)
    (b : Nat) (ks : List T) (hm : a.eval m = .map (some b)) (h : WMk w b ks) (hks : ks.length ≤ 100) (l : T) (hx : a.eval x = .string ⟨l.toArray⟩) (hv : a.eval v = .bool true) (hl : l.length ≤ 100)
    (hK : ∀ w', WMk w' b (l :: ks) → w.grownBy w' (some b) → wpList Tryd.prog ops Q rest (a.put o.dst undef) w') : wpList Tryd.prog ops Q (o :: rest) a w := by
  obtain ⟨D, hown, hmap, hat⟩ := h
  refine wpList_plain hg fun K' hK' => ?_
  obtain ⟨w', hrun, r1, r2⟩ := hown.update strKeyed Tryd.underlying105 (by unfold maxLen; omega) (key_of l (by unfold maxLen; omega)) (plainElem_bool Tryd.underlying4 true)
  unfold Oper.wp
  simp [execOp, hop, hm, hx, hv, hrun, Result.andThen]
  refine hK' _ _ (hK w' ⟨_, r1, hmap.put _ _, fun s => ?_⟩ r2)
  by_cases e : s = l
  · subst e
    rw [Maps.atKey_put_same hmap (key_lit s)]
    simp
  · rw [Maps.atKey_put_other (key_ne e), hat s]
    simp [e]


set_option maxRecDepth 100000 in
theorem wpList_ask {w : World} {ops : Array Oper} {rest : List Oper} {o : Oper} {a : Act} {Q : Exit → Act → World → Prop} (hg : o.guard = none) (m x : Operand) (hop : o.op = Op.lookup 105 m x false)
    (b : Nat) (ks : List T) (hm : a.eval m = .map (some b)) (h : WMk w b ks) (l : T) (hx : a.eval x = .string ⟨l.toArray⟩) (hl : l.length ≤ maxLen)
    (hK : wpList Tryd.prog ops Q rest (a.put o.dst (.bool (decide (l ∈ ks)))) w) : wpList Tryd.prog ops Q (o :: rest) a w := by
  obtain ⟨D, ⟨es, clock, hb, F, hs, rfl⟩, hmap, hat⟩ := h
  refine wpList_plain hg fun K' hK' => ?_
  have key' : ∃ c, (Instr.lookup 105 (.map (some b)) (.string ⟨l.toArray⟩) false).run Tryd.prog w = .ok (.bool c) w ∧ c = decide (l ∈ ks) := by
    have h0 := hat l
    rcases Maps.fit_look false strKeyed Tryd.underlying105 (zeroBool w) hb F (key_of l hl) with ⟨hrun, _, hz⟩ | ⟨e0, y, _, _, hrun, hRv, hz, _⟩
    · refine ⟨false, hrun, ?_⟩
      rw [hz] at h0
      injection h0 with h0
      injection h0
    · rw [hz] at h0
      have hp : ∃ c, e0.val = .bool c ∧ y.1 = .lit (.bool c) := by
        unfold plainElem at hRv
        rw [Tryd.underlying4] at hRv
        cases hv : e0.val <;> rw [hv] at hRv <;> simp at hRv
        exact ⟨_, rfl, by rw [← hRv]⟩
      obtain ⟨c, hc, hy⟩ := hp
      refine ⟨c, ?_, ?_⟩
      · rw [hc] at hrun; exact hrun
      · rw [hy] at h0
        injection h0 with h0
        injection h0
  obtain ⟨c, hrun, hc⟩ := key'
  subst hc
  unfold Oper.wp
  simp [execOp, hop, hm, hx, hrun, Result.andThen]
  exact hK' _ _ (by simpa using hK)

/-- The map of the words. -/
def WM (w : World) (b : Nat) : Prop := WMk w b wordsL.reverse
def WordsMap (w : World) (e : Ending) (w' : World) : Prop := ∃ b, e = .returned (.map (some b)) ∧ WM w' b ∧ w.heap.size ≤ b ∧ Below w.heap.size w w'

set_option maxRecDepth 100000 in
set_option maxHeartbeats 1000000 in
theorem allWords_any (w : World) : Calls Tryd.prog 51 #[] w (WordsMap w) := by
  have hmm := @run_makeMap Tryd.prog
  have HM := Lib.hid (WMk.made w)
  have HB : Hid (Below w.heap.size w (w.alloc (.map #[] 0))) := Lib.hid ((Below.refl _ _).alloc (Nat.le_refl _) _)
  go_enter Tryd.func51, Tryd.ntmps51
  go_wp2_with (((refine wpList_word (o := ⟨none, Op.insert _ _ _ _, _, _, _, _⟩) rfl _ _ _ rfl _ _ rfl HM.out (by simp) _ rfl rfl (by simp) ?_); intro w1 h1 g1; replace HM := Lib.hid h1; replace HB := Lib.hid (HB.out.trans ((Below.refl _ _).grown g1 HB.out.size (fun k hk => by cases hk; exact Nat.le_refl _))); clear h1 g1))
  go_ret
  exact ⟨w.heap.size, rfl, HM.out, Nat.le_refl _, HB.out⟩

end Go.Proofs.YtfajnflfonechaaDoor
