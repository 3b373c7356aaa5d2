/- DERIVED. The reference's signs. -/
import Derived.Test.YtfajnflfonechaaDoorLxR3
namespace Go.Proofs.YtfajnflfonechaaDoor
open Go.RowKit

/-- The signs in the reference's order. -/
def signsR : List T := [[40], [41], [44], [59], [58], [61], [60, 62], [60], [60, 61], [62], [62, 61], [61, 62], [45, 62], [43], [45], [42]]
def refSignV : List Value := signsR.map fun l => Value.string ⟨l.toArray⟩

set_option maxRecDepth 100000 in
set_option maxHeartbeats 4000000 in
theorem signs_any (w : World) : Calls Tryd.prog 27 #[] w fun e w' => e = .returned (.slice (some ⟨w.heap.size, 0, none⟩) 16 16) ∧ Row w' w.heap.size 9 refSignV.toArray ∧ Below w.heap.size w w' := by
  go_enter Tryd.func27, Tryd.ntmps27
  go_wp2_with fail
  go_ret
  exact ⟨rfl, Row.made _ _ _, (Below.refl _ _).alloc (Nat.le_refl _) _⟩

/-- The longest sign that l begins with, as the reference looks for it: how far behind the first i signs. -/
def bestF (l : T) (m : Nat) (s : T) : Nat := if s.isPrefixOf l = true ∧ m < s.length then s.length else m
def best (l : T) (i : Nat) : Nat := (signsR.take i).foldl (bestF l) 0
theorem best_step {l : T} {i : Nat} {s : T} (h : signsR[i]? = some s) : best l (i + 1) = bestF l (best l i) s := by
  unfold best
  rw [List.take_add_one, h, List.foldl_append]
  rfl
theorem pre1 {a c : UInt8} {r : T} : [a].isPrefixOf (c :: r) = (a == c) := by simp [List.isPrefixOf]
theorem pre2n {a b c : UInt8} : [a, b].isPrefixOf [c] = false := by simp [List.isPrefixOf]
theorem pren {a : UInt8} {x : T} : (a :: x).isPrefixOf ([] : T) = false := rfl
theorem best_all (l : T) : best l 16 = ((signsL.find? (fun s => s.isPrefixOf l)).map List.length).getD 0 := by
  have e : best l 16 = signsR.foldl (bestF l) 0 := rfl
  rw [e]
  clear e
  cases l with
  | nil => decide
  | cons c r =>
    have key : ∀ c : UInt8, c ∈ ([40, 41, 44, 59, 58, 61, 60, 62, 45, 43, 42] : T) ∨ (∀ x ∈ ([40, 41, 44, 59, 58, 61, 60, 62, 45, 43, 42] : T), (x == c) = false) := fun c => by
      by_cases h : c ∈ ([40, 41, 44, 59, 58, 61, 60, 62, 45, 43, 42] : T)
      · exact .inl h
      · exact .inr fun x hx => by
          simp only [beq_eq_false_iff_ne, ne_eq]
          intro e; subst e; exact h hx
    cases r with
    | nil =>
      rcases key c with hc | hc
      · have kk : ∀ c ∈ ([40, 41, 44, 59, 58, 61, 60, 62, 45, 43, 42] : T), signsR.foldl (bestF [c]) 0 = ((signsL.find? (fun s => s.isPrefixOf [c])).map List.length).getD 0 := by decide +kernel
        exact kk c hc
      · have g : ∀ x, x ∈ ([40, 41, 44, 59, 58, 61, 60, 62, 45, 43, 42] : T) → (x == c) = false := hc
        have g1 := g 40 (by decide)
        have g2 := g 41 (by decide)
        have g3 := g 44 (by decide)
        have g4 := g 59 (by decide)
        have g5 := g 58 (by decide)
        have g6 := g 61 (by decide)
        have g7 := g 60 (by decide)
        have g8 := g 62 (by decide)
        have g9 := g 45 (by decide)
        have g10 := g 43 (by decide)
        have g11 := g 42 (by decide)
        simp [signsR, signsL, bestF, List.isPrefixOf, g1, g2, g3, g4, g5, g6, g7, g8, g9, g10, g11]
    | cons d r =>
      have red : ∀ s ∈ signsR ++ signsL, s.isPrefixOf (c :: d :: r) = s.isPrefixOf [c, d] := by
        intro s hs
        have hlen : ∀ s ∈ signsR ++ signsL, s.length = 1 ∨ s.length = 2 := by decide
        match s, hlen s hs with
        | [a], _ => simp [List.isPrefixOf]
        | [a, b], _ => simp [List.isPrefixOf]
        | [], h => simp at h
        | _ :: _ :: _ :: _, h => simp at h
      have f1 : signsR.foldl (bestF (c :: d :: r)) 0 = signsR.foldl (bestF [c, d]) 0 := by
        have : ∀ (L : List T) (m : Nat), (∀ s ∈ L, s.isPrefixOf (c :: d :: r) = s.isPrefixOf [c, d]) → L.foldl (bestF (c :: d :: r)) m = L.foldl (bestF [c, d]) m := by
          intro L
          induction L with
          | nil => intro m _; rfl
          | cons x L ih =>
            intro m h
            simp only [List.foldl_cons]
            rw [show bestF (c :: d :: r) m x = bestF [c, d] m x by unfold bestF; rw [h x (List.mem_cons_self ..)]]
            exact ih _ fun s hs => h s (List.mem_cons_of_mem _ hs)
        exact this _ _ fun s hs => red s (List.mem_append_left _ hs)
      have f2 : signsL.find? (fun s => s.isPrefixOf (c :: d :: r)) = signsL.find? (fun s => s.isPrefixOf [c, d]) := by
        have : ∀ (L : List T), (∀ s ∈ L, s.isPrefixOf (c :: d :: r) = s.isPrefixOf [c, d]) → L.find? (fun s => s.isPrefixOf (c :: d :: r)) = L.find? (fun s => s.isPrefixOf [c, d]) := by
          intro L
          induction L with
          | nil => intro _; rfl
          | cons x L ih =>
            intro h
            rw [List.find?_cons, List.find?_cons, h x (List.mem_cons_self ..), ih fun s hs => h s (List.mem_cons_of_mem _ hs)]
        exact this _ fun s hs => red s (List.mem_append_right _ hs)
      rw [f1, f2]
      clear f1 f2 red
      rcases key c with hc | hc
      · rcases key d with hd | hd
        · have kk : ∀ c ∈ ([40, 41, 44, 59, 58, 61, 60, 62, 45, 43, 42] : T), ∀ d ∈ ([40, 41, 44, 59, 58, 61, 60, 62, 45, 43, 42] : T), signsR.foldl (bestF [c, d]) 0 = ((signsL.find? (fun s => s.isPrefixOf [c, d])).map List.length).getD 0 := by decide +kernel
          exact kk c hc d hd
        · have g : ∀ x, x ∈ ([40, 41, 44, 59, 58, 61, 60, 62, 45, 43, 42] : T) → (x == d) = false := hd
          have g1 := g 62 (by decide)
          have g2 := g 61 (by decide)
          simp only [List.mem_cons, List.not_mem_nil, or_false] at hc
          rcases hc with rfl | rfl | rfl | rfl | rfl | rfl | rfl | rfl | rfl | rfl | rfl <;>
            simp [signsR, signsL, bestF, List.isPrefixOf, g1, g2]
      · have g : ∀ x, x ∈ ([40, 41, 44, 59, 58, 61, 60, 62, 45, 43, 42] : T) → (x == c) = false := hc
        have g1 := g 40 (by decide)
        have g2 := g 41 (by decide)
        have g3 := g 44 (by decide)
        have g4 := g 59 (by decide)
        have g5 := g 58 (by decide)
        have g6 := g 61 (by decide)
        have g7 := g 60 (by decide)
        have g8 := g 62 (by decide)
        have g9 := g 45 (by decide)
        have g10 := g 43 (by decide)
        have g11 := g 42 (by decide)
        simp [signsR, signsL, bestF, List.isPrefixOf, g1, g2, g3, g4, g5, g6, g7, g8, g9, g10, g11]

end Go.Proofs.YtfajnflfonechaaDoor
