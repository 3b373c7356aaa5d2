/- Parts: LxV. -/
import Derived.Test.YtdabndiaflagpaaGreatDoorB16
import Derived.Test.YtdabndiaflagpaaGreatDoorB17
set_option maxRecDepth 100000
set_option maxHeartbeats 4000000
set_option linter.unusedVariables false
namespace Go.Proofs.YtdabndiaflagpaaGreatDoor
open Go.RowKit

/-- The cells of a row of the call's own that holds something. -/
theorem OwnG.cells {α : Type} {R : Of α} {e : TypeId} {k : Nat} {w : World} {B : Nat} {v : Value} {xs : List α} (hl : Lasts R k) {S : Nat → Prop} (h : OwnG R e k w B S v xs) (hne : xs ≠ []) :
    ∃ g c, v = .slice (some ⟨g, 0, none⟩) xs.length c ∧ B ≤ g ∧ g < w.heap.size ∧ ∀ (i : Nat) x, xs[i]? = some x → ∃ cs, R w S x cs ∧ ∀ (j : Nat) u, cs[j]? = some u → w.cell? ⟨g, i * k + j, none⟩ = some u := by
  obtain ⟨cs, ho, hx⟩ := h
  have hlt := World.ownsRow.lt ho
  rcases ho.2 with ⟨rfl, hz⟩ | ⟨g, cap, cur, rfl, hb, hgg, hnc, hcm, hcs, htake⟩
  · exact absurd (List.eq_nil_of_length_eq_zero hz) hne
  · have hgl := hlt g rfl
    refine ⟨g, _, rfl, hgl.1, hgl.2, fun i x hi => ?_⟩
    obtain ⟨c, hc, hat⟩ := hx.at hl hi
    refine ⟨c, hc, fun j u hu => ?_⟩
    have h1 := hat j u hu
    have hlt : i * k + j < cs.length := by
      rcases Nat.lt_or_ge (i * k + j) cs.length with h' | h'
      · exact h'
      · rw [List.getElem?_eq_none h'] at h1; cases h1
    rw [World.ownsRow.cellAt ho (i * k + j) (by have := ho.1; omega), h1]

/-! ### Pure -/
theorem lexF_ends : ∀ (f : Nat) (l : T) (a : Nat) (acc ts : List Tk) (p N : Nat), l.length < f → a + l.length ≤ N → (∀ t ∈ acc, t.from_ ≤ N) → lexF f l a acc = (ts, p, 0) → ts ≠ [] ∧ ∀ t ∈ ts, t.from_ ≤ N := by
  intro f
  induction f with
  | zero => intro l a acc ts p N h; omega
  | succ f ih =>
    intro l a acc ts p N hf hN hacc h
    unfold lexF at h
    split at h
    · injection h with h1 h2
      subst h1
      refine ⟨by simp, fun t ht => ?_⟩
      rcases List.mem_append.1 ht with ht | ht
      · exact hacc t ht
      · obtain rfl := List.mem_singleton.1 ht
        show a ≤ N; omega
    · rename_i n hs
      have := step_skip hs
      exact ih _ _ _ _ _ N (by rw [List.length_drop]; omega) (by rw [List.length_drop]; omega) hacc h
    · rename_i k n v hs
      have := step_tok hs
      refine ih _ _ _ _ _ N (by rw [List.length_drop]; omega) (by rw [List.length_drop]; omega) (fun t ht => ?_) h
      rcases List.mem_append.1 ht with ht | ht
      · exact hacc t ht
      · obtain rfl := List.mem_singleton.1 ht
        show a ≤ N; omega
    · rename_i e hs
      injection h with h1 h2
      injection h2 with h2 h3
      exfalso
      subst h3
      unfold stepS at hs
      split at hs
      · cases hs
      · repeat' split at hs
        all_goals cases hs
theorem lexA_ends {s : T} {ts : List Tk} {p : Nat} (h : lexA s 0 [] = (ts, p, 0)) : ts ≠ [] ∧ ∀ t ∈ ts, t.from_ ≤ s.length := lexF_ends _ s 0 [] ts p s.length (Nat.lt_succ_self _) (by omega) (by simp) h
/-- Of another one. -/
def LexNo (s : T) (a : Nat) (code : Int) (w0 : World) (e : Ending) (w' : World) : Prop := e = .returned (.tuple #[.slice none 0 0, .agg #[.int .i64 (plAt s a).1, .int .i64 (plAt s a).2], .int .i64 code]) ∧ Below w0.heap.size w0 w'
theorem lex_no {s : T} {a : Nat} {code : Int} (hc0 : code ≠ 0) (h : lexA s 0 [] = ([], a, code)) (w : World) (hs : s.length ≤ 1000000) (he : LexEnv w) : Calls Tryz.prog 31 #[.string ⟨s.toArray⟩] w (LexNo s a code w) :=
  (lex_any s w hs he).mono fun e w' hp => by
    rcases hp with ⟨ts', V, B, h1, rfl, hB, hown, hb⟩ | ⟨a', code', h1, hc, rfl, hb⟩
    · rw [h] at h1
      injection h1 with _ h1
      injection h1 with _ h1
      exact absurd h1 hc0
    · rw [h] at h1
      injection h1 with _ h1
      injection h1 with h1 h2
      subst h1 h2
      exact ⟨rfl, hb⟩
/-- A text is one, or it isn't. -/
theorem lexA_cases (s : T) : (∃ ts, lexA s 0 [] = (ts, 0, 0)) ∨ (∃ a code, lexA s 0 [] = ([], a, code) ∧ code ≠ 0) := by
  have : ∀ (f : Nat) (l : T) (a : Nat) (acc : List Tk), l.length < f → (∃ ts, lexF f l a acc = (ts, 0, 0)) ∨ (∃ a' code, lexF f l a acc = ([], a', code) ∧ code ≠ 0) := by
    intro f
    induction f with
    | zero => intro l a acc h; omega
    | succ f ih =>
      intro l a acc h
      unfold lexF
      split
      · exact .inl ⟨_, rfl⟩
      · rename_i n hs
        have := step_skip hs
        exact ih _ _ _ (by rw [List.length_drop]; omega)
      · rename_i k n v hs
        have := step_tok hs
        exact ih _ _ _ (by rw [List.length_drop]; omega)
      · rename_i e hs
        refine .inr ⟨_, _, rfl, fun h3 => ?_⟩
        subst h3
        unfold stepS at hs
        split at hs
        · cases hs
        · repeat' split at hs
          all_goals cases hs
  exact this _ s 0 [] (Nat.lt_succ_self _)

end Go.Proofs.YtdabndiaflagpaaGreatDoor
