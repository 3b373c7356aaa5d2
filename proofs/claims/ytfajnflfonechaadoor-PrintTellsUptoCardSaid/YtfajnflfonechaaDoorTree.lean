/- DERIVED. Expressions as trees: plain; and as they lie in memory (five cells each). Of no program. -/
import Derived.Test.YtfajnflfonechaaDoorApp
namespace Go.Proofs.YtfajnflfonechaaDoor
open Go.RowKit

abbrev T := List UInt8
def txt (l : T) : Value := .string ⟨l.toArray⟩

/-- An expression: kind, op, number, name, kids. -/
inductive X where
  | mk (k o n : Int) (s : T) (ks : List X)

def X.k : X → Int | .mk k _ _ _ _ => k
def X.o : X → Int | .mk _ o _ _ _ => o
def X.n : X → Int | .mk _ _ n _ _ => n
def X.s : X → T | .mk _ _ _ s _ => s
def X.ks : X → List X | .mk _ _ _ _ ks => ks

mutual
def X.size : X → Nat
  | .mk _ _ _ _ ks => 1 + X.sizes ks
def X.sizes : List X → Nat
  | [] => 0
  | x :: xs => x.size + X.sizes xs
end
mutual
def X.depth : X → Nat
  | .mk _ _ _ _ ks => 1 + X.depths ks
def X.depths : List X → Nat
  | [] => 0
  | x :: xs => max x.depth (X.depths xs)
end
mutual
def X.same : X → X → Bool
  | .mk k o n s ks, .mk k' o' n' s' ks' => decide (k = k') && decide (o = o') && decide (n = n') && decide (s = s') && X.sames ks ks'
def X.sames : List X → List X → Bool
  | [], [] => true
  | x :: xs, y :: ys => x.same y && X.sames xs ys
  | _, _ => false
end
mutual
/-- It, and all below it, each ahead of its kids. -/
def X.walk : X → List X
  | .mk k o n s ks => .mk k o n s ks :: X.walks ks
def X.walks : List X → List X
  | [] => []
  | x :: xs => x.walk ++ X.walks xs
end
mutual
/-- Its bulk: all names' bytes counted. -/
def X.bulk : X → Nat
  | .mk _ _ _ s ks => 1 + s.length + X.bulks ks
def X.bulks : List X → Nat
  | [] => 0
  | x :: xs => x.bulk + X.bulks xs
end

theorem X.size_pos (x : X) : 1 ≤ x.size := by cases x; simp [X.size]
theorem X.sizes_length (xs : List X) : xs.length ≤ X.sizes xs := by
  induction xs with
  | nil => simp [X.sizes]
  | cons x xs ih => have := x.size_pos; simp only [X.sizes, List.length_cons]; omega
theorem X.sizes_at {xs : List X} {i : Nat} {x : X} (h : xs[i]? = some x) : x.size ≤ X.sizes xs := by
  induction xs generalizing i with
  | nil => simp at h
  | cons y ys ih =>
    cases i with
    | zero => simp at h; subst h; simp only [X.sizes]; omega
    | succ i => simp at h; have := ih h; simp only [X.sizes]; omega
theorem X.sizes_append (xs ys : List X) : X.sizes (xs ++ ys) = X.sizes xs + X.sizes ys := by
  induction xs with
  | nil => simp [X.sizes]
  | cons x xs ih => simp only [List.cons_append, X.sizes, ih]; omega
theorem take_succ {α : Type} {xs : List α} {i : Nat} {x : α} (h : xs[i]? = some x) : xs.take (i + 1) = xs.take i ++ [x] := by
  rw [List.take_add_one, h]; rfl
theorem X.sizes_take {xs : List X} {i : Nat} {x : X} (h : xs[i]? = some x) : X.sizes (xs.take (i + 1)) = X.sizes (xs.take i) + x.size := by
  rw [take_succ h, X.sizes_append]; simp [X.sizes]
theorem X.sizes_take_le (xs : List X) (i : Nat) : X.sizes (xs.take i) ≤ X.sizes xs := by
  have := X.sizes_append (xs.take i) (xs.drop i)
  rw [List.take_append_drop] at this; omega

theorem X.depths_append (xs ys : List X) : X.depths (xs ++ ys) = max (X.depths xs) (X.depths ys) := by
  induction xs with
  | nil => simp [X.depths]
  | cons x xs ih => simp only [List.cons_append, X.depths, ih]; omega
theorem X.depths_take {xs : List X} {i : Nat} {x : X} (h : xs[i]? = some x) : X.depths (xs.take (i + 1)) = max (X.depths (xs.take i)) x.depth := by
  rw [take_succ h, X.depths_append]; simp [X.depths]
mutual
theorem X.depth_le (x : X) : x.depth ≤ x.size := by
  cases x with
  | mk k o n s ks => have := X.depths_le ks; simp only [X.depth, X.size]; omega
theorem X.depths_le (xs : List X) : X.depths xs ≤ X.sizes xs := by
  cases xs with
  | nil => simp [X.depths]
  | cons x xs => have := X.depth_le x; have := X.depths_le xs; simp only [X.depths, X.sizes]; omega
end
mutual
theorem X.size_le (x : X) : x.size ≤ x.bulk := by
  cases x with
  | mk k o n s ks => have := X.sizes_le ks; simp only [X.bulk, X.size]; omega
theorem X.sizes_le (xs : List X) : X.sizes xs ≤ X.bulks xs := by
  cases xs with
  | nil => simp [X.sizes]
  | cons x xs => have := X.size_le x; have := X.sizes_le xs; simp only [X.bulks, X.sizes]; omega
end
theorem X.bulks_at {xs : List X} {i : Nat} {x : X} (h : xs[i]? = some x) : x.bulk ≤ X.bulks xs := by
  induction xs generalizing i with
  | nil => simp at h
  | cons y ys ih =>
    cases i with
    | zero => simp at h; subst h; simp only [X.bulks]; omega
    | succ i => simp at h; have := ih h; simp only [X.bulks]; omega
theorem X.depths_take_le (xs : List X) (i : Nat) : X.depths (xs.take i) ≤ X.depths xs := by
  have := X.depths_append (xs.take i) (xs.drop i)
  rw [List.take_append_drop] at this; omega
theorem X.depths_at {xs : List X} {i : Nat} {x : X} (h : xs[i]? = some x) : x.depth ≤ X.depths xs := by
  induction xs generalizing i with
  | nil => simp at h
  | cons y ys ih =>
    cases i with
    | zero => simp at h; subst h; simp only [X.depths]; omega
    | succ i => simp at h; have := ih h; simp only [X.depths]; omega
mutual
theorem X.same_refl (x : X) : x.same x = true := by
  cases x with
  | mk k o n s ks => simp [X.same, X.sames_refl ks]
theorem X.sames_refl (xs : List X) : X.sames xs xs = true := by
  cases xs with
  | nil => rfl
  | cons x xs => simp [X.sames, X.same_refl x, X.sames_refl xs]
end
theorem X.sames_length {xs ys : List X} (h : xs.length ≠ ys.length) : X.sames xs ys = false := by
  induction xs generalizing ys with
  | nil => cases ys with
    | nil => simp at h
    | cons y ys => rfl
  | cons x xs ih => cases ys with
    | nil => rfl
    | cons y ys => simp only [X.sames, Bool.and_eq_false_iff]; exact .inr (ih (by simpa using h))
theorem X.sames_stop {xs ys : List X} {i : Nat} {x y : X} (hx : xs[i]? = some x) (hy : ys[i]? = some y) (h : x.same y = false) : X.sames xs ys = false := by
  induction xs generalizing ys i with
  | nil => simp at hx
  | cons a xs ih => cases ys with
    | nil => rfl
    | cons b ys =>
      simp only [X.sames, Bool.and_eq_false_iff]
      cases i with
      | zero => simp at hx hy; subst hx hy; exact .inl h
      | succ i => simp at hx hy; exact .inr (ih hx hy)
theorem X.sames_all {xs ys : List X} (hl : xs.length = ys.length) (h : ∀ (i : Nat) x y, xs[i]? = some x → ys[i]? = some y → x.same y = true) : X.sames xs ys = true := by
  induction xs generalizing ys with
  | nil => cases ys with
    | nil => rfl
    | cons y ys => simp at hl
  | cons a xs ih => cases ys with
    | nil => simp at hl
    | cons b ys =>
      simp only [X.sames, Bool.and_eq_true]
      exact ⟨h 0 a b rfl rfl, ih (by simpa using hl) fun i x y hx hy => h (i + 1) x y (by simpa using hx) (by simpa using hy)⟩
mutual
theorem X.walk_length (x : X) : x.walk.length = x.size := by
  cases x with
  | mk k o n s ks => simp [X.walk, X.size, X.walks_length ks]; omega
theorem X.walks_length (xs : List X) : (X.walks xs).length = X.sizes xs := by
  cases xs with
  | nil => rfl
  | cons x xs => simp [X.walks, X.sizes, X.walk_length x, X.walks_length xs]
end
theorem X.walks_append (xs ys : List X) : X.walks (xs ++ ys) = X.walks xs ++ X.walks ys := by
  induction xs with
  | nil => simp [X.walks]
  | cons x xs ih => simp [X.walks, ih, List.append_assoc]
theorem X.walks_take {xs : List X} {i : Nat} {x : X} (h : xs[i]? = some x) : X.walks (xs.take (i + 1)) = X.walks (xs.take i) ++ x.walk := by
  rw [take_succ h, X.walks_append]; simp [X.walks]

mutual
/-- Numbers that an int64 can be, names of no more than so many bytes. -/
def X.ok : X → Prop
  | .mk _ _ n s ks => n ≤ 9223372036854775807 ∧ s.length ≤ 1099511627776 ∧ X.oks ks
def X.oks : List X → Prop
  | [] => True
  | x :: xs => x.ok ∧ X.oks xs
end
theorem X.oks_at {xs : List X} {i : Nat} {x : X} (h : xs[i]? = some x) (ho : X.oks xs) : x.ok := by
  induction xs generalizing i with
  | nil => simp at h
  | cons y ys ih =>
    unfold X.oks at ho
    cases i with
    | zero => simp at h; subst h; exact ho.1
    | succ i => simp at h; exact ih h ho.2

theorem X.ok_n {x : X} (h : x.ok) : x.n ≤ 9223372036854775807 := by cases x; unfold X.ok at h; exact h.1
theorem X.ok_s {x : X} (h : x.ok) : x.s.length ≤ 1099511627776 := by cases x; unfold X.ok at h; exact h.2.1
theorem X.ks_le {x : X} {M : Nat} (h : x.size ≤ M) : x.ks.length ≤ M := by
  cases x with
  | mk k o n s ks => have := X.sizes_length ks; simp only [X.size, X.ks] at h ⊢; omega

/-! ### In memory -/

mutual
/-- From cell off of block b on an expression lies; all that it leads to lies in blocks of S. -/
def EC (w : World) (S : Nat → Prop) : X → Nat → Nat → Prop
  | .mk k o n s ks => fun b off => S b ∧ w.cell? ⟨b, off, none⟩ = some (.int .i64 k) ∧ w.cell? ⟨b, off + 1, none⟩ = some (.int .i64 o) ∧ w.cell? ⟨b, off + 2, none⟩ = some (.int .i64 n) ∧ w.cell? ⟨b, off + 3, none⟩ = some (.string ⟨s.toArray⟩) ∧
      ∃ A c, w.cell? ⟨b, off + 4, none⟩ = some (.slice A ks.length c) ∧ (ks = [] ∨ ∃ b' off', A = some ⟨b', off', none⟩ ∧ ECs w S ks b' off')
def ECs (w : World) (S : Nat → Prop) : List X → Nat → Nat → Prop
  | [] => fun _ _ => True
  | x :: xs => fun b off => EC w S x b off ∧ ECs w S xs b (off + 5)
end

/-- What a slice of expressions that begins at A leads to. -/
def KS (w : World) (S : Nat → Prop) (A : Option Addr) (ks : List X) : Prop := ks = [] ∨ ∃ b off, A = some ⟨b, off, none⟩ ∧ ECs w S ks b off
/-- The value of an expression. -/
def ev (x : X) (A : Option Addr) (c : Nat) : Value := .agg #[.int .i64 x.k, .int .i64 x.o, .int .i64 x.n, .string ⟨x.s.toArray⟩, .slice A x.ks.length c]
def EV (w : World) (S : Nat → Prop) (v : Value) (x : X) : Prop := ∃ A c, v = ev x A c ∧ KS w S A x.ks

/-- All blocks that there are. -/
def Old (w : World) : Nat → Prop := fun b => b < w.heap.size

section
variable {w w' : World} {S S' : Nat → Prop}
mutual
theorem EC.move (h : ∀ b, S b → S' b ∧ w'.heap[b]? = w.heap[b]?) (x : X) (b off : Nat) (he : EC w S x b off) : EC w' S' x b off := by
  cases x with
  | mk k o n s ks =>
    unfold EC at he ⊢
    obtain ⟨hb, c0, c1, c2, c3, A, c, c4, hk⟩ := he
    have hc : ∀ i, w'.cell? ⟨b, i, none⟩ = w.cell? ⟨b, i, none⟩ := fun i => World.cell?_of_block (h b hb).2
    refine ⟨(h b hb).1, (hc _).trans c0, (hc _).trans c1, (hc _).trans c2, (hc _).trans c3, A, c, (hc _).trans c4, ?_⟩
    rcases hk with hk | ⟨b', off', hA, hs⟩
    · exact .inl hk
    · exact .inr ⟨b', off', hA, ECs.move h ks b' off' hs⟩
theorem ECs.move (h : ∀ b, S b → S' b ∧ w'.heap[b]? = w.heap[b]?) (xs : List X) (b off : Nat) (he : ECs w S xs b off) : ECs w' S' xs b off := by
  cases xs with
  | nil => unfold ECs; trivial
  | cons x xs =>
    unfold ECs at he ⊢
    exact ⟨EC.move h x b off he.1, ECs.move h xs b (off + 5) he.2⟩
end
theorem KS.move {A : Option Addr} {ks : List X} (he : KS w S A ks) (h : ∀ b, S b → S' b ∧ w'.heap[b]? = w.heap[b]?) : KS w' S' A ks := by
  rcases he with hk | ⟨b', off', hA, hs⟩
  · exact .inl hk
  · exact .inr ⟨b', off', hA, ECs.move h ks b' off' hs⟩
theorem EV.move {v : Value} {x : X} (he : EV w S v x) (h : ∀ b, S b → S' b ∧ w'.heap[b]? = w.heap[b]?) : EV w' S' v x := by
  obtain ⟨A, c, hv, hk⟩ := he
  exact ⟨A, c, hv, hk.move h⟩
theorem KS.later {A : Option Addr} {ks : List X} (he : KS w S A ks) (hS : ∀ b, S b → b < w.heap.size) (hb : Below w.heap.size w w') : KS w' S A ks := he.move fun b h => ⟨h, hb.block b (hS b h)⟩
theorem EV.later {v : Value} {x : X} (he : EV w S v x) (hS : ∀ b, S b → b < w.heap.size) (hb : Below w.heap.size w w') : EV w' S v x := he.move fun b h => ⟨h, hb.block b (hS b h)⟩

theorem EC.block {x : X} {b off : Nat} (h : EC w S x b off) : S b := by
  cases x with
  | mk k o n s ks => unfold EC at h; exact h.1
theorem EC.open {x : X} {b off : Nat} (h : EC w S x b off) : w.cell? ⟨b, off, none⟩ = some (.int .i64 x.k) ∧ w.cell? ⟨b, off + 1, none⟩ = some (.int .i64 x.o) ∧ w.cell? ⟨b, off + 2, none⟩ = some (.int .i64 x.n) ∧ w.cell? ⟨b, off + 3, none⟩ = some (.string ⟨x.s.toArray⟩) ∧
    ∃ A c, w.cell? ⟨b, off + 4, none⟩ = some (.slice A x.ks.length c) ∧ KS w S A x.ks := by
  cases x with
  | mk k o n s ks => unfold EC at h; exact h.2
theorem EC.mk' {x : X} {b off : Nat} {A : Option Addr} {c : Nat} (hb : S b) (c0 : w.cell? ⟨b, off, none⟩ = some (.int .i64 x.k)) (c1 : w.cell? ⟨b, off + 1, none⟩ = some (.int .i64 x.o)) (c2 : w.cell? ⟨b, off + 2, none⟩ = some (.int .i64 x.n)) (c3 : w.cell? ⟨b, off + 3, none⟩ = some (.string ⟨x.s.toArray⟩))
    (c4 : w.cell? ⟨b, off + 4, none⟩ = some (.slice A x.ks.length c)) (hk : KS w S A x.ks) : EC w S x b off := by
  cases x with
  | mk k o n s ks => unfold EC; exact ⟨hb, c0, c1, c2, c3, A, c, c4, hk⟩
theorem ECs.kid {xs : List X} {i : Nat} {x : X} : ∀ {b off : Nat}, ECs w S xs b off → xs[i]? = some x → EC w S x b (off + i * 5) := by
  induction xs generalizing i with
  | nil => intro b off _ hi; simp at hi
  | cons y ys ih =>
    intro b off h hi
    unfold ECs at h
    cases i with
    | zero => simp at hi; subst hi; exact h.1
    | succ i =>
      simp at hi
      have := ih h.2 hi
      rw [show off + (i + 1) * 5 = off + 5 + i * 5 by omega]
      exact this
theorem ECs.of_kids {xs : List X} : ∀ {b off : Nat}, (∀ (i : Nat) x, xs[i]? = some x → EC w S x b (off + i * 5)) → ECs w S xs b off := by
  induction xs with
  | nil => intro b off _; unfold ECs; trivial
  | cons y ys ih =>
    intro b off h
    unfold ECs
    refine ⟨by simpa using h 0 y rfl, ih fun i x hi => ?_⟩
    have := h (i + 1) x (by simpa using hi)
    rw [show off + (i + 1) * 5 = off + 5 + i * 5 by omega] at this
    exact this
theorem KS.kid {A : Option Addr} {xs : List X} {i : Nat} {x : X} (h : KS w S A xs) (hi : xs[i]? = some x) : ∃ b off, A = some ⟨b, off, none⟩ ∧ EC w S x b (off + i * 5) := by
  rcases h with rfl | ⟨b, off, hA, hs⟩
  · simp at hi
  · exact ⟨b, off, hA, hs.kid hi⟩
theorem EC.ev {x : X} {b off : Nat} (h : EC w S x b off) : ∃ A c, w.cell? ⟨b, off, none⟩ = some (.int .i64 x.k) ∧ w.cell? ⟨b, off + 1, none⟩ = some (.int .i64 x.o) ∧ w.cell? ⟨b, off + 2, none⟩ = some (.int .i64 x.n) ∧ w.cell? ⟨b, off + 3, none⟩ = some (.string ⟨x.s.toArray⟩) ∧
    w.cell? ⟨b, off + 4, none⟩ = some (.slice A x.ks.length c) ∧ KS w S A x.ks := by
  obtain ⟨c0, c1, c2, c3, A, c, c4, hk⟩ := h.open
  exact ⟨A, c, c0, c1, c2, c3, c4, hk⟩
end

end Go.Proofs.YtfajnflfonechaaDoor
