/- Parts: Mem, App, Tree, Nm, Nm2, Ex1, Pgm. -/
import Derived.WalkKit
import Derived.Below
import Derived.Laws.OwnMore
import Derived.Deep.Draws
import Derived.Deep.AppendLies
import Derived.Laws.Rows
import Derived.Maps.AppendAt
import Derived.Lib.AppendStr
import Derived.Lib.ConvBytes
import Derived.Lib.Hide
import Derived.Laws.BytesArg
import Derived.OwnWalk
import Derived.Test.YtdabndiaflagpaaGreatDoorProg
import Derived.Maps.OwnSet
set_option maxRecDepth 100000
set_option maxHeartbeats 4000000
set_option linter.unusedVariables false
namespace Go.Proofs.YtdabndiaflagpaaGreatDoor
open Go.RowKit

/-- Block g holds just these cells, of element type t, and none of them is frozen. -/
def Row (w : World) (g : Nat) (t : TypeId) (cs : Array Value) : Prop := w.heap[g]? = some (.cells cs t (0, 0))

section
variable {w w' : World} {g : Nat} {t : TypeId} {cs : Array Value}
theorem Row.lt (h : Row w g t cs) : g < w.heap.size := (Array.getElem?_eq_some_iff.1 h).1
theorem Row.cell (h : Row w g t cs) (i : Nat) : w.cell? ⟨g, i, none⟩ = cs[i]? := cell_of_row w g i cs t (0, 0) h
theorem Row.free (h : Row w g t cs) (i : Nat) : w.frozen? ⟨g, i, none⟩ = false := frozen_of_row w g i cs t h
theorem Row.made (w : World) (t : TypeId) (cs : Array Value) : Row (w.alloc (.cells cs t)) w.heap.size t cs := heap_alloc_new w _
theorem Row.alloc (h : Row w g t cs) (o : Obj) : Row (w.alloc o) g t cs := (Below.heap_alloc w o g h.lt).trans h
theorem Row.drew (h : Row w g t cs) : Row w.drew g t cs := h
theorem Row.set (h : Row w g t cs) (i : Nat) (u : Value) : Row (w.setCell ⟨g, i, none⟩ u) g t (cs.setIfInBounds i u) := heap_setCell_same w g i cs t u h
theorem Row.far (h : Row w g t cs) {p : Addr} (hp : g ≠ p.block) (u : Value) : Row (w.setCell p u) g t cs := (heap_setCell_other w p g u hp).trans h
theorem Row.below {B : Nat} (h : Row w g t cs) (hb : Below B w w') (hg : g < B) : Row w' g t cs := (hb.block g hg).trans h
theorem Row.grown {row : Option Nat} (h : Row w g t cs) (hb : w.grownBy w' row) (hg : some g ≠ row) : Row w' g t cs := (hb.block g h.lt hg).trans h
theorem Row.setRow (h : Row w g t cs) (cs' : Array Value) : Row (w.setRow g cs') g t cs' := setRow_heap w g cs _ t _ h
theorem below_setRow {B : Nat} {a : World} (h : Below B a w) {k : Nat} (hk : B ≤ k) (cs' : Array Value) : Below B a (w.setRow k cs') :=
  h.trans ⟨rfl, rfl, rfl, by simp, fun i hi => setRow_other w k i cs' (by omega)⟩
end

/-- From A on the cells of xs lie one behind the other, below block B (nothing is asked where xs is empty). -/
def Lies (w : World) (B : Nat) (A : Option Addr) (xs : List Value) : Prop :=
  xs ≠ [] → ∃ b off, A = some ⟨b, off, none⟩ ∧ b < B ∧ ∀ j u, xs[j]? = some u → w.cell? ⟨b, off + j, none⟩ = some u

section
variable {w w' : World} {B B' : Nat} {A : Option Addr} {xs : List Value}
theorem Lies.none_ : Lies w B A [] := fun h => absurd rfl h
end

theorem only_refl (w : World) (p : Nat) : w.grownBy w (some p) := World.grownBy.refl w _
theorem only_set {a w : World} {p : Nat} (h : a.grownBy w (some p)) (i : Nat) (u : Value) : a.grownBy (w.setCell ⟨p, i, none⟩ u) (some p) :=
  ⟨h.os, h.tape, h.output, by simpa [World.setCell] using h.size, fun k hk hne => (Below.heap_setCell w ⟨p, i, none⟩ u k (fun e => hne (by rw [e]))).trans (h.block k hk hne)⟩
theorem only_trans {a b c : World} {p : Nat} (h : a.grownBy b (some p)) (k : b.grownBy c (some p)) : a.grownBy c (some p) :=
  ⟨k.os.trans h.os, k.tape.trans h.tape, k.output.trans h.output, Nat.le_trans h.size k.size, fun i hi hne => (k.block i (Nat.lt_of_lt_of_le hi h.size) hne).trans (h.block i hi hne)⟩
theorem only_below {a b : World} (h : Below a.heap.size a b) (row : Option Nat) : a.grownBy b row := ⟨h.os, h.tape, h.output, h.size, fun i hi _ => h.block i hi⟩
theorem only_alloc {a w : World} {row : Option Nat} (h : a.grownBy w row) (o : Obj) : a.grownBy (w.alloc o) row :=
  ⟨h.os, h.tape, h.output, Nat.le_trans h.size (by simp), fun i hi hne => (Below.heap_alloc w o i (Nat.lt_of_lt_of_le hi h.size)).trans (h.block i hi hne)⟩

end Go.Proofs.YtdabndiaflagpaaGreatDoor
namespace Go.Proofs.YtdabndiaflagpaaGreatDoor
open Go.RowKit

/-- The value v is a slice of the call's own (its row lies from block B on), and holds just these cells. -/
def Owns (w : World) (B : Nat) (e : TypeId) (v : Value) (xs : List Value) : Prop := w.ownsRow B e 1 v xs.length xs

section
variable {w w' : World} {B : Nat} {e : TypeId} {v : Value} {xs : List Value}

theorem Owns.nil (w : World) (B : Nat) (e : TypeId) : Owns w B e (.slice none 0 0) [] := World.ownsRow_nil w B e 1
theorem Owns.form (h : Owns w B e v xs) : ∃ A c, v = .slice A xs.length c ∧ Lies w w.heap.size A xs := by
  rcases h.2 with ⟨rfl, hx⟩ | ⟨g, cap, cur, rfl, hb, hg, hnc, hcm, hcs, htake⟩
  · have : xs = [] := List.eq_nil_of_length_eq_zero hx
    subst this
    exact ⟨_, _, rfl, Lies.none_⟩
  · refine ⟨_, _, rfl, fun _ => ⟨g, 0, rfl, (Array.getElem?_eq_some_iff.1 hg).1, fun j u hu => ?_⟩⟩
    have hj : j < xs.length := by
      rcases Nat.lt_or_ge j xs.length with h' | h'
      · exact h'
      · rw [List.getElem?_eq_none h'] at hu; cases hu
    have := World.ownsRow.cellAt (show w.ownsRow B e 1 (.slice (some ⟨g, 0, none⟩) xs.length cap) xs.length xs from h) j (by omega)
    rw [Nat.zero_add, this, hu]
theorem Owns.alloc (h : Owns w B e v xs) (o : Obj) : Owns (w.alloc o) B e v xs := World.ownsRow.alloc h o
theorem Owns.lt (h : Owns w B e v xs) : ∀ k, v.ownBlock = some k → B ≤ k ∧ k < w.heap.size := World.ownsRow.lt h
theorem grown_below {row : Option Nat} (hg : w.grownBy w' row) (hB : B ≤ w.heap.size) (hr : ∀ k, row = some k → B ≤ k) : Below B w w' := (Below.refl _ _).grown hg hB hr
end

theorem lies_new (w : World) (cs : Array Value) (t : TypeId) : Lies (w.alloc (.cells cs t)) (w.alloc (.cells cs t)).heap.size (some ⟨w.heap.size, 0, none⟩) cs.toList := fun _ =>
  ⟨w.heap.size, 0, rfl, by simp, fun j u hu => by
    rw [Nat.zero_add, (Row.made w t cs).cell j, ← hu]
    simp⟩

theorem addr_add (b off j : Nat) : (⟨b, off, none⟩ : Addr).add j = ⟨b, off + j, none⟩ := by
  unfold Addr.add; split <;> simp_all

section
variable {P : Program} (w : World)

/-- append onto a row of the call's own; the source may be nil, empty or any other. -/
theorem run_app (B : Nat) (t ty e : TypeId) (i : TypeInfo) (z : Value) (bytes : Nat) (ht : P.underlying t = some (.slice e)) (hi : P.info? e = some i) (hz : i.zero = some z)
    (hsize : i.size = 1) (hby : i.bytes = bytes) (hzs : z.cells.size = 1)
    (v : Value) (xs : List Value) (hown : Owns w B e v xs) (A : Option Addr) (c : Nat) (news : List Value) (hA : Lies w w.heap.size A news) (h1 : ∀ u ∈ news, u.oneCell' = true) (m : Nat) (hm : m = news.length)
    (h63 : xs.length + news.length ≤ maxLen) (hbytes : (xs.length + news.length) * bytes ≤ 140737488355328) (hB : B ≤ w.heap.size) :
    ∃ v' w', (Builtin.append_ #[t, t] ty #[v, .slice A m c]).run P w = .ok v' w' ∧ Owns w' B e v' (xs ++ news) ∧ Below B w w' := by
  subst hm
  have key : ∀ a : Addr, A = some a → (∀ j u, news[j]? = some u → w.cell? (a.add j) = some u) → ∃ v' w', (Builtin.append_ #[t, t] ty #[v, .slice A news.length c]).run P w = .ok v' w' ∧ Owns w' B e v' (xs ++ news) ∧ Below B w w' := by
    intro a ha hc
    subst ha
    obtain ⟨v', w', hr, h2, h3, _, _⟩ := run_append_own_at (P := P) w B t ty e i z 1 bytes ht hi hz hsize hby hzs (by omega) v xs.length xs hown a news.length c news (by omega) hc h1 h63 hbytes hB
    exact ⟨v', w', hr, by unfold Owns; rw [List.length_append]; exact h2, grown_below h3 hB fun k hk => (hown.lt k hk).1⟩
  by_cases hn : news = []
  · subst hn
    cases A with
    | none =>
      have hr : (Builtin.append_ #[t, t] ty #[v, .slice none 0 c]).run P w = .ok v w := by
        rcases hown.2 with ⟨rfl, _⟩ | ⟨g, cap, cur, rfl, _, _, hnc, _⟩
        · simp [Builtin.append_, run_underlying ht, sizeOf, typeInfo, hi, Builtin.lenOf, Builtin.firstCells]
        · simp [Builtin.append_, run_underlying ht, sizeOf, typeInfo, hi, Builtin.lenOf, Builtin.firstCells, hnc, storeCells]
      exact ⟨v, w, hr, by simpa using hown, Below.refl _ _⟩
    | some a => exact key a rfl (by simp)
  · obtain ⟨b, off, ha, _, hc⟩ := hA hn
    exact key _ ha fun j u hu => by rw [addr_add]; exact hc j u hu

theorem wpList_app {ops : Array Oper} {rest : List Oper} {o : Oper} {a : Act} {Q : Exit → Act → World → Prop} (hgd : o.guard = none) (s x : Operand) (t : TypeId)
    (ho : o.op = .call { callee := .builtin .append, args := #[s, x], argTypes := #[t, t] })
    (B : Nat) (e : TypeId) (i : TypeInfo) (z : Value) (bytes : Nat) (ht : P.underlying t = some (.slice e)) (hi : P.info? e = some i) (hz : i.zero = some z)
    (hsize : i.size = 1) (hby : i.bytes = bytes) (hzs : z.cells.size = 1) (h64 : bytes ≤ 64)
    (v : Value) (hs : a.eval s = v) (xs : List Value) (hown : Owns w B e v xs) (A : Option Addr) (m c : Nat) (hx : a.eval x = .slice A m c) (news : List Value) (hA : Lies w w.heap.size A news) (hm : m = news.length)
    (h : ∀ v' w', Owns w' B e v' (xs ++ news) → Below B w w' → wpList P ops Q rest (a.put o.dst v') w')
    (h1 : ∀ u ∈ news, u.oneCell' = true) (hlen : xs.length + news.length ≤ 1099511627900) (hB : B ≤ w.heap.size) : wpList P ops Q (o :: rest) a w :=
  wpList_plain hgd fun _ hK => by
    have hb2 : (xs.length + news.length) * bytes ≤ 1099511627900 * 64 := Nat.mul_le_mul hlen h64
    obtain ⟨v', w', hr, h2, h3⟩ := run_app (P := P) w B t o.type e i z bytes ht hi hz hsize hby hzs v xs hown A c news hA h1 m hm (by simp only [maxLen]; omega) (by omega) hB
    unfold Oper.wp execOp
    simp only [ho, resolve, invoke, builtin, Sem.run_bind, Sem.run_pure, Result.andThen_ok, List.map_toArray, List.map_cons, List.map_nil, hs, hx, hr]
    exact hK _ _ (h v' w' h2 h3)

end

theorem bytesWorld_below (w : World) (e : TypeId) (s : ByteArray) : Below w.heap.size w (Lib.bytesWorld w e s) :=
  ⟨rfl, rfl, rfl, by rw [Lib.bytesWorld_size]; omega, fun k hk => Lib.bytesWorld_at_old w e s k hk⟩

end Go.Proofs.YtdabndiaflagpaaGreatDoor
namespace Go.Proofs.YtdabndiaflagpaaGreatDoor
open Go.RowKit

abbrev T := List UInt8
/-- An expression: kind, op, number, name, kids. -/
inductive X where
  | mk (k o n : Int) (s : T) (ks : List X)

def X.k : X → Int | .mk k _ _ _ _ => k
def X.o : X → Int | .mk _ o _ _ _ => o
def X.n : X → Int | .mk _ _ n _ _ => n
def X.s : X → T | .mk _ _ _ s _ => s
def X.ks : X → List X | .mk _ _ _ _ ks => ks

mutual
def X.size : X → Nat
  | .mk _ _ _ _ ks => 1 + X.sizes ks
def X.sizes : List X → Nat
  | [] => 0
  | x :: xs => x.size + X.sizes xs
end
mutual
def X.depth : X → Nat
  | .mk _ _ _ _ ks => 1 + X.depths ks
def X.depths : List X → Nat
  | [] => 0
  | x :: xs => max x.depth (X.depths xs)
end
mutual
def X.same : X → X → Bool
  | .mk k o n s ks, .mk k' o' n' s' ks' => decide (k = k') && decide (o = o') && decide (n = n') && decide (s = s') && X.sames ks ks'
def X.sames : List X → List X → Bool
  | [], [] => true
  | x :: xs, y :: ys => x.same y && X.sames xs ys
  | _, _ => false
end
mutual
/-- It, and all below it, each ahead of its kids. -/
def X.walk : X → List X
  | .mk k o n s ks => .mk k o n s ks :: X.walks ks
def X.walks : List X → List X
  | [] => []
  | x :: xs => x.walk ++ X.walks xs
end
mutual
/-- Its bulk: all names' bytes counted. -/
def X.bulk : X → Nat
  | .mk _ _ _ s ks => 1 + s.length + X.bulks ks
def X.bulks : List X → Nat
  | [] => 0
  | x :: xs => x.bulk + X.bulks xs
end

theorem X.size_pos (x : X) : 1 ≤ x.size := by cases x; simp [X.size]
theorem X.sizes_length (xs : List X) : xs.length ≤ X.sizes xs := by
  induction xs with
  | nil => simp [X.sizes]
  | cons x xs ih => have := x.size_pos; simp only [X.sizes, List.length_cons]; omega
theorem X.sizes_at {xs : List X} {i : Nat} {x : X} (h : xs[i]? = some x) : x.size ≤ X.sizes xs := by
  induction xs generalizing i with
  | nil => simp at h
  | cons y ys ih =>
    cases i with
    | zero => simp at h; subst h; simp only [X.sizes]; omega
    | succ i => simp at h; have := ih h; simp only [X.sizes]; omega
theorem X.sizes_append (xs ys : List X) : X.sizes (xs ++ ys) = X.sizes xs + X.sizes ys := by
  induction xs with
  | nil => simp [X.sizes]
  | cons x xs ih => simp only [List.cons_append, X.sizes, ih]; omega
theorem take_succ {α : Type} {xs : List α} {i : Nat} {x : α} (h : xs[i]? = some x) : xs.take (i + 1) = xs.take i ++ [x] := by
  rw [List.take_add_one, h]; rfl
theorem X.sizes_take {xs : List X} {i : Nat} {x : X} (h : xs[i]? = some x) : X.sizes (xs.take (i + 1)) = X.sizes (xs.take i) + x.size := by
  rw [take_succ h, X.sizes_append]; simp [X.sizes]
theorem X.sizes_take_le (xs : List X) (i : Nat) : X.sizes (xs.take i) ≤ X.sizes xs := by
  have := X.sizes_append (xs.take i) (xs.drop i)
  rw [List.take_append_drop] at this; omega

theorem X.depths_append (xs ys : List X) : X.depths (xs ++ ys) = max (X.depths xs) (X.depths ys) := by
  induction xs with
  | nil => simp [X.depths]
  | cons x xs ih => simp only [List.cons_append, X.depths, ih]; omega
theorem X.depths_take {xs : List X} {i : Nat} {x : X} (h : xs[i]? = some x) : X.depths (xs.take (i + 1)) = max (X.depths (xs.take i)) x.depth := by
  rw [take_succ h, X.depths_append]; simp [X.depths]
mutual
theorem X.depth_le (x : X) : x.depth ≤ x.size := by
  cases x with
  | mk k o n s ks => have := X.depths_le ks; simp only [X.depth, X.size]; omega
theorem X.depths_le (xs : List X) : X.depths xs ≤ X.sizes xs := by
  cases xs with
  | nil => simp [X.depths]
  | cons x xs => have := X.depth_le x; have := X.depths_le xs; simp only [X.depths, X.sizes]; omega
end
mutual
theorem X.size_le (x : X) : x.size ≤ x.bulk := by
  cases x with
  | mk k o n s ks => have := X.sizes_le ks; simp only [X.bulk, X.size]; omega
theorem X.sizes_le (xs : List X) : X.sizes xs ≤ X.bulks xs := by
  cases xs with
  | nil => simp [X.sizes]
  | cons x xs => have := X.size_le x; have := X.sizes_le xs; simp only [X.bulks, X.sizes]; omega
end
theorem X.depths_take_le (xs : List X) (i : Nat) : X.depths (xs.take i) ≤ X.depths xs := by
  have := X.depths_append (xs.take i) (xs.drop i)
  rw [List.take_append_drop] at this; omega
theorem X.depths_at {xs : List X} {i : Nat} {x : X} (h : xs[i]? = some x) : x.depth ≤ X.depths xs := by
  induction xs generalizing i with
  | nil => simp at h
  | cons y ys ih =>
    cases i with
    | zero => simp at h; subst h; simp only [X.depths]; omega
    | succ i => simp at h; have := ih h; simp only [X.depths]; omega
theorem X.sames_length {xs ys : List X} (h : xs.length ≠ ys.length) : X.sames xs ys = false := by
  induction xs generalizing ys with
  | nil => cases ys with
    | nil => simp at h
    | cons y ys => rfl
  | cons x xs ih => cases ys with
    | nil => rfl
    | cons y ys => simp only [X.sames, Bool.and_eq_false_iff]; exact .inr (ih (by simpa using h))
theorem X.sames_stop {xs ys : List X} {i : Nat} {x y : X} (hx : xs[i]? = some x) (hy : ys[i]? = some y) (h : x.same y = false) : X.sames xs ys = false := by
  induction xs generalizing ys i with
  | nil => simp at hx
  | cons a xs ih => cases ys with
    | nil => rfl
    | cons b ys =>
      simp only [X.sames, Bool.and_eq_false_iff]
      cases i with
      | zero => simp at hx hy; subst hx hy; exact .inl h
      | succ i => simp at hx hy; exact .inr (ih hx hy)
theorem X.sames_all {xs ys : List X} (hl : xs.length = ys.length) (h : ∀ (i : Nat) x y, xs[i]? = some x → ys[i]? = some y → x.same y = true) : X.sames xs ys = true := by
  induction xs generalizing ys with
  | nil => cases ys with
    | nil => rfl
    | cons y ys => simp at hl
  | cons a xs ih => cases ys with
    | nil => simp at hl
    | cons b ys =>
      simp only [X.sames, Bool.and_eq_true]
      exact ⟨h 0 a b rfl rfl, ih (by simpa using hl) fun i x y hx hy => h (i + 1) x y (by simpa using hx) (by simpa using hy)⟩
mutual
theorem X.walk_length (x : X) : x.walk.length = x.size := by
  cases x with
  | mk k o n s ks => simp [X.walk, X.size, X.walks_length ks]; omega
theorem X.walks_length (xs : List X) : (X.walks xs).length = X.sizes xs := by
  cases xs with
  | nil => rfl
  | cons x xs => simp [X.walks, X.sizes, X.walk_length x, X.walks_length xs]
end
theorem X.walks_append (xs ys : List X) : X.walks (xs ++ ys) = X.walks xs ++ X.walks ys := by
  induction xs with
  | nil => simp [X.walks]
  | cons x xs ih => simp [X.walks, ih, List.append_assoc]
theorem X.walks_take {xs : List X} {i : Nat} {x : X} (h : xs[i]? = some x) : X.walks (xs.take (i + 1)) = X.walks (xs.take i) ++ x.walk := by
  rw [take_succ h, X.walks_append]; simp [X.walks]

mutual
/-- Numbers that an int64 can be, names of no more than so many bytes. -/
def X.ok : X → Prop
  | .mk _ _ n s ks => n ≤ 9223372036854775807 ∧ s.length ≤ 1099511627776 ∧ X.oks ks
def X.oks : List X → Prop
  | [] => True
  | x :: xs => x.ok ∧ X.oks xs
end
theorem X.oks_at {xs : List X} {i : Nat} {x : X} (h : xs[i]? = some x) (ho : X.oks xs) : x.ok := by
  induction xs generalizing i with
  | nil => simp at h
  | cons y ys ih =>
    unfold X.oks at ho
    cases i with
    | zero => simp at h; subst h; exact ho.1
    | succ i => simp at h; exact ih h ho.2

theorem X.ok_n {x : X} (h : x.ok) : x.n ≤ 9223372036854775807 := by cases x; unfold X.ok at h; exact h.1
theorem X.ok_s {x : X} (h : x.ok) : x.s.length ≤ 1099511627776 := by cases x; unfold X.ok at h; exact h.2.1
theorem X.ks_le {x : X} {M : Nat} (h : x.size ≤ M) : x.ks.length ≤ M := by
  cases x with
  | mk k o n s ks => have := X.sizes_length ks; simp only [X.size, X.ks] at h ⊢; omega

/-! ### In memory -/

mutual
/-- From cell off of block b on an expression lies; all that it leads to lies in blocks of S. -/
def EC (w : World) (S : Nat → Prop) : X → Nat → Nat → Prop
  | .mk k o n s ks => fun b off => S b ∧ w.cell? ⟨b, off, none⟩ = some (.int .i64 k) ∧ w.cell? ⟨b, off + 1, none⟩ = some (.int .i64 o) ∧ w.cell? ⟨b, off + 2, none⟩ = some (.int .i64 n) ∧ w.cell? ⟨b, off + 3, none⟩ = some (.string ⟨s.toArray⟩) ∧
      ∃ A c, w.cell? ⟨b, off + 4, none⟩ = some (.slice A ks.length c) ∧ (ks = [] ∨ ∃ b' off', A = some ⟨b', off', none⟩ ∧ ECs w S ks b' off')
def ECs (w : World) (S : Nat → Prop) : List X → Nat → Nat → Prop
  | [] => fun _ _ => True
  | x :: xs => fun b off => EC w S x b off ∧ ECs w S xs b (off + 5)
end

/-- What a slice of expressions that begins at A leads to. -/
def KS (w : World) (S : Nat → Prop) (A : Option Addr) (ks : List X) : Prop := ks = [] ∨ ∃ b off, A = some ⟨b, off, none⟩ ∧ ECs w S ks b off
/-- The value of an expression. -/
def ev (x : X) (A : Option Addr) (c : Nat) : Value := .agg #[.int .i64 x.k, .int .i64 x.o, .int .i64 x.n, .string ⟨x.s.toArray⟩, .slice A x.ks.length c]
/-- All blocks that there are. -/
def Old (w : World) : Nat → Prop := fun b => b < w.heap.size

section
variable {w w' : World} {S S' : Nat → Prop}
mutual
theorem EC.move (h : ∀ b, S b → S' b ∧ w'.heap[b]? = w.heap[b]?) (x : X) (b off : Nat) (he : EC w S x b off) : EC w' S' x b off := by
  cases x with
  | mk k o n s ks =>
    unfold EC at he ⊢
    obtain ⟨hb, c0, c1, c2, c3, A, c, c4, hk⟩ := he
    have hc : ∀ i, w'.cell? ⟨b, i, none⟩ = w.cell? ⟨b, i, none⟩ := fun i => World.cell?_of_block (h b hb).2
    refine ⟨(h b hb).1, (hc _).trans c0, (hc _).trans c1, (hc _).trans c2, (hc _).trans c3, A, c, (hc _).trans c4, ?_⟩
    rcases hk with hk | ⟨b', off', hA, hs⟩
    · exact .inl hk
    · exact .inr ⟨b', off', hA, ECs.move h ks b' off' hs⟩
theorem ECs.move (h : ∀ b, S b → S' b ∧ w'.heap[b]? = w.heap[b]?) (xs : List X) (b off : Nat) (he : ECs w S xs b off) : ECs w' S' xs b off := by
  cases xs with
  | nil => unfold ECs; trivial
  | cons x xs =>
    unfold ECs at he ⊢
    exact ⟨EC.move h x b off he.1, ECs.move h xs b (off + 5) he.2⟩
end
theorem KS.move {A : Option Addr} {ks : List X} (he : KS w S A ks) (h : ∀ b, S b → S' b ∧ w'.heap[b]? = w.heap[b]?) : KS w' S' A ks := by
  rcases he with hk | ⟨b', off', hA, hs⟩
  · exact .inl hk
  · exact .inr ⟨b', off', hA, ECs.move h ks b' off' hs⟩
theorem KS.later {A : Option Addr} {ks : List X} (he : KS w S A ks) (hS : ∀ b, S b → b < w.heap.size) (hb : Below w.heap.size w w') : KS w' S A ks := he.move fun b h => ⟨h, hb.block b (hS b h)⟩
theorem EC.block {x : X} {b off : Nat} (h : EC w S x b off) : S b := by
  cases x with
  | mk k o n s ks => unfold EC at h; exact h.1
theorem EC.open {x : X} {b off : Nat} (h : EC w S x b off) : w.cell? ⟨b, off, none⟩ = some (.int .i64 x.k) ∧ w.cell? ⟨b, off + 1, none⟩ = some (.int .i64 x.o) ∧ w.cell? ⟨b, off + 2, none⟩ = some (.int .i64 x.n) ∧ w.cell? ⟨b, off + 3, none⟩ = some (.string ⟨x.s.toArray⟩) ∧
    ∃ A c, w.cell? ⟨b, off + 4, none⟩ = some (.slice A x.ks.length c) ∧ KS w S A x.ks := by
  cases x with
  | mk k o n s ks => unfold EC at h; exact h.2
theorem EC.mk' {x : X} {b off : Nat} {A : Option Addr} {c : Nat} (hb : S b) (c0 : w.cell? ⟨b, off, none⟩ = some (.int .i64 x.k)) (c1 : w.cell? ⟨b, off + 1, none⟩ = some (.int .i64 x.o)) (c2 : w.cell? ⟨b, off + 2, none⟩ = some (.int .i64 x.n)) (c3 : w.cell? ⟨b, off + 3, none⟩ = some (.string ⟨x.s.toArray⟩))
    (c4 : w.cell? ⟨b, off + 4, none⟩ = some (.slice A x.ks.length c)) (hk : KS w S A x.ks) : EC w S x b off := by
  cases x with
  | mk k o n s ks => unfold EC; exact ⟨hb, c0, c1, c2, c3, A, c, c4, hk⟩
theorem ECs.kid {xs : List X} {i : Nat} {x : X} : ∀ {b off : Nat}, ECs w S xs b off → xs[i]? = some x → EC w S x b (off + i * 5) := by
  induction xs generalizing i with
  | nil => intro b off _ hi; simp at hi
  | cons y ys ih =>
    intro b off h hi
    unfold ECs at h
    cases i with
    | zero => simp at hi; subst hi; exact h.1
    | succ i =>
      simp at hi
      have := ih h.2 hi
      rw [show off + (i + 1) * 5 = off + 5 + i * 5 by omega]
      exact this
theorem ECs.of_kids {xs : List X} : ∀ {b off : Nat}, (∀ (i : Nat) x, xs[i]? = some x → EC w S x b (off + i * 5)) → ECs w S xs b off := by
  induction xs with
  | nil => intro b off _; unfold ECs; trivial
  | cons y ys ih =>
    intro b off h
    unfold ECs
    refine ⟨by simpa using h 0 y rfl, ih fun i x hi => ?_⟩
    have := h (i + 1) x (by simpa using hi)
    rw [show off + (i + 1) * 5 = off + 5 + i * 5 by omega] at this
    exact this
theorem KS.kid {A : Option Addr} {xs : List X} {i : Nat} {x : X} (h : KS w S A xs) (hi : xs[i]? = some x) : ∃ b off, A = some ⟨b, off, none⟩ ∧ EC w S x b (off + i * 5) := by
  rcases h with rfl | ⟨b, off, hA, hs⟩
  · simp at hi
  · exact ⟨b, off, hA, hs.kid hi⟩
theorem EC.ev {x : X} {b off : Nat} (h : EC w S x b off) : ∃ A c, w.cell? ⟨b, off, none⟩ = some (.int .i64 x.k) ∧ w.cell? ⟨b, off + 1, none⟩ = some (.int .i64 x.o) ∧ w.cell? ⟨b, off + 2, none⟩ = some (.int .i64 x.n) ∧ w.cell? ⟨b, off + 3, none⟩ = some (.string ⟨x.s.toArray⟩) ∧
    w.cell? ⟨b, off + 4, none⟩ = some (.slice A x.ks.length c) ∧ KS w S A x.ks := by
  obtain ⟨c0, c1, c2, c3, A, c, c4, hk⟩ := h.open
  exact ⟨A, c, c0, c1, c2, c3, c4, hk⟩
end

end Go.Proofs.YtdabndiaflagpaaGreatDoor
namespace Go.Proofs.YtdabndiaflagpaaGreatDoor
open Go.RowKit

def isL (z : Int) : Bool := decide ((97 ≤ z ∧ z ≤ 122) ∨ (65 ≤ z ∧ z ≤ 90) ∨ z = 95)
def isD (z : Int) : Bool := decide (48 ≤ z ∧ z ≤ 57)
def wordsL : List T := [[97, 110, 100], [98, 111, 111, 108], [99, 111, 110, 115, 116], [100, 105, 118], [101, 108, 115, 101], [102, 97, 108, 115, 101], [105, 102], [105, 110, 116], [108, 101, 116], [109, 111, 100], [110, 111, 100, 101], [110, 111, 116], [111, 114], [112, 114, 101], [114, 101, 116, 117, 114, 110, 115], [116, 101, 108], [116, 104, 101, 110], [116, 114, 117, 101], [118, 97, 114], [120, 111, 114]]
def wordB (s : T) : Bool := decide (s ∈ wordsL)
def wordsV : Array Value := (wordsL.map fun l => Value.string ⟨l.toArray⟩).toArray

theorem ret_bool {a b : Bool} (h : a = b) : Ending.returned (.bool a) = Ending.returned (.bool b) := by rw [h]

theorem letter_any (z : Int) (w : World) : Calls Tryz.prog 118 #[.int .u8 z] w fun e w' => e = .returned (.bool (isL z)) ∧ w = w' := by
  by_cases h1 : 97 ≤ z <;> by_cases h2 : z ≤ 122 <;> by_cases h3 : 65 ≤ z <;> by_cases h4 : z ≤ 90 <;> by_cases h5 : z = 95
  all_goals first | (exfalso; omega) | skip
  all_goals
    first
      | (have h7 : z = 95 := h5
         clear h1 h2 h3 h4 h5
         subst h7
         have HL : Hid (isL 95 = true) := Lib.hid (by decide)
         go_enter Tryz.func118, Tryz.ntmps118
         go_wp2_with fail
         go_ret
         exact ⟨ret_bool HL.out.symm, rfl⟩)
      | (have HL : Hid (isL z = true) := decide_eq_true (by omega)
         have h6 : (z == 95) = false := by simpa using h5
         go_enter Tryz.func118, Tryz.ntmps118
         go_wp2_with fail
         go_ret
         exact ⟨ret_bool HL.out.symm, rfl⟩)
      | (have HL : Hid (isL z = false) := decide_eq_false (by omega)
         have h6 : (z == 95) = false := by simpa using h5
         go_enter Tryz.func118, Tryz.ntmps118
         go_wp2_with fail
         go_ret
         exact ⟨ret_bool HL.out.symm, rfl⟩)

theorem Letter_any (z : Int) (w : World) : Calls Tryz.prog 77 #[.int .u8 z] w fun e w' => e = .returned (.bool (isL z)) ∧ w = w' := by
  by_cases h1 : 97 ≤ z <;> by_cases h2 : z ≤ 122 <;> by_cases h3 : 65 ≤ z <;> by_cases h4 : z ≤ 90 <;> by_cases h5 : z = 95
  all_goals first | (exfalso; omega) | skip
  all_goals
    first
      | (have h7 : z = 95 := h5
         clear h1 h2 h3 h4 h5
         subst h7
         have HL : Hid (isL 95 = true) := Lib.hid (by decide)
         go_enter Tryz.func77, Tryz.ntmps77
         go_wp2_with fail
         go_ret
         exact ⟨ret_bool HL.out.symm, rfl⟩)
      | (have HL : Hid (isL z = true) := decide_eq_true (by omega)
         have h6 : (z == 95) = false := by simpa using h5
         go_enter Tryz.func77, Tryz.ntmps77
         go_wp2_with fail
         go_ret
         exact ⟨ret_bool HL.out.symm, rfl⟩)
      | (have HL : Hid (isL z = false) := decide_eq_false (by omega)
         have h6 : (z == 95) = false := by simpa using h5
         go_enter Tryz.func77, Tryz.ntmps77
         go_wp2_with fail
         go_ret
         exact ⟨ret_bool HL.out.symm, rfl⟩)

theorem digit_any (z : Int) (w : World) : Calls Tryz.prog 117 #[.int .u8 z] w fun e w' => e = .returned (.bool (isD z)) ∧ w = w' := by
  by_cases h1 : 48 ≤ z <;> by_cases h2 : z ≤ 57
  all_goals
    first
      | (have HL : Hid (isD z = true) := decide_eq_true (by omega)
         go_enter Tryz.func117, Tryz.ntmps117
         go_wp2_with fail
         go_ret
         exact ⟨ret_bool HL.out.symm, rfl⟩)
      | (have HL : Hid (isD z = false) := decide_eq_false (by omega)
         go_enter Tryz.func117, Tryz.ntmps117
         go_wp2_with fail
         go_ret
         exact ⟨ret_bool HL.out.symm, rfl⟩)

theorem Digit_any (z : Int) (w : World) : Calls Tryz.prog 78 #[.int .u8 z] w fun e w' => e = .returned (.bool (isD z)) ∧ w = w' := by
  by_cases h1 : 48 ≤ z <;> by_cases h2 : z ≤ 57
  all_goals
    first
      | (have HL : Hid (isD z = true) := decide_eq_true (by omega)
         go_enter Tryz.func78, Tryz.ntmps78
         go_wp2_with fail
         go_ret
         exact ⟨ret_bool HL.out.symm, rfl⟩)
      | (have HL : Hid (isD z = false) := decide_eq_false (by omega)
         go_enter Tryz.func78, Tryz.ntmps78
         go_wp2_with fail
         go_ret
         exact ⟨ret_bool HL.out.symm, rfl⟩)

/-! ### The words as a list -/
def WordsMade (w : World) (e : Ending) (w' : World) : Prop := ∃ g, e = .returned (.slice (some ⟨g, 0, none⟩) 20 20) ∧ Row w' g 9 wordsV ∧ Below w.heap.size w w'

theorem Words_any (w : World) : Calls Tryz.prog 115 #[] w (WordsMade w) := by
  go_enter Tryz.func115, Tryz.ntmps115
  go_wp2_with fail
  go_ret
  exact ⟨w.heap.size, rfl, Row.made _ _ _, (Below.refl _ _).alloc (Nat.le_refl _) _⟩

theorem Word_any (s : T) (w : World) : Calls Tryz.prog 79 #[.string ⟨s.toArray⟩] w fun e w' => e = .returned (.bool (wordB s)) ∧ Below w.heap.size w w' := by
  go_enter Tryz.func79, Tryz.ntmps79
  go_wp2_with (go_at_call 115; refine (Words_any w).mono ?_; rintro e w1 ⟨g, rfl, hr, hb⟩; have HR := Lib.hid hr; have HB := Lib.hid hb; clear hr hb)
  go_loop [4] (fun k => ∃ i : Nat, i ≤ 20 ∧ k = .int .i64 i ∧ ∀ (j : Nat) l, j < i → wordsL[j]? = some l → l ≠ s) (fun k => 20 - (intOf k).toNat)
  case atStart => exact ⟨0, by omega, rfl, fun j l h => by omega⟩
  case round =>
    obtain ⟨i, hi, rfl, hb⟩ := hrel
    have HN := Lib.hid hb
    clear hb
    by_cases hlt : i < 20
    · obtain ⟨l, hl⟩ : ∃ l, wordsL[i]? = some l := ⟨_, List.getElem?_eq_getElem (by simpa [wordsL] using hlt)⟩
      have hcell : w1.cell? ⟨g, i, none⟩ = some (.string ⟨l.toArray⟩) := by
        rw [HR.out.cell i]; simp [wordsV, hl]
      have HL := Lib.hid hl
      clear hl
      by_cases he : l = s
      · have HW : Hid (wordB s = true) := decide_eq_true (by rw [← he]; exact List.mem_of_getElem? HL.out)
        rw [he] at hcell
        clear he
        go_wp2_with fail
        go_ret
        exact ⟨ret_bool HW.out.symm, HB.out⟩
      · have hne : (l == s) = false := by simpa using he
        have HE := Lib.hid he
        clear he
        go_wp2_with fail
        refine ⟨⟨i + 1, by omega, by go_num, fun j m h hm => ?_⟩, by simp [intOf]; omega⟩
        by_cases hji : j = i
        · subst hji; rw [HL.out] at hm; injection hm with hm; rw [← hm]; exact HE.out
        · exact HN.out j m (by omega) hm
    · have HW : Hid (wordB s = false) := decide_eq_false (fun hm => by
        obtain ⟨j, hj⟩ := List.mem_iff_getElem?.1 hm
        have : j < 20 := by
          rcases Nat.lt_or_ge j 20 with h' | h'
          · exact h'
          · rw [List.getElem?_eq_none (by simpa [wordsL] using h')] at hj; cases hj
        exact HN.out j s (by omega) hj rfl)
      go_wp2_with fail
      go_ret
      exact ⟨ret_bool HW.out.symm, HB.out⟩

/-! ### The words as a map -/
def key (l : T) : Lit := .string l
theorem key_ne {l m : T} (h : l ≠ m) : key l ≠ key m := fun e => h (by unfold key at e; injection e)
theorem key_lit (l : T) : WideAt.IsKeyLit (key l) := trivial
theorem strKeyed : Maps.Keyed Tryz.prog 9 := Maps.string_keyed Tryz.underlying9
theorem zeroBool (w : World) : (zeroValue 4).run Tryz.prog w = .ok (.bool false) w := by kernel_rfl
theorem key_of (l : T) (h : l.length ≤ maxLen) : keyOf Tryz.prog 9 (.string ⟨l.toArray⟩) = some (key l) := WideMaps.keyOf_string_mk Tryz.underlying9 (s := ⟨l.toArray⟩) h

/-- In block b lies a map that says true of just these texts. -/
def WMk (w : World) (b : Nat) (ks : List T) : Prop :=
  ∃ D : DataW Unit, w.ownsMap Tryz.prog 9 (plainElem Tryz.prog 4) b ks.length D ∧ Maps.IsMap D ∧ ∀ s, D.atKey (key s) (.lit (.bool false)) = .lit (.bool (decide (s ∈ ks)))

theorem WMk.made (w : World) : WMk (w.alloc (.map #[] 0)) w.heap.size [] :=
  ⟨.map [], World.ownsMap_made (H := Unit) w Tryz.prog 9 (plainElem Tryz.prog 4), Maps.isMap_empty, fun _ => rfl⟩
theorem WMk.later {w w' : World} {b : Nat} {ks : List T} (h : WMk w b ks) (hb : Below w.heap.size w w') : WMk w' b ks := by
  obtain ⟨D, hm, r⟩ := h
  exact ⟨D, hm.kept (only_below hb (row := none)) (by simp), r⟩
set_option maxRecDepth 100000 in
theorem wpList_word {w : World} {ops : Array Oper} {rest : List Oper} {o : Oper} {a : Act} {Q : Exit → Act → World → Prop} (hg : o.guard = none) (m x v : Operand) (hop : o.op = Op.insert 123 m x v)
    (b : Nat) (ks : List T) (hm : a.eval m = .map (some b)) (h : WMk w b ks) (hks : ks.length ≤ 100) (l : T) (hx : a.eval x = .string ⟨l.toArray⟩) (hv : a.eval v = .bool true) (hl : l.length ≤ 100)
    (hK : ∀ w', WMk w' b (l :: ks) → w.grownBy w' (some b) → wpList Tryz.prog ops Q rest (a.put o.dst undef) w') : wpList Tryz.prog ops Q (o :: rest) a w := by
  obtain ⟨D, hown, hmap, hat⟩ := h
  refine wpList_plain hg fun K' hK' => ?_
  obtain ⟨w', hrun, r1, r2⟩ := hown.update strKeyed Tryz.underlying123 (by unfold maxLen; omega) (key_of l (by unfold maxLen; omega)) (plainElem_bool Tryz.underlying4 true)
  unfold Oper.wp
  simp [execOp, hop, hm, hx, hv, hrun, Result.andThen]
  refine hK' _ _ (hK w' ⟨_, r1, hmap.put _ _, fun s => ?_⟩ r2)
  by_cases e : s = l
  · subst e
    rw [Maps.atKey_put_same hmap (key_lit s)]
    simp
  · rw [Maps.atKey_put_other (key_ne e), hat s]
    simp [e]


set_option maxRecDepth 100000 in
theorem wpList_ask {w : World} {ops : Array Oper} {rest : List Oper} {o : Oper} {a : Act} {Q : Exit → Act → World → Prop} (hg : o.guard = none) (m x : Operand) (hop : o.op = Op.lookup 123 m x false)
    (b : Nat) (ks : List T) (hm : a.eval m = .map (some b)) (h : WMk w b ks) (l : T) (hx : a.eval x = .string ⟨l.toArray⟩) (hl : l.length ≤ maxLen)
    (hK : wpList Tryz.prog ops Q rest (a.put o.dst (.bool (decide (l ∈ ks)))) w) : wpList Tryz.prog ops Q (o :: rest) a w := by
  obtain ⟨D, ⟨es, clock, hb, F, hs, rfl⟩, hmap, hat⟩ := h
  refine wpList_plain hg fun K' hK' => ?_
  have key' : ∃ c, (Instr.lookup 123 (.map (some b)) (.string ⟨l.toArray⟩) false).run Tryz.prog w = .ok (.bool c) w ∧ c = decide (l ∈ ks) := by
    have h0 := hat l
    rcases Maps.fit_look false strKeyed Tryz.underlying123 (zeroBool w) hb F (key_of l hl) with ⟨hrun, _, hz⟩ | ⟨e0, y, _, _, hrun, hRv, hz, _⟩
    · refine ⟨false, hrun, ?_⟩
      rw [hz] at h0
      injection h0 with h0
      injection h0
    · rw [hz] at h0
      have hp : ∃ c, e0.val = .bool c ∧ y.1 = .lit (.bool c) := by
        unfold plainElem at hRv
        rw [Tryz.underlying4] at hRv
        cases hv : e0.val <;> rw [hv] at hRv <;> simp at hRv
        exact ⟨_, rfl, by rw [← hRv]⟩
      obtain ⟨c, hc, hy⟩ := hp
      refine ⟨c, ?_, ?_⟩
      · rw [hc] at hrun; exact hrun
      · rw [hy] at h0
        injection h0 with h0
        injection h0
  obtain ⟨c, hrun, hc⟩ := key'
  subst hc
  unfold Oper.wp
  simp [execOp, hop, hm, hx, hrun, Result.andThen]
  exact hK' _ _ (by simpa using hK)

/-- The map of the words. -/
def WM (w : World) (b : Nat) : Prop := WMk w b wordsL.reverse
def WordsMap (w : World) (e : Ending) (w' : World) : Prop := ∃ b, e = .returned (.map (some b)) ∧ WM w' b ∧ w.heap.size ≤ b ∧ Below w.heap.size w w'

set_option maxRecDepth 100000 in
set_option maxHeartbeats 1000000 in
theorem allWords_any (w : World) : Calls Tryz.prog 52 #[] w (WordsMap w) := by
  have hmm := @run_makeMap Tryz.prog
  have HM := Lib.hid (WMk.made w)
  have HB : Hid (Below w.heap.size w (w.alloc (.map #[] 0))) := Lib.hid ((Below.refl _ _).alloc (Nat.le_refl _) _)
  go_enter Tryz.func52, Tryz.ntmps52
  go_wp2_with (((refine wpList_word (o := ⟨none, Op.insert _ _ _ _, _, _, _, _⟩) rfl _ _ _ rfl _ _ rfl HM.out (by simp) _ rfl rfl (by simp) ?_); intro w1 h1 g1; replace HM := Lib.hid h1; replace HB := Lib.hid (HB.out.trans ((Below.refl _ _).grown g1 HB.out.size (fun k hk => by cases hk; exact Nat.le_refl _))); clear h1 g1))
  go_ret
  exact ⟨w.heap.size, rfl, HM.out, Nat.le_refl _, HB.out⟩

end Go.Proofs.YtdabndiaflagpaaGreatDoor
namespace Go.Proofs.YtdabndiaflagpaaGreatDoor
open Go.RowKit

def okAt (i : Nat) (z : Int) : Prop := isL z = true ∨ (0 < i ∧ isD z = true)
def nameP (s : T) : Prop := (∀ (i : Nat) (c : UInt8), s[i]? = some c → okAt i (c.toNat : Int)) ∧ 1 ≤ s.length ∧ s.length ≤ 60 ∧ s ∉ wordsL
noncomputable def nameB (s : T) : Bool := @decide (nameP s) (Classical.propDecidable _)
theorem nameB_true {s : T} (h : nameP s) : nameB s = true := @decide_eq_true _ (Classical.propDecidable _) h
theorem nameB_false {s : T} (h : ¬ nameP s) : nameB s = false := @decide_eq_false _ (Classical.propDecidable _) h

theorem nameP_stop {s : T} {i : Nat} {c : UInt8} (hc : s[i]? = some c) (h : ¬ okAt i (c.toNat : Int)) : nameB s = false := nameB_false fun hp => h (hp.1 i c hc)
theorem byte_at {s : T} {i : Nat} (h : i < s.length) : ∃ (c : UInt8) (h' : i < (⟨s.toArray⟩ : ByteArray).size), s[i]? = some c ∧ (⟨s.toArray⟩ : ByteArray)[i] = c :=
  ⟨s[i], by simpa [ByteArray.size] using h, List.getElem?_eq_getElem h, rfl⟩

set_option maxRecDepth 100000 in
set_option maxHeartbeats 1000000 in
theorem refName_any (s : T) (w : World) (hl : s.length ≤ 1099511627776) : Calls Tryz.prog 54 #[.string ⟨s.toArray⟩] w fun e w' => e = .returned (.bool (nameB s)) ∧ Below w.heap.size w w' := by
  go_enter Tryz.func54, Tryz.ntmps54
  go_wp2_with fail
  go_loopw [3] (fun k wr => ∃ i : Nat, i ≤ s.length ∧ k = .int .i64 i ∧ (∀ (j : Nat) (c : UInt8), j < i → s[j]? = some c → okAt j (c.toNat : Int)) ∧ w = wr) (fun k _ => s.length - (intOf k).toNat)
  case atStart => exact ⟨0, by omega, rfl, fun j c h => by omega, rfl⟩
  case round =>
    obtain ⟨i, hi, rfl, hb, rfl⟩ := hrel
    have HN := Lib.hid hb
    clear hb
    have step : ∀ (c0 : UInt8), s[i]? = some c0 → okAt i (c0.toNat : Int) → ∀ (j : Nat) (c : UInt8), j < i + 1 → s[j]? = some c → okAt j (c.toNat : Int) := fun c0 h0 ho j c hj hc => by
      by_cases e : j = i
      · subst e; rw [h0] at hc; injection hc with hc; rw [← hc]; exact ho
      · exact HN.out j c (by omega) hc
    have HS := Lib.hid step
    clear step
    by_cases hlt : i < s.length
    · obtain ⟨c, hlt', hc0, hc⟩ := byte_at hlt
      have HC0 := Lib.hid hc0
      clear hc0
      by_cases hL : isL (c.toNat : Int) = true
      · have HO : Hid (okAt i (c.toNat : Int)) := .inl hL
        go_wp2_with (first | (go_at_call 77; refine (Letter_any _ _).mono ?_; rintro e w1 ⟨rfl, rfl⟩) | (go_at_call 78; refine (Digit_any _ _).mono ?_; rintro e w1 ⟨rfl, rfl⟩))
        refine ⟨⟨i + 1, by omega, by go_num, HS.out c HC0.out HO.out, trivial⟩, by simp [intOf]; omega⟩
      · have hL' : isL (c.toNat : Int) = false := by simpa using hL
        by_cases hp : 0 < i
        · have hp' : (0 : Int) < (i : Int) := by omega
          by_cases hD : isD (c.toNat : Int) = true
          · have HO : Hid (okAt i (c.toNat : Int)) := .inr ⟨hp, hD⟩
            clear hL
            go_wp2_with (first | (go_at_call 77; refine (Letter_any _ _).mono ?_; rintro e w1 ⟨rfl, rfl⟩) | (go_at_call 78; refine (Digit_any _ _).mono ?_; rintro e w1 ⟨rfl, rfl⟩))
            refine ⟨⟨i + 1, by omega, by go_num, HS.out c HC0.out HO.out, trivial⟩, by simp [intOf]; omega⟩
          · have HO : Hid (nameB s = false) := nameP_stop HC0.out (fun ho => ho.elim hL (fun h => hD h.2))
            have hD' : isD (c.toNat : Int) = false := by simpa using hD
            clear hL hD
            go_wp2_with (first | (go_at_call 77; refine (Letter_any _ _).mono ?_; rintro e w1 ⟨rfl, rfl⟩) | (go_at_call 78; refine (Digit_any _ _).mono ?_; rintro e w1 ⟨rfl, rfl⟩))
            go_ret
            exact ⟨ret_bool HO.out.symm, Below.refl _ _⟩
        · have HO : Hid (nameB s = false) := nameP_stop HC0.out (fun ho => ho.elim hL (fun h => hp h.1))
          obtain rfl : i = 0 := by omega
          clear hL hp
          go_wp2_with (first | (go_at_call 77; refine (Letter_any _ _).mono ?_; rintro e w1 ⟨rfl, rfl⟩) | (go_at_call 78; refine (Digit_any _ _).mono ?_; rintro e w1 ⟨rfl, rfl⟩))
          go_ret
          exact ⟨ret_bool HO.out.symm, Below.refl _ _⟩
    · have hall : ∀ (j : Nat) (c : UInt8), s[j]? = some c → okAt j (c.toNat : Int) := fun j c hc => HN.out j c (by
        rcases Nat.lt_or_ge j s.length with h' | h'
        · omega
        · rw [List.getElem?_eq_none h'] at hc; cases hc) hc
      have HA := Lib.hid hall
      clear hall
      by_cases h1 : 1 ≤ s.length
      · by_cases h2 : s.length ≤ 60
        · by_cases h3 : wordB s = true
          · have HO : Hid (nameB s = false) := nameB_false fun hp => hp.2.2.2 (of_decide_eq_true h3)
            have h1' : (1 : Int) ≤ (s.length : Int) := by omega
            have h2' : (s.length : Int) ≤ 60 := by omega
            go_wp2_with (go_at_call 79; refine (Word_any s _).mono ?_; rintro e w1 ⟨rfl, hb1⟩; have HB1 := Lib.hid hb1; clear hb1)
            go_ret
            exact ⟨ret_bool HO.out.symm, HB1.out⟩
          · have HO : Hid (nameB s = true) := nameB_true ⟨HA.out, h1, h2, fun hm => h3 (decide_eq_true hm)⟩
            have h3' : wordB s = false := by simpa using h3
            have h1' : (1 : Int) ≤ (s.length : Int) := by omega
            have h2' : (s.length : Int) ≤ 60 := by omega
            clear h3
            go_wp2_with (go_at_call 79; refine (Word_any s _).mono ?_; rintro e w1 ⟨rfl, hb1⟩; have HB1 := Lib.hid hb1; clear hb1)
            go_ret
            exact ⟨ret_bool HO.out.symm, HB1.out⟩
        · have HO : Hid (nameB s = false) := nameB_false fun hp => h2 hp.2.2.1
          go_wp2_with fail
          go_ret
          exact ⟨ret_bool HO.out.symm, Below.refl _ _⟩
      · have HO : Hid (nameB s = false) := nameB_false fun hp => h1 hp.2.1
        obtain rfl : s = [] := List.eq_nil_of_length_eq_zero (by omega)
        go_wp2_with fail
        go_ret
        exact ⟨ret_bool HO.out.symm, Below.refl _ _⟩

set_option maxRecDepth 100000 in
set_option maxHeartbeats 1000000 in
theorem wname_any (b : Nat) (s : T) (w : World) (hl : s.length ≤ 1099511627776) (hw : WM w b) : Calls Tryz.prog 88 #[.map (some b), .string ⟨s.toArray⟩] w fun e w' => e = .returned (.bool (nameB s)) ∧ Below w.heap.size w w' := by
  have HW := Lib.hid hw
  clear hw
  by_cases h1 : 1 ≤ s.length
  · obtain ⟨c0, h0', hc0, hcc⟩ := byte_at (i := 0) (s := s) (by omega)
    have HC0 := Lib.hid hc0
    clear hc0
    have hne : (s == []) = false := by cases s with | nil => simp at h1 | cons a l => rfl
    have hne2 : ¬ s = [] := by rintro rfl; simp at h1
    have HNE := Lib.hid hne2
    clear hne2
    by_cases h2 : s.length ≤ 60
    · have h2' : (s.length : Int) ≤ 60 := by omega
      by_cases hD : isD (c0.toNat : Int) = true
      · have HO : Hid (nameB s = false) := nameP_stop HC0.out (fun ho => ho.elim (fun h => by unfold isL at h; unfold isD at hD; simp at h hD; omega) (fun h => absurd h.1 (by omega)))
        go_enter Tryz.func88, Tryz.ntmps88
        go_wp2_with (first | (go_at_call 117; refine (digit_any _ _).mono ?_; rintro e w1 ⟨rfl, rfl⟩) | (go_at_call 118; refine (letter_any _ _).mono ?_; rintro e w1 ⟨rfl, rfl⟩))
        go_ret
        exact ⟨ret_bool HO.out.symm, Below.refl _ _⟩
      · have hD' : isD (c0.toNat : Int) = false := by simpa using hD
        clear hD
        have hcb := Lib.run_convert_string_bytes (P := Tryz.prog) w 9 32 5 ⟨s.toArray⟩ Tryz.underlying9 Tryz.underlying32 Tryz.underlying5
        have HB : Hid (Below w.heap.size w (Lib.bytesWorld w 5 ⟨s.toArray⟩)) := Lib.hid (bytesWorld_below _ _ _)
        have HC : Hid (∀ (j : Nat) (c : UInt8), s[j]? = some c → (Lib.bytesWorld w 5 ⟨s.toArray⟩).cell? ⟨w.heap.size, j, none⟩ = some (.int .u8 (c.toNat : Int))) := fun j c hj => by
          have hlt : j < s.length := by
            rcases Nat.lt_or_ge j s.length with h' | h'
            · exact h'
            · rw [List.getElem?_eq_none h'] at hj; cases hj
          rw [Lib.bytesWorld_cell w _ _ j (by simpa [ByteArray.size] using hlt)]
          simp [List.getD, hj]
        generalize Lib.bytesWorld w 5 ⟨s.toArray⟩ = wb at hcb HB HC
        generalize grownCap w (⟨s.toArray⟩ : ByteArray).size 0 5 = cp at hcb
        go_enter Tryz.func88, Tryz.ntmps88
        go_wp2_with (first | (go_at_call 117; refine (digit_any _ _).mono ?_; rintro e w1 ⟨rfl, rfl⟩) | (go_at_call 118; refine (letter_any _ _).mono ?_; rintro e w1 ⟨rfl, rfl⟩))
        go_loop [4, 22] (fun r k => r = .bool false ∧ ∃ i : Nat, i ≤ s.length ∧ k = .int .i64 i ∧ (∀ (j : Nat) (c : UInt8), j < i → s[j]? = some c → okAt j (c.toNat : Int))) (fun _ k => s.length - (intOf k).toNat)
        case atStart => exact ⟨rfl, 0, by omega, rfl, fun j c h => by omega⟩
        case round =>
          obtain ⟨rfl, i, hi, rfl, hb⟩ := hrel
          have HN := Lib.hid hb
          clear hb
          by_cases hlt : i < s.length
          · obtain ⟨c, hlt', hc1, _⟩ := byte_at hlt
            have hcell := HC.out i c hc1
            have HC1 := Lib.hid hc1
            clear hc1
            have step : okAt i (c.toNat : Int) → ∀ (j : Nat) (d : UInt8), j < i + 1 → s[j]? = some d → okAt j (d.toNat : Int) := fun ho j d hj hd => by
              by_cases e : j = i
              · subst e; rw [HC1.out] at hd; injection hd with hd; rw [← hd]; exact ho
              · exact HN.out j d (by omega) hd
            have HS := Lib.hid step
            clear step
            by_cases hL : isL (c.toNat : Int) = true
            · have HO : Hid (okAt i (c.toNat : Int)) := .inl hL
              go_wp2_with (first | (go_at_call 117; refine (digit_any _ _).mono ?_; rintro e w1 ⟨rfl, rfl⟩) | (go_at_call 118; refine (letter_any _ _).mono ?_; rintro e w1 ⟨rfl, rfl⟩))
              go_round
              case rel => exact ⟨rfl, i + 1, by omega, by go_num, HS.out HO.out⟩
              case measure => simp [intOf]; omega
            · have hL' : isL (c.toNat : Int) = false := by simpa using hL
              by_cases hE : isD (c.toNat : Int) = true
              · have hp : 0 < i := by
                  rcases Nat.eq_zero_or_pos i with h | h
                  · subst h; have e1 := HC0.out; rw [HC1.out] at e1; injection e1 with e1; rw [e1, hD'] at hE; cases hE
                  · exact h
                have HO : Hid (okAt i (c.toNat : Int)) := .inr ⟨hp, hE⟩
                clear hL hp
                go_wp2_with (first | (go_at_call 117; refine (digit_any _ _).mono ?_; rintro e w1 ⟨rfl, rfl⟩) | (go_at_call 118; refine (letter_any _ _).mono ?_; rintro e w1 ⟨rfl, rfl⟩))
                go_round
                case rel => exact ⟨rfl, i + 1, by omega, by go_num, HS.out HO.out⟩
                case measure => simp [intOf]; omega
              · have HO : Hid (nameB s = false) := nameP_stop HC1.out (fun ho => ho.elim hL (fun h => hE h.2))
                have hE' : isD (c.toNat : Int) = false := by simpa using hE
                clear hL hE
                go_wp2_with (first | (go_at_call 117; refine (digit_any _ _).mono ?_; rintro e w1 ⟨rfl, rfl⟩) | (go_at_call 118; refine (letter_any _ _).mono ?_; rintro e w1 ⟨rfl, rfl⟩))
                go_ret
                exact ⟨ret_bool HO.out.symm, HB.out⟩
          · have hall : ∀ (j : Nat) (c : UInt8), s[j]? = some c → okAt j (c.toNat : Int) := fun j c hc => HN.out j c (by
              rcases Nat.lt_or_ge j s.length with h' | h'
              · omega
              · rw [List.getElem?_eq_none h'] at hc; cases hc) hc
            have HO : Hid (nameB s = !decide (s ∈ wordsL)) := by
              by_cases h3 : s ∈ wordsL
              · rw [nameB_false (fun hp => hp.2.2.2 h3)]
                simp [h3, Hid]
              · rw [nameB_true ⟨hall, h1, h2, h3⟩]
                simp [h3, Hid]
            have HW1 := Lib.hid (WMk.later HW.out HB.out)
            clear hall
            go_wp2_with (with_reducible refine wpList_ask (o := ⟨some 37, _, _, _, _, _⟩) rfl _ _ rfl b _ rfl HW1.out s rfl (by unfold maxLen; omega) ?_)
            go_ret
            exact ⟨ret_bool HO.out.symm, HB.out⟩
    · have HO : Hid (nameB s = false) := nameB_false fun hp => h2 hp.2.2.1
      go_enter Tryz.func88, Tryz.ntmps88
      go_wp2_with (first | (go_at_call 117; refine (digit_any _ _).mono ?_; rintro e w1 ⟨rfl, rfl⟩) | (go_at_call 118; refine (letter_any _ _).mono ?_; rintro e w1 ⟨rfl, rfl⟩))
      go_ret
      exact ⟨ret_bool HO.out.symm, Below.refl _ _⟩
  · have HO : Hid (nameB s = false) := nameB_false fun hp => h1 hp.2.1
    obtain rfl : s = [] := List.eq_nil_of_length_eq_zero (by omega)
    go_enter Tryz.func88, Tryz.ntmps88
    go_wp2_with fail
    go_ret
    exact ⟨ret_bool HO.out.symm, Below.refl _ _⟩

theorem Name_any (s : T) (w : World) (hl : s.length ≤ 1099511627776) : Calls Tryz.prog 151 #[.string ⟨s.toArray⟩] w fun e w' => e = .returned (.bool (nameB s)) ∧ Below w.heap.size w w' := by
  go_enter Tryz.func151, Tryz.ntmps151
  go_wp2_with (first
    | (go_at_call 52; refine (allWords_any w).mono ?_; rintro e w1 ⟨b, rfl, hm, hlt, hb⟩; have HM := Lib.hid hm; have HB := Lib.hid hb; clear hm hb)
    | (go_at_call 88; refine (wname_any b s _ hl HM.out).mono ?_; rintro e w2 ⟨rfl, hb2⟩; have HB2 := Lib.hid hb2; clear hb2))
  go_ret
  exact ⟨rfl, HB.out.trans (HB2.out.mono HB.out.size)⟩

end Go.Proofs.YtdabndiaflagpaaGreatDoor
namespace Go.Proofs.YtdabndiaflagpaaGreatDoor
open Go.RowKit

theorem KS.kid_at {w w' : World} {S : Nat → Prop} {A : Option Addr} {xs : List X} {i : Nat} {x : X} (h : KS w S A xs) (hS : ∀ b, S b → b < w.heap.size) (hb : Below w.heap.size w w') (hi : xs[i]? = some x) :
    ∃ b off A' c, A = some ⟨b, off, none⟩ ∧ w'.cell? ⟨b, off + i * 5, none⟩ = some (.int .i64 x.k) ∧ w'.cell? ⟨b, off + i * 5 + 1, none⟩ = some (.int .i64 x.o) ∧ w'.cell? ⟨b, off + i * 5 + 2, none⟩ = some (.int .i64 x.n) ∧ w'.cell? ⟨b, off + i * 5 + 3, none⟩ = some (.string ⟨x.s.toArray⟩) ∧
      w'.cell? ⟨b, off + i * 5 + 4, none⟩ = some (.slice A' x.ks.length c) ∧ KS w' S A' x.ks ∧ b < w.heap.size := by
  obtain ⟨b, off, hA, he⟩ := h.kid hi
  obtain ⟨A', c, c0, c1, c2, c3, c4, hk⟩ := (EC.move (S' := S) (fun b h => ⟨h, hb.block b (hS b h)⟩) x b _ he).ev
  exact ⟨b, off, A', c, hA, c0, c1, c2, c3, c4, hk, hS b he.block⟩

theorem refSize_any (N : Nat) : ∀ (x : X) (A : Option Addr) (c : Nat) (w : World) (S : Nat → Prop), x.size ≤ N → N ≤ 1099511627776 → KS w S A x.ks → (∀ b, S b → b < w.heap.size) →
    Calls Tryz.prog 18 #[ev x A c] w fun e w' => e = .returned (.int .i64 (x.size : Nat)) ∧ Below w.heap.size w w' := by
  induction N with
  | zero => intro x A c w S h; have := x.size_pos; omega
  | succ N ih =>
    intro x A c w S hN hM hk hS
    obtain ⟨k, o, n, s, ks⟩ := x
    simp only [X.size, X.ks, ev, X.k, X.o, X.n, X.s] at hN hk ⊢
    have hr0 := Row.made w 52 #[.int .i64 k, .int .i64 o, .int .i64 n, .string ⟨s.toArray⟩, .slice A ks.length c]
    have hlen := X.sizes_length ks
    have HK := Lib.hid hk
    have HR := Lib.hid hr0
    clear hk hr0
    go_enter Tryz.func18, Tryz.ntmps18
    go_wp2_with fail
    go_loopw [3, 4] (fun m i wr => ∃ j : Nat, j ≤ ks.length ∧ i = .int .i64 j ∧ m = .int .i64 (1 + X.sizes (ks.take j) : Nat) ∧ Below (w.heap.size + 1) (w.alloc (.cells #[.int .i64 k, .int .i64 o, .int .i64 n, .string ⟨s.toArray⟩, .slice A ks.length c] 52)) wr)
      (fun _ i _ => ks.length - (intOf i).toNat)
    case atStart => exact ⟨0, by omega, rfl, by simp [X.sizes], Below.refl _ _⟩
    case round =>
      obtain ⟨j, hj, rfl, rfl, hb⟩ := hrel
      have c4 := (HR.out.below hb (by omega)).cell 4
      simp at c4
      have hle := X.sizes_take_le ks j
      have hbw : Below w.heap.size w wr := ((Below.refl _ w).alloc (Nat.le_refl _) _).trans (hb.mono (by omega))
      have hws := hbw.size
      by_cases hlt : j < ks.length
      · obtain ⟨y, hy⟩ : ∃ y, ks[j]? = some y := ⟨_, List.getElem?_eq_getElem hlt⟩
        obtain ⟨b, off, A', c', rfl, d0, d1, d2, d3, d4, hk', hbl⟩ := HK.out.kid_at hS hbw hy
        have hsz := X.sizes_take hy
        have hyl := X.sizes_take_le ks (j + 1)
        have CL := ih y A' c' wr S (by have := X.sizes_at hy; omega) (by omega) hk' (fun b h => Nat.lt_of_lt_of_le (hS b h) hws)
        simp only [ev] at CL
        have HC := Lib.hid CL
        have HY := Lib.hid hy
        have HZ := Lib.hid hsz
        have HB := Lib.hid hb
        rw [hsz] at hyl
        clear CL hy hsz hb hk' hbw
        go_wp2_with (go_at_call 18; refine HC.out.mono ?_; rintro e w1 ⟨rfl, hb1⟩; have HB1 := Lib.hid hb1; clear hb1)
        go_roundw
        case rel => exact ⟨j + 1, by omega, by go_num, by rw [HZ.out]; go_num, HB.out.trans (HB1.out.mono (by have := HB.out.size; simp at this; omega))⟩
        case measure => simp [intOf]; omega
      · obtain rfl : j = ks.length := by omega
        have HB := Lib.hid hbw
        clear hb hbw
        go_wp2_with fail
        go_ret
        exact ⟨by simp, HB.out⟩
end Go.Proofs.YtdabndiaflagpaaGreatDoor
namespace Go.Proofs.YtdabndiaflagpaaGreatDoor
open Go.RowKit

structure Vr where
  name : T
  type : Int
deriving DecidableEq
structure Q where
  lhs : List T
  rhs : X
structure Nd where
  name : T
  ins : List Vr
  outs : List Vr
  locals : List Vr
  eqs : List Q

/-! ### Lists of the same -/
section
variable {α : Type} {f : α → α → Bool}
end

/-! ### What the document says -/
def typB (z : Int) : Bool := decide (0 ≤ z ∧ z ≤ 1)
noncomputable def varB (v : Vr) : Bool := nameB v.name && typB v.type
def fewB (n : Nat) : Bool := decide (n ≤ 1000)
noncomputable def varsB (l : List Vr) : Bool := l.all varB && fewB l.length
noncomputable def namesB (l : List T) : Bool := l.all nameB && fewB l.length
def someB (n : Nat) : Bool := decide (0 < n)
/-! ### Sizes -/
def okV (v : Vr) : Prop := v.name.length ≤ 1099511627776
def okVs (l : List Vr) : Prop := l.length ≤ 1099511627776 ∧ ∀ v ∈ l, okV v
def okTs (l : List T) : Prop := l.length ≤ 1099511627776 ∧ ∀ t ∈ l, t.length ≤ 1099511627776
def okQ (q : Q) : Prop := okTs q.lhs ∧ q.rhs.ok ∧ q.rhs.size ≤ 1099511627775
def okQs (l : List Q) : Prop := l.length ≤ 1099511627776 ∧ ∀ q ∈ l, okQ q
def okN (n : Nd) : Prop := n.name.length ≤ 1099511627776 ∧ okVs n.ins ∧ okVs n.outs ∧ okVs n.locals ∧ okQs n.eqs
def okNs (l : List Nd) : Prop := l.length ≤ 1099511627776 ∧ ∀ n ∈ l, okN n
/-! ### In memory -/
/-- A slice that begins at A leads to these: each of k cells. -/
def Rw {α : Type} (C : α → Nat → Nat → Prop) (k : Nat) (A : Option Addr) (xs : List α) : Prop := xs = [] ∨ ∃ b off, A = some ⟨b, off, none⟩ ∧ ∀ (i : Nat) x, xs[i]? = some x → C x b (off + i * k)
theorem Rw.at {α : Type} {C : α → Nat → Nat → Prop} {k : Nat} {A : Option Addr} {xs : List α} (h : Rw C k A xs) {i : Nat} {x : α} (hi : xs[i]? = some x) : ∃ b off, A = some ⟨b, off, none⟩ ∧ C x b (off + i * k) := by
  rcases h with rfl | ⟨b, off, hA, hc⟩
  · simp at hi
  · exact ⟨b, off, hA, hc i x hi⟩
theorem Rw.imp {α : Type} {C C' : α → Nat → Nat → Prop} {k : Nat} {A : Option Addr} {xs : List α} (h : Rw C k A xs) (hc : ∀ x b off, C x b off → C' x b off) : Rw C' k A xs := by
  rcases h with h | ⟨b, off, hA, h⟩
  · exact .inl h
  · exact .inr ⟨b, off, hA, fun i x hi => hc x b _ (h i x hi)⟩

def TC (w : World) (S : Nat → Prop) (t : T) (b off : Nat) : Prop := S b ∧ w.cell? ⟨b, off, none⟩ = some (.string ⟨t.toArray⟩)
def VC (w : World) (S : Nat → Prop) (v : Vr) (b off : Nat) : Prop := S b ∧ w.cell? ⟨b, off, none⟩ = some (.string ⟨v.name.toArray⟩) ∧ w.cell? ⟨b, off + 1, none⟩ = some (.int .i64 v.type)
def TS (w : World) (S : Nat → Prop) : Option Addr → List T → Prop := Rw (TC w S) 1
def VS (w : World) (S : Nat → Prop) : Option Addr → List Vr → Prop := Rw (VC w S) 2
def QC (w : World) (S : Nat → Prop) (q : Q) (b off : Nat) : Prop := S b ∧ (∃ A c, w.cell? ⟨b, off, none⟩ = some (.slice A q.lhs.length c) ∧ TS w S A q.lhs ∧ q.lhs.length ≤ c) ∧ EC w S q.rhs b (off + 1)
def QS (w : World) (S : Nat → Prop) : Option Addr → List Q → Prop := Rw (QC w S) 6
def NC (w : World) (S : Nat → Prop) (n : Nd) (b off : Nat) : Prop := S b ∧ w.cell? ⟨b, off, none⟩ = some (.string ⟨n.name.toArray⟩) ∧ (∃ A c, w.cell? ⟨b, off + 1, none⟩ = some (.slice A n.ins.length c) ∧ VS w S A n.ins) ∧
  (∃ A c, w.cell? ⟨b, off + 2, none⟩ = some (.slice A n.outs.length c) ∧ VS w S A n.outs) ∧ (∃ A c, w.cell? ⟨b, off + 3, none⟩ = some (.slice A n.locals.length c) ∧ VS w S A n.locals) ∧ (∃ A c, w.cell? ⟨b, off + 4, none⟩ = some (.slice A n.eqs.length c) ∧ QS w S A n.eqs)
def NS (w : World) (S : Nat → Prop) : Option Addr → List Nd → Prop := Rw (NC w S) 5

section
variable {w w' : World} {S S' : Nat → Prop}
theorem TS.move {A : Option Addr} {l : List T} (h : TS w S A l) (hm : ∀ b, S b → S' b ∧ w'.heap[b]? = w.heap[b]?) : TS w' S' A l := Rw.imp h fun _ b _ ⟨hb, c0⟩ => ⟨(hm b hb).1, (World.cell?_of_block (hm b hb).2).trans c0⟩
theorem VS.move {A : Option Addr} {l : List Vr} (h : VS w S A l) (hm : ∀ b, S b → S' b ∧ w'.heap[b]? = w.heap[b]?) : VS w' S' A l := Rw.imp h fun _ b _ ⟨hb, c0, c1⟩ => ⟨(hm b hb).1, (World.cell?_of_block (hm b hb).2).trans c0, (World.cell?_of_block (hm b hb).2).trans c1⟩
theorem QC.move {q : Q} {b off : Nat} (h : QC w S q b off) (hm : ∀ b, S b → S' b ∧ w'.heap[b]? = w.heap[b]?) : QC w' S' q b off := by
  obtain ⟨hb, ⟨A, c, c0, hl, hc⟩, he⟩ := h
  exact ⟨(hm b hb).1, ⟨A, c, (World.cell?_of_block (hm b hb).2).trans c0, hl.move hm, hc⟩, EC.move hm _ _ _ he⟩
theorem QS.move {A : Option Addr} {l : List Q} (h : QS w S A l) (hm : ∀ b, S b → S' b ∧ w'.heap[b]? = w.heap[b]?) : QS w' S' A l := Rw.imp h fun _ _ _ hq => hq.move hm
theorem NC.move {n : Nd} {b off : Nat} (h : NC w S n b off) (hm : ∀ b, S b → S' b ∧ w'.heap[b]? = w.heap[b]?) : NC w' S' n b off := by
  obtain ⟨hb, c0, ⟨A1, d1, c1, h1⟩, ⟨A2, d2, c2, h2⟩, ⟨A3, d3, c3, h3⟩, A4, d4, c4, h4⟩ := h
  have hc : ∀ i, w'.cell? ⟨b, i, none⟩ = w.cell? ⟨b, i, none⟩ := fun i => World.cell?_of_block (hm b hb).2
  exact ⟨(hm b hb).1, (hc _).trans c0, ⟨A1, d1, (hc _).trans c1, h1.move hm⟩, ⟨A2, d2, (hc _).trans c2, h2.move hm⟩, ⟨A3, d3, (hc _).trans c3, h3.move hm⟩, A4, d4, (hc _).trans c4, h4.move hm⟩
theorem NS.move {A : Option Addr} {l : List Nd} (h : NS w S A l) (hm : ∀ b, S b → S' b ∧ w'.heap[b]? = w.heap[b]?) : NS w' S' A l := Rw.imp h fun _ _ _ hq => hq.move hm

theorem stay (hS : ∀ b, S b → b < w.heap.size) (hb : Below w.heap.size w w') : ∀ b, S b → S b ∧ w'.heap[b]? = w.heap[b]? := fun b h => ⟨h, hb.block b (hS b h)⟩
theorem stay_lt (hS : ∀ b, S b → b < w.heap.size) (hb : Below w.heap.size w w') : ∀ b, S b → b < w'.heap.size := fun b h => Nat.lt_of_lt_of_le (hS b h) hb.size

theorem QS.at' {A : Option Addr} {l : List Q} (h : QS w S A l) (hS : ∀ b, S b → b < w.heap.size) (hb : Below w.heap.size w w') {i : Nat} {x : Q} (hi : l[i]? = some x) :
    ∃ b off A1 c1 A2 c2, A = some ⟨b, off, none⟩ ∧ w'.cell? ⟨b, off + i * 6, none⟩ = some (.slice A1 x.lhs.length c1) ∧ w'.cell? ⟨b, off + i * 6 + 1, none⟩ = some (.int .i64 x.rhs.k) ∧ w'.cell? ⟨b, off + i * 6 + 2, none⟩ = some (.int .i64 x.rhs.o) ∧
      w'.cell? ⟨b, off + i * 6 + 3, none⟩ = some (.int .i64 x.rhs.n) ∧ w'.cell? ⟨b, off + i * 6 + 4, none⟩ = some (.string ⟨x.rhs.s.toArray⟩) ∧ w'.cell? ⟨b, off + i * 6 + 5, none⟩ = some (.slice A2 x.rhs.ks.length c2) ∧ TS w' S A1 x.lhs ∧ KS w' S A2 x.rhs.ks ∧ b < w.heap.size := by
  obtain ⟨b, off, hA, hq, ⟨A1, c1, c0, h1, _⟩, he⟩ := Rw.at (h.move (stay hS hb)) hi
  obtain ⟨A2, c2, e0, e1, e2, e3, e4, hk⟩ := he.ev
  exact ⟨b, off, A1, c1, A2, c2, hA, c0, e0, e1, e2, e3, e4, h1, hk, hS b hq⟩
theorem NS.at' {A : Option Addr} {l : List Nd} (h : NS w S A l) (hS : ∀ b, S b → b < w.heap.size) (hb : Below w.heap.size w w') {i : Nat} {x : Nd} (hi : l[i]? = some x) :
    ∃ b off A1 c1 A2 c2 A3 c3 A4 c4, A = some ⟨b, off, none⟩ ∧ w'.cell? ⟨b, off + i * 5, none⟩ = some (.string ⟨x.name.toArray⟩) ∧ w'.cell? ⟨b, off + i * 5 + 1, none⟩ = some (.slice A1 x.ins.length c1) ∧ w'.cell? ⟨b, off + i * 5 + 2, none⟩ = some (.slice A2 x.outs.length c2) ∧
      w'.cell? ⟨b, off + i * 5 + 3, none⟩ = some (.slice A3 x.locals.length c3) ∧ w'.cell? ⟨b, off + i * 5 + 4, none⟩ = some (.slice A4 x.eqs.length c4) ∧ VS w' S A1 x.ins ∧ VS w' S A2 x.outs ∧ VS w' S A3 x.locals ∧ QS w' S A4 x.eqs ∧ b < w.heap.size := by
  obtain ⟨b, off, hA, hq, c0, ⟨A1, d1, c1, h1⟩, ⟨A2, d2, c2, h2⟩, ⟨A3, d3, c3, h3⟩, A4, d4, c4, h4⟩ := Rw.at (h.move (stay hS hb)) hi
  exact ⟨b, off, A1, d1, A2, d2, A3, d3, A4, d4, hA, c0, c1, c2, c3, c4, h1, h2, h3, h4, hS b hq⟩
end
theorem ret_d {a b : Bool} (h : a = b) : Ending.returned (.bool a) = Ending.returned (.bool b) := by rw [h]
end Go.Proofs.YtdabndiaflagpaaGreatDoor
