/- DERIVED. A program (nodes, variables, equations) as a thing, and as it lies in memory. -/
import Derived.Test.YtfajnflfonechaaDoorNm2
import Derived.Test.YtfajnflfonechaaDoorEx1
namespace Go.Proofs.YtfajnflfonechaaDoor
open Go.RowKit

structure Vr where
  name : T
  type : Int
deriving DecidableEq
structure Q where
  lhs : List T
  rhs : X
structure Nd where
  name : T
  ins : List Vr
  outs : List Vr
  locals : List Vr
  eqs : List Q

/-! ### Lists of the same -/
def sm {α : Type} (f : α → α → Bool) : List α → List α → Bool
  | [], [] => true
  | x :: xs, y :: ys => f x y && sm f xs ys
  | _, _ => false
section
variable {α : Type} {f : α → α → Bool}
theorem sm_length {xs ys : List α} (h : xs.length ≠ ys.length) : sm f xs ys = false := by
  induction xs generalizing ys with
  | nil => cases ys with
    | nil => simp at h
    | cons y ys => rfl
  | cons x xs ih => cases ys with
    | nil => rfl
    | cons y ys => simp only [sm, ih (ys := ys) (by simpa using h), Bool.and_false]
theorem sm_stop {xs ys : List α} {i : Nat} {x y : α} (hx : xs[i]? = some x) (hy : ys[i]? = some y) (h : f x y = false) : sm f xs ys = false := by
  induction xs generalizing ys i with
  | nil => simp at hx
  | cons u us ih => cases ys with
    | nil => simp at hy
    | cons v vs =>
      cases i with
      | zero => simp at hx hy; subst hx hy; simp [sm, h]
      | succ i => simp at hx hy; simp [sm, ih hx hy]
theorem sm_all {xs ys : List α} (hl : xs.length = ys.length) (h : ∀ (i : Nat) x y, xs[i]? = some x → ys[i]? = some y → f x y = true) : sm f xs ys = true := by
  induction xs generalizing ys with
  | nil => cases ys with
    | nil => rfl
    | cons y ys => simp at hl
  | cons u us ih => cases ys with
    | nil => simp at hl
    | cons v vs => simp only [sm, h 0 u v rfl rfl, Bool.true_and]; exact ih (by simpa using hl) fun i x y hx hy => h (i + 1) x y (by simpa using hx) (by simpa using hy)
theorem all_stop {α : Type} {f : α → Bool} {xs : List α} {i : Nat} {x : α} (hx : xs[i]? = some x) (h : f x = false) : xs.all f = false := by
  rw [List.all_eq_false]
  exact ⟨x, List.mem_of_getElem? hx, by simp [h]⟩
theorem all_all {α : Type} {f : α → Bool} {xs : List α} (h : ∀ (i : Nat) x, xs[i]? = some x → f x = true) : xs.all f = true := by
  rw [List.all_eq_true]
  intro x hx
  obtain ⟨i, hi⟩ := List.getElem?_of_mem hx
  exact h i x hi
end

/-! ### What the document says -/
def typB (z : Int) : Bool := decide (0 ≤ z ∧ z ≤ 1)
noncomputable def varB (v : Vr) : Bool := nameB v.name && typB v.type
def fewB (n : Nat) : Bool := decide (n ≤ 1000)
noncomputable def varsB (l : List Vr) : Bool := l.all varB && fewB l.length
noncomputable def namesB (l : List T) : Bool := l.all nameB && fewB l.length
def someB (n : Nat) : Bool := decide (0 < n)
def sameT (a b : T) : Bool := decide (a = b)
def sameV (a b : Vr) : Bool := decide (a = b)
def sameQ (a b : Q) : Bool := sm sameT a.lhs b.lhs && a.rhs.same b.rhs
def sameN (a b : Nd) : Bool := sameT a.name b.name && sm sameV a.ins b.ins && sm sameV a.outs b.outs && sm sameV a.locals b.locals && sm sameQ a.eqs b.eqs

/-! ### Sizes -/
def okV (v : Vr) : Prop := v.name.length ≤ 1099511627776
def okVs (l : List Vr) : Prop := l.length ≤ 1099511627776 ∧ ∀ v ∈ l, okV v
def okTs (l : List T) : Prop := l.length ≤ 1099511627776 ∧ ∀ t ∈ l, t.length ≤ 1099511627776
def okQ (q : Q) : Prop := okTs q.lhs ∧ q.rhs.ok ∧ q.rhs.size ≤ 1099511627775
def okQs (l : List Q) : Prop := l.length ≤ 1099511627776 ∧ ∀ q ∈ l, okQ q
def okN (n : Nd) : Prop := n.name.length ≤ 1099511627776 ∧ okVs n.ins ∧ okVs n.outs ∧ okVs n.locals ∧ okQs n.eqs
def okNs (l : List Nd) : Prop := l.length ≤ 1099511627776 ∧ ∀ n ∈ l, okN n
theorem mem_at {α : Type} {l : List α} {i : Nat} {x : α} (h : l[i]? = some x) : x ∈ l := List.mem_of_getElem? h

/-! ### In memory -/
/-- A slice that begins at A leads to these: each of k cells. -/
def Rw {α : Type} (C : α → Nat → Nat → Prop) (k : Nat) (A : Option Addr) (xs : List α) : Prop := xs = [] ∨ ∃ b off, A = some ⟨b, off, none⟩ ∧ ∀ (i : Nat) x, xs[i]? = some x → C x b (off + i * k)
theorem Rw.at {α : Type} {C : α → Nat → Nat → Prop} {k : Nat} {A : Option Addr} {xs : List α} (h : Rw C k A xs) {i : Nat} {x : α} (hi : xs[i]? = some x) : ∃ b off, A = some ⟨b, off, none⟩ ∧ C x b (off + i * k) := by
  rcases h with rfl | ⟨b, off, hA, hc⟩
  · simp at hi
  · exact ⟨b, off, hA, hc i x hi⟩
theorem Rw.imp {α : Type} {C C' : α → Nat → Nat → Prop} {k : Nat} {A : Option Addr} {xs : List α} (h : Rw C k A xs) (hc : ∀ x b off, C x b off → C' x b off) : Rw C' k A xs := by
  rcases h with h | ⟨b, off, hA, h⟩
  · exact .inl h
  · exact .inr ⟨b, off, hA, fun i x hi => hc x b _ (h i x hi)⟩

def TC (w : World) (S : Nat → Prop) (t : T) (b off : Nat) : Prop := S b ∧ w.cell? ⟨b, off, none⟩ = some (.string ⟨t.toArray⟩)
def VC (w : World) (S : Nat → Prop) (v : Vr) (b off : Nat) : Prop := S b ∧ w.cell? ⟨b, off, none⟩ = some (.string ⟨v.name.toArray⟩) ∧ w.cell? ⟨b, off + 1, none⟩ = some (.int .i64 v.type)
def TS (w : World) (S : Nat → Prop) : Option Addr → List T → Prop := Rw (TC w S) 1
def VS (w : World) (S : Nat → Prop) : Option Addr → List Vr → Prop := Rw (VC w S) 2
def QC (w : World) (S : Nat → Prop) (q : Q) (b off : Nat) : Prop := S b ∧ (∃ A c, w.cell? ⟨b, off, none⟩ = some (.slice A q.lhs.length c) ∧ TS w S A q.lhs ∧ q.lhs.length ≤ c) ∧ EC w S q.rhs b (off + 1)
def QS (w : World) (S : Nat → Prop) : Option Addr → List Q → Prop := Rw (QC w S) 6
def NC (w : World) (S : Nat → Prop) (n : Nd) (b off : Nat) : Prop := S b ∧ w.cell? ⟨b, off, none⟩ = some (.string ⟨n.name.toArray⟩) ∧ (∃ A c, w.cell? ⟨b, off + 1, none⟩ = some (.slice A n.ins.length c) ∧ VS w S A n.ins) ∧
  (∃ A c, w.cell? ⟨b, off + 2, none⟩ = some (.slice A n.outs.length c) ∧ VS w S A n.outs) ∧ (∃ A c, w.cell? ⟨b, off + 3, none⟩ = some (.slice A n.locals.length c) ∧ VS w S A n.locals) ∧ (∃ A c, w.cell? ⟨b, off + 4, none⟩ = some (.slice A n.eqs.length c) ∧ QS w S A n.eqs)
def NS (w : World) (S : Nat → Prop) : Option Addr → List Nd → Prop := Rw (NC w S) 5

section
variable {w w' : World} {S S' : Nat → Prop}
theorem TS.move {A : Option Addr} {l : List T} (h : TS w S A l) (hm : ∀ b, S b → S' b ∧ w'.heap[b]? = w.heap[b]?) : TS w' S' A l := Rw.imp h fun _ b _ ⟨hb, c0⟩ => ⟨(hm b hb).1, (World.cell?_of_block (hm b hb).2).trans c0⟩
theorem VS.move {A : Option Addr} {l : List Vr} (h : VS w S A l) (hm : ∀ b, S b → S' b ∧ w'.heap[b]? = w.heap[b]?) : VS w' S' A l := Rw.imp h fun _ b _ ⟨hb, c0, c1⟩ => ⟨(hm b hb).1, (World.cell?_of_block (hm b hb).2).trans c0, (World.cell?_of_block (hm b hb).2).trans c1⟩
theorem QC.move {q : Q} {b off : Nat} (h : QC w S q b off) (hm : ∀ b, S b → S' b ∧ w'.heap[b]? = w.heap[b]?) : QC w' S' q b off := by
  obtain ⟨hb, ⟨A, c, c0, hl, hc⟩, he⟩ := h
  exact ⟨(hm b hb).1, ⟨A, c, (World.cell?_of_block (hm b hb).2).trans c0, hl.move hm, hc⟩, EC.move hm _ _ _ he⟩
theorem QS.move {A : Option Addr} {l : List Q} (h : QS w S A l) (hm : ∀ b, S b → S' b ∧ w'.heap[b]? = w.heap[b]?) : QS w' S' A l := Rw.imp h fun _ _ _ hq => hq.move hm
theorem NC.move {n : Nd} {b off : Nat} (h : NC w S n b off) (hm : ∀ b, S b → S' b ∧ w'.heap[b]? = w.heap[b]?) : NC w' S' n b off := by
  obtain ⟨hb, c0, ⟨A1, d1, c1, h1⟩, ⟨A2, d2, c2, h2⟩, ⟨A3, d3, c3, h3⟩, A4, d4, c4, h4⟩ := h
  have hc : ∀ i, w'.cell? ⟨b, i, none⟩ = w.cell? ⟨b, i, none⟩ := fun i => World.cell?_of_block (hm b hb).2
  exact ⟨(hm b hb).1, (hc _).trans c0, ⟨A1, d1, (hc _).trans c1, h1.move hm⟩, ⟨A2, d2, (hc _).trans c2, h2.move hm⟩, ⟨A3, d3, (hc _).trans c3, h3.move hm⟩, A4, d4, (hc _).trans c4, h4.move hm⟩
theorem NS.move {A : Option Addr} {l : List Nd} (h : NS w S A l) (hm : ∀ b, S b → S' b ∧ w'.heap[b]? = w.heap[b]?) : NS w' S' A l := Rw.imp h fun _ _ _ hq => hq.move hm

theorem stay (hS : ∀ b, S b → b < w.heap.size) (hb : Below w.heap.size w w') : ∀ b, S b → S b ∧ w'.heap[b]? = w.heap[b]? := fun b h => ⟨h, hb.block b (hS b h)⟩
theorem stay_lt (hS : ∀ b, S b → b < w.heap.size) (hb : Below w.heap.size w w') : ∀ b, S b → b < w'.heap.size := fun b h => Nat.lt_of_lt_of_le (hS b h) hb.size

/-- One text, one variable, one equation, one node of a row: as they lie later. -/
theorem TS.at' {A : Option Addr} {l : List T} (h : TS w S A l) (hS : ∀ b, S b → b < w.heap.size) (hb : Below w.heap.size w w') {i : Nat} {x : T} (hi : l[i]? = some x) :
    ∃ b off, A = some ⟨b, off, none⟩ ∧ w'.cell? ⟨b, off + i, none⟩ = some (.string ⟨x.toArray⟩) ∧ b < w.heap.size := by
  obtain ⟨b, off, hA, hq, c0⟩ := Rw.at (h.move (stay hS hb)) hi
  rw [Nat.mul_one] at c0
  exact ⟨b, off, hA, c0, hS b hq⟩
theorem VS.at' {A : Option Addr} {l : List Vr} (h : VS w S A l) (hS : ∀ b, S b → b < w.heap.size) (hb : Below w.heap.size w w') {i : Nat} {x : Vr} (hi : l[i]? = some x) :
    ∃ b off, A = some ⟨b, off, none⟩ ∧ w'.cell? ⟨b, off + i * 2, none⟩ = some (.string ⟨x.name.toArray⟩) ∧ w'.cell? ⟨b, off + i * 2 + 1, none⟩ = some (.int .i64 x.type) ∧ b < w.heap.size := by
  obtain ⟨b, off, hA, hq, c0, c1⟩ := Rw.at (h.move (stay hS hb)) hi
  exact ⟨b, off, hA, c0, c1, hS b hq⟩
theorem QS.at' {A : Option Addr} {l : List Q} (h : QS w S A l) (hS : ∀ b, S b → b < w.heap.size) (hb : Below w.heap.size w w') {i : Nat} {x : Q} (hi : l[i]? = some x) :
    ∃ b off A1 c1 A2 c2, A = some ⟨b, off, none⟩ ∧ w'.cell? ⟨b, off + i * 6, none⟩ = some (.slice A1 x.lhs.length c1) ∧ w'.cell? ⟨b, off + i * 6 + 1, none⟩ = some (.int .i64 x.rhs.k) ∧ w'.cell? ⟨b, off + i * 6 + 2, none⟩ = some (.int .i64 x.rhs.o) ∧
      w'.cell? ⟨b, off + i * 6 + 3, none⟩ = some (.int .i64 x.rhs.n) ∧ w'.cell? ⟨b, off + i * 6 + 4, none⟩ = some (.string ⟨x.rhs.s.toArray⟩) ∧ w'.cell? ⟨b, off + i * 6 + 5, none⟩ = some (.slice A2 x.rhs.ks.length c2) ∧ TS w' S A1 x.lhs ∧ KS w' S A2 x.rhs.ks ∧ b < w.heap.size := by
  obtain ⟨b, off, hA, hq, ⟨A1, c1, c0, h1, _⟩, he⟩ := Rw.at (h.move (stay hS hb)) hi
  obtain ⟨A2, c2, e0, e1, e2, e3, e4, hk⟩ := he.ev
  exact ⟨b, off, A1, c1, A2, c2, hA, c0, e0, e1, e2, e3, e4, h1, hk, hS b hq⟩
theorem QS.at_ {A : Option Addr} {l : List Q} (h : QS w S A l) (hS : ∀ b, S b → b < w.heap.size) (hb : Below w.heap.size w w') {i : Nat} {x : Q} (hi : l[i]? = some x) :
    ∃ b off A1 c1 A2 c2, A = some ⟨b, off, none⟩ ∧ w'.cell? ⟨b, off + i * 6, none⟩ = some (.slice A1 x.lhs.length c1) ∧ w'.cell? ⟨b, off + i * 6 + 1, none⟩ = some (.int .i64 x.rhs.k) ∧ w'.cell? ⟨b, off + i * 6 + 2, none⟩ = some (.int .i64 x.rhs.o) ∧
      w'.cell? ⟨b, off + i * 6 + 3, none⟩ = some (.int .i64 x.rhs.n) ∧ w'.cell? ⟨b, off + i * 6 + 4, none⟩ = some (.string ⟨x.rhs.s.toArray⟩) ∧ w'.cell? ⟨b, off + i * 6 + 5, none⟩ = some (.slice A2 x.rhs.ks.length c2) ∧ TS w' S A1 x.lhs ∧ KS w' S A2 x.rhs.ks ∧ b < w.heap.size ∧ S b ∧ x.lhs.length ≤ c1 := by
  obtain ⟨b, off, hA, hq, ⟨A1, c1, c0, h1, hr⟩, he⟩ := Rw.at (h.move (stay hS hb)) hi
  obtain ⟨A2, c2, e0, e1, e2, e3, e4, hk⟩ := he.ev
  exact ⟨b, off, A1, c1, A2, c2, hA, c0, e0, e1, e2, e3, e4, h1, hk, hS b hq, hq, hr⟩
theorem NS.at' {A : Option Addr} {l : List Nd} (h : NS w S A l) (hS : ∀ b, S b → b < w.heap.size) (hb : Below w.heap.size w w') {i : Nat} {x : Nd} (hi : l[i]? = some x) :
    ∃ b off A1 c1 A2 c2 A3 c3 A4 c4, A = some ⟨b, off, none⟩ ∧ w'.cell? ⟨b, off + i * 5, none⟩ = some (.string ⟨x.name.toArray⟩) ∧ w'.cell? ⟨b, off + i * 5 + 1, none⟩ = some (.slice A1 x.ins.length c1) ∧ w'.cell? ⟨b, off + i * 5 + 2, none⟩ = some (.slice A2 x.outs.length c2) ∧
      w'.cell? ⟨b, off + i * 5 + 3, none⟩ = some (.slice A3 x.locals.length c3) ∧ w'.cell? ⟨b, off + i * 5 + 4, none⟩ = some (.slice A4 x.eqs.length c4) ∧ VS w' S A1 x.ins ∧ VS w' S A2 x.outs ∧ VS w' S A3 x.locals ∧ QS w' S A4 x.eqs ∧ b < w.heap.size := by
  obtain ⟨b, off, hA, hq, c0, ⟨A1, d1, c1, h1⟩, ⟨A2, d2, c2, h2⟩, ⟨A3, d3, c3, h3⟩, A4, d4, c4, h4⟩ := Rw.at (h.move (stay hS hb)) hi
  exact ⟨b, off, A1, d1, A2, d2, A3, d3, A4, d4, hA, c0, c1, c2, c3, c4, h1, h2, h3, h4, hS b hq⟩
end
theorem ret_d {a b : Bool} (h : a = b) : Ending.returned (.bool a) = Ending.returned (.bool b) := by rw [h]
end Go.Proofs.YtfajnflfonechaaDoor
