/- DERIVED. The code's tokens and its map of kinds in memory; the state between two tokens. -/
import Derived.Test.YtfajnflfonechaaDoorLxP
import Derived.Test.YtfajnflfonechaaDoorOwnG
import Derived.Maps.OwnSet
namespace Go.Proofs.YtfajnflfonechaaDoor
open Go.RowKit

theorem tok_info : (Tryd.prog.info? 36).map (fun i => (i.zero, i.size, i.bytes)) = some (some (.agg #[.int .i64 0, .string ⟨#[]⟩, .int .i64 0, .int .i64 0, .int .i64 0]), 5, 48) := by kernel_rfl
def tkC (s : T) (t : Tk) : List Value := [.int .i64 t.kind, .string ⟨t.text.toArray⟩, .int .i64 t.n, .int .i64 (plAt s t.from_).1, .int .i64 (plAt s t.from_).2]
def RTk (s : T) : Of Tk := fun _ _ t cs => cs = tkC s t
theorem lastsT (s : T) : Lasts (RTk s) 5 := ⟨fun h _ => h, fun h => by rw [show _ = _ from h]; rfl, fun h u hu => by
  rw [show _ = _ from h] at hu
  simp only [tkC, List.mem_cons, List.not_mem_nil, or_false] at hu
  rcases hu with rfl | rfl | rfl | rfl | rfl <;> rfl⟩

/-- The map of kinds: what it has is right. -/
def KM (w : World) (mb mc : Nat) : Prop := ∃ (n : Nat) (D : DataW Unit), n ≤ mc ∧ w.ownsMap Tryd.prog 9 (plainElem Tryd.prog 3) mb n D ∧ Maps.IsMap D ∧
  ∀ s, Maps.has D (.string s) = true → ∃ k : Int, (∀ z, D.atKey (.string s) z = .lit (.int .i64 k)) ∧ ((nameB s = true ∧ k = 1) ∨ (nameB s = false ∧ wordB s = true ∧ k = 2))
theorem KM.kept {w w' : World} {mb mc : Nat} {r : Option Nat} (h : KM w mb mc) (hg : w.grownBy w' r) (hr : some mb ≠ r) : KM w' mb mc := by
  obtain ⟨n, D, hn, h1, h2⟩ := h
  exact ⟨n, D, hn, h1.kept hg hr, h2⟩

theorem KM.lt {w : World} {mb mc : Nat} (h : KM w mb mc) : mb < w.heap.size := by
  obtain ⟨n, D, hn, h1, h2⟩ := h
  exact h1.lt
theorem KM.move {w w' : World} {mb mc : Nat} (h : KM w mb mc) (hb : w'.heap[mb]? = w.heap[mb]?) : KM w' mb mc := by
  obtain ⟨n, D, hn, ⟨es, clock, he, hr⟩, h2⟩ := h
  exact ⟨n, D, hn, ⟨es, clock, hb.trans he, hr⟩, h2⟩

/-- Between two tokens: the text, what is left of it, what has come. -/
structure LxAt (s : T) (W0 W1 : World) (B : Nat) (w : World) (b mb mc : Nat) (tv : Value) (l : T) (a : Nat) (acc : List Tk) : Prop where
  row_ : TxR w b l (plAt s a) tv (.map (some mb))
  own_ : OwnG (RTk s) 36 5 w B (Sb B tv.ownBlock w) tv acc
  map_ : KM w mb mc
  env_ : LexEnv W0
  mb_ : mb < b
  old_ : W0.heap.size ≤ mb
  below_ : Below W0.heap.size W0 w
  rest_ : s.drop a = l
  few_ : acc.length ≤ a
  le_ : a ≤ s.length
  short_ : s.length ≤ 1000000
  base_ : b < B
  room_ : B ≤ w.heap.size
  keep_ : ∀ q, q < B → q ≠ b → q ≠ mb → w.heap[q]? = W1.heap[q]?

theorem plAt_bound (s : T) (a : Nat) (hs : s.length ≤ 1000000) : 1 ≤ (plAt s a).1 ∧ (plAt s a).1 ≤ 5000000 ∧ 1 ≤ (plAt s a).2 ∧ (plAt s a).2 ≤ 5000000 := by
  have := plS_bound (s.take a) (1, 1) (by decide) (by decide)
  have h2 : (s.take a).length ≤ s.length := by rw [List.length_take]; omega
  unfold plAt
  simp only at this
  omega
theorem plAt_on {s x r : T} {a : Nat} (h : s.drop a = x ++ r) : plAt s (a + x.length) = plS (plAt s a) x := by
  have e : s.take (a + x.length) = s.take a ++ x := by
    rw [List.take_add, h, List.take_left]
  unfold plAt
  rw [e, plS_append]
theorem drop_on {s x r : T} {a : Nat} (h : s.drop a = x ++ r) : s.drop (a + x.length) = r := by
  rw [← List.drop_drop, h, List.drop_left]
theorem le_on {s x r : T} {a : Nat} (h : s.drop a = x ++ r) (ha : a ≤ s.length) : a + x.length ≤ s.length := by
  have := congrArg List.length h
  rw [List.length_drop, List.length_append] at this
  omega

/-- The text passes x. -/
theorem LxAt.passed {s : T} {W0 W1 w w' : World} {B : Nat} {b mb mc : Nat} {tv : Value} {x r : T} {a : Nat} {acc : List Tk} (h : LxAt s W0 W1 B w b mb mc tv (x ++ r) a acc) (hr : TxR w' b r (plS (plAt s a) x) tv (.map (some mb))) (hg : w.grownBy w' (some b)) :
    LxAt s W0 W1 B w' b mb mc tv r (a + x.length) acc := by
  have hb : b < w.heap.size := Row.lt h.row_
  have hmb := h.mb_
  have hbB := h.base_
  refine ⟨?_, OwnG.far (lastsT s) h.own_ h.base_ hg, h.map_.kept hg (by intro e; injection e with e; omega), h.env_, h.mb_, h.old_, ?_, drop_on h.rest_, by have := h.few_; omega, le_on h.rest_ h.le_, h.short_, h.base_, Nat.le_trans h.room_ hg.size, fun q h1 h2 h3 => (hg.block q (Nat.lt_of_lt_of_le h1 h.room_) (by intro e; injection e with e; exact h2 e)).trans (h.keep_ q h1 h2 h3)⟩
  · rw [plAt_on h.rest_]; exact hr
  · exact h.below_.grown hg h.below_.size (fun k e => by injection e with e; have := h.mb_; have := h.old_; omega)

end Go.Proofs.YtfajnflfonechaaDoor
