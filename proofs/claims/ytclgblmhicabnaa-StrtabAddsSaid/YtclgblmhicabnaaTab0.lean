/- DERIVED. A table of texts: plain (a list of texts, none twice; what a map from texts to numbers reads as), and in memory. -/
import Derived.Test.YtclgblmhicabnaaApp
import Derived.Test.YtclgblmhicabnaaRows
import Derived.Maps.OwnSet
import Derived.WalkSpells
import Derived.Handy
namespace Go.Proofs.Ytclgblmhicabnaa
open Go.RowKit

abbrev T := List UInt8
def txt (l : T) : Value := .string ⟨l.toArray⟩
def txts (xs : List T) : List Value := xs.map txt
def key (l : T) : Lit := .string l

theorem key_ne {l m : T} (h : l ≠ m) : key l ≠ key m := fun e => h (by unfold key at e; injection e)
theorem key_lit (l : T) : WideAt.IsKeyLit (key l) := trivial
theorem txts_length (xs : List T) : (txts xs).length = xs.length := by simp [txts]
theorem txts_get (xs : List T) (k : Nat) (h : k < xs.length) : (txts xs)[k]? = some (txt xs[k]) := by simp [txts, h]
theorem txts_append (xs ys : List T) : txts (xs ++ ys) = txts xs ++ txts ys := by simp [txts]
theorem txts_one (xs : List T) : ∀ u ∈ txts xs, u.oneCell' = true := by
  intro u hu
  simp only [txts, List.mem_map] at hu
  obtain ⟨b, _, rfl⟩ := hu
  rfl

/-- The number of a text: -1, if it isn't there. -/
def num_ (xs : List T) (l : T) : Int := if l ∈ xs then (xs.idxOf l : Nat) else -1

theorem idx_get {xs : List T} (hn : xs.Nodup) {i : Nat} (h : i < xs.length) : xs.idxOf xs[i] = i := by
  have h2 : xs.idxOf xs[i] < xs.length := List.idxOf_lt_length_of_mem (List.getElem_mem h)
  have h3 : xs[xs.idxOf xs[i]] = xs[i] := List.getElem_idxOf h2
  exact (List.getElem_inj hn).1 h3

/-- What a map from texts to numbers reads as that has just these texts. -/
def TabD (D : DataW Unit) (xs : List T) : Prop :=
  Maps.IsMap D ∧ (∀ l, Maps.has D (key l) = decide (l ∈ xs)) ∧ ∀ (i : Nat) (l : T), xs[i]? = some l → ∀ z, D.atKey (key l) z = .lit (.int .i64 (i : Nat))

theorem TabD.empty : TabD (.map []) [] := ⟨Maps.isMap_empty, fun _ => rfl, fun i l h => by simp at h⟩
theorem TabD.put {D : DataW Unit} {xs : List T} {l : T} (h : TabD D xs) (hl : l ∉ xs) : TabD (D.put (key l) (.lit (.int .i64 (xs.length : Nat)))) (xs ++ [l]) := by
  obtain ⟨hm, hh, ha⟩ := h
  refine ⟨hm.put _ _, fun m => ?_, fun i m hi z => ?_⟩
  · by_cases e : m = l
    · subst e
      rw [Maps.has_put_same hm (key_lit m)]
      simp
    · rw [Maps.has_put_other (key_ne e), hh m]
      simp [e]
  · rw [List.getElem?_append] at hi
    split at hi
    · rename_i hlt
      have hne : m ≠ l := by
        rintro rfl
        exact hl (List.mem_of_getElem? hi)
      rw [Maps.atKey_put_other (key_ne hne)]
      exact ha i m hi z
    · rename_i hge
      have hi0 : i - xs.length = 0 := by
        rcases Nat.eq_zero_or_pos (i - xs.length) with h' | h'
        · exact h'
        · rw [List.getElem?_eq_none (by simp; omega)] at hi; cases hi
      rw [hi0] at hi
      simp at hi
      subst hi
      have : i = xs.length := by omega
      subst this
      exact Maps.atKey_put_same hm (key_lit _) _ _
theorem TabD.at_ {D : DataW Unit} {xs : List T} (h : TabD D xs) (l : T) : D.atKey (key l) (.lit (.int .i64 0)) = .lit (.int .i64 (if l ∈ xs then ((xs.idxOf l : Nat) : Int) else 0)) := by
  obtain ⟨hm, hh, ha⟩ := h
  by_cases e : l ∈ xs
  · rw [if_pos e]
    have h2 : xs.idxOf l < xs.length := List.idxOf_lt_length_of_mem e
    exact ha _ l (by rw [List.getElem?_eq_getElem h2, List.getElem_idxOf h2]) _
  · rw [if_neg e]
    exact Maps.atKey_of_not_has (by rw [hh l]; simpa using e) _

theorem strKeyed : Maps.Keyed Try.prog 9 := Maps.string_keyed Try.underlying9
theorem zeroInt (w : World) : (zeroValue 3).run Try.prog w = .ok (.int .i64 0) w := by kernel_rfl
theorem key_of (l : T) (h : l.length ≤ maxLen) : keyOf Try.prog 9 (txt l) = some (key l) := WideMaps.keyOf_string_mk Try.underlying9 (s := ⟨l.toArray⟩) h
theorem str_info : (Try.prog.info? 9).map (fun i => (i.zero, i.size, i.bytes)) = some (some (.string ⟨#[]⟩), 1, 16) := by kernel_rfl

theorem Owns.far {w : World} {B : Nat} {e : TypeId} {v : Value} {xs : List Value} (h : Owns w B e v xs) {p : Addr} (hp : p.block < B) (u : Value) : Owns (w.setCell p u) B e v xs := ownsRow_setCell_below h hp u
theorem Owns.grown {w w' : World} {B k : Nat} {e : TypeId} {v : Value} {xs : List Value} (h : Owns w B e v xs) (hg : w.grownBy w' (some k)) (hk : k < B) : Owns w' B e v xs := by
  refine ⟨h.1, ?_⟩
  rcases h.2 with hn | ⟨g, cap, cur, rfl, hbg, hgr, rest⟩
  · exact .inl hn
  · have hlt := (Array.getElem?_eq_some_iff.1 hgr).1
    exact .inr ⟨g, cap, cur, rfl, hbg, by rw [hg.block g hlt (by simp; omega)]; exact hgr, rest⟩

theorem map_below {w w' : World} {B b n : Nat} {k : TypeId} {R : Value → Option (DataW Unit × List MemPlace)} {D : DataW Unit} (h : w.ownsMap Try.prog k R b n D) (hb : Below B w w') (hlt : b < B) : w'.ownsMap Try.prog k R b n D := by
  obtain ⟨es, clock, he, r⟩ := h
  exact ⟨es, clock, (hb.block b hlt).trans he, r⟩

/-- Block p is a table that has just these texts; all that it has lies from block B on. -/
def TB (w : World) (B p : Nat) (xs : List T) : Prop :=
  ∃ v b q D, Row w p 93 #[v, .map (some b)] ∧ Owns w q 9 v (txts xs) ∧ w.ownsMap Try.prog 9 (plainElem Try.prog 3) b xs.length D ∧ TabD D xs ∧ B ≤ p ∧ B ≤ b ∧ p < q ∧ b < q ∧ q ≤ w.heap.size ∧ xs.length ≤ 1099511627776 ∧ xs.Nodup

theorem TB.lt {w : World} {B p : Nat} {xs : List T} (h : TB w B p xs) : B ≤ p ∧ p < w.heap.size := by
  obtain ⟨v, b, q, D, hr, ho, hm, hd, h1, h2, h3, h4, h5, h6⟩ := h
  exact ⟨h1, hr.lt⟩
theorem TB.nodup {w : World} {B p : Nat} {xs : List T} (h : TB w B p xs) : xs.Nodup := by
  obtain ⟨v, b, q, D, hr, ho, hm, hd, h1, h2, h3, h4, h5, h6, h7⟩ := h
  exact h7
theorem TB.short {w : World} {B p : Nat} {xs : List T} (h : TB w B p xs) : xs.length ≤ 1099511627776 := by
  obtain ⟨v, b, q, D, hr, ho, hm, hd, h1, h2, h3, h4, h5, h6, h7⟩ := h
  exact h6
theorem TB.later {w w' : World} {B p : Nat} {xs : List T} (h : TB w B p xs) (hb : Below w.heap.size w w') : TB w' B p xs := by
  obtain ⟨v, b, q, D, hr, ho, hm, hd, h1, h2, h3, h4, h5, h6⟩ := h
  exact ⟨v, b, q, D, hr.below hb hr.lt, ho.below_all hb, hm.kept (only_below hb (row := none)) (by simp), hd, h1, h2, h3, h4, Nat.le_trans h5 hb.size, h6⟩
theorem TB.other {w w' : World} {B p k : Nat} {xs : List T} (h : TB w B p xs) (hg : w.grownBy w' (some k)) (hk : k < B) : TB w' B p xs := by
  obtain ⟨v, b, q, D, hr, ho, hm, hd, h1, h2, h3, h4, h5, h6⟩ := h
  exact ⟨v, b, q, D, hr.grown hg (by simp; omega), ho.grown hg (by omega), hm.kept hg (by simp; omega), hd, h1, h2, h3, h4, Nat.le_trans h5 hg.size, h6⟩
theorem TB.base {w : World} {B B' p : Nat} {xs : List T} (h : TB w B p xs) (hB : B' ≤ B) : TB w B' p xs := by
  obtain ⟨v, b, q, D, hr, ho, hm, hd, h1, h2, h3⟩ := h
  exact ⟨v, b, q, D, hr, ho, hm, hd, by omega, by omega, h3⟩

/-- The blocks from q on that were there are as they were. -/
def Between (q : Nat) (w w' : World) : Prop := ∀ i, q ≤ i → i < w.heap.size → w'.heap[i]? = w.heap[i]?
theorem Between.refl (q : Nat) (w : World) : Between q w w := fun _ _ _ => rfl
theorem Between.of_later {q : Nat} {w w' : World} (h : Below w.heap.size w w') : Between q w w' := fun i _ hi => h.block i hi
theorem Between.trans {q : Nat} {a b c : World} (h : Between q a b) (k : Between q b c) (hs : a.heap.size ≤ b.heap.size) : Between q a c := fun i hq hi => (k i hq (Nat.lt_of_lt_of_le hi hs)).trans (h i hq hi)
theorem Between.grown {q : Nat} {w w' : World} {row : Option Nat} (h : w.grownBy w' row) (hr : ∀ k, row = some k → k < q) : Between q w w' := fun i hq hi => h.block i hi (fun e => by have := hr i e.symm; omega)
theorem Between.set {q p : Nat} {w : World} (i : Nat) (u : Value) (hp : p < q) : Between q w (w.setCell ⟨p, i, none⟩ u) := fun k hq _ => Below.heap_setCell w ⟨p, i, none⟩ u k (fun e => by have : k = p := e; omega)
theorem Between.lies {q : Nat} {w w' : World} {A : Option Addr} {xs : List Value} (h : Between q w w') (hs : w.heap.size ≤ w'.heap.size) (hA : Lies w w.heap.size A xs) (hq : ∀ a, A = some a → xs ≠ [] → q ≤ a.block) : Lies w' w'.heap.size A xs := fun hn => by
  obtain ⟨b, off, e, hb, hc⟩ := hA hn
  exact ⟨b, off, e, by omega, fun j u hu => by rw [World.cell?_of_block (h b (hq _ e hn) hb)]; exact hc j u hu⟩

/-- append of one element, laid in a block of its own, onto a row of the call's own: with what it turns. -/
theorem wpList_app1 {P : Program} (w : World) {ops : Array Oper} {rest : List Oper} {o : Oper} {a : Act} {Q : Exit → Act → World → Prop} (hgd : o.guard = none) (s x : Operand) (t : TypeId)
    (ho : o.op = .call { callee := .builtin .append, args := #[s, x], argTypes := #[t, t] })
    (B : Nat) (e : TypeId) (i : TypeInfo) (z : Value) (bytes : Nat) (ht : P.underlying t = some (.slice e)) (hi : P.info? e = some i) (hz : i.zero = some z)
    (hsize : i.size = 1) (hby : i.bytes = bytes) (hzs : z.cells.size = 1) (h64 : bytes ≤ 64)
    (v : Value) (hs : a.eval s = v) (xs : List Value) (hown : Owns w B e v xs) (g : Nat) (c : Nat) (hx : a.eval x = .slice (some ⟨g, 0, none⟩) 1 c) (u : Value) (hc : w.cell? ⟨g, 0, none⟩ = some u)
    (h : ∀ v' w', Owns w' B e v' (xs ++ [u]) → Below B w w' → w.grownBy w' v.ownBlock → wpList P ops Q rest (a.put o.dst v') w')
    (h1 : u.oneCell' = true) (hlen : xs.length + 1 ≤ 1099511627900) (hB : B ≤ w.heap.size) : wpList P ops Q (o :: rest) a w :=
  wpList_plain hgd fun _ hK => by
    have hb2 : (xs.length + 1) * bytes ≤ 1099511627900 * 64 := Nat.mul_le_mul hlen h64
    obtain ⟨v', w', hr, h2, h3, _, _⟩ := run_append_own_at (P := P) w B t o.type e i z 1 bytes ht hi hz hsize hby hzs (by omega) v xs.length xs hown ⟨g, 0, none⟩ 1 c [u] (by simp) (fun j y hy => by
      rcases j with _ | j
      · rw [addr_add, ← hy]; exact hc
      · simp at hy) (by simpa using h1) (by simp only [maxLen]; omega) (by omega) hB
    unfold Oper.wp execOp
    simp only [ho, resolve, invoke, builtin, Sem.run_bind, Sem.run_pure, Result.andThen_ok, List.map_toArray, List.map_cons, List.map_nil, hs, hx, hr]
    exact hK _ _ (h v' w' (by unfold Owns; rw [List.length_append]; exact h2) (grown_below h3 hB fun k hk => (hown.lt k hk).1) h3)

end Go.Proofs.Ytclgblmhicabnaa
