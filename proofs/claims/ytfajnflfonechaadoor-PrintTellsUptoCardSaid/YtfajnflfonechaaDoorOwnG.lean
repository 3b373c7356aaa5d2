/- DERIVED. Rows that a call itself makes, of anything: variables, equations, nodes. -/
import Derived.Test.YtfajnflfonechaaDoorPgm
import Derived.Test.YtfajnflfonechaaDoorOwn
namespace Go.Proofs.YtfajnflfonechaaDoor
open Go.RowKit

/-- What the cells of one thing are, and where they lead to. -/
abbrev Of (α : Type) := World → (Nat → Prop) → α → List Value → Prop
structure Lasts {α : Type} (R : Of α) (k : Nat) : Prop where
  move : ∀ {w w' : World} {S S' : Nat → Prop} {x : α} {cs : List Value}, R w S x cs → (∀ b, S b → S' b ∧ w'.heap[b]? = w.heap[b]?) → R w' S' x cs
  len : ∀ {w : World} {S : Nat → Prop} {x : α} {cs : List Value}, R w S x cs → cs.length = k
  one : ∀ {w : World} {S : Nat → Prop} {x : α} {cs : List Value}, R w S x cs → ∀ u ∈ cs, u.oneCell' = true

def CG {α : Type} (R : Of α) (w : World) (S : Nat → Prop) : List α → List Value → Prop
  | [], cs => cs = []
  | x :: xs, cs => ∃ c rest, cs = c ++ rest ∧ R w S x c ∧ CG R w S xs rest

section
variable {α : Type} {R : Of α} {k : Nat} {w w' : World} {S S' : Nat → Prop}
theorem CG.move (hl : Lasts R k) {xs : List α} : ∀ {cs : List Value}, CG R w S xs cs → (∀ b, S b → S' b ∧ w'.heap[b]? = w.heap[b]?) → CG R w' S' xs cs := by
  induction xs with
  | nil => intro cs h _; exact h
  | cons x xs ih =>
    intro cs h hm
    obtain ⟨c, rest, hc, hk, hr⟩ := h
    exact ⟨c, rest, hc, hl.move hk hm, ih hr hm⟩
theorem CG.snoc {xs : List α} {x : α} {c : List Value} (hk : R w S x c) : ∀ {cs : List Value}, CG R w S xs cs → CG R w S (xs ++ [x]) (cs ++ c) := by
  induction xs with
  | nil => intro cs h; subst h; exact ⟨c, [], by simp, hk, rfl⟩
  | cons y ys ih =>
    intro cs h
    obtain ⟨c', rest, hc, hk', hr⟩ := h
    exact ⟨c', rest ++ c, by rw [hc, List.append_assoc], hk', ih hr⟩
theorem CG.at (hl : Lasts R k) {xs : List α} {i : Nat} {x : α} : ∀ {cs : List Value}, CG R w S xs cs → xs[i]? = some x → ∃ c, R w S x c ∧ ∀ (j : Nat) u, c[j]? = some u → cs[i * k + j]? = some u := by
  induction xs generalizing i with
  | nil => intro cs _ hi; simp at hi
  | cons y ys ih =>
    intro cs h hi
    obtain ⟨c', rest, rfl, hk', hr⟩ := h
    have hlen := hl.len hk'
    cases i with
    | zero =>
      simp at hi; subst hi
      exact ⟨c', hk', fun j u hu => by
        have hj : j < c'.length := by
          rcases Nat.lt_or_ge j c'.length with h' | h'
          · exact h'
          · rw [List.getElem?_eq_none h'] at hu; cases hu
        rw [Nat.zero_mul, Nat.zero_add, List.getElem?_append_left hj]; exact hu⟩
    | succ i =>
      simp at hi
      obtain ⟨c, hc, hat⟩ := ih hr hi
      exact ⟨c, hc, fun j u hu => by
        rw [show (i + 1) * k + j = c'.length + (i * k + j) by rw [hlen, Nat.add_mul]; omega, List.getElem?_append_right (by omega), Nat.add_sub_cancel_left]
        exact hat j u hu⟩
end

/-- The value v is a slice of such things, of the call's own: its row lies from block B on, all else that it leads to in blocks of S. -/
def OwnG {α : Type} (R : Of α) (e : TypeId) (k : Nat) (w : World) (B : Nat) (S : Nat → Prop) (v : Value) (xs : List α) : Prop := ∃ cs, w.ownsRow B e k v xs.length cs ∧ CG R w S xs cs

section
variable {α : Type} {R : Of α} {e : TypeId} {k : Nat} {w w' : World} {B : Nat} {v : Value} {xs : List α}
theorem OwnG.nil (R : Of α) (e : TypeId) (k : Nat) (w : World) (B : Nat) (S : Nat → Prop) : OwnG R e k w B S (.slice none 0 0) [] := ⟨[], World.ownsRow_nil w B e k, rfl⟩
theorem OwnG.lt {S : Nat → Prop} (h : OwnG R e k w B S v xs) : ∀ q, v.ownBlock = some q → B ≤ q ∧ q < w.heap.size := by obtain ⟨cs, ho, _⟩ := h; exact World.ownsRow.lt ho
/-- In memory. -/
theorem OwnG.form (hl : Lasts R k) {S S' : Nat → Prop} (h : OwnG R e k w B S v xs) (hS : ∀ b, S b → S' b) (hg : ∀ q cs, v.ownBlock = some q → Row w q e cs → S' q) :
    ∃ A c, v = .slice A xs.length c ∧ Rw (fun x b off => S' b ∧ ∃ cs, R w S' x cs ∧ ∀ (j : Nat) u, cs[j]? = some u → w.cell? ⟨b, off + j, none⟩ = some u) k A xs := by
  obtain ⟨cs, ho, hx⟩ := h
  rcases ho.2 with ⟨rfl, hz⟩ | ⟨g, cap, cur, rfl, hb, hgg, hnc, hcm, hcs, htake⟩
  · exact ⟨none, 0, by rw [hz], .inl (List.eq_nil_of_length_eq_zero hz)⟩
  · refine ⟨_, _, rfl, .inr ⟨g, 0, rfl, fun i x hi => ⟨hg g cur rfl hgg, ?_⟩⟩⟩
    obtain ⟨c, hc, hat⟩ := hx.at hl hi
    refine ⟨c, hl.move hc fun b hb => ⟨hS b hb, rfl⟩, fun j u hu => ?_⟩
    have h1 := hat j u hu
    have hlt : i * k + j < cs.length := by
      rcases Nat.lt_or_ge (i * k + j) cs.length with h' | h'
      · exact h'
      · rw [List.getElem?_eq_none h'] at h1; cases h1
    rw [Nat.zero_add, World.ownsRow.cellAt ho (i * k + j) (by have := ho.1; omega), h1]
theorem OwnG.later (hl : Lasts R k) (h : OwnG R e k w B (Sb B v.ownBlock w) v xs) (hb : Tame.Later w w') : OwnG R e k w' B (Sb B v.ownBlock w') v xs := by
  obtain ⟨cs, ho, hx⟩ := h
  refine ⟨cs, ⟨ho.1, ?_⟩, hx.move hl fun b hb' => later_keep hb b hb'⟩
  rcases ho.2 with hn | ⟨g, cap, cur, rfl, hbg, hg, rest⟩
  · exact .inl hn
  · exact .inr ⟨g, cap, cur, rfl, hbg, (Below.block hb g (Array.getElem?_eq_some_iff.1 hg).1).trans hg, rest⟩
theorem OwnG.far (hl : Lasts R k) {p : Nat} (h : OwnG R e k w B (Sb B v.ownBlock w) v xs) (hp : p < B) (hs : w.grownBy w' (some p)) : OwnG R e k w' B (Sb B v.ownBlock w') v xs := by
  obtain ⟨cs, ho, hx⟩ := h
  have hlt := World.ownsRow.lt ho
  refine ⟨cs, ho.kept hs ?_, hx.move hl fun b hb => ⟨⟨hb.1, Nat.lt_of_lt_of_le hb.2.1 hs.size, hb.2.2⟩, hs.block b hb.2.1 (by intro e; injection e with e; have := hb.1; omega)⟩⟩
  cases hv : v.ownBlock with
  | none => exact .inl rfl
  | some q => exact .inr (by intro e; injection e with e; have := (hlt q hv).1; omega)
/-- One more. -/
theorem OwnG.step (hl : Lasts R k) {v' : Value} {j : Nat} {y : α} {cs c : List Value} (hy : xs[j]? = some y) (hx : CG R w (Sb B v.ownBlock w) (xs.take j) cs)
    (ho' : w'.ownsRow B e k v' ((xs.take j).length + 1) (cs ++ c)) (hgr : w.grownBy w' v.ownBlock) (hat : v'.ownBlock = v.ownBlock ∨ v'.ownBlock = some w.heap.size) (hk : R w (Sb B v.ownBlock w) y c) :
    OwnG R e k w' B (Sb B v'.ownBlock w') v' (xs.take (j + 1)) := by
  have hm : ∀ b, Sb B v.ownBlock w b → Sb B v'.ownBlock w' b ∧ w'.heap[b]? = w.heap[b]? := fun b hb => ⟨⟨hb.1, Nat.lt_of_lt_of_le hb.2.1 hgr.size, by
    rcases hat with h | h
    · rw [h]; exact hb.2.2
    · rw [h]; intro e; injection e with e; have := hb.2.1; omega⟩, hgr.block b hb.2.1 hb.2.2⟩
  refine ⟨cs ++ c, ?_, ?_⟩
  · rw [take_succ hy, List.length_append]; exact ho'
  · rw [take_succ hy]; exact CG.snoc (hl.move hk hm) (hx.move hl hm)
end

/-! ### The kinds -/
def RV : Of Vr := fun _ _ v cs => cs = [.string ⟨v.name.toArray⟩, .int .i64 v.type]
def RQ : Of Q := fun w S q cs => ∃ A c A2 c2, cs = .slice A q.lhs.length c :: c5 q.rhs A2 c2 ∧ TS w S A q.lhs ∧ KS w S A2 q.rhs.ks ∧ q.lhs.length ≤ c
def RN : Of Nd := fun w S n cs => ∃ A1 c1 A2 c2 A3 c3 A4 c4, cs = [.string ⟨n.name.toArray⟩, .slice A1 n.ins.length c1, .slice A2 n.outs.length c2, .slice A3 n.locals.length c3, .slice A4 n.eqs.length c4] ∧ VS w S A1 n.ins ∧ VS w S A2 n.outs ∧ VS w S A3 n.locals ∧ QS w S A4 n.eqs
theorem lastsV : Lasts RV 2 := ⟨fun h _ => h, fun h => by rw [show _ = _ from h]; rfl, fun h u hu => by
  rw [show _ = _ from h] at hu
  simp only [List.mem_cons, List.not_mem_nil, or_false] at hu
  rcases hu with rfl | rfl <;> rfl⟩
theorem lastsQ : Lasts RQ 6 := ⟨fun ⟨A, c, A2, c2, h, h1, h2, h3⟩ hm => ⟨A, c, A2, c2, h, h1.move hm, h2.move hm, h3⟩, fun ⟨A, c, A2, c2, h, _⟩ => by rw [h]; rfl, fun ⟨A, c, A2, c2, h, _⟩ u hu => by
  rw [h] at hu
  rcases List.mem_cons.1 hu with rfl | hu
  · rfl
  · exact c5_one _ _ _ u hu⟩
theorem lastsN : Lasts RN 5 := ⟨fun ⟨A1, c1, A2, c2, A3, c3, A4, c4, h, h1, h2, h3, h4⟩ hm => ⟨A1, c1, A2, c2, A3, c3, A4, c4, h, h1.move hm, h2.move hm, h3.move hm, h4.move hm⟩, fun ⟨A1, c1, A2, c2, A3, c3, A4, c4, h, _⟩ => by rw [h]; rfl, fun ⟨A1, c1, A2, c2, A3, c3, A4, c4, h, _⟩ u hu => by
  rw [h] at hu
  simp only [List.mem_cons, List.not_mem_nil, or_false] at hu
  rcases hu with rfl | rfl | rfl | rfl | rfl <;> rfl⟩

theorem rv_vs {w : World} {S : Nat → Prop} {A : Option Addr} {xs : List Vr} (h : Rw (fun x b off => S b ∧ ∃ cs, RV w S x cs ∧ ∀ (j : Nat) u, cs[j]? = some u → w.cell? ⟨b, off + j, none⟩ = some u) 2 A xs) : VS w S A xs :=
  Rw.imp h fun x b off ⟨hb, cs, hc, hat⟩ => by
    have hc : cs = _ := hc
    subst hc
    exact ⟨hb, hat 0 _ rfl, hat 1 _ rfl⟩
theorem rq_qs {w : World} {S : Nat → Prop} {A : Option Addr} {xs : List Q} (h : Rw (fun x b off => S b ∧ ∃ cs, RQ w S x cs ∧ ∀ (j : Nat) u, cs[j]? = some u → w.cell? ⟨b, off + j, none⟩ = some u) 6 A xs) : QS w S A xs :=
  Rw.imp h fun x b off ⟨hb, cs, ⟨A1, c1, A2, c2, hc, h1, h2, h3⟩, hat⟩ => by
    subst hc
    exact ⟨hb, ⟨A1, c1, hat 0 _ rfl, h1, h3⟩, EC.mk' hb (hat 1 _ rfl) (hat 2 _ rfl) (hat 3 _ rfl) (hat 4 _ rfl) (hat 5 _ rfl) h2⟩
theorem rn_ns {w : World} {S : Nat → Prop} {A : Option Addr} {xs : List Nd} (h : Rw (fun x b off => S b ∧ ∃ cs, RN w S x cs ∧ ∀ (j : Nat) u, cs[j]? = some u → w.cell? ⟨b, off + j, none⟩ = some u) 5 A xs) : NS w S A xs :=
  Rw.imp h fun x b off ⟨hb, cs, ⟨A1, c1, A2, c2, A3, c3, A4, c4, hc, h1, h2, h3, h4⟩, hat⟩ => by
    subst hc
    exact ⟨hb, hat 0 _ rfl, ⟨A1, c1, hat 1 _ rfl, h1⟩, ⟨A2, c2, hat 2 _ rfl, h2⟩, ⟨A3, c3, hat 3 _ rfl, h3⟩, A4, c4, hat 4 _ rfl, h4⟩

/-- Blocks from B on, of elements of one type. -/
def Sty (e : TypeId) (B : Nat) (w : World) : Nat → Prop := fun b => B ≤ b ∧ b < w.heap.size ∧ ∃ cs, Row w b e cs
theorem Sty.later {e : TypeId} {B : Nat} {w w' : World} (hb : Tame.Later w w') {b : Nat} (h : Sty e B w b) : Sty e B w' b ∧ w'.heap[b]? = w.heap[b]? :=
  ⟨⟨h.1, Nat.lt_of_lt_of_le h.2.1 (Below.size hb), by obtain ⟨cs, hr⟩ := h.2.2; exact ⟨cs, Row.below hr hb h.2.1⟩⟩, Below.block hb b h.2.1⟩

/-- append(s, x..) where s has no room: nothing that there was is turned. -/
theorem op_append0 {P : Program} {o : Oper} {a : Act} {w : World} {R : Value → World → Prop} (s x : Operand) (t : TypeId)
    (ho : o.op = .call { callee := .builtin .append, args := #[s, x], argTypes := #[t, t] })
    (e : TypeId) (i : TypeInfo) (z : Value) (bytes : Nat) (ht : P.underlying t = some (.slice e)) (hi : P.info? e = some i) (hz : i.zero = some z)
    (hsize : i.size = 1) (hby : i.bytes = bytes) (h64 : bytes ≤ 128)
    (g : Nat) (e' : TypeId) (hs : a.eval s = .slice (some ⟨g, 0, none⟩) 0 0) (hg : Row w g e' #[]) (A : Option Addr) (m c : Nat) (news : List Value) (hx : a.eval x = .slice A m c) (hm : m = news.length)
    (hA : news = [] ∨ ∃ b off, A = some ⟨b, off, none⟩ ∧ ∀ (j : Nat) u, news[j]? = some u → w.cell? ⟨b, off + j, none⟩ = some u) (hn : m ≤ 1099511627776)
    (h : ∀ A' c' w', Below w.heap.size w w' → (news = [] ∨ ∃ g' t', A' = some ⟨g', 0, none⟩ ∧ m ≤ c' ∧ w.heap.size ≤ g' ∧ g' < w'.heap.size ∧ ∃ cs : Array Value, Row w' g' t' cs ∧ ∀ (j : Nat) u, news[j]? = some u → cs[j]? = some u) → R (.slice A' m c') w') : Tame.Op P o a w R := by
  have key : ∃ A' c' w', (Builtin.append_ #[t, t] o.type #[.slice (some ⟨g, 0, none⟩) 0 0, .slice A m c]).run P w = .ok (.slice A' m c') w' ∧ Below w.heap.size w w' ∧ (news = [] ∨ ∃ g' t', A' = some ⟨g', 0, none⟩ ∧ m ≤ c' ∧ w.heap.size ≤ g' ∧ g' < w'.heap.size ∧ ∃ cs : Array Value, Row w' g' t' cs ∧ ∀ (j : Nat) u, news[j]? = some u → cs[j]? = some u) := by
    rcases hA with rfl | ⟨b, off, rfl, hc⟩
    · subst hm
      refine ⟨some ⟨g, 0, none⟩, 0, w, ?_, Below.refl _ _, .inl rfl⟩
      have hgg : w.heap[g]? = some (.cells #[] e' (0, 0)) := hg
      cases A with
      | none => simp [Builtin.append_, run_underlying ht, sizeOf, typeInfo, hi, Builtin.lenOf, Builtin.firstCells, storeCells]
      | some b => simp [Builtin.append_, run_underlying ht, sizeOf, typeInfo, hi, Builtin.lenOf, Builtin.firstCells, storeCells, loadCells, loadCellsFrom]
    · by_cases hm0 : m = 0
      · subst hm0
        refine ⟨some ⟨g, 0, none⟩, 0, w, ?_, Below.refl _ _, .inl (List.eq_nil_of_length_eq_zero hm.symm)⟩
        simp [Builtin.append_, run_underlying ht, sizeOf, typeInfo, hi, Builtin.lenOf, Builtin.firstCells, storeCells, loadCells, loadCellsFrom]
      · have hb2 : (0 + m) * bytes ≤ 1099511627776 * 128 := Nat.mul_le_mul (by omega) h64
        have hr := run_append_grow (P := P) w t o.type e i z ht hi hz ⟨g, 0, none⟩ 0 0 [] (by simp) (fun j u hu => by simp at hu) ⟨b, off, none⟩ m c news (by rw [hsize]; omega) (fun j u hu => by rw [addr_add]; exact hc j u hu) (by omega) (by omega)
          (by subst hby; exact growslice_fits (by omega) (by omega))
        rw [Nat.zero_add] at hr
        refine ⟨_, _, _, hr, ((Below.refl _ _).drew).alloc (Nat.le_refl _) _, .inr ⟨w.heap.size, e, rfl, grownCap_ge w m 0 e, Nat.le_refl _, by rw [World.size_alloc]; exact Nat.lt_succ_self _, _, Row.made w.drew e _, fun j u hu => ?_⟩⟩
        have hj : j < news.length := by
          rcases Nat.lt_or_ge j news.length with h' | h'
          · exact h'
          · rw [List.getElem?_eq_none h'] at hu; cases hu
        rw [← Array.getElem?_toList, Array.toList_append, List.getElem?_append_left (by simpa using hj)]
        simpa using hu
  obtain ⟨A', c', w', hrun, h1, h2⟩ := key
  unfold Tame.Op execOp
  simp only [ho, resolve, invoke, builtin, Sem.run_bind, Sem.run_pure, Result.andThen_ok, List.map_toArray, List.map_cons, List.map_nil, hs, hx, hrun]
  exact h A' c' w' h1 h2

end Go.Proofs.YtfajnflfonechaaDoor
