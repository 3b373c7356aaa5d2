/- DERIVED. Rows of expressions that a call itself makes; append of one element in a region that draws its order. -/
import Derived.Test.YtfajnflfonechaaDoorEx1
import Derived.Test.YtfajnflfonechaaDoorTamg
namespace Go.Proofs.YtfajnflfonechaaDoor
open Go.RowKit

/-- append of one element of whatever size, onto a row of the call's own, as an operation of a drawn region. -/
theorem op_append {P : Program} {o : Oper} {a : Act} {w : World} {R : Value → World → Prop} (s x : Operand) (t : TypeId)
    (ho : o.op = .call { callee := .builtin .append, args := #[s, x], argTypes := #[t, t] })
    (B : Nat) (e : TypeId) (i : TypeInfo) (z : Value) (size bytes : Nat) (ht : P.underlying t = some (.slice e)) (hi : P.info? e = some i) (hz : i.zero = some z)
    (hsize : i.size = size) (hby : i.bytes = bytes) (hzs : z.cells.size = size) (hsz : 0 < size) (h64 : bytes ≤ 128)
    (v : Value) (n : Nat) (xs : List Value) (hs : a.eval s = v) (hown : w.ownsRow B e size v n xs) (g c : Nat) (e' : TypeId) (news : List Value) (hx : a.eval x = .slice (some ⟨g, 0, none⟩) 1 c) (hl : news.length = size) (hr : Row w g e' news.toArray)
    (h1 : ∀ u ∈ news, u.oneCell' = true) (hn : n ≤ 1099511627775) (hB : B ≤ w.heap.size)
    (h : ∀ v' w', w'.ownsRow B e size v' (n + 1) (xs ++ news) → w.grownBy w' v.ownBlock → (v'.ownBlock = v.ownBlock ∨ v'.ownBlock = some w.heap.size) → R v' w') : Tame.Op P o a w R := by
  have hb2 : (n + 1) * bytes ≤ 1099511627776 * 128 := Nat.mul_le_mul (by omega) h64
  obtain ⟨v', w', hrun, h2, h3, _, h5⟩ := run_append_own_at (P := P) w B t o.type e i z size bytes ht hi hz hsize hby hzs hsz v n xs hown ⟨g, 0, none⟩ 1 c news (by omega) (fun j u hu => by
      rw [addr_add, Nat.zero_add, hr.cell j, ← hu]; simp) h1 (by unfold maxLen; omega) (by omega) hB
  unfold Tame.Op execOp
  simp only [ho, resolve, invoke, builtin, Sem.run_bind, Sem.run_pure, Result.andThen_ok, List.map_toArray, List.map_cons, List.map_nil, hs, hx, hrun]
  exact h v' w' h2 h3 h5

/-- The cells of one expression. -/
def c5 (x : X) (A : Option Addr) (c : Nat) : List Value := [.int .i64 x.k, .int .i64 x.o, .int .i64 x.n, .string ⟨x.s.toArray⟩, .slice A x.ks.length c]
theorem c5_one (x : X) (A : Option Addr) (c : Nat) : ∀ u ∈ c5 x A c, u.oneCell' = true := by
  intro u hu
  simp only [c5, List.mem_cons, List.not_mem_nil, or_false] at hu
  rcases hu with rfl | rfl | rfl | rfl | rfl <;> rfl

/-- These cells are those of these expressions; all that they lead to lies in blocks of S. -/
def CX (w : World) (S : Nat → Prop) : List X → List Value → Prop
  | [], cs => cs = []
  | x :: xs, cs => ∃ A c rest, cs = c5 x A c ++ rest ∧ KS w S A x.ks ∧ CX w S xs rest

section
variable {w w' : World} {S S' : Nat → Prop}
theorem CX.move {xs : List X} : ∀ {cs : List Value}, CX w S xs cs → (∀ b, S b → S' b ∧ w'.heap[b]? = w.heap[b]?) → CX w' S' xs cs := by
  induction xs with
  | nil => intro cs h _; exact h
  | cons x xs ih =>
    intro cs h hm
    obtain ⟨A, c, rest, hc, hk, hr⟩ := h
    exact ⟨A, c, rest, hc, hk.move hm, ih hr hm⟩
theorem CX.snoc {xs : List X} {x : X} {A : Option Addr} {c : Nat} (hk : KS w S A x.ks) : ∀ {cs : List Value}, CX w S xs cs → CX w S (xs ++ [x]) (cs ++ c5 x A c) := by
  induction xs with
  | nil => intro cs h; subst h; exact ⟨A, c, [], by simp, hk, rfl⟩
  | cons y ys ih =>
    intro cs h
    obtain ⟨A', c', rest, hc, hk', hr⟩ := h
    exact ⟨A', c', rest ++ c5 x A c, by rw [hc, List.append_assoc], hk', ih hr⟩
theorem CX.ecs {g : Nat} (hg : S' g) (hS : ∀ b, S b → S' b) {xs : List X} : ∀ {cs : List Value} {off : Nat}, CX w S xs cs → (∀ (j : Nat) u, cs[j]? = some u → w.cell? ⟨g, off + j, none⟩ = some u) → ECs w S' xs g off := by
  induction xs with
  | nil => intro cs off _ _; unfold ECs; trivial
  | cons x xs ih =>
    intro cs off h hc
    obtain ⟨A, c, rest, rfl, hk, hr⟩ := h
    unfold ECs
    refine ⟨EC.mk' (c := c) hg ?_ ?_ ?_ ?_ ?_ (hk.move fun b hb => ⟨hS b hb, rfl⟩), ih hr fun j u hu => ?_⟩
    · simpa using hc 0 _ rfl
    · exact hc 1 _ rfl
    · exact hc 2 _ rfl
    · exact hc 3 _ rfl
    · exact hc 4 _ rfl
    · rw [show off + 5 + j = off + (5 + j) by omega]
      refine hc (5 + j) u ?_
      rw [List.getElem?_append_right (by simp [c5])]
      simpa [c5] using hu
end

/-- The value v is a slice of expressions of the call's own: its row lies from block B on, all else that it leads to in blocks of S. -/
def OwnX (w : World) (B : Nat) (S : Nat → Prop) (v : Value) (xs : List X) : Prop := ∃ cs, w.ownsRow B 61 5 v xs.length cs ∧ CX w S xs cs

theorem OwnX.nil (w : World) (B : Nat) (S : Nat → Prop) : OwnX w B S (.slice none 0 0) [] := ⟨[], World.ownsRow_nil w B 61 5, rfl⟩
theorem OwnX.form {w : World} {B : Nat} {S S' : Nat → Prop} {v : Value} {xs : List X} (h : OwnX w B S v xs) (hS : ∀ b, S b → S' b) (hg : ∀ k, v.ownBlock = some k → S' k) : ∃ A c, v = .slice A xs.length c ∧ KS w S' A xs := by
  obtain ⟨cs, ho, hx⟩ := h
  rcases ho.2 with ⟨rfl, hz⟩ | ⟨g, cap, cur, rfl, hb, hgg, hnc, hcm, hcs, htake⟩
  · exact ⟨none, 0, by rw [hz], .inl (List.eq_nil_of_length_eq_zero hz)⟩
  · refine ⟨_, _, rfl, .inr ⟨g, 0, rfl, CX.ecs (hg g rfl) hS hx fun j u hu => ?_⟩⟩
    have hj : j < xs.length * 5 := by
      have := ho.1
      rcases Nat.lt_or_ge j cs.length with h' | h'
      · omega
      · rw [List.getElem?_eq_none h'] at hu; cases hu
    rw [Nat.zero_add, World.ownsRow.cellAt ho j hj, hu]

end Go.Proofs.YtfajnflfonechaaDoor
