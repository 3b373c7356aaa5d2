/- DERIVED. The text of a program: plain. -/
import Derived.Test.YtfajnflfonechaaDoorTx
import Derived.Test.YtfajnflfonechaaDoorPgm
import Derived.Lib.Join
namespace Go.Proofs.YtfajnflfonechaaDoor
open Go.RowKit

def typL : List T := [[105, 110, 116], [98, 111, 111, 108]]
def varT (v : Vr) : T := v.name ++ ([58, 32] ++ typL.getD v.type.toNat [])
def sepS (sep : T) : List T → T
  | [] => []
  | t :: ts => t ++ (ts.map (sep ++ ·)).flatten
def varsS (l : List Vr) : T := sepS [59, 32] (l.map varT)
def leftS (l : List T) : T := if l.length = 1 then l.getD 0 [] else [40] ++ (sepS [44, 32] l ++ [41])
def eqS (q : Q) : T := [32, 32] ++ (leftS q.lhs ++ ([32, 61, 32] ++ (q.rhs.txt ++ [59, 10])))
def headS (n : Nd) : T := [110, 111, 100, 101, 32] ++ (n.name ++ ([40] ++ (varsS n.ins ++ ([41, 32, 114, 101, 116, 117, 114, 110, 115, 32, 40] ++ (varsS n.outs ++ [41, 59, 10])))))
def localsS (l : List Vr) : T := if l.length = 0 then [] else [118, 97, 114, 32] ++ (varsS l ++ [59, 10])
def nodeS (n : Nd) : T := headS n ++ (localsS n.locals ++ ([108, 101, 116, 10] ++ ((n.eqs.map eqS).flatten ++ [116, 101, 108, 10])))
def progS (l : List Nd) : T := (l.map nodeS).flatten

theorem sepS_snoc {sep : T} {ts : List T} {i : Nat} {t : T} (h : ts[i]? = some t) : sepS sep (ts.take (i + 1)) = sepS sep (ts.take i) ++ ((if i = 0 then [] else sep) ++ t) := by
  rw [List.take_add_one, h]
  have : ∀ l : List T, sepS sep (l ++ [t]) = sepS sep l ++ ((if l = [] then [] else sep) ++ t) := by
    intro l
    cases l with
    | nil => simp [sepS]
    | cons y ys => simp [sepS]
  have hl : ts.take i = [] ↔ i = 0 := by
    have hi : i < ts.length := (List.getElem?_eq_some_iff.1 h).1
    constructor
    · intro e
      have := congrArg List.length e
      rw [List.length_take] at this
      simp only [List.length_nil] at this
      omega
    · intro e; subst e; rfl
  refine (this _).trans ?_
  by_cases h0 : i = 0
  · rw [if_pos h0, if_pos (hl.2 h0)]
  · rw [if_neg h0, if_neg fun e => h0 (hl.1 e)]
theorem sepS_join (sep : T) (ts : List T) : Lib.join ts sep = sepS sep ts := by
  unfold Lib.join
  cases ts with
  | nil => rfl
  | cons t ts =>
    have : ∀ (ts : List T) (t : T), List.intercalate sep (t :: ts) = t ++ (ts.map (sep ++ ·)).flatten := by
      intro ts
      induction ts with
      | nil => intro t; simp [List.intercalate]
      | cons u us ih =>
        intro t
        have e := ih u
        unfold List.intercalate at e ⊢
        rw [show List.intersperse sep (t :: u :: us) = t :: sep :: List.intersperse sep (u :: us) from rfl, List.flatten_cons, List.flatten_cons, e, List.map_cons, List.flatten_cons, List.append_assoc]
    exact this ts t
theorem sepS_len (sep : T) (M : Nat) (ts : List T) (h : ∀ t ∈ ts, t.length + sep.length ≤ M) : (sepS sep ts).length ≤ M * ts.length := by
  have key : ∀ ts : List T, (∀ t ∈ ts, t.length + sep.length ≤ M) → ((ts.map (sep ++ ·)).flatten).length ≤ M * ts.length := by
    intro ts
    induction ts with
    | nil => intro _; simp
    | cons u us ih =>
      intro h
      have h1 := h u (List.mem_cons_self ..)
      have h2 := ih fun t ht => h t (List.mem_cons_of_mem _ ht)
      simp only [List.map_cons, List.flatten_cons, List.length_append, List.length_cons, Nat.mul_add, Nat.mul_one]
      omega
  cases ts with
  | nil => simp [sepS]
  | cons t ts =>
    have h1 := h t (List.mem_cons_self ..)
    have h2 := key ts fun u hu => h u (List.mem_cons_of_mem _ hu)
    simp only [sepS, List.length_append, List.length_cons, Nat.mul_add, Nat.mul_one]
    omega
theorem typL_len (i : Nat) : (typL.getD i []).length ≤ 4 := by
  match i with
  | 0 => decide
  | 1 => decide
  | i + 2 => simp [typL]
theorem varT_len (v : Vr) : (varT v).length ≤ v.name.length + 6 := by
  have := typL_len v.type.toNat
  simp only [varT, List.length_append, List.length_cons, List.length_nil]
  omega
/-- Variables whose text is short. -/
def shortV (l : List Vr) : Prop := l.length ≤ 1000 ∧ ∀ v ∈ l, v.name.length ≤ 60 ∧ 0 ≤ v.type ∧ v.type ≤ 1
theorem varsS_len {l : List Vr} (h : shortV l) : (varsS l).length ≤ 68000 := by
  have := sepS_len [59, 32] 68 (l.map varT) fun t ht => by
    obtain ⟨v, hv, rfl⟩ := List.mem_map.1 ht
    have := varT_len v
    have := (h.2 v hv).1
    simp only [List.length_cons, List.length_nil]
    omega
  rw [List.length_map] at this
  have h1 := h.1
  unfold varsS
  omega
theorem shortV_take {l : List Vr} (h : shortV l) (i : Nat) : shortV (l.take i) := ⟨by rw [List.length_take]; have := h.1; omega, fun v hv => h.2 v (List.mem_of_mem_take hv)⟩

end Go.Proofs.YtfajnflfonechaaDoor
