/- DERIVED. The text of an expression: plain; how long it is. -/
import Derived.Test.YtfajnflfonechaaDoorTable
import Derived.Lib.ItoaMem
import Derived.Lib.Small
namespace Go.Proofs.YtfajnflfonechaaDoor
open Go.RowKit

def opS : List T := [[45, 62], [61, 62], [111, 114], [120, 111, 114], [97, 110, 100], [61], [60, 62], [60], [60, 61], [62], [62, 61], [43], [45], [42], [100, 105, 118], [109, 111, 100]]
def preS : List T := [[45], [110, 111, 116], [112, 114, 101]]
def levL : List Int := [0, 1, 2, 2, 3, 4, 4, 4, 4, 4, 4, 5, 5, 6, 6, 6]
def levOf (o : Int) : Int := levL.getD o.toNat 0
def X.lev (x : X) : Int := if x.k = 5 then -1 else if x.k = 4 then levOf x.o else if x.k = 3 then 7 else 8
def askL (n : Int) : Int := if n = 0 ∨ n = 1 ∨ n = 4 then n + 1 else n
def askR (n : Int) : Int := if n = 0 ∨ n = 1 then n else n + 1
def inT (lev asks : Int) (t : T) : T := if lev < asks then [40] ++ (t ++ [41]) else t
def negB (x : X) : Bool := decide (x.k = 3 ∧ x.o = 0)
def commaS : List T → T
  | [] => []
  | t :: ts => t ++ (ts.map ([44, 32] ++ ·)).flatten
def boolS (n : Int) : T := if n = 1 then [116, 114, 117, 101] else [102, 97, 108, 115, 101]
def txtK (k o n : Int) (s : T) (ks : List X) (ts : List T) : T :=
  if k = 0 then Lib.decDigits n.toNat
  else if k = 1 then boolS n
  else if k = 2 then s
  else if k = 3 then (match ks, ts with | [a], [t] => preS.getD o.toNat [] ++ ((if o ≠ 0 ∨ negB a = true then [32] else []) ++ inT a.lev 7 t) | _, _ => [])
  else if k = 4 then (match ks, ts with | [a, b], [t, u] => inT a.lev (askL (levOf o)) t ++ (([32] ++ (opS.getD o.toNat [] ++ [32])) ++ inT b.lev (askR (levOf o)) u) | _, _ => [])
  else if k = 5 then (match ts with | [t, u, v] => [105, 102, 32] ++ (t ++ ([32, 116, 104, 101, 110, 32] ++ (u ++ ([32, 101, 108, 115, 101, 32] ++ v)))) | _ => [])
  else (s ++ [40]) ++ (commaS ts ++ [41])
mutual
def X.txt : X → T
  | .mk k o n s ks => txtK k o n s ks (X.txts ks)
def X.txts : List X → List T
  | [] => []
  | x :: xs => x.txt :: X.txts xs
end
theorem X.txts_map (xs : List X) : X.txts xs = xs.map X.txt := by
  induction xs with
  | nil => rfl
  | cons x xs ih => simp only [X.txts, List.map_cons, ih]
theorem X.txt_eq (x : X) : x.txt = txtK x.k x.o x.n x.s x.ks (x.ks.map X.txt) := by
  cases x with
  | mk k o n s ks => simp only [X.txt, X.k, X.o, X.n, X.s, X.ks, X.txts_map]
section
variable {x a b c : X}
theorem txt_int (h : x.k = 0) : x.txt = Lib.decDigits x.n.toNat := by rw [X.txt_eq]; unfold txtK; rw [if_pos h]
theorem txt_bool (h : x.k = 1) : x.txt = boolS x.n := by rw [X.txt_eq]; unfold txtK; rw [if_neg (by omega), if_pos h]
theorem txt_var (h : x.k = 2) : x.txt = x.s := by rw [X.txt_eq]; unfold txtK; rw [if_neg (by omega), if_neg (by omega), if_pos h]
theorem txt_un (h : x.k = 3) (hk : x.ks = [a]) : x.txt = preS.getD x.o.toNat [] ++ ((if x.o ≠ 0 ∨ negB a = true then [32] else []) ++ inT a.lev 7 a.txt) := by
  rw [X.txt_eq]; unfold txtK; rw [if_neg (by omega), if_neg (by omega), if_neg (by omega), if_pos h]; simp only [hk, List.map_cons, List.map_nil]
theorem txt_bin (h : x.k = 4) (hk : x.ks = [a, b]) : x.txt = inT a.lev (askL (levOf x.o)) a.txt ++ (([32] ++ (opS.getD x.o.toNat [] ++ [32])) ++ inT b.lev (askR (levOf x.o)) b.txt) := by
  rw [X.txt_eq]; unfold txtK; rw [if_neg (by omega), if_neg (by omega), if_neg (by omega), if_neg (by omega), if_pos h]; simp only [hk, List.map_cons, List.map_nil]
theorem txt_if (h : x.k = 5) (hk : x.ks = [a, b, c]) : x.txt = [105, 102, 32] ++ (a.txt ++ ([32, 116, 104, 101, 110, 32] ++ (b.txt ++ ([32, 101, 108, 115, 101, 32] ++ c.txt)))) := by
  rw [X.txt_eq]; unfold txtK; rw [if_neg (by omega), if_neg (by omega), if_neg (by omega), if_neg (by omega), if_neg (by omega), if_pos h]; simp only [hk, List.map_cons, List.map_nil]
theorem txt_call (h : x.k = 6) : x.txt = (x.s ++ [40]) ++ (commaS (x.ks.map X.txt) ++ [41]) := by
  rw [X.txt_eq]; unfold txtK; rw [if_neg (by omega), if_neg (by omega), if_neg (by omega), if_neg (by omega), if_neg (by omega), if_neg (by omega)]
end

/-! ### What is right -/
theorem shape_open {x : X} (h : x.shape = true) : fitP x ∧ X.shapes x.ks = true := by
  cases x with
  | mk k o n s ks =>
    simp only [X.shape, Bool.and_eq_true] at h
    have h2 := h.2
    unfold fitB at h2
    exact ⟨@of_decide_eq_true _ (Classical.propDecidable _) h2, h.1⟩
theorem shapes_kid {xs : List X} (h : X.shapes xs = true) {i : Nat} {x : X} (hi : xs[i]? = some x) : x.shape = true := by
  induction xs generalizing i with
  | nil => simp at hi
  | cons y ys ih =>
    simp only [X.shapes, Bool.and_eq_true] at h
    cases i with
    | zero => simp at hi; subst hi; exact h.1
    | succ i => simp at hi; exact ih h.2 hi
theorem one_of_len {α : Type} {l : List α} (h : l.length = 1) : ∃ a, l = [a] := List.length_eq_one_iff.1 h
theorem two_of_len {α : Type} {l : List α} (h : l.length = 2) : ∃ a b, l = [a, b] := by
  match l, h with
  | [a, b], _ => exact ⟨a, b, rfl⟩
theorem three_of_len {α : Type} {l : List α} (h : l.length = 3) : ∃ a b c, l = [a, b, c] := by
  match l, h with
  | [a, b, c], _ => exact ⟨a, b, c, rfl⟩
theorem name_len {s : T} (h : nameB s = true) : s.length ≤ 60 := by
  have : nameP s := by
    unfold nameB at h
    exact @of_decide_eq_true _ (Classical.propDecidable _) h
  exact this.2.2.1

/-! ### How long -/
theorem nDig_le : ∀ (k u : Nat), u < 10 ^ (k + 1) → Lib.nDigits u ≤ k + 1 := by
  intro k
  induction k with
  | zero => intro u h; rw [Lib.nDigits]; rw [dif_pos (by omega)]; omega
  | succ k ih =>
    intro u h
    rw [Lib.nDigits]
    split
    · omega
    · have := ih (u / 10) (by rw [Nat.pow_succ] at h; omega)
      omega
theorem dec_len {n : Int} (h : n ≤ 9223372036854775807) : (Lib.decDigits n.toNat).length ≤ 20 := by
  rw [Lib.decDigits_length]
  exact nDig_le 19 _ (by have : (10 : Nat) ^ (19 + 1) = 100000000000000000000 := by decide
                         rw [this]; omega)
theorem preS_len (i : Nat) : (preS.getD i []).length ≤ 3 := by
  match i with
  | 0 => decide
  | 1 => decide
  | 2 => decide
  | i + 3 => simp [preS]
theorem opS_len (i : Nat) : (opS.getD i []).length ≤ 3 := by
  rcases Nat.lt_or_ge i 16 with h | h
  · have : ∀ i : Fin 16, (opS.getD i.1 []).length ≤ 3 := by decide
    exact this ⟨i, h⟩
  · rw [List.getD_eq_getElem?_getD, List.getElem?_eq_none (by simpa [opS] using h)]; simp
theorem inT_len (l a : Int) (t : T) : (inT l a t).length ≤ t.length + 2 := by unfold inT; split <;> simp
theorem comma_len (ts : List T) : (commaS ts).length ≤ (ts.map fun t => t.length + 2).sum := by
  cases ts with
  | nil => simp [commaS]
  | cons t ts =>
    have : ((ts.map ([44, 32] ++ ·)).flatten).length = (ts.map fun t => t.length + 2).sum := by
      induction ts with
      | nil => rfl
      | cons u us ih => simp only [List.map_cons, List.flatten_cons, List.length_append, List.sum_cons, ih, List.length_cons, List.length_nil]; omega
    simp only [commaS, List.length_append, this, List.map_cons, List.sum_cons]; omega
mutual
theorem X.txt_len (x : X) (h : x.shape = true) : x.txt.length + 4 ≤ 100 * x.size := by
  cases x with
  | mk k o n s ks =>
    obtain ⟨hf, hk⟩ := shape_open h
    have hks := X.txts_len ks hk
    have hsz : (X.mk k o n s ks).size = 1 + X.sizes ks := by simp only [X.size]
    rcases hf with ⟨h1, _, _, _, hn, _⟩ | ⟨h1, _⟩ | ⟨h1, _, _, _, _, hc, _⟩ | ⟨h1, _, _, _, _, _, hl1, hl2⟩ | ⟨h1, _, _, _, _, _, hl1, hl2⟩ | ⟨h1, _, _, _, _, _, hl1, hl2⟩ | ⟨h1, _, _, _, _, hc, _⟩
    · rw [txt_int h1]; have := dec_len hn; omega
    · rw [txt_bool h1]; unfold boolS; split <;> simp <;> omega
    · rw [txt_var h1]; have := name_len (s := s) (by simpa [calP, X.s] using hc); simp only [X.s]; omega
    · obtain ⟨a, ha⟩ := one_of_len (show ks.length = 1 from Nat.le_antisymm hl2 hl1)
      subst ha
      rw [txt_un h1 rfl]
      have g1 := preS_len (X.mk k o n s [a]).o.toNat
      have g2 := inT_len a.lev 7 a.txt
      have g3 : (if (X.mk k o n s [a]).o ≠ 0 ∨ negB a = true then ([32] : T) else []).length ≤ 1 := by split <;> simp
      simp only [X.txts, List.map_cons, List.map_nil, List.sum_cons, List.sum_nil] at hks
      simp only [List.length_append]
      omega
    · obtain ⟨a, b, hab⟩ := two_of_len (show ks.length = 2 from Nat.le_antisymm hl2 hl1)
      subst hab
      rw [txt_bin h1 rfl]
      have g1 := opS_len (X.mk k o n s [a, b]).o.toNat
      have g2 := inT_len a.lev (askL (levOf (X.mk k o n s [a, b]).o)) a.txt
      have g3 := inT_len b.lev (askR (levOf (X.mk k o n s [a, b]).o)) b.txt
      simp only [X.txts, List.map_cons, List.map_nil, List.sum_cons, List.sum_nil] at hks
      simp only [List.length_append, List.length_cons, List.length_nil]
      omega
    · obtain ⟨a, b, c, habc⟩ := three_of_len (show ks.length = 3 from Nat.le_antisymm hl2 hl1)
      subst habc
      rw [txt_if h1 rfl]
      simp only [X.txts, List.map_cons, List.map_nil, List.sum_cons, List.sum_nil] at hks
      simp only [List.length_append, List.length_cons, List.length_nil]
      omega
    · rw [txt_call h1]
      have g1 := name_len (s := s) (by simpa [calP, X.s] using hc)
      have g2 := comma_len ((X.mk k o n s ks).ks.map X.txt)
      rw [← X.txts_map] at g2
      simp only [X.ks, X.s, List.length_append, List.length_cons, List.length_nil] at g2 ⊢
      rw [← X.txts_map]
      omega
theorem X.txts_len (xs : List X) (h : X.shapes xs = true) : ((X.txts xs).map fun t => t.length + 2).sum ≤ 100 * X.sizes xs := by
  cases xs with
  | nil => simp [X.txts]
  | cons x xs =>
    simp only [X.shapes, Bool.and_eq_true] at h
    have h1 := X.txt_len x h.1
    have h2 := X.txts_len xs h.2
    simp only [X.txts, List.map_cons, List.sum_cons, X.sizes]
    omega
end

end Go.Proofs.YtfajnflfonechaaDoor
