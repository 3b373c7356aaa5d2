/- Parts: Tx, Shelf, Tame, Tamw, Tamg, Row5, Own, OwnG. -/
import Derived.Lib.ItoaMem
import Derived.Lib.Small
import Derived.Test.YtdabndiaflagpaaGreatDoorB03
import Derived.Shelf.Strings.Builder1
import Derived.Shelf.Strings.Builder2
import Derived.Shelf.Strings.OnBuilder
import Derived.Shelf.Small.Wraps
import Derived.Shelf.Strconv.Itoa0
import Derived.Shelf.Strconv.Itoa1
import Derived.Shelf.LaysM
import Derived.Shelf.Strconv.Itoa2
import Derived.Shelf.Strconv.Itoa3
import Derived.Shelf.Strconv.Itoa4
import Derived.Shelf.Strconv.ParseIntEmpty
import Derived.Shelf.Strconv.Clone
import Derived.Shelf.Strconv.SyntaxError
import Derived.Shelf.LaysC
import Derived.Shelf.Strconv.ToError
import Derived.Shelf.Strconv.Lower
import Derived.Shelf.Strconv.ParseUint10
import Derived.Shelf.Strconv.ParseUint10Empty
import Derived.Shelf.Strconv.ParseUint10Any
import Derived.Shelf.Strconv.ParseInt10
import Derived.Shelf.Strconv.RangeError
import Derived.Shelf.Strconv.ToErrorRange
import Derived.Shelf.Strconv.ParseUintEmpty
import Derived.Shelf.Strconv.ParseUint10b64
import Derived.Shelf.Strconv.ParseUint10b32
import Derived.Shelf.Strconv.ParseUint10b16
import Derived.Shelf.Strconv.ParseUint10b8
import Derived.Shelf.Strconv.ParseUint10At
import Derived.Shelf.Strconv.ParseInt10At64
import Derived.Shelf.Strconv.ParseInt10At32
import Derived.Shelf.Strconv.ParseInt10At16
import Derived.Shelf.Strconv.ParseInt10At8
import Derived.Shelf.Strconv.ParseInt10All
import Derived.Shelf.Strconv.ParseIntPublic10
import Derived.Shelf.Strconv.ErrVarParseInt
import Derived.Shelf.Strings.Search1
import Derived.Shelf.Strings.Search2
import Derived.Shelf.Strings.Cut
import Derived.Shelf.Strings.Shaped
import Derived.Shelf.Strings.Prefix
import Derived.Test.YtdabndiaflagpaaGreatDoorProg
import Derived.Orders
import Derived.Calls
import Derived.WalkKit
import Derived.Deep.Draws
import Derived.Test.YtdabndiaflagpaaGreatDoorB00
set_option maxRecDepth 100000
set_option maxHeartbeats 4000000
set_option linter.unusedVariables false
namespace Go.Proofs.YtdabndiaflagpaaGreatDoor
open Go.RowKit

def opS : List T := [[45, 62], [61, 62], [111, 114], [120, 111, 114], [97, 110, 100], [61], [60, 62], [60], [60, 61], [62], [62, 61], [43], [45], [42], [100, 105, 118], [109, 111, 100]]
def preS : List T := [[45], [110, 111, 116], [112, 114, 101]]
def levL : List Int := [0, 1, 2, 2, 3, 4, 4, 4, 4, 4, 4, 5, 5, 6, 6, 6]
def levOf (o : Int) : Int := levL.getD o.toNat 0
def X.lev (x : X) : Int := if x.k = 5 then -1 else if x.k = 4 then levOf x.o else if x.k = 3 then 7 else 8
def askL (n : Int) : Int := if n = 0 ∨ n = 1 ∨ n = 4 then n + 1 else n
def askR (n : Int) : Int := if n = 0 ∨ n = 1 then n else n + 1
def inT (lev asks : Int) (t : T) : T := if lev < asks then [40] ++ (t ++ [41]) else t
def negB (x : X) : Bool := decide (x.k = 3 ∧ x.o = 0)
def commaS : List T → T
  | [] => []
  | t :: ts => t ++ (ts.map ([44, 32] ++ ·)).flatten
def boolS (n : Int) : T := if n = 1 then [116, 114, 117, 101] else [102, 97, 108, 115, 101]
def txtK (k o n : Int) (s : T) (ks : List X) (ts : List T) : T :=
  if k = 0 then Lib.decDigits n.toNat
  else if k = 1 then boolS n
  else if k = 2 then s
  else if k = 3 then (match ks, ts with | [a], [t] => preS.getD o.toNat [] ++ ((if o ≠ 0 ∨ negB a = true then [32] else []) ++ inT a.lev 7 t) | _, _ => [])
  else if k = 4 then (match ks, ts with | [a, b], [t, u] => inT a.lev (askL (levOf o)) t ++ (([32] ++ (opS.getD o.toNat [] ++ [32])) ++ inT b.lev (askR (levOf o)) u) | _, _ => [])
  else if k = 5 then (match ts with | [t, u, v] => [105, 102, 32] ++ (t ++ ([32, 116, 104, 101, 110, 32] ++ (u ++ ([32, 101, 108, 115, 101, 32] ++ v)))) | _ => [])
  else (s ++ [40]) ++ (commaS ts ++ [41])
mutual
def X.txt : X → T
  | .mk k o n s ks => txtK k o n s ks (X.txts ks)
def X.txts : List X → List T
  | [] => []
  | x :: xs => x.txt :: X.txts xs
end
theorem X.txts_map (xs : List X) : X.txts xs = xs.map X.txt := by
  induction xs with
  | nil => rfl
  | cons x xs ih => simp only [X.txts, List.map_cons, ih]
theorem X.txt_eq (x : X) : x.txt = txtK x.k x.o x.n x.s x.ks (x.ks.map X.txt) := by
  cases x with
  | mk k o n s ks => simp only [X.txt, X.k, X.o, X.n, X.s, X.ks, X.txts_map]
section
variable {x a b c : X}
theorem txt_int (h : x.k = 0) : x.txt = Lib.decDigits x.n.toNat := by rw [X.txt_eq]; unfold txtK; rw [if_pos h]
theorem txt_bool (h : x.k = 1) : x.txt = boolS x.n := by rw [X.txt_eq]; unfold txtK; rw [if_neg (by omega), if_pos h]
theorem txt_var (h : x.k = 2) : x.txt = x.s := by rw [X.txt_eq]; unfold txtK; rw [if_neg (by omega), if_neg (by omega), if_pos h]
theorem txt_un (h : x.k = 3) (hk : x.ks = [a]) : x.txt = preS.getD x.o.toNat [] ++ ((if x.o ≠ 0 ∨ negB a = true then [32] else []) ++ inT a.lev 7 a.txt) := by
  rw [X.txt_eq]; unfold txtK; rw [if_neg (by omega), if_neg (by omega), if_neg (by omega), if_pos h]; simp only [hk, List.map_cons, List.map_nil]
theorem txt_bin (h : x.k = 4) (hk : x.ks = [a, b]) : x.txt = inT a.lev (askL (levOf x.o)) a.txt ++ (([32] ++ (opS.getD x.o.toNat [] ++ [32])) ++ inT b.lev (askR (levOf x.o)) b.txt) := by
  rw [X.txt_eq]; unfold txtK; rw [if_neg (by omega), if_neg (by omega), if_neg (by omega), if_neg (by omega), if_pos h]; simp only [hk, List.map_cons, List.map_nil]
theorem txt_if (h : x.k = 5) (hk : x.ks = [a, b, c]) : x.txt = [105, 102, 32] ++ (a.txt ++ ([32, 116, 104, 101, 110, 32] ++ (b.txt ++ ([32, 101, 108, 115, 101, 32] ++ c.txt)))) := by
  rw [X.txt_eq]; unfold txtK; rw [if_neg (by omega), if_neg (by omega), if_neg (by omega), if_neg (by omega), if_neg (by omega), if_pos h]; simp only [hk, List.map_cons, List.map_nil]
theorem txt_call (h : x.k = 6) : x.txt = (x.s ++ [40]) ++ (commaS (x.ks.map X.txt) ++ [41]) := by
  rw [X.txt_eq]; unfold txtK; rw [if_neg (by omega), if_neg (by omega), if_neg (by omega), if_neg (by omega), if_neg (by omega), if_neg (by omega)]
end

/-! ### What is right -/
theorem shape_open {x : X} (h : x.shape = true) : fitP x ∧ X.shapes x.ks = true := by
  cases x with
  | mk k o n s ks =>
    simp only [X.shape, Bool.and_eq_true] at h
    have h2 := h.2
    unfold fitB at h2
    exact ⟨@of_decide_eq_true _ (Classical.propDecidable _) h2, h.1⟩
theorem shapes_kid {xs : List X} (h : X.shapes xs = true) {i : Nat} {x : X} (hi : xs[i]? = some x) : x.shape = true := by
  induction xs generalizing i with
  | nil => simp at hi
  | cons y ys ih =>
    simp only [X.shapes, Bool.and_eq_true] at h
    cases i with
    | zero => simp at hi; subst hi; exact h.1
    | succ i => simp at hi; exact ih h.2 hi
theorem one_of_len {α : Type} {l : List α} (h : l.length = 1) : ∃ a, l = [a] := List.length_eq_one_iff.1 h
theorem two_of_len {α : Type} {l : List α} (h : l.length = 2) : ∃ a b, l = [a, b] := by
  match l, h with
  | [a, b], _ => exact ⟨a, b, rfl⟩
theorem three_of_len {α : Type} {l : List α} (h : l.length = 3) : ∃ a b c, l = [a, b, c] := by
  match l, h with
  | [a, b, c], _ => exact ⟨a, b, c, rfl⟩
theorem name_len {s : T} (h : nameB s = true) : s.length ≤ 60 := by
  have : nameP s := by
    unfold nameB at h
    exact @of_decide_eq_true _ (Classical.propDecidable _) h
  exact this.2.2.1

/-! ### How long -/
theorem nDig_le : ∀ (k u : Nat), u < 10 ^ (k + 1) → Lib.nDigits u ≤ k + 1 := by
  intro k
  induction k with
  | zero => intro u h; rw [Lib.nDigits]; rw [dif_pos (by omega)]; omega
  | succ k ih =>
    intro u h
    rw [Lib.nDigits]
    split
    · omega
    · have := ih (u / 10) (by rw [Nat.pow_succ] at h; omega)
      omega
theorem dec_len {n : Int} (h : n ≤ 9223372036854775807) : (Lib.decDigits n.toNat).length ≤ 20 := by
  rw [Lib.decDigits_length]
  exact nDig_le 19 _ (by have : (10 : Nat) ^ (19 + 1) = 100000000000000000000 := by decide
                         rw [this]; omega)
theorem preS_len (i : Nat) : (preS.getD i []).length ≤ 3 := by
  match i with
  | 0 => decide
  | 1 => decide
  | 2 => decide
  | i + 3 => simp [preS]
theorem opS_len (i : Nat) : (opS.getD i []).length ≤ 3 := by
  rcases Nat.lt_or_ge i 16 with h | h
  · have : ∀ i : Fin 16, (opS.getD i.1 []).length ≤ 3 := by decide
    exact this ⟨i, h⟩
  · rw [List.getD_eq_getElem?_getD, List.getElem?_eq_none (by simpa [opS] using h)]; simp
theorem inT_len (l a : Int) (t : T) : (inT l a t).length ≤ t.length + 2 := by unfold inT; split <;> simp
theorem comma_len (ts : List T) : (commaS ts).length ≤ (ts.map fun t => t.length + 2).sum := by
  cases ts with
  | nil => simp [commaS]
  | cons t ts =>
    have : ((ts.map ([44, 32] ++ ·)).flatten).length = (ts.map fun t => t.length + 2).sum := by
      induction ts with
      | nil => rfl
      | cons u us ih => simp only [List.map_cons, List.flatten_cons, List.length_append, List.sum_cons, ih, List.length_cons, List.length_nil]; omega
    simp only [commaS, List.length_append, this, List.map_cons, List.sum_cons]; omega
mutual
theorem X.txt_len (x : X) (h : x.shape = true) : x.txt.length + 4 ≤ 100 * x.size := by
  cases x with
  | mk k o n s ks =>
    obtain ⟨hf, hk⟩ := shape_open h
    have hks := X.txts_len ks hk
    have hsz : (X.mk k o n s ks).size = 1 + X.sizes ks := by simp only [X.size]
    rcases hf with ⟨h1, _, _, _, hn, _⟩ | ⟨h1, _⟩ | ⟨h1, _, _, _, _, hc, _⟩ | ⟨h1, _, _, _, _, _, hl1, hl2⟩ | ⟨h1, _, _, _, _, _, hl1, hl2⟩ | ⟨h1, _, _, _, _, _, hl1, hl2⟩ | ⟨h1, _, _, _, _, hc, _⟩
    · rw [txt_int h1]; have := dec_len hn; omega
    · rw [txt_bool h1]; unfold boolS; split <;> simp <;> omega
    · rw [txt_var h1]; have := name_len (s := s) (by simpa [calP, X.s] using hc); simp only [X.s]; omega
    · obtain ⟨a, ha⟩ := one_of_len (show ks.length = 1 from Nat.le_antisymm hl2 hl1)
      subst ha
      rw [txt_un h1 rfl]
      have g1 := preS_len (X.mk k o n s [a]).o.toNat
      have g2 := inT_len a.lev 7 a.txt
      have g3 : (if (X.mk k o n s [a]).o ≠ 0 ∨ negB a = true then ([32] : T) else []).length ≤ 1 := by split <;> simp
      simp only [X.txts, List.map_cons, List.map_nil, List.sum_cons, List.sum_nil] at hks
      simp only [List.length_append]
      omega
    · obtain ⟨a, b, hab⟩ := two_of_len (show ks.length = 2 from Nat.le_antisymm hl2 hl1)
      subst hab
      rw [txt_bin h1 rfl]
      have g1 := opS_len (X.mk k o n s [a, b]).o.toNat
      have g2 := inT_len a.lev (askL (levOf (X.mk k o n s [a, b]).o)) a.txt
      have g3 := inT_len b.lev (askR (levOf (X.mk k o n s [a, b]).o)) b.txt
      simp only [X.txts, List.map_cons, List.map_nil, List.sum_cons, List.sum_nil] at hks
      simp only [List.length_append, List.length_cons, List.length_nil]
      omega
    · obtain ⟨a, b, c, habc⟩ := three_of_len (show ks.length = 3 from Nat.le_antisymm hl2 hl1)
      subst habc
      rw [txt_if h1 rfl]
      simp only [X.txts, List.map_cons, List.map_nil, List.sum_cons, List.sum_nil] at hks
      simp only [List.length_append, List.length_cons, List.length_nil]
      omega
    · rw [txt_call h1]
      have g1 := name_len (s := s) (by simpa [calP, X.s] using hc)
      have g2 := comma_len ((X.mk k o n s ks).ks.map X.txt)
      rw [← X.txts_map] at g2
      simp only [X.ks, X.s, List.length_append, List.length_cons, List.length_nil] at g2 ⊢
      rw [← X.txts_map]
      omega
theorem X.txts_len (xs : List X) (h : X.shapes xs = true) : ((X.txts xs).map fun t => t.length + 2).sum ≤ 100 * X.sizes xs := by
  cases xs with
  | nil => simp [X.txts]
  | cons x xs =>
    simp only [X.shapes, Bool.and_eq_true] at h
    have h1 := X.txt_len x h.1
    have h2 := X.txts_len xs h.2
    simp only [X.txts, List.map_cons, List.sum_cons, X.sizes]
    omega
end

end Go.Proofs.YtdabndiaflagpaaGreatDoor
/-
  DERIVED: THE SHELF's CONTRACTS AT THIS DUMP, IN PLAIN WORDS (tools/lay-plain.mjs out of 'TryzShelf.lean', which tools/lay-shelf.mjs wrote): THE SAME DECLARATIONS UNDER THE SAME NAMES: 'import', 'namespace', 'open', 'def', 'theorem' AND NOTHING ELSE: no command of the shelf's: FOR A HAND-IN. Each laying: the table of numbers ('.._ren') and one theorem, a field a fact of the dump's own or the kernel's comparison; each contract: ONE APPLICATION.
-/
namespace Go.Proofs
open Go.Shelf
open Go.RowKit in
open Go.RowKit in
open Go.RowKit in
open Go.RowKit in
open Go.RowKit in
open Go.RowKit in
open Go.RowKit in
open Go.RowKit in
def Tryz.lays121_ren : Go.Shelf.Ren := ⟨fun | 121 => 71 | 214 => 111 | n => n, fun | 4 => 4 | 9 => 9 | n => n, fun | n => n⟩
theorem Tryz.lays121 : Go.Proofs.Lays.n121 Tryz.prog Tryz.lays121_ren := {
  mixed := by kernel_rfl
  f121 := Tryz.func71.trans (congrArg some (by kernel_rfl))
  f214 := Tryz.func111.trans (congrArg some (by kernel_rfl))
  t4 := Tryz.underlying4
  a4 := Tryz.isAgg4
  z4 := Tryz.sizeOf4
  v4 := Tryz.zeroValue4
  t9 := Tryz.underlying9
  a9 := Tryz.isAgg9
  z9 := Tryz.sizeOf9
  v9 := Tryz.zeroValue9 }
open Go.RowKit in
/-- strconv.FormatBool: "FormatBool returns "true" or "false" according to the value of b.": IT RETURNS 'Lib.formatBool b'; the world is as it was. (LAID: no walk: one application.) -/
theorem Tryz.strconv_FormatBool (b : Bool) (w : World) :
    Calls Tryz.prog 71 #[.bool b] w fun e w' => e = .returned (.string ⟨(Lib.formatBool b).toArray⟩) ∧ w' = w := Any.strconv_FormatBool Tryz.lays121 b w
open Go.Lib in
open Go.Lib in
open Go.Lib in
open Go.Lib in
open Go.RowKit Go.Sort Go.Lib in
open Go.RowKit Go.Sort Go.Lib in
open Go.RowKit Go.Sort Go.Lib in
open Go.RowKit Go.Sort Go.Lib in
open Go.RowKit Go.Sort Go.Lib in
open Go.RowKit Go.Sort Go.Lib in
open Go.RowKit Go.Sort Go.Lib in
def Tryz.laysM173_ren : Go.Shelf.Ren := ⟨fun | 173 => 70 | 246 => 110 | 283 => 139 | 284 => 140 | 285 => 141 | 286 => 142 | 129 => 162 | 317 => 161 | 318 => 163 | 319 => 164 | 320 => 165 | 337 => 183 | 338 => 184 | n => n, fun | 2 => 2 | 3 => 3 | 9 => 9 | 4 => 4 | 171 => 205 | 0 => 0 | 53 => 206 | 37 => 32 | 5 => 5 | 173 => 209 | 212 => 221 | 51 => 222 | 20 => 20 | 213 => 223 | 46 => 224 | 232 => 250 | 233 => 251 | n => n, fun | 17 => 5 | 18 => 11 | 19 => 12 | n => n⟩
theorem Tryz.laysM173 : Go.Proofs.LaysM.n173 Tryz.prog Tryz.laysM173_ren := {
  mixed := by kernel_rfl
  f129 := Tryz.func162.trans (congrArg some (by kernel_rfl))
  f173 := Tryz.func70.trans (congrArg some (by kernel_rfl))
  f246 := Tryz.func110.trans (congrArg some (by kernel_rfl))
  f283 := Tryz.func139.trans (congrArg some (by kernel_rfl))
  f284 := Tryz.func140.trans (congrArg some (by kernel_rfl))
  f285 := Tryz.func141.trans (congrArg some (by kernel_rfl))
  f286 := Tryz.func142.trans (congrArg some (by kernel_rfl))
  f317 := Tryz.func161.trans (congrArg some (by kernel_rfl))
  f318 := Tryz.func163.trans (congrArg some (by kernel_rfl))
  f319 := Tryz.func164.trans (congrArg some (by kernel_rfl))
  f320 := Tryz.func165.trans (congrArg some (by kernel_rfl))
  f337 := Tryz.func183.trans (congrArg some (by kernel_rfl))
  f338 := Tryz.func184.trans (congrArg some (by kernel_rfl))
  t0 := Tryz.underlying0
  a0 := Tryz.isAgg0
  z0 := Tryz.sizeOf0
  v0 := Tryz.zeroValue0
  t2 := Tryz.underlying2
  a2 := Tryz.isAgg2
  z2 := Tryz.sizeOf2
  v2 := Tryz.zeroValue2
  t3 := Tryz.underlying3
  a3 := Tryz.isAgg3
  z3 := Tryz.sizeOf3
  v3 := Tryz.zeroValue3
  t4 := Tryz.underlying4
  a4 := Tryz.isAgg4
  z4 := Tryz.sizeOf4
  v4 := Tryz.zeroValue4
  t5 := Tryz.underlying5
  a5 := Tryz.isAgg5
  z5 := Tryz.sizeOf5
  v5 := Tryz.zeroValue5
  t9 := Tryz.underlying9
  a9 := Tryz.isAgg9
  z9 := Tryz.sizeOf9
  v9 := Tryz.zeroValue9
  t20 := Tryz.underlying20
  a20 := Tryz.isAgg20
  z20 := Tryz.sizeOf20
  v20 := Tryz.zeroValue20
  t37 := Tryz.underlying32
  a37 := Tryz.isAgg32
  z37 := Tryz.sizeOf32
  v37 := Tryz.zeroValue32
  t46 := Tryz.underlying224
  a46 := Tryz.isAgg224
  z46 := Tryz.sizeOf224
  v46 := Tryz.zeroValue224
  t51 := Tryz.underlying222
  a51 := Tryz.isAgg222
  z51 := Tryz.sizeOf222
  v51 := Tryz.zeroValue222
  t53 := Tryz.underlying206
  a53 := Tryz.isAgg206
  z53 := Tryz.sizeOf206
  v53 := Tryz.zeroValue206
  t171 := Tryz.underlying205
  a171 := Tryz.isAgg205
  z171 := Tryz.sizeOf205
  v171 := Tryz.zeroValue205
  t173 := Tryz.underlying209
  a173 := Tryz.isAgg209
  z173 := Tryz.sizeOf209
  v173 := Tryz.zeroValue209
  t212 := Tryz.underlying221
  a212 := Tryz.isAgg221
  z212 := Tryz.sizeOf221
  v212 := Tryz.zeroValue221
  t213 := Tryz.underlying223
  a213 := Tryz.isAgg223
  z213 := Tryz.sizeOf223
  t232 := Tryz.underlying250
  a232 := Tryz.isAgg250
  z232 := Tryz.sizeOf250
  v232 := Tryz.zeroValue250
  t233 := Tryz.underlying251
  a233 := Tryz.isAgg251
  z233 := Tryz.sizeOf251
  v233 := Tryz.zeroValue251
  g17 := by kernel_rfl
  g18 := by kernel_rfl
  g19 := by kernel_rfl
  i0 := by kernel_rfl
  i2 := by kernel_rfl
  i3 := by kernel_rfl
  i4 := by kernel_rfl
  i5 := by kernel_rfl
  i9 := by kernel_rfl
  i20 := by kernel_rfl
  i37 := by kernel_rfl
  i46 := by kernel_rfl
  i51 := by kernel_rfl
  i53 := by kernel_rfl
  i171 := by kernel_rfl
  i173 := by kernel_rfl
  i212 := by kernel_rfl
  i232 := by kernel_rfl
  i233 := by kernel_rfl
  m17 := by kernel_rfl
  m18 := by kernel_rfl
  m19 := by kernel_rfl }
open Go.RowKit Go.Sort Go.Lib in
/-- strconv.FormatInt: "FormatInt returns the string representation of i in the given base": AT BASE 10: i's decimal numeral, for every int64. (LAID: no walk: one application.) -/
theorem Tryz.strconv_FormatInt_10 (n : Int) (h0 : -9223372036854775808 ≤ n) (h1 : n ≤ 9223372036854775807) (w : World) (htab : Lib.TabIs Tryz.prog w "internal/strconv.uint64pow10" .u64 Lib.pow10Tab) :
    Calls Tryz.prog 70 #[.int .i64 n, .int .i64 10] w fun e w' => e = .returned (.string ⟨(Lib.itoa n).toArray⟩) ∧ ∃ k os, w' = grow (w.drewN k) os := Any.strconv_FormatInt_10 Tryz.laysM173 n h0 h1 w htab
open Go.RowKit Go.Sort Go.Lib in
open Go.RowKit in
def Tryz.laysM316_ren : Go.Shelf.Ren := ⟨fun | 316 => 170 | n => n, fun | 9 => 9 | 3 => 3 | 4 => 4 | 37 => 32 | 0 => 0 | 127 => 133 | 5 => 5 | n => n, fun | n => n⟩
theorem Tryz.laysM316 : Go.Proofs.LaysM.n316 Tryz.prog Tryz.laysM316_ren := {
  mixed := by kernel_rfl
  f316 := Tryz.func170.trans (congrArg some (by kernel_rfl))
  t0 := Tryz.underlying0
  a0 := Tryz.isAgg0
  z0 := Tryz.sizeOf0
  v0 := Tryz.zeroValue0
  t3 := Tryz.underlying3
  a3 := Tryz.isAgg3
  z3 := Tryz.sizeOf3
  v3 := Tryz.zeroValue3
  t4 := Tryz.underlying4
  a4 := Tryz.isAgg4
  z4 := Tryz.sizeOf4
  v4 := Tryz.zeroValue4
  t9 := Tryz.underlying9
  a9 := Tryz.isAgg9
  z9 := Tryz.sizeOf9
  v9 := Tryz.zeroValue9
  t37 := Tryz.underlying32
  a37 := Tryz.isAgg32
  z37 := Tryz.sizeOf32
  v37 := Tryz.zeroValue32
  t127 := Tryz.underlying133
  a127 := Tryz.isAgg133
  z127 := Tryz.sizeOf133
  v127 := Tryz.zeroValue133
  t5 := Tryz.underlying5
  a5 := Tryz.isAgg5
  z5 := Tryz.sizeOf5
  v5 := Tryz.zeroValue5
  i0 := by kernel_rfl
  i3 := by kernel_rfl
  i4 := by kernel_rfl
  i5 := by kernel_rfl
  i9 := by kernel_rfl
  i37 := by kernel_rfl
  i127 := by kernel_rfl }
open Go.RowKit in
/-- internal/stringslite.Clone (what strings.Clone calls): "Clone returns a fresh copy of s.": THE SAME BYTES. Of what was there nothing has turned (a new row is laid, and frozen, where s is not empty). (LAID: no walk: one application.) -/
theorem Tryz.stringslite_Clone (s : ByteArray) (w : World) (hlim : s.size ≤ 281474976710656) :
    Calls Tryz.prog 170 #[.string s] w fun e w' => e = .returned (.string s) ∧ Below w.heap.size w w' := Any.stringslite_Clone Tryz.laysM316 s w hlim
open Go.RowKit in
open Go.RowKit in
open Go.RowKit in
open Go.RowKit in
open Go.RowKit in
open Go.RowKit in
open Go.RowKit in
open Go.RowKit in
open Go.RowKit in
open Go.RowKit in
open Go.RowKit in
open Go.RowKit in
open Go.RowKit in
open Go.RowKit in
open Go.RowKit in
open Go.RowKit in
open Go.RowKit in
open Go.RowKit in
open Go.RowKit in
open Go.RowKit in
open Go.RowKit in
open Go.RowKit in
open Go.RowKit in
open Go.RowKit in
open Go.RowKit in
open Go.RowKit in
open Go.RowKit in
open Go.RowKit in
def Tryz.laysC174_ren : Go.Shelf.Ren := ⟨fun | 174 => 130 | 247 => 154 | 245 => 155 | 287 => 171 | 279 => 172 | 280 => 173 | 281 => 174 | 282 => 175 | 321 => 190 | 322 => 191 | 316 => 170 | 171 => 193 | 205 => 192 | 243 => 197 | 246 => 110 | 283 => 139 | 284 => 140 | 285 => 141 | 286 => 142 | 129 => 162 | 317 => 161 | 318 => 163 | 319 => 164 | 320 => 165 | 337 => 183 | 338 => 184 | n => n, fun | 9 => 9 | 3 => 3 | 2 => 2 | 75 => 165 | 85 => 192 | 4 => 4 | 167 => 229 | 5 => 5 | 53 => 206 | 175 => 230 | 46 => 224 | 168 => 232 | 37 => 32 | 0 => 0 | 210 => 244 | 21 => 21 | 127 => 133 | 145 => 255 | 143 => 253 | 171 => 205 | 173 => 209 | 212 => 221 | 51 => 222 | 20 => 20 | 213 => 223 | 232 => 250 | 233 => 251 | 80 => 89 | n => n, fun | 15 => 8 | 16 => 9 | 17 => 5 | 18 => 11 | 19 => 12 | n => n⟩
theorem Tryz.laysC174 : Go.Proofs.LaysC.n174 Tryz.prog Tryz.laysC174_ren := {
  mixed := by kernel_rfl
  f129 := Tryz.func162.trans (congrArg some (by kernel_rfl))
  f171 := Tryz.func193.trans (congrArg some (by kernel_rfl))
  f174 := Tryz.func130.trans (congrArg some (by kernel_rfl))
  f205 := Tryz.func192.trans (congrArg some (by kernel_rfl))
  f243 := Tryz.func197.trans (congrArg some (by kernel_rfl))
  f245 := Tryz.func155.trans (congrArg some (by kernel_rfl))
  f246 := Tryz.func110.trans (congrArg some (by kernel_rfl))
  f247 := Tryz.func154.trans (congrArg some (by kernel_rfl))
  f279 := Tryz.func172.trans (congrArg some (by kernel_rfl))
  f280 := Tryz.func173.trans (congrArg some (by kernel_rfl))
  f281 := Tryz.func174.trans (congrArg some (by kernel_rfl))
  f282 := Tryz.func175.trans (congrArg some (by kernel_rfl))
  f283 := Tryz.func139.trans (congrArg some (by kernel_rfl))
  f284 := Tryz.func140.trans (congrArg some (by kernel_rfl))
  f285 := Tryz.func141.trans (congrArg some (by kernel_rfl))
  f286 := Tryz.func142.trans (congrArg some (by kernel_rfl))
  f287 := Tryz.func171.trans (congrArg some (by kernel_rfl))
  f316 := Tryz.func170.trans (congrArg some (by kernel_rfl))
  f317 := Tryz.func161.trans (congrArg some (by kernel_rfl))
  f318 := Tryz.func163.trans (congrArg some (by kernel_rfl))
  f319 := Tryz.func164.trans (congrArg some (by kernel_rfl))
  f320 := Tryz.func165.trans (congrArg some (by kernel_rfl))
  f321 := Tryz.func190.trans (congrArg some (by kernel_rfl))
  f322 := Tryz.func191.trans (congrArg some (by kernel_rfl))
  f337 := Tryz.func183.trans (congrArg some (by kernel_rfl))
  f338 := Tryz.func184.trans (congrArg some (by kernel_rfl))
  t0 := Tryz.underlying0
  a0 := Tryz.isAgg0
  z0 := Tryz.sizeOf0
  v0 := Tryz.zeroValue0
  t2 := Tryz.underlying2
  a2 := Tryz.isAgg2
  z2 := Tryz.sizeOf2
  v2 := Tryz.zeroValue2
  t3 := Tryz.underlying3
  a3 := Tryz.isAgg3
  z3 := Tryz.sizeOf3
  v3 := Tryz.zeroValue3
  t4 := Tryz.underlying4
  a4 := Tryz.isAgg4
  z4 := Tryz.sizeOf4
  v4 := Tryz.zeroValue4
  t5 := Tryz.underlying5
  a5 := Tryz.isAgg5
  z5 := Tryz.sizeOf5
  v5 := Tryz.zeroValue5
  t9 := Tryz.underlying9
  a9 := Tryz.isAgg9
  z9 := Tryz.sizeOf9
  v9 := Tryz.zeroValue9
  t20 := Tryz.underlying20
  a20 := Tryz.isAgg20
  z20 := Tryz.sizeOf20
  v20 := Tryz.zeroValue20
  t21 := Tryz.underlying21
  a21 := Tryz.isAgg21
  z21 := Tryz.sizeOf21
  v21 := Tryz.zeroValue21
  t37 := Tryz.underlying32
  a37 := Tryz.isAgg32
  z37 := Tryz.sizeOf32
  v37 := Tryz.zeroValue32
  t46 := Tryz.underlying224
  a46 := Tryz.isAgg224
  z46 := Tryz.sizeOf224
  v46 := Tryz.zeroValue224
  t51 := Tryz.underlying222
  a51 := Tryz.isAgg222
  z51 := Tryz.sizeOf222
  v51 := Tryz.zeroValue222
  t53 := Tryz.underlying206
  a53 := Tryz.isAgg206
  z53 := Tryz.sizeOf206
  v53 := Tryz.zeroValue206
  t75 := Tryz.underlying165
  a75 := Tryz.isAgg165
  z75 := Tryz.sizeOf165
  v75 := Tryz.zeroValue165
  t85 := Tryz.underlying192
  a85 := Tryz.isAgg192
  z85 := Tryz.sizeOf192
  v85 := Tryz.zeroValue192
  t127 := Tryz.underlying133
  a127 := Tryz.isAgg133
  z127 := Tryz.sizeOf133
  v127 := Tryz.zeroValue133
  t143 := Tryz.underlying253
  a143 := Tryz.isAgg253
  z143 := Tryz.sizeOf253
  v143 := Tryz.zeroValue253
  t145 := Tryz.underlying255
  a145 := Tryz.isAgg255
  z145 := Tryz.sizeOf255
  v145 := Tryz.zeroValue255
  t167 := Tryz.underlying229
  a167 := Tryz.isAgg229
  z167 := Tryz.sizeOf229
  v167 := Tryz.zeroValue229
  t168 := Tryz.underlying232
  a168 := Tryz.isAgg232
  z168 := Tryz.sizeOf232
  v168 := Tryz.zeroValue232
  t171 := Tryz.underlying205
  a171 := Tryz.isAgg205
  z171 := Tryz.sizeOf205
  v171 := Tryz.zeroValue205
  t173 := Tryz.underlying209
  a173 := Tryz.isAgg209
  z173 := Tryz.sizeOf209
  v173 := Tryz.zeroValue209
  t175 := Tryz.underlying230
  a175 := Tryz.isAgg230
  z175 := Tryz.sizeOf230
  v175 := Tryz.zeroValue230
  t210 := Tryz.underlying244
  a210 := Tryz.isAgg244
  z210 := Tryz.sizeOf244
  v210 := Tryz.zeroValue244
  t212 := Tryz.underlying221
  a212 := Tryz.isAgg221
  z212 := Tryz.sizeOf221
  v212 := Tryz.zeroValue221
  t213 := Tryz.underlying223
  a213 := Tryz.isAgg223
  z213 := Tryz.sizeOf223
  t232 := Tryz.underlying250
  a232 := Tryz.isAgg250
  z232 := Tryz.sizeOf250
  v232 := Tryz.zeroValue250
  t233 := Tryz.underlying251
  a233 := Tryz.isAgg251
  z233 := Tryz.sizeOf251
  v233 := Tryz.zeroValue251
  g15 := by kernel_rfl
  g16 := by kernel_rfl
  g17 := by kernel_rfl
  g18 := by kernel_rfl
  g19 := by kernel_rfl
  t80 := Tryz.underlying89
  a80 := Tryz.isAgg89
  z80 := Tryz.sizeOf89
  v80 := Tryz.zeroValue89
  i0 := by kernel_rfl
  i2 := by kernel_rfl
  i3 := by kernel_rfl
  i4 := by kernel_rfl
  i5 := by kernel_rfl
  i9 := by kernel_rfl
  i20 := by kernel_rfl
  i21 := by kernel_rfl
  i37 := by kernel_rfl
  i46 := by kernel_rfl
  i51 := by kernel_rfl
  i53 := by kernel_rfl
  i75 := by kernel_rfl
  i80 := by kernel_rfl
  i85 := by kernel_rfl
  i127 := by kernel_rfl
  i143 := by kernel_rfl
  i145 := by kernel_rfl
  i167 := by kernel_rfl
  i168 := by kernel_rfl
  i171 := by kernel_rfl
  i173 := by kernel_rfl
  i175 := by kernel_rfl
  i210 := by kernel_rfl
  i212 := by kernel_rfl
  i232 := by kernel_rfl
  i233 := by kernel_rfl
  m15 := by kernel_rfl
  m16 := by kernel_rfl
  m17 := by kernel_rfl
  m18 := by kernel_rfl
  m19 := by kernel_rfl
  c0 := by kernel_rfl
  c2 := by kernel_rfl
  c3 := by kernel_rfl
  c4 := by kernel_rfl
  c5 := by kernel_rfl
  c9 := by kernel_rfl
  c20 := by kernel_rfl
  c21 := by kernel_rfl
  c37 := by kernel_rfl
  c46 := by kernel_rfl
  c51 := by kernel_rfl
  c53 := by kernel_rfl
  c75 := by kernel_rfl
  c80 := by kernel_rfl
  c85 := by kernel_rfl
  c127 := by kernel_rfl
  c143 := by kernel_rfl
  c145 := by kernel_rfl
  c167 := by kernel_rfl
  c168 := by kernel_rfl
  c171 := by kernel_rfl
  c173 := by kernel_rfl
  c175 := by kernel_rfl
  c210 := by kernel_rfl
  c212 := by kernel_rfl
  c213 := by kernel_rfl
  c232 := by kernel_rfl
  c233 := by kernel_rfl }
open Go.RowKit in
open Go.RowKit in
open Go.RowKit in
open Go.RowKit in
/-- strconv.ParseInt(s, 10, 64), AT EVERY STRING THAT SPELLS AN int64 ('Lib.parseIntB 64 s.data.toList = .ok v'): v, AND NO ERROR. (LAID: no walk: one application.) -/
theorem Tryz.strconv_ParseInt_10_at64_ok (s : ByteArray) (hmax : s.size ≤ 9223372036854775806) (v : Int) (h : Lib.parseIntB 64 s.data.toList = .ok v) (w : World) :
    Calls Tryz.prog 130 #[.string s, .int .i64 10, .int .i64 64] w fun e w' => e = .returned (.tuple #[.int .i64 v, .nilIface]) ∧ (w' = w ∨ ∃ t, w' = Lib.bytesWorld w 5 t) := Any.strconv_ParseInt_10_at64_ok Tryz.laysC174 s hmax v h w
open Go.RowKit in
open Go.RowKit in
/-- strconv.ParseInt(s, 10, 64), AT EVERY NUMERAL THAT NO int64 HOLDS: THE GREATEST OR THE LEAST int64, BY THE SIGN ('Lib.intSat 64'), AND AN ERROR THAT IS NOT nil: a *NumError in a new block N: {Func: "ParseInt", Num: s's bytes, Err: what the variable ErrRange holds}. Of what was there nothing has turned. (LAID: no walk: one application.) -/
theorem Tryz.strconv_ParseInt_10_at64_range (s : ByteArray) (hlim : s.size ≤ 281474976710656) (h : Lib.parseIntB 64 s.data.toList = .range) (ev : Value) (w : World) (hv : w.cell? ⟨9, 0, none⟩ = some ev) (hev : ev = .nilIface ∨ ∃ te pe, ev = .iface te pe) :
    Calls Tryz.prog 130 #[.string s, .int .i64 10, .int .i64 64] w fun e w' => ∃ N, e = .returned (.tuple #[.int .i64 (Lib.intSat 64 s.data.toList), .iface 232 (.pointer (some ⟨N, 0, none⟩))]) ∧ w.heap.size ≤ N ∧ w'.heap[N]? = some (.cells #[.string ⟨#[80, 97, 114, 115, 101, 73, 110, 116]⟩, .string s, ev] 244 (0, 0)) ∧ Below w.heap.size w w' := Any.strconv_ParseInt_10_at64_range Tryz.laysC174 s hlim h ev w hv hev
open Go.RowKit in
open Go.RowKit in
open Go.RowKit in
open Go.RowKit in
open Go.RowKit in
open Go.RowKit in
open Go.RowKit in
open Go.RowKit in
open Go.RowKit in
open Go.RowKit in
open Go.RowKit in
open Go.RowKit in
open Go.RowKit in
open Go.RowKit in
open Go.RowKit in
open Go.RowKit in
open Go.RowKit in
open Go.RowKit in
open Go.RowKit in
open Go.RowKit Go.Lib in
open Go.RowKit Go.Lib in
open Go.RowKit Go.Lib in
open Go.RowKit Go.Lib in
open Go.RowKit Go.Lib in
open Go.RowKit Go.Lib in
open Go.RowKit Go.Lib in
def Tryz.lays145_ren : Go.Shelf.Ren := ⟨fun | 145 => 169 | 220 => 189 | 219 => 196 | 217 => 200 | 225 => 201 | 224 => 202 | 267 => 203 | 266 => 205 | 314 => 206 | n => n, fun | 9 => 9 | 4 => 4 | 59 => 227 | 3 => 3 | 5 => 5 | 46 => 224 | 146 => 258 | 51 => 222 | n => n, fun | 1 => 7 | n => n⟩
theorem Tryz.lays145 : Go.Proofs.Lays.n145 Tryz.prog Tryz.lays145_ren := {
  mixed := by kernel_rfl
  f145 := Tryz.func169.trans (congrArg some (by kernel_rfl))
  f217 := Tryz.func200.trans (congrArg some (by kernel_rfl))
  f219 := Tryz.func196.trans (congrArg some (by kernel_rfl))
  f220 := Tryz.func189.trans (congrArg some (by kernel_rfl))
  f224 := Tryz.func202.trans (congrArg some (by kernel_rfl))
  f225 := Tryz.func201.trans (congrArg some (by kernel_rfl))
  f266 := Tryz.func205.trans (congrArg some (by kernel_rfl))
  f267 := Tryz.func203.trans (congrArg some (by kernel_rfl))
  f314 := Tryz.func206.trans (congrArg some (by kernel_rfl))
  t3 := Tryz.underlying3
  a3 := Tryz.isAgg3
  z3 := Tryz.sizeOf3
  v3 := Tryz.zeroValue3
  t4 := Tryz.underlying4
  a4 := Tryz.isAgg4
  z4 := Tryz.sizeOf4
  v4 := Tryz.zeroValue4
  t5 := Tryz.underlying5
  a5 := Tryz.isAgg5
  z5 := Tryz.sizeOf5
  v5 := Tryz.zeroValue5
  t9 := Tryz.underlying9
  a9 := Tryz.isAgg9
  z9 := Tryz.sizeOf9
  v9 := Tryz.zeroValue9
  t46 := Tryz.underlying224
  a46 := Tryz.isAgg224
  z46 := Tryz.sizeOf224
  v46 := Tryz.zeroValue224
  t51 := Tryz.underlying222
  a51 := Tryz.isAgg222
  z51 := Tryz.sizeOf222
  v51 := Tryz.zeroValue222
  t59 := Tryz.underlying227
  a59 := Tryz.isAgg227
  z59 := Tryz.sizeOf227
  v59 := Tryz.zeroValue227
  t146 := Tryz.underlying258
  a146 := Tryz.isAgg258
  z146 := Tryz.sizeOf258
  v146 := Tryz.zeroValue258
  g1 := by kernel_rfl }
open Go.RowKit Go.Lib in
/-- strings.Cut: "Cut slices s around the first instance of sep, returning the text before and after sep. The found result reports whether sep appears in s. If sep does not appear in s, cut returns s, "", false.": IT RETURNS 'Lib.cut s sep'; the world is as it was but for the count of draws. (LAID: no walk: one application.) -/
theorem Tryz.strings_Cut (s sep : ByteArray) (m : Int) (w : World) (hs : s.size < 4294967281) (hm : w.cell? ⟨7, 0, none⟩ = some (.int .i64 m)) :
    Calls Tryz.prog 169 #[.string s, .string sep] w fun e w' => e = .returned (.tuple #[.string ⟨(Lib.cut s.data.toList sep.data.toList).1.toArray⟩, .string ⟨(Lib.cut s.data.toList sep.data.toList).2.1.toArray⟩, .bool (Lib.cut s.data.toList sep.data.toList).2.2]) ∧ ∃ n, w' = w.drewN n := Any.strings_Cut Tryz.lays145 s sep m w hs hm
open Go.RowKit Go.Lib in
open Go.RowKit Go.Lib in
open Go.RowKit Go.Lib in
open Go.RowKit Go.Lib in
def Tryz.lays99_ren : Go.Shelf.Ren := ⟨fun | 99 => 131 | 206 => 156 | n => n, fun | 9 => 9 | 4 => 4 | 3 => 3 | n => n, fun | n => n⟩
theorem Tryz.lays99 : Go.Proofs.Lays.n99 Tryz.prog Tryz.lays99_ren := {
  mixed := by kernel_rfl
  f99 := Tryz.func131.trans (congrArg some (by kernel_rfl))
  f206 := Tryz.func156.trans (congrArg some (by kernel_rfl))
  t3 := Tryz.underlying3
  a3 := Tryz.isAgg3
  z3 := Tryz.sizeOf3
  v3 := Tryz.zeroValue3
  t4 := Tryz.underlying4
  a4 := Tryz.isAgg4
  z4 := Tryz.sizeOf4
  v4 := Tryz.zeroValue4
  t9 := Tryz.underlying9
  a9 := Tryz.isAgg9
  z9 := Tryz.sizeOf9
  v9 := Tryz.zeroValue9 }
open Go.RowKit Go.Lib in
/-- strings.HasPrefix: "HasPrefix reports whether the string s begins with prefix.": IT RETURNS 'Lib.hasPrefix s prefix'; the world is as it was. (LAID: no walk: one application.) -/
theorem Tryz.strings_HasPrefix (s p : ByteArray) (w : World) :
    Calls Tryz.prog 131 #[.string s, .string p] w fun e w' => e = .returned (.bool (Lib.hasPrefix s.data.toList p.data.toList)) ∧ w' = w := Any.strings_HasPrefix Tryz.lays99 s p w
end Go.Proofs
namespace Go.Proofs.YtdabndiaflagpaaGreatDoor.Tame
open Go

/-- What is asked of what an operation has come to. -/
def upon (P : Program) (R : Value → World → Prop) : Result Next → Prop
  | .ok (.value v) w' => R v w'
  | .ok .skip w' => R undef w'
  | .ok (.enter f args) w' => Calls P f args w' (fun e w'' => ∃ v, e = .returned v ∧ R v w'')
  | _ => False

def Op (P : Program) (o : Oper) (a : Act) (w : World) (R : Value → World → Prop) : Prop := upon P R ((execOp a.eval o).run P w)

theorem Op.wp {P : Program} {o : Oper} {a : Act} {w : World} {R : Value → World → Prop} {K : Act → World → Prop} {Q : Exit → Act → World → Prop}
    (h : Op P o a w R) (hK : ∀ v w', R v w' → K (a.put o.dst v) w') : o.wp P a w K Q := by
  unfold Op at h
  unfold Oper.wp
  generalize (execOp a.eval o).run P w = r at *
  cases r with
  | ok n w' =>
    cases n <;> simp only [upon] at h <;> simp only [Oper.upon]
    case value u => exact hK _ _ h
    case skip => exact hK _ _ h
    case enter f args => exact h.mono fun e w'' ⟨v, he, hr⟩ => by subst he; exact hK _ _ hr
  | halt x w' => simp only [upon] at h

def dstOf (ops : Array Oper) (k : Nat) : Option Tmp := (ops[k]?).bind (·.dst)

/-- The frame in which of the first n operations those that are listed have left their values. -/
def stF (ops : Array Oper) (a0 : Act) (ls : Nat → Bool) (vals : Nat → Value) : Nat → Act
  | 0 => a0
  | n + 1 => if ls n then (stF ops a0 ls vals n).put (dstOf ops n) (vals n) else stF ops a0 ls vals n

section
variable {P : Program} {ops : Array Oper} {a0 : Act}

theorem put_size (a : Act) (d : Option Tmp) (v : Value) : (a.put d v).tmps.size = a.tmps.size := by
  cases d <;> simp [Act.put]
theorem put_slot (a : Act) (d : Tmp) (v : Value) : (a.put (some d) v).tmps[d]? = if d < a.tmps.size then some v else none := by
  simp [Act.put, Array.getElem?_setIfInBounds]
theorem put_other (a : Act) (d : Option Tmp) (v : Value) (e : Tmp) (h : d ≠ some e) : (a.put d v).tmps[e]? = a.tmps[e]? := by
  cases d with
  | none => rfl
  | some d =>
    have : d ≠ e := fun x => h (by rw [x])
    simp [Act.put, Array.getElem?_setIfInBounds_ne this]

theorem stF_size (ls : Nat → Bool) (vals : Nat → Value) (n : Nat) : (stF ops a0 ls vals n).tmps.size = a0.tmps.size := by
  induction n with
  | zero => rfl
  | succ n ih => unfold stF; split; rw [put_size, ih]; exact ih

theorem stF_slot (ls ls' : Nat → Bool) (vals vals' : Nat → Value) (d : Tmp) (n : Nat) (h : ∀ k, k < n → dstOf ops k = some d → ls k = ls' k ∧ (ls k = true → vals k = vals' k)) :
    (stF ops a0 ls vals n).tmps[d]? = (stF ops a0 ls' vals' n).tmps[d]? := by
  induction n with
  | zero => rfl
  | succ n ih =>
    have ih' := ih fun k hk => h k (by omega)
    unfold stF
    by_cases hd : dstOf ops n = some d
    · obtain ⟨h1, h2⟩ := h n (by omega) hd
      rw [← h1, hd]
      cases hl : ls n with
      | true =>
        rw [h2 hl]
        simp only [if_true]
        rw [put_slot, put_slot, stF_size, stF_size]
      | false => simpa using ih'
    · have e1 : (if ls n = true then (stF ops a0 ls vals n).put (dstOf ops n) (vals n) else stF ops a0 ls vals n).tmps[d]? = (stF ops a0 ls vals n).tmps[d]? := by
        split
        · exact put_other _ _ _ _ hd
        · rfl
      have e2 : (if ls' n = true then (stF ops a0 ls' vals' n).put (dstOf ops n) (vals' n) else stF ops a0 ls' vals' n).tmps[d]? = (stF ops a0 ls' vals' n).tmps[d]? := by
        split
        · exact put_other _ _ _ _ hd
        · rfl
      rw [e1, e2]
      exact ih'

theorem stF_congr (ls ls' : Nat → Bool) (vals vals' : Nat → Value) (n : Nat) (h : ∀ k, k < n → ls k = ls' k ∧ (ls k = true → vals k = vals' k)) :
    stF ops a0 ls vals n = stF ops a0 ls' vals' n := by
  induction n with
  | zero => rfl
  | succ n ih =>
    have ih' := ih fun k hk => h k (by omega)
    obtain ⟨h1, h2⟩ := h n (by omega)
    unfold stF
    rw [← h1]
    cases hl : ls n with
    | true => rw [h2 hl, ih']
    | false => simpa using ih'

/-- Beyond i nothing is listed. -/
theorem stF_trunc (vals : Nat → Value) (i n : Nat) (h : i ≤ n) : stF ops a0 (fun k => decide (k < i)) vals n = stF ops a0 (fun _ => true) vals i := by
  induction n with
  | zero => have : i = 0 := by omega
            subst this; rfl
  | succ n ih =>
    by_cases hi : i ≤ n
    · unfold stF
      have : ¬ n < i := by omega
      simp only [this, decide_false, Bool.false_eq_true, if_false]
      rw [ih hi]
      cases i <;> rfl
    · have : i = n + 1 := by omega
      subst this
      exact stF_congr _ _ _ _ _ fun k hk => ⟨by simp [hk], fun _ => rfl⟩

def upd {α : Type} (f : Nat → α) (i : Nat) (x : α) : Nat → α := fun k => if k = i then x else f k
theorem upd_same {α : Type} (f : Nat → α) (i : Nat) (x : α) : upd f i x i = x := by simp [upd]
theorem upd_other {α : Type} (f : Nat → α) (i : Nat) (x : α) (k : Nat) (h : k ≠ i) : upd f i x k = f k := by simp [upd, h]

/-- One operation more is listed. -/
theorem stF_upd (ls : Nat → Bool) (vals : Nat → Value) (i : Nat) (v : Value) (hi : ls i = false) (hd : ∀ k, k ≠ i → ∀ d, dstOf ops i = some d → dstOf ops k ≠ some d) (n : Nat) (hn : i < n) :
    stF ops a0 (upd ls i true) (upd vals i v) n = (stF ops a0 ls vals n).put (dstOf ops i) v := by
  induction n with
  | zero => omega
  | succ n ih =>
    by_cases hin : i = n
    · subst hin
      have e : stF ops a0 (upd ls i true) (upd vals i v) i = stF ops a0 ls vals i :=
        stF_congr _ _ _ _ _ fun k hk => ⟨upd_other _ _ _ _ (by omega), fun _ => upd_other _ _ _ _ (by omega)⟩
      unfold stF
      rw [upd_same, upd_same, e, hi]
      simp
    · have ih' := ih (by omega)
      unfold stF
      rw [upd_other _ _ _ _ (by omega), upd_other _ _ _ _ (by omega), ih']
      cases ls n with
      | false => simp
      | true =>
        simp only [if_true]
        exact Act.put_comm _ _ _ fun d hx => hd n (by omega) d hx

/-- What the region must be like: it waits for earlier operations alone; what it looks at has come up, or waits for it; no slot is written twice; no select. -/
def waits (o : Oper) (k : Nat) : Bool := o.after.any fun e => Region.binds .any e && e.on == k
def tidy (ops : Array Oper) : Bool :=
  (List.range ops.size).all fun i => match ops[i]? with
    | none => true
    | some o =>
      (o.after.all fun e => !Region.binds .any e || decide (e.on < i)) &&
      ((o.looksAt ops).all fun d => (List.range ops.size).all fun k =>
        dstOf ops k != some d || k == i || (waits o k) || (decide (i < k) && ((ops[k]?).map fun o' => waits o' i).getD false)) &&
      ((List.range ops.size).all fun k => k == i || (dstOf ops i).isNone || dstOf ops k != dstOf ops i) &&
      (match o.op with | .select .. => false | _ => true)

structure Tidy (ops : Array Oper) : Prop where
  back : ∀ i o, ops[i]? = some o → ∀ e ∈ o.after, Region.binds .any e = true → e.on < i
  looks : ∀ i o, ops[i]? = some o → ∀ d ∈ o.looksAt ops, ∀ k, dstOf ops k = some d → k = i ∨ (∃ e ∈ o.after, Region.binds .any e = true ∧ e.on = k) ∨ (i < k ∧ ∃ o', ops[k]? = some o' ∧ ∃ e ∈ o'.after, Region.binds .any e = true ∧ e.on = i)
  once : ∀ i k d, k ≠ i → dstOf ops i = some d → dstOf ops k ≠ some d
  noSel : ∀ (i : Nat) (o : Oper) cs b, ops[i]? = some o → o.op ≠ .select cs b

theorem dst_lt {k : Nat} {d : Tmp} (h : dstOf ops k = some d) : k < ops.size := by
  unfold dstOf at h
  cases ho : ops[k]? with
  | none => simp [ho] at h
  | some o => exact (Array.getElem?_eq_some_iff.1 ho).1

theorem waits_iff {o : Oper} {k : Nat} : waits o k = true ↔ ∃ e ∈ o.after, Region.binds .any e = true ∧ e.on = k := by
  unfold waits
  rw [Array.any_eq_true']
  constructor
  · rintro ⟨e, he, h⟩
    simp only [Bool.and_eq_true, beq_iff_eq] at h
    exact ⟨e, he, h.1, h.2⟩
  · rintro ⟨e, he, h1, h2⟩
    exact ⟨e, he, by simp [h1, h2]⟩

theorem tidy_spec (h : tidy ops = true) : Tidy ops := by
  have key : ∀ i o, ops[i]? = some o → _ := fun i o ho => by
    have hi : i < ops.size := (Array.getElem?_eq_some_iff.1 ho).1
    have := List.all_eq_true.1 h i (List.mem_range.2 hi)
    simp only [ho, Bool.and_eq_true] at this
    exact this
  refine ⟨fun i o ho e he hb => ?_, fun i o ho d hd k hk => ?_, fun i k d hne hi hk => ?_, fun i o cs b ho hop => ?_⟩
  · have h1 := (key i o ho).1.1.1
    rw [Array.all_eq_true_iff_forall_mem] at h1
    have := h1 e he
    simpa [hb] using this
  · have h2 := (key i o ho).1.1.2
    have h3 := List.all_eq_true.1 (List.all_eq_true.1 h2 d hd) k (List.mem_range.2 (dst_lt hk))
    simp only [hk, bne_self_eq_false, Bool.false_or, Bool.or_eq_true, beq_iff_eq, Bool.and_eq_true, decide_eq_true_eq] at h3
    rcases h3 with (h3 | h3) | h3
    · exact .inl h3
    · exact .inr (.inl (waits_iff.1 h3))
    · refine .inr (.inr ⟨h3.1, ?_⟩)
      cases ho' : ops[k]? with
      | none => simp [ho'] at h3
      | some o' =>
        simp only [ho', Option.map_some, Option.getD_some] at h3
        exact ⟨o', rfl, waits_iff.1 h3.2⟩
  · cases ho : ops[i]? with
    | none => simp [dstOf, ho] at hi
    | some o =>
      have h2 := (key i o ho).1.2
      have h3 := List.all_eq_true.1 h2 k (List.mem_range.2 (dst_lt hk))
      simp [hne, hi, hk] at h3
  · have h2 := (key i o ho).2
    simp [hop] at h2

/-- How many of the first n are not listed. -/
def unl (l : Array Bool) : Nat → Nat
  | 0 => 0
  | n + 1 => unl l n + (if l.getD n false then 0 else 1)

theorem unl_zero (l : Array Bool) (n : Nat) (h : unl l n = 0) : ∀ k, k < n → l.getD k false = true := by
  induction n with
  | zero => intro k hk; omega
  | succ n ih =>
    intro k hk
    unfold unl at h
    by_cases hkn : k = n
    · subst hkn
      cases hl : l.getD k false with
      | true => rfl
      | false => rw [hl] at h; simp at h
    · exact ih (by omega) k (by omega)

theorem unl_set (l : Array Bool) (i n : Nat) (hi : i < n) (hs : i < l.size) (h : l.getD i false = false) : unl (l.setIfInBounds i true) n + 1 = unl l n := by
  have same : ∀ m, m ≤ i → unl (l.setIfInBounds i true) m = unl l m := by
    intro m
    induction m with
    | zero => intro _; rfl
    | succ m ih =>
      intro hm
      unfold unl
      rw [ih (by omega), getD_set_ne false (by omega)]
  induction n with
  | zero => omega
  | succ n ih =>
    unfold unl
    by_cases hin : i = n
    · subst hin
      rw [same i (Nat.le_refl _), h]
      have : (l.setIfInBounds i true).getD i false = true := by simp [hs]
      rw [this]
      simp
    · rw [getD_set_ne false hin]
      have := ih (by omega)
      omega

theorem unl_all (n : Nat) : ∀ m, m ≤ n → unl (Array.replicate n false) m = m := by
  intro m
  induction m with
  | zero => intro _; rfl
  | succ m ih =>
    intro hm
    unfold unl
    rw [ih (by omega)]
    have : (Array.replicate n false).getD m false = false := by simp [Array.getD]
    rw [this]
    simp

theorem exec_agree {o : Oper} {a b : Act} (hs : ∀ cs b, o.op ≠ .select cs b) (h : ∀ d ∈ o.looksAt ops, a.tmps[d]? = b.tmps[d]?) : execOp a.eval o = execOp b.eval o :=
  execOp_congr o hs fun x hx => by
    cases x with
    | tmp d =>
      have hd : d ∈ o.looksAt ops := List.mem_append_left _ (List.mem_filterMap.2 ⟨.tmp d, by simpa using hx, rfl⟩)
      show a.tmps.getD d undef = b.tmps.getD d undef
      rw [Array.getD_eq_getD_getElem?, Array.getD_eq_getD_getElem?, h d hd]
    | _ => rfl

theorem wanted_agree {o : Oper} {a b : Act} (h : ∀ d ∈ o.looksAt ops, a.tmps[d]? = b.tmps[d]?) : Region.wanted o (yielded ops a.tmps) = Region.wanted o (yielded ops b.tmps) := by
  unfold Region.wanted
  cases hg : o.guard with
  | none => rfl
  | some gw =>
    obtain ⟨g, want⟩ := gw
    have hy : yielded ops a.tmps g = yielded ops b.tmps g := by
      unfold yielded
      cases ht : (ops[g]?).bind (·.dst) with
      | none => rfl
      | some t =>
        have := h t (by simp [Oper.looksAt, hg, ht])
        simp [this]
    simp only [hy]

theorem all_of_ready {listed : Array Bool} (ht : Tidy ops) (h : Region.ready .any ops listed = []) (hsz : listed.size = ops.size) : ∀ k, k < ops.size → listed.getD k false = true := by
  intro k
  induction k using Nat.strongRecOn with
  | _ k ih =>
    intro hk
    cases hl : listed.getD k false with
    | true => rfl
    | false =>
      exfalso
      have hmem : k ∈ Region.ready .any ops listed := by
        rw [mem_ready]
        have ho : ops[k]? = some ops[k] := Array.getElem?_eq_getElem hk
        refine ⟨?_, ops[k], ho, fun e he hb => ?_⟩
        · have hk' : k < listed.size := by omega
          simpa [Array.getD, hk'] using hl
        · have hlt := ht.back k _ ho e he hb
          exact ih e.on hlt (by omega)
      rw [h] at hmem
      cases hmem

section
variable {L : World → World → Prop} {ts : Nat → Value → World → Prop} {W : World} {Q : Exit → Act → World → Prop}

theorem run (ht : Tidy ops) (hLr : ∀ w, L w w) (hLt : ∀ a b c, L a b → L b c → L a c) (hst : ∀ i v w w', L w w' → ts i v w → ts i v w')
    (hob : ∀ i o, ops[i]? = some o → ∀ (vals : Nat → Value) w, L W w → (∀ e ∈ o.after, Region.binds .any e = true → ts e.on (vals e.on) w) →
      if Region.wanted o (yielded ops (stF ops a0 (fun _ => true) vals i).tmps) = true then Op P o (stF ops a0 (fun _ => true) vals i) w (fun v w' => L w w' ∧ ts i v w') else ts i undef w)
    (hfin : ∀ (vals : Nat → Value) w, L W w → (∀ i, i < ops.size → ts i (vals i) w) → Q .normal (stF ops a0 (fun _ => true) vals ops.size) w) :
    ∀ (fuel : Nat) (listed : Array Bool) (vals : Nat → Value) (w : World), listed.size = ops.size → unl listed ops.size ≤ fuel →
      (∀ k o e, listed.getD k false = true → ops[k]? = some o → e ∈ o.after → Region.binds .any e = true → listed.getD e.on false = true) →
      L W w → (∀ k, k < ops.size → listed.getD k false = true → ts k (vals k) w) →
      wpAny P .any ops Q fuel listed (stF ops a0 (fun k => listed.getD k false) vals ops.size) w := by
  have fin : ∀ (listed : Array Bool) (vals : Nat → Value) (w : World), (∀ k, k < ops.size → listed.getD k false = true) → L W w → (∀ k, k < ops.size → listed.getD k false = true → ts k (vals k) w) →
      Q .normal (stF ops a0 (fun k => listed.getD k false) vals ops.size) w := by
    intro listed vals w hall hL hts
    rw [stF_congr (fun k => listed.getD k false) (fun _ => true) vals vals ops.size fun k hk => ⟨hall k hk, fun _ => rfl⟩]
    exact hfin vals w hL fun i hi => hts i hi (hall i hi)
  intro fuel
  induction fuel with
  | zero =>
    intro listed vals w hsz hun _ hL hts
    have hall := unl_zero listed ops.size (by omega)
    refine ⟨?_, fin listed vals w hall hL hts⟩
    cases hr : Region.ready .any ops listed with
    | nil => rfl
    | cons j js =>
      exfalso
      have hj : j ∈ Region.ready .any ops listed := by rw [hr]; exact List.mem_cons_self
      rw [mem_ready] at hj
      obtain ⟨h0, o, ho, _⟩ := hj
      have hlt : j < ops.size := (Array.getElem?_eq_some_iff.1 ho).1
      have h1 := hall j hlt
      have hj' : j < listed.size := by omega
      simp [Array.getD, hj'] at h0 h1
      rw [h0] at h1
      cases h1
  | succ fuel ih =>
    intro listed vals w hsz hun hcl hL hts
    refine ⟨fun hr => fin listed vals w (all_of_ready ht hr hsz) hL hts, fun i hi => ?_⟩
    rw [mem_ready] at hi
    obtain ⟨h0, o, ho, haf⟩ := hi
    have hlt : i < ops.size := (Array.getElem?_eq_some_iff.1 ho).1
    have hil : i < listed.size := by omega
    have hif : listed.getD i false = false := by simpa [Array.getD, hil] using h0
    have hagree : ∀ d ∈ o.looksAt ops, (stF ops a0 (fun k => listed.getD k false) vals ops.size).tmps[d]? = (stF ops a0 (fun _ => true) vals i).tmps[d]? := by
      intro d hd
      rw [← stF_trunc vals i ops.size (by omega)]
      refine stF_slot _ _ _ _ d _ fun k _ hk => ⟨?_, fun _ => rfl⟩
      rcases ht.looks i o ho d hd k hk with rfl | ⟨e, he, hb, rfl⟩ | ⟨hik, o', ho', e, he, hb, rfl⟩
      · simpa using hif
      · have := ht.back i o ho e he hb
        rw [haf e he hb]
        simp [this]
      · cases hlk : listed.getD k false with
        | false =>
          have : ¬ k < e.on := by omega
          simp [this]
        | true =>
          have := hcl k o' e hlk ho' he hb
          rw [hif] at this
          cases this
    have hstep := hob i o ho vals w hL fun e he hb => hts e.on (by have := ht.back i o ho e he hb; omega) (haf e he hb)
    have next : ∀ v w', L w w' → ts i v w' → wpAny P .any ops Q fuel (listed.setIfInBounds i true) ((stF ops a0 (fun k => listed.getD k false) vals ops.size).put o.dst v) w' := by
      intro v w' hLw htv
      have hd : dstOf ops i = o.dst := by simp [dstOf, ho]
      have e1 : (stF ops a0 (fun k => listed.getD k false) vals ops.size).put o.dst v = stF ops a0 (fun k => (listed.setIfInBounds i true).getD k false) (upd vals i v) ops.size := by
        rw [← hd, ← stF_upd (fun k => listed.getD k false) vals i v hif (fun k hk d h1 => ht.once i k d hk h1) ops.size hlt]
        refine stF_congr _ _ _ _ _ fun k _ => ⟨?_, fun _ => rfl⟩
        by_cases hki : k = i
        · subst hki; rw [upd_same]; simp [hil]
        · rw [upd_other _ _ _ _ hki, getD_set_ne false (Ne.symm hki)]
      rw [e1]
      refine ih _ _ _ (by simpa using hsz) (by have := unl_set listed i ops.size hlt hil hif; omega) (fun k o' e hk ho' he hb => ?_) (hLt _ _ _ hL hLw) (fun k hk hlk => ?_)
      · by_cases hki : k = i
        · subst hki
          rw [ho] at ho'
          injection ho' with ho'
          subst ho'
          exact getD_set_true (haf e he hb)
        · rw [getD_set_ne false (Ne.symm hki)] at hk
          exact getD_set_true (hcl k o' e hk ho' he hb)
      · by_cases hki : k = i
        · subst hki; rw [upd_same]; exact htv
        · rw [upd_other _ _ _ _ hki]
          rw [getD_set_ne false (Ne.symm hki)] at hlk
          exact hst _ _ _ _ hLw (hts k hk hlk)
    have hsel : ∀ cs b, o.op ≠ .select cs b := fun cs b => ht.noSel i o cs b ho
    have hwe := wanted_agree (ops := ops) hagree
    unfold wpOp
    rw [ho]
    show if Region.wanted o (yielded ops (stF ops a0 (fun k => listed.getD k false) vals ops.size).tmps) = true then _ else _
    by_cases hw : Region.wanted o (yielded ops (stF ops a0 (fun _ => true) vals i).tmps) = true
    · rw [if_pos hw] at hstep
      rw [if_pos (hwe.trans hw)]
      refine .inl (Op.wp (R := fun v w' => L w w' ∧ ts i v w') ?_ fun v w' ⟨h1, h2⟩ => next v w' h1 h2)
      unfold Op at hstep ⊢
      rw [exec_agree hsel hagree]
      exact hstep
    · rw [if_neg hw] at hstep
      rw [if_neg (fun h => hw (hwe.symm.trans h))]
      exact next undef w (hLr w) hstep

/-- The region, by obligations alone. -/
theorem region {id : Nat} {w0 : World} (hm : P.follows .mixedOrders = true) (htd : tidy ops = true) (hLr : ∀ w, L w w) (hLt : ∀ a b c, L a b → L b c → L a c) (hst : ∀ i v w w', L w w' → ts i v w → ts i v w')
    (hob : ∀ i o, ops[i]? = some o → ∀ (vals : Nat → Value) w, L w0.drew w → (∀ e ∈ o.after, Region.binds .any e = true → ts e.on (vals e.on) w) →
      if Region.wanted o (yielded ops (stF ops a0 (fun _ => true) vals i).tmps) = true then Op P o (stF ops a0 (fun _ => true) vals i) w (fun v w' => L w w' ∧ ts i v w') else ts i undef w)
    (hfin : ∀ (vals : Nat → Value) w, L w0.drew w → (∀ i, i < ops.size → ts i (vals i) w) → Q .normal (stF ops a0 (fun _ => true) vals ops.size) w) :
    (Code.region id ops true).wp P Q a0 w0 := by
  refine wp_region_any hm ?_
  have h0 : ∀ k, (Array.replicate ops.size false).getD k false = false := by
    intro k
    simp [Array.getD]
  have h := run (tidy_spec htd) hLr hLt hst hob hfin ops.size (Array.replicate ops.size false) (fun _ => undef) w0.drew (by simp) (by rw [unl_all ops.size ops.size (Nat.le_refl _)]; exact Nat.le_refl _)
    (fun k o e hk => by rw [h0 k] at hk; cases hk) (hLr _) (fun k _ hk => by rw [h0 k] at hk; cases hk)
  have e : stF ops a0 (fun k => (Array.replicate ops.size false).getD k false) (fun _ => undef) ops.size = a0 := by
    rw [stF_congr _ (fun k => decide (k < 0)) _ (fun _ => undef) ops.size fun k _ => ⟨by rw [h0 k]; simp, fun _ => rfl⟩, stF_trunc _ 0 ops.size (by omega)]
    rfl
  rw [e] at h
  exact h
end
end

/-! ### The walk, in the order of the text -/

abbrev TP := Value → World → Prop
/-- What is known of an operation's value, and what stands in its slot while the walk goes on: the value that came (a name), or the one that it must be. -/
structure Said where
  t : TP
  u : (Nat → Value) → Value

section
variable {P : Program} {L : World → World → Prop} {W : World} {Q : Exit → Act → World → Prop}

/-- What an operation may lean on: what is known of those that it waits for. -/
def depF (o : Oper) (ts : List Said) (vals : Nat → Value) (w : World) : Prop :=
  ∀ e ∈ o.after, Region.binds .any e = true → ∀ s : Said, ts[e.on]? = some s → s.t (vals e.on) w

def Good (L : World → World → Prop) (i : Nat) (s : Said) : Prop := (∀ v w w', L w w' → s.t v w → s.t v w') ∧ ∀ (vals : Nat → Value) w, s.t (vals i) w → s.u vals = vals i

def walk (P : Program) (ops : Array Oper) (L : World → World → Prop) (W : World) (Q : Exit → Act → World → Prop) : List Oper → List Said → ((Nat → Value) → Act) → Prop
  | [], ts, fr => ∀ (vals : Nat → Value) w, L W w → (∀ (i : Nat) (s : Said), ts[i]? = some s → s.t (vals i) w) → Q .normal (fr vals) w
  | o :: rest, ts, fr => ∃ s, Good L ts.length s ∧
      (∀ (vals : Nat → Value) w, L W w → depF o ts vals w → if Region.wanted o (yielded ops (fr vals).tmps) = true then Op P o (fr vals) w (fun v w' => L w w' ∧ s.t v w') else s.t undef w) ∧
      walk P ops L W Q rest (ts ++ [s]) (fun vals => (fr vals).put o.dst (s.u vals))

/-- The walk's frames: what stands in the slots is the value that came, wherever what is known holds. -/
def frU (ops : Array Oper) (a0 : Act) (ts : List Said) (vals : Nat → Value) : Nat → Act
  | 0 => a0
  | n + 1 => (frU ops a0 ts vals n).put (dstOf ops n) (match ts[n]? with | some s => s.u vals | none => vals n)

theorem frU_size (ops : Array Oper) (a0 : Act) (ts : List Said) (vals : Nat → Value) (n : Nat) : (frU ops a0 ts vals n).tmps.size = a0.tmps.size := by
  induction n with
  | zero => rfl
  | succ n ih => unfold frU; rw [put_size, ih]

theorem frU_more {ops : Array Oper} {a0 : Act} {ts ts' : List Said} {vals : Nat → Value} (n : Nat) (h : ∀ k, k < n → ts[k]? = ts'[k]?) : frU ops a0 ts vals n = frU ops a0 ts' vals n := by
  induction n with
  | zero => rfl
  | succ n ih => unfold frU; rw [ih fun k hk => h k (by omega), h n (by omega)]

theorem frU_slot {ops : Array Oper} {a0 : Act} {ts : List Said} {vals : Nat → Value} (d : Tmp) (n : Nat)
    (h : ∀ k, k < n → dstOf ops k = some d → ∀ s, ts[k]? = some s → s.u vals = vals k) : (frU ops a0 ts vals n).tmps[d]? = (stF ops a0 (fun _ => true) vals n).tmps[d]? := by
  induction n with
  | zero => rfl
  | succ n ih =>
    have ih' := ih fun k hk => h k (by omega)
    unfold frU stF
    simp only [if_true]
    by_cases hd : dstOf ops n = some d
    · rw [hd, put_slot, put_slot, frU_size, stF_size]
      have := h n (by omega) hd
      cases hs : ts[n]? with
      | none => rfl
      | some s => simp only [this s hs]
    · rw [put_other _ _ _ _ hd, put_other _ _ _ _ hd, ih']

/-- All that the walk chose. -/
theorem walk_all {ops : Array Oper} {a0 : Act} : ∀ (rest : List Oper) (ts : List Said) (fr : (Nat → Value) → Act),
    (∀ vals, fr vals = frU ops a0 ts vals ts.length) → (∀ j, rest[j]? = ops[ts.length + j]?) →
    walk P ops L W Q rest ts fr → ∃ all : List Said, all.length = ts.length + rest.length ∧ (∀ k, k < ts.length → all[k]? = ts[k]?) ∧
      (∀ (i : Nat) (s : Said), ts.length ≤ i → all[i]? = some s → Good L i s ∧ ∃ o, ops[i]? = some o ∧
        ∀ (vals : Nat → Value) w, L W w → depF o (all.take i) vals w → if Region.wanted o (yielded ops (frU ops a0 all vals i).tmps) = true then Op P o (frU ops a0 all vals i) w (fun v w' => L w w' ∧ s.t v w') else s.t undef w) ∧
      (∀ (vals : Nat → Value) w, L W w → (∀ (i : Nat) (s : Said), all[i]? = some s → s.t (vals i) w) → Q .normal (frU ops a0 all vals all.length) w) := by
  intro rest
  induction rest with
  | nil =>
    intro ts fr hfr _ hw
    refine ⟨ts, by simp, fun _ _ => rfl, fun i s hi hs => ?_, fun vals w hL hts => ?_⟩
    · rw [List.getElem?_eq_none hi] at hs; cases hs
    · rw [← hfr]; exact hw vals w hL hts
  | cons o rest ih =>
    intro ts fr hfr hops hw
    obtain ⟨s, hg, hob, hrest⟩ := hw
    have ho : ops[ts.length]? = some o := by have := hops 0; simpa using this.symm
    have hd : dstOf ops ts.length = o.dst := by simp [dstOf, ho]
    obtain ⟨all, h1, h2, h3, h4⟩ := ih (ts ++ [s]) (fun vals => (fr vals).put o.dst (s.u vals)) (fun vals => by
        rw [List.length_append, List.length_singleton]
        unfold frU
        rw [hd]
        have e1 : (ts ++ [s])[ts.length]? = some s := by simp
        have e2 : frU ops a0 (ts ++ [s]) vals ts.length = frU ops a0 ts vals ts.length := frU_more _ fun k hk => List.getElem?_append_left hk
        rw [e1, hfr vals, e2])
      (fun j => by have := hops (j + 1); rw [List.length_append, List.length_singleton]; simpa [Nat.add_assoc, Nat.add_comm 1 j] using this) hrest
    rw [List.length_append, List.length_singleton] at h1 h2 h3
    have hlen : ts.length < all.length := by rw [h1]; omega
    have hk : ∀ k, k < ts.length → all[k]? = ts[k]? := fun k hk => by rw [h2 k (by omega)]; exact List.getElem?_append_left hk
    have hs : all[ts.length]? = some s := by rw [h2 ts.length (by omega)]; simp
    refine ⟨all, by rw [h1]; simp; omega, hk, fun i s' hi hs' => ?_, h4⟩
    by_cases hit : i = ts.length
    · subst hit
      rw [hs] at hs'
      injection hs' with hs'
      subst hs'
      refine ⟨hg, o, ho, fun vals w hL hdep => ?_⟩
      have e : frU ops a0 all vals ts.length = fr vals := by rw [hfr vals]; exact frU_more _ hk
      rw [e]
      refine hob vals w hL fun e he hb s2 hs2 => hdep e he hb s2 ?_
      have hlt : e.on < ts.length := by
        rcases Nat.lt_or_ge e.on ts.length with h' | h'
        · exact h'
        · rw [List.getElem?_eq_none h'] at hs2; cases hs2
      rw [List.getElem?_take, if_pos hlt, hk _ hlt]
      exact hs2
    · exact h3 i s' (by omega) hs'

/-- **ONE WALK SERVES EVERY ORDER.** -/
theorem wp_region_tame {ops : List Oper} {id : Nat} {a0 : Act} {w0 : World} (hm : P.follows .mixedOrders = true) (htd : tidy ops.toArray = true) (hLr : ∀ w, L w w) (hLt : ∀ a b c, L a b → L b c → L a c)
    (h : walk P ops.toArray L w0.drew Q ops [] (fun _ => a0)) : (Code.region id ops.toArray true).wp P Q a0 w0 := by
  obtain ⟨all, h1, _, h3, h4⟩ := walk_all (a0 := a0) ops [] (fun _ => a0) (fun _ => rfl) (fun j => by simp) h
  have htid := tidy_spec htd
  have hsz : all.length = ops.toArray.size := by simpa using h1
  have sd : ∀ i, i < ops.toArray.size → ∃ s, all[i]? = some s := fun i hi => ⟨all[i]'(by omega), List.getElem?_eq_getElem (by omega)⟩
  refine region (ts := fun i v w => ∀ s, all[i]? = some s → s.t v w) hm htd hLr hLt (fun i v w w' hl ht s hs => (h3 i s (by simp) hs).1.1 v w w' hl (ht s hs)) ?_ ?_
  · intro i o ho vals w hL hdep
    have hi : i < ops.toArray.size := (Array.getElem?_eq_some_iff.1 ho).1
    obtain ⟨s, hs⟩ := sd i hi
    obtain ⟨hg, o', ho', hob⟩ := h3 i s (by simp) hs
    rw [ho] at ho'
    injection ho' with ho'
    subst ho'
    have hob := hob vals w hL fun e he hb s2 hs2 => hdep e he hb s2 (by
      rw [List.getElem?_take] at hs2
      split at hs2
      · exact hs2
      · cases hs2)
    have hagree : ∀ d ∈ o.looksAt ops.toArray, (stF ops.toArray a0 (fun _ => true) vals i).tmps[d]? = (frU ops.toArray a0 all vals i).tmps[d]? := by
      intro d hd
      refine (frU_slot d i fun k hk hdk s2 hs2 => ?_).symm
      rcases htid.looks i o ho d hd k hdk with rfl | ⟨e, he, hb, rfl⟩ | ⟨hik, _⟩
      · omega
      · exact (h3 e.on s2 (by simp) hs2).1.2 vals w (hdep e he hb s2 hs2)
      · omega
    have hsel : ∀ cs b, o.op ≠ .select cs b := fun cs b => htid.noSel i o cs b ho
    have hwe := wanted_agree (ops := ops.toArray) hagree
    by_cases hw : Region.wanted o (yielded ops.toArray (frU ops.toArray a0 all vals i).tmps) = true
    · rw [if_pos hw] at hob
      rw [if_pos (hwe.trans hw)]
      unfold Op at hob ⊢
      rw [exec_agree hsel hagree]
      have key : ∀ r : Result Next, upon P (fun v w' => L w w' ∧ s.t v w') r → upon P (fun v w' => L w w' ∧ ∀ s', all[i]? = some s' → s'.t v w') r := by
        intro r hr
        have conv : ∀ v w', L w w' ∧ s.t v w' → L w w' ∧ ∀ s', all[i]? = some s' → s'.t v w' := fun v w' hh => ⟨hh.1, fun s' hs' => by rw [hs] at hs'; injection hs' with hs'; subst hs'; exact hh.2⟩
        cases r with
        | ok n w' =>
          cases n <;> simp only [upon] at hr ⊢
          case value u => exact conv _ _ hr
          case skip => exact conv _ _ hr
          case enter f args => exact hr.mono fun e w'' ⟨v, he, hh⟩ => ⟨v, he, conv _ _ hh⟩
        | halt x w' => simp only [upon] at hr
      exact key _ hob
    · rw [if_neg hw] at hob
      rw [if_neg (fun h => hw (hwe.symm.trans h))]
      intro s' hs'
      rw [hs] at hs'
      injection hs' with hs'
      subst hs'
      exact hob
  · intro vals w hL hts
    have e : stF ops.toArray a0 (fun _ => true) vals ops.toArray.size = frU ops.toArray a0 all vals all.length := by
      rw [hsz]
      have hu : ∀ n, n ≤ ops.toArray.size → stF ops.toArray a0 (fun _ => true) vals n = frU ops.toArray a0 all vals n := by
        intro n
        induction n with
        | zero => intro _; rfl
        | succ n ih =>
          intro hn
          unfold stF frU
          obtain ⟨s, hs⟩ := sd n (by omega)
          rw [ih (by omega), hs]
          simp only [if_true]
          rw [(h3 n s (by simp) hs).1.2 vals w (hts n (by omega) s hs)]
      exact hu _ (Nat.le_refl _)
    rw [e]
    exact h4 vals w hL fun i s hs => hts i (by
      rcases Nat.lt_or_ge i all.length with h' | h'
      · omega
      · rw [List.getElem?_eq_none h'] at hs; cases hs) s hs
/-- One value, in a later world. (A name of its own, so that no simp lays it open.) -/
def Is (L : World → World → Prop) (w : World) (c v : Value) (w' : World) : Prop := L w w' ∧ v = c
theorem Is.mk {w w' : World} {c : Value} (h : L w w') : Is L w c c w' := ⟨h, rfl⟩
/-- Some value, of which this lasts. -/
def Has (L : World → World → Prop) (w : World) (t : TP) (v : Value) (w' : World) : Prop := L w w' ∧ t v w'
theorem Has.mk {w w' : World} {t : TP} {v : Value} (h : L w w') (k : t v w') : Has L w t v w' := ⟨h, k⟩

/-- The operation yields one value, whatever the order. -/
theorem walk_known {ops : Array Oper} {o : Oper} {rest : List Oper} {ts : List Said} {fr : (Nat → Value) → Act}
    (hw : ∀ vals : Nat → Value, Region.wanted o (yielded ops (fr vals).tmps) = true)
    (h : ∃ c : Value, (∀ (vals : Nat → Value) w, L W w → depF o ts vals w → Op P o (fr vals) w (Is L w c)) ∧
      walk P ops L W Q rest (ts ++ [⟨fun v _ => v = c, fun _ => c⟩]) (fun vals => (fr vals).put o.dst c)) : walk P ops L W Q (o :: rest) ts fr :=
  let ⟨c, h, hr⟩ := h
  ⟨⟨fun v _ => v = c, fun _ => c⟩, ⟨fun _ _ _ _ hh => hh, fun _ _ hh => hh.symm⟩, fun vals w hL hd => by rw [if_pos (hw vals)]; exact h vals w hL hd, hr⟩

/-- The operation is not wanted. -/
theorem walk_off {ops : Array Oper} {o : Oper} {rest : List Oper} {ts : List Said} {fr : (Nat → Value) → Act}
    (hw : ∀ vals : Nat → Value, Region.wanted o (yielded ops (fr vals).tmps) = false)
    (hr : walk P ops L W Q rest (ts ++ [⟨fun v _ => v = undef, fun _ => undef⟩]) (fun vals => (fr vals).put o.dst undef)) : walk P ops L W Q (o :: rest) ts fr :=
  ⟨⟨fun v _ => v = undef, fun _ => undef⟩, ⟨fun _ _ _ _ hh => hh, fun _ _ hh => hh.symm⟩, fun vals w _ _ => by rw [if_neg (by rw [hw vals]; decide)], hr⟩

/-- The operation yields some value, of which this lasts. -/
theorem walk_some {ops : Array Oper} {o : Oper} {rest : List Oper} {ts : List Said} {fr : (Nat → Value) → Act} (t : TP)
    (hw : ∀ vals : Nat → Value, Region.wanted o (yielded ops (fr vals).tmps) = true)
    (hst : ∀ v w w', L w w' → t v w → t v w')
    (h : ∀ (vals : Nat → Value) w, L W w → depF o ts vals w → Op P o (fr vals) w (Has L w t))
    (hr : walk P ops L W Q rest (ts ++ [⟨t, fun vals => vals ts.length⟩]) (fun vals => (fr vals).put o.dst (vals ts.length))) : walk P ops L W Q (o :: rest) ts fr :=
  ⟨⟨t, fun vals => vals ts.length⟩, ⟨hst, fun _ _ _ => rfl⟩, fun vals w hL hd => by rw [if_pos (hw vals)]; exact h vals w hL hd, hr⟩

theorem walk_end {ops : Array Oper} {ts : List Said} {fr : (Nat → Value) → Act} (h : ∀ (vals : Nat → Value) w, L W w → (∀ (i : Nat) (s : Said), ts[i]? = some s → s.t (vals i) w) → Q .normal (fr vals) w) : walk P ops L W Q [] ts fr := h
end

/-- The later world: of what was there nothing has turned. -/
def Later (w w' : World) : Prop := Go.RowKit.Below w.heap.size w w'
theorem Later.refl (w : World) : Later w w := Go.RowKit.Below.refl _ _
theorem Later.trans (a b c : World) (h : Later a b) (k : Later b c) : Later a c := Go.RowKit.Below.trans h (Go.RowKit.Below.mono k (Go.RowKit.Below.size h))

/-- A callee's contract that ends in 'Below'. -/
theorem known {P : Program} {f : FuncId} {args : Array Value} {w : World} {c : Value} (h : Calls P f args w fun e w' => e = .returned c ∧ Go.RowKit.Below w.heap.size w w') :
    Calls P f args w fun e w'' => ∃ v, e = .returned v ∧ Is Later w c v w'' := h.mono fun _ _ ⟨he, hb⟩ => ⟨_, he, hb, rfl⟩
theorem has {P : Program} {f : FuncId} {args : Array Value} {w : World} {t : TP} (h : Calls P f args w fun e w' => ∃ v, e = .returned v ∧ t v w' ∧ Go.RowKit.Below w.heap.size w w') :
    Calls P f args w fun e w'' => ∃ v, e = .returned v ∧ Has Later w t v w'' := h.mono fun _ _ ⟨v, he, ht, hb⟩ => ⟨v, he, hb, ht⟩

end Go.Proofs.YtdabndiaflagpaaGreatDoor.Tame
namespace Go.Proofs.YtdabndiaflagpaaGreatDoor.Tame
open Go

section
variable {P : Program} {ops : Array Oper} {a0 : Act} {L M : World → World → Prop} {ts : Nat → Value → World → Prop} {W : World} {Q : Exit → Act → World → Prop}
  {pure_ wr : Nat → Bool} {ex : Nat → Option Nat} {bef : Nat → Nat → Prop}

/-- What waits for what, all the way down. -/
def Down (ops : Array Oper) (ls : Nat → Bool) : Prop := ∀ k o e, ls k = true → ops[k]? = some o → e ∈ o.after → Region.binds .any e = true → ls e.on = true

end

/-! ### What waits for what, reckoned -/

def mask (acc : List Nat) (o : Oper) : Nat := o.after.toList.foldl (fun m e => if Region.binds .any e then m ||| 2 ^ e.on ||| acc.getD e.on 0 else m) 0
def ancs : List Oper → List Nat → List Nat
  | [], acc => acc
  | o :: rest, acc => ancs rest (acc ++ [mask acc o])
theorem mask_bit (acc : List Nat) (l : List Edge) (j : Nat) : ∀ m : Nat, (l.foldl (fun m e => if Region.binds .any e then m ||| 2 ^ e.on ||| acc.getD e.on 0 else m) m).testBit j = true →
    m.testBit j = true ∨ ∃ e ∈ l, Region.binds .any e = true ∧ (j = e.on ∨ (acc.getD e.on 0).testBit j = true) := by
  induction l with
  | nil => intro m h; exact .inl h
  | cons e l ih =>
    intro m h
    rw [List.foldl_cons] at h
    rcases ih _ h with h1 | ⟨e', he', h2⟩
    · by_cases hb : Region.binds .any e = true
      · rw [if_pos hb, Nat.testBit_or, Nat.testBit_or, Bool.or_eq_true, Bool.or_eq_true, Nat.testBit_two_pow, decide_eq_true_eq] at h1
        rcases h1 with (h1 | h1) | h1
        · exact .inl h1
        · exact .inr ⟨e, List.mem_cons_self, hb, .inl h1.symm⟩
        · exact .inr ⟨e, List.mem_cons_self, hb, .inr h1⟩
      · rw [if_neg hb] at h1
        exact .inl h1
    · exact .inr ⟨e', List.mem_cons_of_mem _ he', h2⟩

/-- What a list of masks is good for. -/
structure Masks (ops : Array Oper) (acc : List Nat) : Prop where
  down : ∀ ls, Down ops ls → ∀ i j, (acc.getD i 0).testBit j = true → ls i = true → ls j = true
  less : ∀ i j, (acc.getD i 0).testBit j = true → j < i

theorem masks_all {ops : Array Oper} (ht : Tidy ops) : ∀ (rest : List Oper) (acc : List Nat), (∀ j, rest[j]? = ops[acc.length + j]?) → Masks ops acc → Masks ops (ancs rest acc) := by
  intro rest
  induction rest with
  | nil => intro acc _ h; exact h
  | cons o rest ih =>
    intro acc hops h
    have ho : ops[acc.length]? = some o := by have := hops 0; simpa using this.symm
    refine ih _ (fun j => by have := hops (j + 1); rw [List.length_append, List.length_singleton]; simpa [Nat.add_assoc, Nat.add_comm 1 j] using this) ?_
    have get : ∀ i, (acc ++ [mask acc o]).getD i 0 = if i < acc.length then acc.getD i 0 else if i = acc.length then mask acc o else 0 := by
      intro i
      by_cases h1 : i < acc.length
      · rw [if_pos h1]; simp [List.getD, List.getElem?_append_left h1]
      · rw [if_neg h1]
        by_cases h2 : i = acc.length
        · subst h2; simp [List.getD]
        · rw [if_neg h2]
          have : (acc ++ [mask acc o])[i]? = none := List.getElem?_eq_none (by simp; omega)
          simp [List.getD, this]
    refine ⟨fun ls hd i j hb hi => ?_, fun i j hb => ?_⟩
    · rw [get] at hb
      split at hb
      · exact h.down ls hd i j hb hi
      · split at hb
        · rename_i _ h2
          subst h2
          rcases mask_bit acc _ j 0 hb with h0 | ⟨e, he, hbe, h3⟩
          · simp at h0
          · have := hd acc.length o e hi ho (by simpa using he) hbe
            rcases h3 with rfl | h3
            · exact this
            · exact h.down ls hd e.on j h3 this
        · simp at hb
    · rw [get] at hb
      split at hb
      · exact h.less i j hb
      · split at hb
        · rename_i _ h2
          subst h2
          rcases mask_bit acc _ j 0 hb with h0 | ⟨e, he, hbe, h3⟩
          · simp at h0
          · have hlt := ht.back acc.length o ho e (by simpa using he) hbe
            rcases h3 with rfl | h3
            · exact hlt
            · have := h.less e.on j h3; omega
        · simp at hb

theorem mask_mono (acc : List Nat) (l : List Edge) (j : Nat) : ∀ m : Nat, m.testBit j = true → (l.foldl (fun m e => if Region.binds .any e then m ||| 2 ^ e.on ||| acc.getD e.on 0 else m) m).testBit j = true := by
  induction l with
  | nil => intro m h; exact h
  | cons e l ih =>
    intro m h
    rw [List.foldl_cons]
    refine ih _ ?_
    split
    · rw [Nat.testBit_or, Nat.testBit_or, h]; rfl
    · exact h
theorem mask_has (acc : List Nat) (l : List Edge) : ∀ (m : Nat) (e : Edge), e ∈ l → Region.binds .any e = true → (l.foldl (fun m e => if Region.binds .any e then m ||| 2 ^ e.on ||| acc.getD e.on 0 else m) m).testBit e.on = true := by
  induction l with
  | nil => intro m e h; cases h
  | cons x l ih =>
    intro m e he hb
    rw [List.foldl_cons]
    rcases List.mem_cons.1 he with rfl | he
    · refine mask_mono acc l e.on _ ?_
      rw [if_pos hb, Nat.testBit_or, Nat.testBit_or, Nat.testBit_two_pow]
      simp
    · exact ih _ e he hb
theorem ancs_keep (rest : List Oper) : ∀ (acc : List Nat) (i : Nat), i < acc.length → (ancs rest acc).getD i 0 = acc.getD i 0 := by
  induction rest with
  | nil => intro acc i _; rfl
  | cons o rest ih =>
    intro acc i hi
    show (ancs rest (acc ++ [mask acc o])).getD i 0 = _
    rw [ih _ i (by simp; omega)]
    simp [List.getD, List.getElem?_append_left hi]
/-- A direct edge is in the mask. -/
theorem direct {ops : Array Oper} : ∀ (rest : List Oper) (acc : List Nat), (∀ j, rest[j]? = ops[acc.length + j]?) → ∀ i o, ops[i]? = some o → ∀ e ∈ o.after, Region.binds .any e = true → acc.length ≤ i → ((ancs rest acc).getD i 0).testBit e.on = true := by
  intro rest
  induction rest with
  | nil =>
    intro acc hops i o ho e _ _ hi
    have := hops (i - acc.length)
    rw [show acc.length + (i - acc.length) = i by omega, ho] at this
    cases this
  | cons o1 rest ih =>
    intro acc hops i o ho e he hb hi
    by_cases hia : i = acc.length
    · subst hia
      have h1 := hops 0
      rw [Nat.add_zero, ho] at h1
      injection h1 with h1
      subst h1
      show ((ancs rest (acc ++ [mask acc o1])).getD acc.length 0).testBit e.on = true
      rw [ancs_keep rest _ _ (by simp)]
      have : (acc ++ [mask acc o1]).getD acc.length 0 = mask acc o1 := by simp [List.getD]
      rw [this]
      exact mask_has acc _ 0 e (by simpa using he) hb
    · exact ih (acc ++ [mask acc o1]) (fun j => by have := hops (j + 1); rw [List.length_append, List.length_singleton]; simpa [Nat.add_assoc, Nat.add_comm 1 j] using this) i o ho e he hb (by simp; omega)

/-! ### The walk with writers -/

section
variable {P : Program} {L M : World → World → Prop} {W : World} {Q : Exit → Act → World → Prop}

/-- Where the writers leave what is said alone. -/
def lasts (A : List Nat) (wr : List Nat) (i : Nat) (ends : Option Nat) : Bool :=
  wr.all fun j => j == i || (A.getD i 0).testBit j || (match ends with | none => false | some x => x == j || (A.getD j 0).testBit x)
/-- Is it still said when operation i comes up? -/
def still (A : List Nat) (i : Nat) (ends : Option Nat) : Bool := match ends with | none => true | some x => x == i || (A.getD x 0).testBit i
/-- What a writer leaves. -/
def Leaves (M : World → World → Prop) (w : World) (t : TP) (v : Value) (w' : World) : Prop := M w w' ∧ t v w'
theorem Leaves.mk {M : World → World → Prop} {w w' : World} {t : TP} {v : Value} (h : M w w') (k : t v w') : Leaves M w t v w' := ⟨h, k⟩

end

end Go.Proofs.YtdabndiaflagpaaGreatDoor.Tame
namespace Go.Proofs.YtdabndiaflagpaaGreatDoor.Tame
open Go

section
variable {P : Program} {ops : Array Oper} {a0 : Act} {L : World → World → Prop} {M : Nat → World → World → Prop} {G : Nat → World → Prop} {gk kp : Nat → Nat → Bool} {ts : Nat → (Nat → Value) → World → Prop} {Q : Exit → Act → World → Prop}
  {pure_ wr : Nat → Bool} {ex : Nat → Option Nat} {bef : Nat → Nat → Prop}

theorem run3 (ht : Tidy ops) (hLr : ∀ w, L w w) (hMr : ∀ i w, M i w w)
    (hsk : ∀ i j, pure_ i = false → wr j = true → kp i j = true → ∀ vals w w', M j w w' → ts i vals w → ts i vals w')
    (hcg : ∀ k (vals vals' : Nat → Value) w, (∀ j, j = k ∨ bef j k → vals j = vals' j) → ts k vals w → ts k vals' w)
    (hgl : ∀ g w w', L w w' → G g w → G g w') (hgk : ∀ g j, wr j = true → gk g j = true → ∀ w w', M j w w' → G g w → G g w')
    (hst : ∀ i, pure_ i = false → ∀ vals w w', L w w' → ts i vals w → ts i vals w') (hpu : ∀ i, pure_ i = true → ∀ vals w w', ts i vals w → ts i vals w')
    (hbd : ∀ ls, Down ops ls → ∀ i j, bef j i → ls i = true → ls j = true) (hbl : ∀ i j, bef j i → j < i)
    (hC : ∀ k, k < ops.size → pure_ k = false → ∀ j, wr j = true → j ≠ k → kp k j = true ∨ bef j k ∨ ∃ x, ex k = some x ∧ (x = j ∨ bef x j))
    (hob : ∀ i o, ops[i]? = some o → ∀ (vals : Nat → Value) w, (∀ g, (∀ j, wr j = true → gk g j = true ∨ j = i ∨ bef i j) → G g w) → (∀ k, bef k i → (∀ x, ex k = some x → x = i ∨ bef i x) → ts k vals w) →
      if Region.wanted o (yielded ops (stF ops a0 (fun _ => true) vals i).tmps) = true then Op P o (stF ops a0 (fun _ => true) vals i) w (fun v w' => (wr i = false → L w w') ∧ (wr i = true → M i w w') ∧ ts i (upd vals i v) w') else ts i (upd vals i undef) w)
    (hfin : ∀ (vals : Nat → Value) w, (∀ g, (∀ j, j < ops.size → wr j = true → gk g j = true) → G g w) → (∀ i, i < ops.size → ex i = none → ts i vals w) → Q .normal (stF ops a0 (fun _ => true) vals ops.size) w) :
    ∀ (fuel : Nat) (listed : Array Bool) (vals : Nat → Value) (w : World), listed.size = ops.size → unl listed ops.size ≤ fuel → Down ops (fun k => listed.getD k false) →
      (∀ g, (∀ j, wr j = true → listed.getD j false = true → gk g j = true) → G g w) → (∀ k, k < ops.size → listed.getD k false = true → (∀ x, ex k = some x → listed.getD x false = false) → ts k vals w) →
      wpAny P .any ops Q fuel listed (stF ops a0 (fun k => listed.getD k false) vals ops.size) w := by
  have fin : ∀ (listed : Array Bool) (vals : Nat → Value) (w : World), listed.size = ops.size → (∀ k, k < ops.size → listed.getD k false = true) → (∀ g, (∀ j, wr j = true → listed.getD j false = true → gk g j = true) → G g w) →
      (∀ k, k < ops.size → listed.getD k false = true → (∀ x, ex k = some x → listed.getD x false = false) → ts k vals w) →
      Q .normal (stF ops a0 (fun k => listed.getD k false) vals ops.size) w := by
    intro listed vals w hsz hall hG hts
    rw [stF_congr (fun k => listed.getD k false) (fun _ => true) vals vals ops.size fun k hk => ⟨hall k hk, fun _ => rfl⟩]
    refine hfin vals w (fun g h => hG g fun j hj hl => ?_) fun i hi hx => hts i hi (hall i hi) fun x h => by rw [hx] at h; cases h
    rcases Nat.lt_or_ge j ops.size with h' | h'
    · exact h j h' hj
    · have : ¬ j < listed.size := by omega
      simp [Array.getD, this] at hl
  intro fuel
  induction fuel with
  | zero =>
    intro listed vals w hsz hun _ hG hts
    have hall := unl_zero listed ops.size (by omega)
    refine ⟨?_, fin listed vals w hsz hall hG hts⟩
    cases hr : Region.ready .any ops listed with
    | nil => rfl
    | cons j js =>
      exfalso
      have hj : j ∈ Region.ready .any ops listed := by rw [hr]; exact List.mem_cons_self
      rw [mem_ready] at hj
      obtain ⟨h0, o, ho, _⟩ := hj
      have hlt : j < ops.size := (Array.getElem?_eq_some_iff.1 ho).1
      have h1 := hall j hlt
      have hj' : j < listed.size := by omega
      simp [Array.getD, hj'] at h0 h1
      rw [h0] at h1
      cases h1
  | succ fuel ih =>
    intro listed vals w hsz hun hcl hG hts
    refine ⟨fun hr => fin listed vals w hsz (all_of_ready ht hr hsz) hG hts, fun i hi => ?_⟩
    rw [mem_ready] at hi
    obtain ⟨h0, o, ho, haf⟩ := hi
    have hlt : i < ops.size := (Array.getElem?_eq_some_iff.1 ho).1
    have hil : i < listed.size := by omega
    have hif : listed.getD i false = false := by simpa [Array.getD, hil] using h0
    have hset : ∀ k, (listed.setIfInBounds i true).getD k false = if k = i then true else listed.getD k false := by
      intro k
      by_cases hki : k = i
      · subst hki; simp [hil]
      · rw [if_neg hki, getD_set_ne false (Ne.symm hki)]
    have hcl' : Down ops (fun k => (listed.setIfInBounds i true).getD k false) := by
      intro k o' e hk ho' he hb
      by_cases hki : k = i
      · subst hki
        rw [ho] at ho'
        injection ho' with ho'
        subst ho'
        exact getD_set_true (haf e he hb)
      · have hk' : listed.getD k false = true := by
          have := hset k
          rw [if_neg hki] at this
          rw [← this]; exact hk
        exact getD_set_true (hcl k o' e hk' ho' he hb)
    have hagree : ∀ d ∈ o.looksAt ops, (stF ops a0 (fun k => listed.getD k false) vals ops.size).tmps[d]? = (stF ops a0 (fun _ => true) vals i).tmps[d]? := by
      intro d hd
      rw [← stF_trunc vals i ops.size (by omega)]
      refine stF_slot _ _ _ _ d _ fun k _ hk => ⟨?_, fun _ => rfl⟩
      rcases ht.looks i o ho d hd k hk with rfl | ⟨e, he, hb, rfl⟩ | ⟨hik, o', ho', e, he, hb, rfl⟩
      · simpa using hif
      · have := ht.back i o ho e he hb
        rw [haf e he hb]
        simp [this]
      · cases hlk : listed.getD k false with
        | false =>
          have : ¬ k < e.on := by omega
          simp [this]
        | true =>
          have := hcl k o' e hlk ho' he hb
          simp only [hif] at this
          cases this
    have hstep := hob i o ho vals w
      (fun g hw => hG g fun j hj hlj => by
        rcases hw j hj with hk | rfl | hb
        · exact hk
        · rw [hif] at hlj; cases hlj
        · have := hbd _ hcl j i hb hlj; simp only [hif] at this; cases this)
      (fun k hk hx => by
        have hki := hbl i k hk
        have h1 : (listed.setIfInBounds i true).getD k false = true := hbd _ hcl' i k hk (by rw [hset]; simp)
        rw [hset, if_neg (by omega)] at h1
        refine hts k (by omega) h1 fun x hxe => ?_
        rcases hx x hxe with rfl | hb
        · exact hif
        · cases hlj : listed.getD x false with
          | false => rfl
          | true => have := hbd _ hcl x i hb hlj; simp only [hif] at this; cases this)
    have next : ∀ v w', (wr i = false → L w w') → (wr i = true → M i w w') → ts i (upd vals i v) w' → wpAny P .any ops Q fuel (listed.setIfInBounds i true) ((stF ops a0 (fun k => listed.getD k false) vals ops.size).put o.dst v) w' := by
      intro v w' hLw hMw htv
      have hd : dstOf ops i = o.dst := by simp [dstOf, ho]
      have e1 : (stF ops a0 (fun k => listed.getD k false) vals ops.size).put o.dst v = stF ops a0 (fun k => (listed.setIfInBounds i true).getD k false) (upd vals i v) ops.size := by
        rw [← hd, ← stF_upd (fun k => listed.getD k false) vals i v hif (fun k hk d h1 => ht.once i k d hk h1) ops.size hlt]
        refine stF_congr _ _ _ _ _ fun k _ => ⟨?_, fun _ => rfl⟩
        by_cases hki : k = i
        · subst hki; rw [upd_same, hset, if_pos rfl]
        · rw [upd_other _ _ _ _ hki, hset, if_neg hki]
      rw [e1]
      refine ih _ _ _ (by simpa using hsz) (by have := unl_set listed i ops.size hlt hil hif; omega) hcl' (fun g hw => ?_) (fun k hk hlk hal => ?_)
      · have hold : G g w := hG g fun j hj hlj => hw j hj (getD_set_true hlj)
        cases hwi : wr i with
        | true => exact hgk g i hwi (hw i hwi (by rw [hset, if_pos rfl])) _ _ (hMw hwi) hold
        | false => exact hgl g _ _ (hLw hwi) hold
      · by_cases hki : k = i
        · subst hki; exact htv
        · rw [hset, if_neg hki] at hlk
          have hal0 : ∀ x, ex k = some x → listed.getD x false = false := by
            intro x hx
            have := hal x hx
            rw [hset] at this
            split at this
            · cases this
            · exact this
          have hold : ts k (upd vals i v) w := hcg k vals _ w (fun j hj => by
            have hji : j ≠ i := by
              rintro rfl
              rcases hj with hj | hj
              · exact hki hj.symm
              · have := hbd _ hcl k j hj hlk; simp only [hif] at this; cases this
            exact (upd_other _ _ _ _ hji).symm) (hts k hk hlk hal0)
          cases hp : pure_ k with
          | true => exact hpu k hp _ _ _ hold
          | false =>
            cases hwi : wr i with
            | false => exact hst k hp _ _ _ (hLw hwi) hold
            | true =>
              rcases hC k hk hp i hwi (Ne.symm hki) with hkp | hb | ⟨x, hx, hxi | hb⟩
              · exact hsk k i hp hwi hkp _ _ _ (hMw hwi) hold
              · exfalso
                have := hbd _ hcl k i hb hlk
                simp only [hif] at this
                cases this
              · exfalso
                subst hxi
                have := hal x hx
                rw [hset, if_pos rfl] at this
                cases this
              · exfalso
                have h1 : (listed.setIfInBounds i true).getD x false = true := hbd _ hcl' i x hb (by rw [hset]; simp)
                rw [hal x hx] at h1
                cases h1
    have hsel : ∀ cs b, o.op ≠ .select cs b := fun cs b => ht.noSel i o cs b ho
    have hwe := wanted_agree (ops := ops) hagree
    unfold wpOp
    rw [ho]
    show if Region.wanted o (yielded ops (stF ops a0 (fun k => listed.getD k false) vals ops.size).tmps) = true then _ else _
    by_cases hw : Region.wanted o (yielded ops (stF ops a0 (fun _ => true) vals i).tmps) = true
    · rw [if_pos hw] at hstep
      rw [if_pos (hwe.trans hw)]
      refine .inl (Op.wp (R := fun v w' => (wr i = false → L w w') ∧ (wr i = true → M i w w') ∧ ts i (upd vals i v) w') ?_ fun v w' ⟨h1, h2, h3⟩ => next v w' h1 h2 h3)
      unfold Op at hstep ⊢
      rw [exec_agree hsel hagree]
      exact hstep
    · rw [if_neg hw] at hstep
      rw [if_neg (fun h => hw (hwe.symm.trans h))]
      exact next undef w (fun _ => hLr w) (fun _ => hMr i w) hstep
end

/-! ### The walk with writers -/

/-- What is known of an operation's value: 'known': it speaks of no world; 'ends' is the writer with which what is said of the value ends. -/
structure Said3 where
  t : (Nat → Value) → World → Prop
  u : (Nat → Value) → Value
  known : Bool
  ends : Option Nat
  keeps : List Nat

/-- What is said of the world from the start; the writers that spare it. -/
structure Ghost where
  g : World → Prop
  keeps : List Nat

section
variable {P : Program} {L : World → World → Prop} {M : Nat → World → World → Prop} {gs : List Ghost} {Q : Exit → Act → World → Prop}

def Good3 (A : List Nat) (L : World → World → Prop) (M : Nat → World → World → Prop) (wr : List Nat) (i : Nat) (s : Said3) : Prop :=
  (s.known = false → ∀ vals w w', L w w' → s.t vals w → s.t vals w') ∧ (s.known = true → ∀ vals w w', s.t vals w → s.t vals w') ∧
  (∀ (vals : Nat → Value) w, s.t vals w → s.u vals = vals i) ∧ (s.ends = none ∨ ∀ vals : Nat → Value, s.u vals = vals i) ∧
  (s.known = false → ∀ j, wr.contains j = true → s.keeps.contains j = true → ∀ vals w w', M j w w' → s.t vals w → s.t vals w') ∧
  (∀ (vals vals' : Nat → Value) w, (∀ j, j = i ∨ (A.getD i 0).testBit j = true → vals j = vals' j) → s.t vals w → s.t vals' w)

/-- Where the writers leave what is said alone. -/
def lasts3 (A : List Nat) (wr : List Nat) (i : Nat) (ends : Option Nat) (keeps : List Nat) : Bool :=
  wr.all fun j => keeps.contains j || j == i || (A.getD i 0).testBit j || (match ends with | none => false | some x => x == j || (A.getD j 0).testBit x)
/-- Does no writer that doesn't spare the ghost come up ahead of operation i? -/
def spared (A : List Nat) (wr : List Nat) (i : Nat) (keeps : List Nat) : Bool := wr.all fun j => keeps.contains j || j == i || (A.getD j 0).testBit i
def ghosts (A wr : List Nat) (gs : List Ghost) (i : Nat) (w : World) : Prop := ∀ (k : Nat) (g : Ghost), gs[k]? = some g → spared A wr i g.keeps = true → g.g w
def ghostsEnd (wr : List Nat) (gs : List Ghost) (w : World) : Prop := ∀ (k : Nat) (g : Ghost), gs[k]? = some g → (wr.all fun j => g.keeps.contains j) = true → g.g w

def dep3 (A : List Nat) (i : Nat) (ts : List Said3) (vals : Nat → Value) (w : World) : Prop :=
  ∀ k s, ts[k]? = some s → (A.getD i 0).testBit k = true → still A i s.ends = true → s.t vals w

def walk3 (P : Program) (ops : Array Oper) (A wr : List Nat) (L : World → World → Prop) (M : Nat → World → World → Prop) (gs : List Ghost) (Q : Exit → Act → World → Prop) : List Oper → List Said3 → ((Nat → Value) → Act) → Prop
  | [], ts, fr => ∀ (vals : Nat → Value) w, ghostsEnd wr gs w → (∀ (i : Nat) (s : Said3), ts[i]? = some s → s.ends = none → s.t vals w) → Q .normal (fr vals) w
  | o :: rest, ts, fr => ∃ s, Good3 A L M wr ts.length s ∧ (s.known = false → lasts3 A wr ts.length s.ends s.keeps = true) ∧
      (∀ (vals : Nat → Value) w, ghosts A wr gs ts.length w → dep3 A ts.length ts vals w →
        if Region.wanted o (yielded ops (fr vals).tmps) = true then Op P o (fr vals) w (fun v w' => (wr.contains ts.length = false → L w w') ∧ (wr.contains ts.length = true → M ts.length w w') ∧ s.t (upd vals ts.length v) w') else s.t (upd vals ts.length undef) w) ∧
      walk3 P ops A wr L M gs Q rest (ts ++ [s]) (fun vals => (fr vals).put o.dst (s.u vals))

def frU3 (ops : Array Oper) (a0 : Act) (ts : List Said3) (vals : Nat → Value) : Nat → Act
  | 0 => a0
  | n + 1 => (frU3 ops a0 ts vals n).put (dstOf ops n) (match ts[n]? with | some s => s.u vals | none => vals n)

theorem frU3_size (ops : Array Oper) (a0 : Act) (ts : List Said3) (vals : Nat → Value) (n : Nat) : (frU3 ops a0 ts vals n).tmps.size = a0.tmps.size := by
  induction n with
  | zero => rfl
  | succ n ih => unfold frU3; rw [put_size, ih]

theorem frU3_more {ops : Array Oper} {a0 : Act} {ts ts' : List Said3} {vals : Nat → Value} (n : Nat) (h : ∀ k, k < n → ts[k]? = ts'[k]?) : frU3 ops a0 ts vals n = frU3 ops a0 ts' vals n := by
  induction n with
  | zero => rfl
  | succ n ih => unfold frU3; rw [ih fun k hk => h k (by omega), h n (by omega)]

theorem frU3_slot {ops : Array Oper} {a0 : Act} {ts : List Said3} {vals : Nat → Value} (d : Tmp) (n : Nat)
    (h : ∀ k, k < n → dstOf ops k = some d → ∀ s, ts[k]? = some s → s.u vals = vals k) : (frU3 ops a0 ts vals n).tmps[d]? = (stF ops a0 (fun _ => true) vals n).tmps[d]? := by
  induction n with
  | zero => rfl
  | succ n ih =>
    have ih' := ih fun k hk => h k (by omega)
    unfold frU3 stF
    simp only [if_true]
    by_cases hd : dstOf ops n = some d
    · rw [hd, put_slot, put_slot, frU3_size, stF_size]
      have := h n (by omega) hd
      cases hs : ts[n]? with
      | none => rfl
      | some s => simp only [this s hs]
    · rw [put_other _ _ _ _ hd, put_other _ _ _ _ hd, ih']

theorem walk3_all {ops : Array Oper} {A wr : List Nat} {a0 : Act} : ∀ (rest : List Oper) (ts : List Said3) (fr : (Nat → Value) → Act),
    (∀ vals, fr vals = frU3 ops a0 ts vals ts.length) → (∀ j, rest[j]? = ops[ts.length + j]?) →
    walk3 P ops A wr L M gs Q rest ts fr → ∃ all : List Said3, all.length = ts.length + rest.length ∧ (∀ k, k < ts.length → all[k]? = ts[k]?) ∧
      (∀ (i : Nat) (s : Said3), ts.length ≤ i → all[i]? = some s → Good3 A L M wr i s ∧ (s.known = false → lasts3 A wr i s.ends s.keeps = true) ∧ ∃ o, ops[i]? = some o ∧
        ∀ (vals : Nat → Value) w, ghosts A wr gs i w → dep3 A i (all.take i) vals w →
          if Region.wanted o (yielded ops (frU3 ops a0 all vals i).tmps) = true then Op P o (frU3 ops a0 all vals i) w (fun v w' => (wr.contains i = false → L w w') ∧ (wr.contains i = true → M i w w') ∧ s.t (upd vals i v) w') else s.t (upd vals i undef) w) ∧
      (∀ (vals : Nat → Value) w, ghostsEnd wr gs w → (∀ (i : Nat) (s : Said3), all[i]? = some s → s.ends = none → s.t vals w) → Q .normal (frU3 ops a0 all vals all.length) w) := by
  intro rest
  induction rest with
  | nil =>
    intro ts fr hfr _ hw
    refine ⟨ts, by simp, fun _ _ => rfl, fun i s hi hs => ?_, fun vals w hG hts => ?_⟩
    · rw [List.getElem?_eq_none hi] at hs; cases hs
    · rw [← hfr]; exact hw vals w hG hts
  | cons o rest ih =>
    intro ts fr hfr hops hw
    obtain ⟨s, hg, hla, hob, hrest⟩ := hw
    have ho : ops[ts.length]? = some o := by have := hops 0; simpa using this.symm
    have hd : dstOf ops ts.length = o.dst := by simp [dstOf, ho]
    obtain ⟨all, h1, h2, h3, h4⟩ := ih (ts ++ [s]) (fun vals => (fr vals).put o.dst (s.u vals)) (fun vals => by
        rw [List.length_append, List.length_singleton]
        unfold frU3
        rw [hd]
        have e1 : (ts ++ [s])[ts.length]? = some s := by simp
        have e2 : frU3 ops a0 (ts ++ [s]) vals ts.length = frU3 ops a0 ts vals ts.length := frU3_more _ fun k hk => List.getElem?_append_left hk
        rw [e1, hfr vals, e2])
      (fun j => by have := hops (j + 1); rw [List.length_append, List.length_singleton]; simpa [Nat.add_assoc, Nat.add_comm 1 j] using this) hrest
    rw [List.length_append, List.length_singleton] at h1 h2 h3
    have hlen : ts.length < all.length := by rw [h1]; omega
    have hk : ∀ k, k < ts.length → all[k]? = ts[k]? := fun k hk => by rw [h2 k (by omega)]; exact List.getElem?_append_left hk
    have hs : all[ts.length]? = some s := by rw [h2 ts.length (by omega)]; simp
    refine ⟨all, by rw [h1]; simp; omega, hk, fun i s' hi hs' => ?_, h4⟩
    by_cases hit : i = ts.length
    · subst hit
      rw [hs] at hs'
      injection hs' with hs'
      subst hs'
      refine ⟨hg, hla, o, ho, fun vals w hG hdep => ?_⟩
      have e : frU3 ops a0 all vals ts.length = fr vals := by rw [hfr vals]; exact frU3_more _ hk
      rw [e]
      refine hob vals w hG fun k s2 hs2 hb hst => hdep k s2 ?_ hb hst
      have hlt : k < ts.length := by
        rcases Nat.lt_or_ge k ts.length with h' | h'
        · exact h'
        · rw [List.getElem?_eq_none h'] at hs2; cases hs2
      rw [List.getElem?_take, if_pos hlt, hk _ hlt]
      exact hs2
    · exact h3 i s' (by omega) hs'

/-- The writers are operations of the region; what is looked at waits for what yields it. -/
theorem wp_region_tamg {ops : List Oper} (wr : List Nat) {id : Nat} {a0 : Act} {w0 : World} (hm : P.follows .mixedOrders = true) (htd : tidy ops.toArray = true) (hLr : ∀ w, L w w) (hMr : ∀ i w, M i w w)
    (hgs : ∀ (k : Nat) (g : Ghost), gs[k]? = some g → g.g w0.drew ∧ (∀ w w', L w w' → g.g w → g.g w') ∧ ∀ j, wr.contains j = true → g.keeps.contains j = true → ∀ w w', M j w w' → g.g w → g.g w')
    (h : walk3 P ops.toArray (ancs ops []) wr L M gs Q ops [] (fun _ => a0)) : (Code.region id ops.toArray true).wp P Q a0 w0 := by
  obtain ⟨all, h1, _, h3, h4⟩ := walk3_all (a0 := a0) ops [] (fun _ => a0) (fun _ => rfl) (fun j => by simp) h
  have htid := tidy_spec htd
  have hmask : Masks ops.toArray (ancs ops []) := masks_all htid ops [] (fun j => by simp) ⟨fun ls _ i j hb => by simp [List.getD] at hb, fun i j hb => by simp [List.getD] at hb⟩
  have hsz : all.length = ops.toArray.size := by simpa using h1
  have sd : ∀ i, i < ops.toArray.size → ∃ s, all[i]? = some s := fun i hi => ⟨all[i]'(by omega), List.getElem?_eq_getElem (by omega)⟩
  let ts : Nat → (Nat → Value) → World → Prop := fun i vals w => ∀ s, all[i]? = some s → s.t vals w
  let pu : Nat → Bool := fun i => match all[i]? with | some s => s.known | none => true
  let ex : Nat → Option Nat := fun i => match all[i]? with | some s => s.ends | none => none
  let bef : Nat → Nat → Prop := fun j i => ((ancs ops []).getD i 0).testBit j = true
  let G : Nat → World → Prop := fun k w => ∀ g, gs[k]? = some g → g.g w
  let gk : Nat → Nat → Bool := fun k j => match gs[k]? with | some g => g.keeps.contains j | none => true
  let kp : Nat → Nat → Bool := fun i j => match all[i]? with | some s => s.keeps.contains j | none => true
  have hh0 : ∀ k, (Array.replicate ops.toArray.size false).getD k false = false := by
    intro k
    simp [Array.getD]
  refine wp_region_any hm ?_
  have hrun := run3 (P := P) (ops := ops.toArray) (a0 := a0) (L := L) (M := M) (G := G) (gk := gk) (kp := kp) (ts := ts) (Q := Q) (pure_ := pu) (wr := fun j => wr.contains j) (ex := ex) (bef := bef) htid hLr hMr
    (fun i j hp hj hk v w w' hm ht s hs => (h3 i s (by simp) hs).1.2.2.2.2.1 (by simp only [pu, hs] at hp; exact hp) j hj (by simp only [kp, hs] at hk; exact hk) v w w' hm (ht s hs))
    (fun k vals vals' w hj ht s hs => (h3 k s (by simp) hs).1.2.2.2.2.2 vals vals' w hj (ht s hs))
    (fun k w w' hl hg g hgk => (hgs k g hgk).2.1 w w' hl (hg g hgk))
    (fun k j hj hk w w' hm hg g hgk => (hgs k g hgk).2.2 j hj (by simp only [gk, hgk] at hk; exact hk) w w' hm (hg g hgk))
    (fun i hp v w w' hl ht s hs => (h3 i s (by simp) hs).1.1 (by have : pu i = s.known := by simp only [pu, hs]
                                                                 rw [← this]; exact hp) v w w' hl (ht s hs))
    (fun i hp v w w' ht s hs => ((h3 i s (by simp) hs).1.2.1 (by have : pu i = s.known := by simp only [pu, hs]
                                                                 rw [← this]; exact hp)) v w w' (ht s hs))
    (fun ls hd i j hb hi => hmask.down ls hd i j hb hi) (fun i j hb => hmask.less i j hb)
    (fun k hk hp j hj hjk => by
      obtain ⟨s, hs⟩ := sd k hk
      have e1 : pu k = s.known := by simp only [pu, hs]
      have e2 : ex k = s.ends := by simp only [ex, hs]
      have hla := (h3 k s (by simp) hs).2.1 (by rw [← e1]; exact hp)
      have e3 : kp k j = s.keeps.contains j := by simp only [kp, hs]
      have := List.all_eq_true.1 hla j (by simpa using hj)
      simp only [Bool.or_eq_true, beq_iff_eq] at this
      rcases this with ((h' | h') | h') | h'
      · exact .inl (e3.trans h')
      · exact absurd h' hjk
      · exact .inr (.inl h')
      · rw [e2]
        cases hx : s.ends with
        | none => rw [hx] at h'; cases h'
        | some x =>
          rw [hx] at h'
          simp only [Bool.or_eq_true, beq_iff_eq] at h'
          exact .inr (.inr ⟨x, rfl, h'⟩))
    (by
      intro i o ho vals w hG hdep
      have hi : i < ops.toArray.size := (Array.getElem?_eq_some_iff.1 ho).1
      obtain ⟨s, hs⟩ := sd i hi
      obtain ⟨hg, _, o', ho', hob⟩ := h3 i s (by simp) hs
      rw [ho] at ho'
      injection ho' with ho'
      subst ho'
      have hdep' : ∀ k s2, all[k]? = some s2 → bef k i → still (ancs ops []) i s2.ends = true → s2.t vals w := by
        intro k s2 hs2 hb hst
        refine hdep k hb (fun x hx => ?_) s2 hs2
        have e2 : ex k = s2.ends := by simp only [ex, hs2]
        rw [e2] at hx
        unfold still at hst
        rw [hx] at hst
        simpa only [Bool.or_eq_true, beq_iff_eq] using hst
      have hob := hob vals w (fun k g hgk hsp => hG k (fun j hj => by
        have e : gk k j = g.keeps.contains j := by simp only [gk, hgk]
        have := List.all_eq_true.1 hsp j (by simpa using hj)
        simp only [Bool.or_eq_true, beq_iff_eq] at this
        rcases this with (h' | h') | h'
        · exact .inl (e.trans h')
        · exact .inr (.inl h')
        · exact .inr (.inr h')) g hgk) fun k s2 hs2 hb hst => hdep' k s2 (by
        rw [List.getElem?_take] at hs2
        split at hs2
        · exact hs2
        · cases hs2) hb hst
      have hagree : ∀ d ∈ o.looksAt ops.toArray, (stF ops.toArray a0 (fun _ => true) vals i).tmps[d]? = (frU3 ops.toArray a0 all vals i).tmps[d]? := by
        intro d hd
        refine (frU3_slot d i fun k hk hdk s2 hs2 => ?_).symm
        have hg2 := (h3 k s2 (by simp) hs2).1
        rcases hg2.2.2.2 with hend | hu
        · rcases htid.looks i o ho d hd k hdk with rfl | ⟨e, he, hb, rfl⟩ | ⟨hik, _⟩
          · omega
          · refine hg2.2.2.1 vals w (hdep' e.on s2 hs2 ?_ (by rw [hend]; rfl))
            -- a direct edge is in the mask
            exact direct ops [] (fun j => by simp) i o ho e he hb (by simp)
          · omega
        · exact hu vals
      have hsel : ∀ cs b, o.op ≠ .select cs b := fun cs b => htid.noSel i o cs b ho
      have hwe := wanted_agree (ops := ops.toArray) hagree
      by_cases hw : Region.wanted o (yielded ops.toArray (frU3 ops.toArray a0 all vals i).tmps) = true
      · rw [if_pos hw] at hob
        rw [if_pos (hwe.trans hw)]
        unfold Op at hob ⊢
        rw [exec_agree hsel hagree]
        have key : ∀ r : Result Next, upon P (fun v w' => (wr.contains i = false → L w w') ∧ (wr.contains i = true → M i w w') ∧ s.t (upd vals i v) w') r → upon P (fun v w' => (wr.contains i = false → L w w') ∧ (wr.contains i = true → M i w w') ∧ ts i (upd vals i v) w') r := by
          intro r hr
          have conv : ∀ v w', ((wr.contains i = false → L w w') ∧ (wr.contains i = true → M i w w') ∧ s.t (upd vals i v) w') → ((wr.contains i = false → L w w') ∧ (wr.contains i = true → M i w w') ∧ ts i (upd vals i v) w') := fun v w' hh => ⟨hh.1, hh.2.1, fun s' hs' => by rw [hs] at hs'; injection hs' with hs'; subst hs'; exact hh.2.2⟩
          cases r with
          | ok n w' =>
            cases n <;> simp only [upon] at hr ⊢
            case value u => exact conv _ _ hr
            case skip => exact conv _ _ hr
            case enter f args => exact hr.mono fun e w'' ⟨v, he, hh⟩ => ⟨v, he, conv _ _ hh⟩
          | halt x w' => simp only [upon] at hr
        exact key _ hob
      · rw [if_neg hw] at hob
        rw [if_neg (fun h => hw (hwe.symm.trans h))]
        intro s' hs'
        rw [hs] at hs'
        injection hs' with hs'
        subst hs'
        exact hob)
    (by
      intro vals w hG hts
      have e : stF ops.toArray a0 (fun _ => true) vals ops.toArray.size = frU3 ops.toArray a0 all vals all.length := by
        rw [hsz]
        have hu : ∀ n, n ≤ ops.toArray.size → stF ops.toArray a0 (fun _ => true) vals n = frU3 ops.toArray a0 all vals n := by
          intro n
          induction n with
          | zero => intro _; rfl
          | succ n ih =>
            intro hn
            unfold stF frU3
            obtain ⟨s, hs⟩ := sd n (by omega)
            rw [ih (by omega), hs]
            simp only [if_true]
            have hg2 := (h3 n s (by simp) hs).1
            rcases hg2.2.2.2 with hend | hu
            · rw [hg2.2.2.1 vals w (hts n (by omega) (by simp only [ex, hs]; exact hend) s hs)]
            · rw [hu vals]
        exact hu _ (Nat.le_refl _)
      rw [e]
      refine h4 vals w (fun k g hgk hsp => hG k (fun j _ hj => by
        have e : gk k j = g.keeps.contains j := by simp only [gk, hgk]
        exact e.trans (List.all_eq_true.1 hsp j (by simpa using hj))) g hgk) fun i s hs hend => ?_
      have hi : i < ops.toArray.size := by
        rcases Nat.lt_or_ge i all.length with h' | h'
        · omega
        · rw [List.getElem?_eq_none h'] at hs; cases hs
      exact hts i hi (by simp only [ex, hs]; exact hend) s hs)
    ops.toArray.size (Array.replicate ops.toArray.size false) (fun _ => undef) w0.drew (by simp) (by rw [unl_all ops.toArray.size ops.toArray.size (Nat.le_refl _)]; exact Nat.le_refl _)
    (fun k o e hk => by have hk' : (Array.replicate ops.toArray.size false).getD k false = true := hk
                        rw [hh0 k] at hk'; cases hk') (fun k _ g hgk => (hgs k g hgk).1) (fun k _ hk => by rw [hh0 k] at hk; cases hk)
  have e : stF ops.toArray a0 (fun k => (Array.replicate ops.toArray.size false).getD k false) (fun _ => undef) ops.toArray.size = a0 := by
    rw [stF_congr _ (fun k => decide (k < 0)) _ (fun _ => undef) ops.toArray.size fun k _ => ⟨by rw [hh0 k]; simp, fun _ => rfl⟩, stF_trunc _ 0 ops.toArray.size (by omega)]
    rfl
  rw [e] at hrun
  exact hrun
/-- One value, whatever the order; no writer. -/
theorem walk3_known {ops : Array Oper} {A wr : List Nat} {o : Oper} {rest : List Oper} {ts : List Said3} {fr : (Nat → Value) → Act} (hn : wr.contains ts.length = false)
    (hw : ∀ vals : Nat → Value, Region.wanted o (yielded ops (fr vals).tmps) = true)
    (h : ∃ c : Value, (∀ (vals : Nat → Value) w, ghosts A wr gs ts.length w → dep3 A ts.length ts vals w → Op P o (fr vals) w (Is L w c)) ∧
      walk3 P ops A wr L M gs Q rest (ts ++ [⟨fun vals _ => vals ts.length = c, fun _ => c, true, none, []⟩]) (fun vals => (fr vals).put o.dst c)) : walk3 P ops A wr L M gs Q (o :: rest) ts fr :=
  let ⟨c, h, hr⟩ := h
  ⟨⟨fun vals _ => vals ts.length = c, fun _ => c, true, none, []⟩, ⟨(fun h => by cases h), fun _ _ _ _ hh => hh, fun _ _ hh => hh.symm, .inl rfl, (fun h => by cases h), fun _ _ _ hc hh => (hc _ (.inl rfl)).symm.trans hh⟩, (fun h => by cases h),
    (fun vals w hG hd => by
      rw [if_pos (hw vals)]
      have := h vals w hG hd
      have hm : ∀ w w', wr.contains ts.length = true → M ts.length w w' := fun w w' hf => (by rw [hn] at hf; cases hf)
      unfold Op at this ⊢
      generalize (execOp (fr vals).eval o).run P w = r at this
      cases r with
      | ok n w' =>
        cases n <;> simp only [upon] at this ⊢
        case value u => exact ⟨fun _ => this.1, hm _ _, (upd_same _ _ _).trans this.2⟩
        case skip => exact ⟨fun _ => this.1, hm _ _, (upd_same _ _ _).trans this.2⟩
        case enter f args => exact this.mono fun e w'' ⟨v, he, hh⟩ => ⟨v, he, fun _ => hh.1, hm _ _, (upd_same _ _ _).trans hh.2⟩
      | halt x w' => simp only [upon] at this), hr⟩

/-- Some value, of which this lasts (till the writer 'ends', but for those that spare it); no writer itself. -/
theorem walk3_some {ops : Array Oper} {A wr : List Nat} {o : Oper} {rest : List Oper} {ts : List Said3} {fr : (Nat → Value) → Act} (t : TP) (ends : Option Nat) (keeps : List Nat) (hn : wr.contains ts.length = false)
    (hw : ∀ vals : Nat → Value, Region.wanted o (yielded ops (fr vals).tmps) = true) (hla : lasts3 A wr ts.length ends keeps = true)
    (hst : ∀ v w w', L w w' → t v w → t v w') (hsk : ∀ j, wr.contains j = true → keeps.contains j = true → ∀ v w w', M j w w' → t v w → t v w')
    (h : ∀ (vals : Nat → Value) w, ghosts A wr gs ts.length w → dep3 A ts.length ts vals w → Op P o (fr vals) w (Has L w t))
    (hr : walk3 P ops A wr L M gs Q rest (ts ++ [⟨fun vals => t (vals ts.length), fun vals => vals ts.length, false, ends, keeps⟩]) (fun vals => (fr vals).put o.dst (vals ts.length))) : walk3 P ops A wr L M gs Q (o :: rest) ts fr :=
  ⟨⟨fun vals => t (vals ts.length), fun vals => vals ts.length, false, ends, keeps⟩, ⟨fun _ vals => hst _, (fun h => by cases h), fun _ _ _ => rfl, .inr fun _ => rfl, fun _ j h1 h2 vals => hsk j h1 h2 _, fun vals vals' w hc hh => by
      have e := hc ts.length (.inl rfl)
      show t (vals' ts.length) w
      rw [← e]; exact hh⟩, fun _ => hla,
    (fun vals w hG hd => by
      rw [if_pos (hw vals)]
      have := h vals w hG hd
      have hm : ∀ w w', wr.contains ts.length = true → M ts.length w w' := fun w w' hf => (by rw [hn] at hf; cases hf)
      have hu : ∀ v w, t v w → t (upd vals ts.length v ts.length) w := fun v w ht => by rw [upd_same]; exact ht
      unfold Op at this ⊢
      generalize (execOp (fr vals).eval o).run P w = r at this
      cases r with
      | ok n w' =>
        cases n <;> simp only [upon] at this ⊢
        case value u => exact ⟨fun _ => this.1, hm _ _, hu _ _ this.2⟩
        case skip => exact ⟨fun _ => this.1, hm _ _, hu _ _ this.2⟩
        case enter f args => exact this.mono fun e w'' ⟨v, he, hh⟩ => ⟨v, he, fun _ => hh.1, hm _ _, hu _ _ hh.2⟩
      | halt x w' => simp only [upon] at this), hr⟩

/-- A writer that yields some value. -/
theorem walk3_write {ops : Array Oper} {A wr : List Nat} {o : Oper} {rest : List Oper} {ts : List Said3} {fr : (Nat → Value) → Act} (t : TP) (ends : Option Nat) (keeps : List Nat)
    (hw : ∀ vals : Nat → Value, Region.wanted o (yielded ops (fr vals).tmps) = true) (hla : lasts3 A wr ts.length ends keeps = true) (hin : wr.contains ts.length = true)
    (hst : ∀ v w w', L w w' → t v w → t v w') (hsk : ∀ j, wr.contains j = true → keeps.contains j = true → ∀ v w w', M j w w' → t v w → t v w')
    (h : ∀ (vals : Nat → Value) w, ghosts A wr gs ts.length w → dep3 A ts.length ts vals w → Op P o (fr vals) w (Leaves (M ts.length) w t))
    (hr : walk3 P ops A wr L M gs Q rest (ts ++ [⟨fun vals => t (vals ts.length), fun vals => vals ts.length, false, ends, keeps⟩]) (fun vals => (fr vals).put o.dst (vals ts.length))) : walk3 P ops A wr L M gs Q (o :: rest) ts fr :=
  ⟨⟨fun vals => t (vals ts.length), fun vals => vals ts.length, false, ends, keeps⟩, ⟨fun _ vals => hst _, (fun h => by cases h), fun _ _ _ => rfl, .inr fun _ => rfl, fun _ j h1 h2 vals => hsk j h1 h2 _, fun vals vals' w hc hh => by
      have e := hc ts.length (.inl rfl)
      show t (vals' ts.length) w
      rw [← e]; exact hh⟩, fun _ => hla,
    (fun vals w hG hd => by
      rw [if_pos (hw vals)]
      have := h vals w hG hd
      have hn : ∀ w w', wr.contains ts.length = false → L w w' := fun w w' hf => (by rw [hin] at hf; cases hf)
      have hu : ∀ v w, t v w → t (upd vals ts.length v ts.length) w := fun v w ht => by rw [upd_same]; exact ht
      unfold Op at this ⊢
      generalize (execOp (fr vals).eval o).run P w = r at this
      cases r with
      | ok n w' =>
        cases n <;> simp only [upon] at this ⊢
        case value u => exact ⟨hn _ _, fun _ => this.1, hu _ _ this.2⟩
        case skip => exact ⟨hn _ _, fun _ => this.1, hu _ _ this.2⟩
        case enter f args => exact this.mono fun e w'' ⟨v, he, hh⟩ => ⟨v, he, hn _ _, fun _ => hh.1, hu _ _ hh.2⟩
      | halt x w' => simp only [upon] at this), hr⟩

/-- A writer that yields nothing that is looked at; what it leaves may speak of the values of operations ahead of it. -/
theorem walk3_lays {ops : Array Oper} {A wr : List Nat} {o : Oper} {rest : List Oper} {ts : List Said3} {fr : (Nat → Value) → Act} (t : (Nat → Value) → World → Prop) (ends : Option Nat) (keeps looks : List Nat)
    (hw : ∀ vals : Nat → Value, Region.wanted o (yielded ops (fr vals).tmps) = true) (hla : lasts3 A wr ts.length ends keeps = true) (hin : wr.contains ts.length = true)
    (hlk : (looks.all fun j => (A.getD ts.length 0).testBit j && j != ts.length) = true) (hcg : ∀ (vals vals' : Nat → Value) w, (∀ j, looks.contains j = true → vals j = vals' j) → t vals w → t vals' w)
    (hst : ∀ vals w w', L w w' → t vals w → t vals w') (hsk : ∀ j, wr.contains j = true → keeps.contains j = true → ∀ vals w w', M j w w' → t vals w → t vals w')
    (h : ∀ (vals : Nat → Value) w, ghosts A wr gs ts.length w → dep3 A ts.length ts vals w → Op P o (fr vals) w (Leaves (M ts.length) w fun _ => t vals))
    (hr : walk3 P ops A wr L M gs Q rest (ts ++ [⟨t, fun vals => vals ts.length, false, ends, keeps⟩]) (fun vals => (fr vals).put o.dst (vals ts.length))) : walk3 P ops A wr L M gs Q (o :: rest) ts fr :=
  have hl : ∀ j, looks.contains j = true → (A.getD ts.length 0).testBit j = true ∧ j ≠ ts.length := fun j hj => by
    have := List.all_eq_true.1 hlk j (by simpa using hj)
    simpa using this
  ⟨⟨t, fun vals => vals ts.length, false, ends, keeps⟩, ⟨fun _ => hst, (fun h => by cases h), fun _ _ _ => rfl, .inr fun _ => rfl, fun _ => hsk, fun vals vals' w hc hh => hcg vals vals' w (fun j hj => hc j (.inr (hl j hj).1)) hh⟩, fun _ => hla,
    (fun vals w hG hd => by
      rw [if_pos (hw vals)]
      have := h vals w hG hd
      have hn : ∀ w w', wr.contains ts.length = false → L w w' := fun w w' hf => (by rw [hin] at hf; cases hf)
      have hu : ∀ v w, t vals w → t (upd vals ts.length v) w := fun v w ht => hcg vals _ w (fun j hj => (upd_other _ _ _ _ (hl j hj).2).symm) ht
      unfold Op at this ⊢
      generalize (execOp (fr vals).eval o).run P w = r at this
      cases r with
      | ok n w' =>
        cases n <;> simp only [upon] at this ⊢
        case value u => exact ⟨hn _ _, fun _ => this.1, hu _ _ this.2⟩
        case skip => exact ⟨hn _ _, fun _ => this.1, hu _ _ this.2⟩
        case enter f args => exact this.mono fun e w'' ⟨v, he, hh⟩ => ⟨v, he, hn _ _, fun _ => hh.1, hu _ _ hh.2⟩
      | halt x w' => simp only [upon] at this), hr⟩

theorem walk3_end {ops : Array Oper} {A wr : List Nat} {ts : List Said3} {fr : (Nat → Value) → Act} (h : ∀ (vals : Nat → Value) w, ghostsEnd wr gs w → (∀ (i : Nat) (s : Said3), ts[i]? = some s → s.ends = none → s.t vals w) → Q .normal (fr vals) w) :
    walk3 P ops A wr L M gs Q [] ts fr := h
end

end Go.Proofs.YtdabndiaflagpaaGreatDoor.Tame
namespace Go.Proofs.YtdabndiaflagpaaGreatDoor
open Go.RowKit

/-- append of one element of whatever size, onto a row of the call's own, as an operation of a drawn region. -/
theorem op_append {P : Program} {o : Oper} {a : Act} {w : World} {R : Value → World → Prop} (s x : Operand) (t : TypeId)
    (ho : o.op = .call { callee := .builtin .append, args := #[s, x], argTypes := #[t, t] })
    (B : Nat) (e : TypeId) (i : TypeInfo) (z : Value) (size bytes : Nat) (ht : P.underlying t = some (.slice e)) (hi : P.info? e = some i) (hz : i.zero = some z)
    (hsize : i.size = size) (hby : i.bytes = bytes) (hzs : z.cells.size = size) (hsz : 0 < size) (h64 : bytes ≤ 128)
    (v : Value) (n : Nat) (xs : List Value) (hs : a.eval s = v) (hown : w.ownsRow B e size v n xs) (g c : Nat) (e' : TypeId) (news : List Value) (hx : a.eval x = .slice (some ⟨g, 0, none⟩) 1 c) (hl : news.length = size) (hr : Row w g e' news.toArray)
    (h1 : ∀ u ∈ news, u.oneCell' = true) (hn : n ≤ 1099511627775) (hB : B ≤ w.heap.size)
    (h : ∀ v' w', w'.ownsRow B e size v' (n + 1) (xs ++ news) → w.grownBy w' v.ownBlock → (v'.ownBlock = v.ownBlock ∨ v'.ownBlock = some w.heap.size) → R v' w') : Tame.Op P o a w R := by
  have hb2 : (n + 1) * bytes ≤ 1099511627776 * 128 := Nat.mul_le_mul (by omega) h64
  obtain ⟨v', w', hrun, h2, h3, _, h5⟩ := run_append_own_at (P := P) w B t o.type e i z size bytes ht hi hz hsize hby hzs hsz v n xs hown ⟨g, 0, none⟩ 1 c news (by omega) (fun j u hu => by
      rw [addr_add, Nat.zero_add, hr.cell j, ← hu]; simp) h1 (by unfold maxLen; omega) (by omega) hB
  unfold Tame.Op execOp
  simp only [ho, resolve, invoke, builtin, Sem.run_bind, Sem.run_pure, Result.andThen_ok, List.map_toArray, List.map_cons, List.map_nil, hs, hx, hrun]
  exact h v' w' h2 h3 h5

/-- The cells of one expression. -/
def c5 (x : X) (A : Option Addr) (c : Nat) : List Value := [.int .i64 x.k, .int .i64 x.o, .int .i64 x.n, .string ⟨x.s.toArray⟩, .slice A x.ks.length c]
theorem c5_one (x : X) (A : Option Addr) (c : Nat) : ∀ u ∈ c5 x A c, u.oneCell' = true := by
  intro u hu
  simp only [c5, List.mem_cons, List.not_mem_nil, or_false] at hu
  rcases hu with rfl | rfl | rfl | rfl | rfl <;> rfl

/-- These cells are those of these expressions; all that they lead to lies in blocks of S. -/
def CX (w : World) (S : Nat → Prop) : List X → List Value → Prop
  | [], cs => cs = []
  | x :: xs, cs => ∃ A c rest, cs = c5 x A c ++ rest ∧ KS w S A x.ks ∧ CX w S xs rest

section
variable {w w' : World} {S S' : Nat → Prop}
theorem CX.move {xs : List X} : ∀ {cs : List Value}, CX w S xs cs → (∀ b, S b → S' b ∧ w'.heap[b]? = w.heap[b]?) → CX w' S' xs cs := by
  induction xs with
  | nil => intro cs h _; exact h
  | cons x xs ih =>
    intro cs h hm
    obtain ⟨A, c, rest, hc, hk, hr⟩ := h
    exact ⟨A, c, rest, hc, hk.move hm, ih hr hm⟩
theorem CX.snoc {xs : List X} {x : X} {A : Option Addr} {c : Nat} (hk : KS w S A x.ks) : ∀ {cs : List Value}, CX w S xs cs → CX w S (xs ++ [x]) (cs ++ c5 x A c) := by
  induction xs with
  | nil => intro cs h; subst h; exact ⟨A, c, [], by simp, hk, rfl⟩
  | cons y ys ih =>
    intro cs h
    obtain ⟨A', c', rest, hc, hk', hr⟩ := h
    exact ⟨A', c', rest ++ c5 x A c, by rw [hc, List.append_assoc], hk', ih hr⟩
theorem CX.ecs {g : Nat} (hg : S' g) (hS : ∀ b, S b → S' b) {xs : List X} : ∀ {cs : List Value} {off : Nat}, CX w S xs cs → (∀ (j : Nat) u, cs[j]? = some u → w.cell? ⟨g, off + j, none⟩ = some u) → ECs w S' xs g off := by
  induction xs with
  | nil => intro cs off _ _; unfold ECs; trivial
  | cons x xs ih =>
    intro cs off h hc
    obtain ⟨A, c, rest, rfl, hk, hr⟩ := h
    unfold ECs
    refine ⟨EC.mk' (c := c) hg ?_ ?_ ?_ ?_ ?_ (hk.move fun b hb => ⟨hS b hb, rfl⟩), ih hr fun j u hu => ?_⟩
    · simpa using hc 0 _ rfl
    · exact hc 1 _ rfl
    · exact hc 2 _ rfl
    · exact hc 3 _ rfl
    · exact hc 4 _ rfl
    · rw [show off + 5 + j = off + (5 + j) by omega]
      refine hc (5 + j) u ?_
      rw [List.getElem?_append_right (by simp [c5])]
      simpa [c5] using hu
end

/-- The value v is a slice of expressions of the call's own: its row lies from block B on, all else that it leads to in blocks of S. -/
def OwnX (w : World) (B : Nat) (S : Nat → Prop) (v : Value) (xs : List X) : Prop := ∃ cs, w.ownsRow B 46 5 v xs.length cs ∧ CX w S xs cs

theorem OwnX.nil (w : World) (B : Nat) (S : Nat → Prop) : OwnX w B S (.slice none 0 0) [] := ⟨[], World.ownsRow_nil w B 46 5, rfl⟩
theorem OwnX.form {w : World} {B : Nat} {S S' : Nat → Prop} {v : Value} {xs : List X} (h : OwnX w B S v xs) (hS : ∀ b, S b → S' b) (hg : ∀ k, v.ownBlock = some k → S' k) : ∃ A c, v = .slice A xs.length c ∧ KS w S' A xs := by
  obtain ⟨cs, ho, hx⟩ := h
  rcases ho.2 with ⟨rfl, hz⟩ | ⟨g, cap, cur, rfl, hb, hgg, hnc, hcm, hcs, htake⟩
  · exact ⟨none, 0, by rw [hz], .inl (List.eq_nil_of_length_eq_zero hz)⟩
  · refine ⟨_, _, rfl, .inr ⟨g, 0, rfl, CX.ecs (hg g rfl) hS hx fun j u hu => ?_⟩⟩
    have hj : j < xs.length * 5 := by
      have := ho.1
      rcases Nat.lt_or_ge j cs.length with h' | h'
      · omega
      · rw [List.getElem?_eq_none h'] at hu; cases hu
    rw [Nat.zero_add, World.ownsRow.cellAt ho j hj, hu]

end Go.Proofs.YtdabndiaflagpaaGreatDoor
namespace Go.Proofs.YtdabndiaflagpaaGreatDoor
open Go.RowKit
attribute [local go_sem] Tame.Op Tame.upon

theorem expr_info : (Tryz.prog.info? 46).map (fun i => (i.zero, i.size, i.bytes)) = some (some (.agg #[.int .i64 0, .int .i64 0, .int .i64 0, .string ⟨#[]⟩, .slice none 0 0]), 5, 64) := by kernel_rfl
theorem one_of {a j : Nat} (h : [a].contains j = true) : j = a := by simpa using h

/-- What Own hands back. -/
def OwnMade (w : World) (x : X) (e : Ending) (w' : World) : Prop := ∃ A c, e = .returned (ev x A c) ∧ KS w' (fun b => w.heap.size ≤ b ∧ b < w'.heap.size) A x.ks ∧ Below w.heap.size w w'

/-- The blocks from B on that there are, but for one. -/
def Sb (B : Nat) (r : Option Nat) (w : World) : Nat → Prop := fun b => B ≤ b ∧ b < w.heap.size ∧ some b ≠ r
/-- What the two writers leave: the append (9) turns the row r, the store (11) the struct in block p. -/
def Turn (p : Nat) (r : Option Nat) (j : Nat) (w w' : World) : Prop := w.grownBy w' (if j = 9 then r else some p)
theorem Turn.refl (p : Nat) (r : Option Nat) (j : Nat) (w : World) : Turn p r j w w := World.grownBy.refl w _
theorem Turn.store {p : Nat} {r : Option Nat} {w : World} {u : Value} : Turn p r 11 w (w.setCell ⟨p, 4, none⟩ u) := only_set (only_refl w p) 4 u
theorem Turn.keep {p B j : Nat} {r : Option Nat} {w w' : World} (h : Turn p r j w w') (hp : p < B) (b : Nat) (hb : Sb B r w b) : Sb B r w' b ∧ w'.heap[b]? = w.heap[b]? :=
  ⟨⟨hb.1, Nat.lt_of_lt_of_le hb.2.1 h.size, hb.2.2⟩, h.block b hb.2.1 (by
    split
    · exact hb.2.2
    · intro e; injection e with e; have := hb.1; omega)⟩
theorem later_keep {B : Nat} {r : Option Nat} {w w' : World} (h : Tame.Later w w') (b : Nat) (hb : Sb B r w b) : Sb B r w' b ∧ w'.heap[b]? = w.heap[b]? :=
  ⟨⟨hb.1, Nat.lt_of_lt_of_le hb.2.1 (Below.size h), hb.2.2⟩, Below.block h b hb.2.1⟩

/-- A copy of y, away from v's row. -/
def OwnVal (B : Nat) (v : Value) (y : X) (u : Value) (w : World) : Prop := ∃ A c, u = ev y A c ∧ KS w (Sb B v.ownBlock w) A y.ks
theorem OwnVal.later {B : Nat} {v u : Value} {y : X} {w w' : World} (h : OwnVal B v y u w) (hl : Tame.Later w w') : OwnVal B v y u w' := by
  obtain ⟨A, c, hv, hk⟩ := h
  exact ⟨A, c, hv, hk.move fun b hb => later_keep hl b hb⟩
theorem OwnVal.turn {p B j : Nat} {v u : Value} {y : X} {w w' : World} (hp : p < B) (h : OwnVal B v y u w) (hs : Turn p v.ownBlock j w w') : OwnVal B v y u w' := by
  obtain ⟨A, c, hv, hk⟩ := h
  exact ⟨A, c, hv, hk.move fun b hb => hs.keep hp b hb⟩
/-- A slice of one copy of y. -/
def NewVal (B : Nat) (v : Value) (y : X) (u : Value) (w : World) : Prop :=
  ∃ g A c, u = .slice (some ⟨g, 0, none⟩) 1 1 ∧ Row w g 46 (c5 y A c).toArray ∧ KS w (Sb B v.ownBlock w) A y.ks ∧ B ≤ g ∧ some g ≠ v.ownBlock
theorem NewVal.later {B : Nat} {v u : Value} {y : X} {w w' : World} (h : NewVal B v y u w) (hl : Tame.Later w w') : NewVal B v y u w' := by
  obtain ⟨g, A, c, hv, hr, hk, h1, h2⟩ := h
  exact ⟨g, A, c, hv, hr.below hl hr.lt, hk.move fun b hb => later_keep hl b hb, h1, h2⟩
theorem NewVal.turn {p B j : Nat} {v u : Value} {y : X} {w w' : World} (hp : p < B) (h : NewVal B v y u w) (hs : Turn p v.ownBlock j w w') : NewVal B v y u w' := by
  obtain ⟨g, A, c, hv, hr, hk, h1, h2⟩ := h
  exact ⟨g, A, c, hv, (hs.keep hp g ⟨h1, hr.lt, h2⟩).2.trans hr, hk.move fun b hb => hs.keep hp b hb, h1, h2⟩
/-- The row with the new one. -/
def Appended (B : Nat) (xs : List X) (u : Value) (w : World) : Prop := OwnX w B (Sb B u.ownBlock w) u xs
theorem OwnX.later {w w' : World} {B : Nat} {v : Value} {xs : List X} (h : OwnX w B (Sb B v.ownBlock w) v xs) (hl : Tame.Later w w') : OwnX w' B (Sb B v.ownBlock w') v xs := by
  obtain ⟨cs, ho, hx⟩ := h
  refine ⟨cs, ⟨ho.1, ?_⟩, hx.move fun b hb => later_keep hl b hb⟩
  rcases ho.2 with hn | ⟨g, cap, cur, rfl, hbg, hg, rest⟩
  · exact .inl hn
  · exact .inr ⟨g, cap, cur, rfl, hbg, (Below.block hl g (Array.getElem?_eq_some_iff.1 hg).1).trans hg, rest⟩
theorem Appended.later {B : Nat} {xs : List X} {u : Value} {w w' : World} (h : Appended B xs u w) (hl : Tame.Later w w') : Appended B xs u w' := OwnX.later h hl
theorem OwnX.far {w w' : World} {p B : Nat} {v : Value} {xs : List X} (h : OwnX w B (Sb B v.ownBlock w) v xs) (hp : p < B) (hs : w.grownBy w' (some p)) : OwnX w' B (Sb B v.ownBlock w') v xs := by
  obtain ⟨cs, ho, hx⟩ := h
  have hl := World.ownsRow.lt ho
  refine ⟨cs, ho.kept hs ?_, hx.move fun b hb => ⟨⟨hb.1, Nat.lt_of_lt_of_le hb.2.1 hs.size, hb.2.2⟩, hs.block b hb.2.1 (by intro e; injection e with e; have := hb.1; omega)⟩⟩
  cases hv : v.ownBlock with
  | none => exact .inl rfl
  | some q => exact .inr (by intro e; injection e with e; have := (hl q hv).1; omega)
theorem Appended.other {B p : Nat} {r : Option Nat} {xs : List X} {u : Value} {w w' : World} (hp : p < B) (h : Appended B xs u w) (hs : Turn p r 11 w w') : Appended B xs u w' := OwnX.far h hp hs
theorem Appended.form {B : Nat} {xs : List X} {u : Value} {w : World} (h : Appended B xs u w) : ∃ A c, u = .slice A xs.length c ∧ KS w (fun _ => True) A xs := OwnX.form h (fun _ _ => trivial) (fun _ _ => trivial)
theorem Appended.step {w w' : World} {p B j : Nat} {v v' : Value} {ks : List X} {y : X} {cs : List Value} {A : Option Addr} {c : Nat} (hy : ks[j]? = some y) (_ : w.ownsRow B 46 5 v (ks.take j).length cs) (hx : CX w (Sb B v.ownBlock w) (ks.take j) cs)
    (ho' : w'.ownsRow B 46 5 v' ((ks.take j).length + 1) (cs ++ c5 y A c)) (hgr : w.grownBy w' v.ownBlock) (hat : v'.ownBlock = v.ownBlock ∨ v'.ownBlock = some w.heap.size) (hk : KS w (Sb B v.ownBlock w) A y.ks) :
    Tame.Leaves (Turn p v.ownBlock 9) w (Appended B (ks.take (j + 1))) v' w' := by
  have hm : ∀ b, Sb B v.ownBlock w b → Sb B v'.ownBlock w' b ∧ w'.heap[b]? = w.heap[b]? := fun b hb => ⟨⟨hb.1, Nat.lt_of_lt_of_le hb.2.1 hgr.size, by
    rcases hat with h | h
    · rw [h]; exact hb.2.2
    · rw [h]; intro e; injection e with e; have := hb.2.1; omega⟩, hgr.block b hb.2.1 hb.2.2⟩
  refine ⟨hgr, cs ++ c5 y A c, ?_, ?_⟩
  · rw [take_succ hy, List.length_append]; exact ho'
  · rw [take_succ hy]; exact CX.snoc (hk.move hm) (hx.move hm)
/-- The struct with the new row. -/
def Laid (p : Nat) (k o n : Int) (s : T) (q : Nat) (vals : Nat → Value) (w : World) : Prop := Row w p 46 #[.int .i64 k, .int .i64 o, .int .i64 n, .string ⟨s.toArray⟩, vals q]
theorem Laid.later {p q : Nat} {k o n : Int} {s : T} {vals : Nat → Value} {w w' : World} (h : Laid p k o n s q vals w) (hl : Tame.Later w w') : Laid p k o n s q vals w' := Row.below h hl (Row.lt h)
theorem Laid.same {p q : Nat} {k o n : Int} {s : T} {vals vals' : Nat → Value} {w : World} (h : Laid p k o n s q vals w) (e : vals q = vals' q) : Laid p k o n s q vals' w := by unfold Laid; rw [← e]; exact h
theorem Laid.mk {p q : Nat} {k o n : Int} {s : T} {vals : Nat → Value} {w : World} {u : Value} (e : vals q = u) (h : Row w p 46 #[.int .i64 k, .int .i64 o, .int .i64 n, .string ⟨s.toArray⟩, u]) : Laid p k o n s q vals w := by unfold Laid; rw [e]; exact h

def Held (p : Nat) (k o n : Int) (s : T) (v : Value) (w : World) : Prop := Row w p 46 #[.int .i64 k, .int .i64 o, .int .i64 n, .string ⟨s.toArray⟩, v]
def ghostsOwn (H : Nat) (wr : World) (p : Nat) (k o n : Int) (s : T) (v : Value) (xs : List X) : List Tame.Ghost :=
  [⟨Below (H + 2) wr, [9, 11]⟩, ⟨Held p k o n s v, [9]⟩, ⟨fun w => OwnX w (H + 3) (Sb (H + 3) v.ownBlock w) v xs, []⟩]
theorem ghostsOwn_ok {H : Nat} {wr : World} {p : Nat} {k o n : Int} {s : T} {v : Value} {xs : List X} (hp : p = H + 2) (hsz : H + 3 ≤ wr.heap.size) (hv : ∀ q, v.ownBlock = some q → H + 3 ≤ q)
    (h1 : Held p k o n s v wr) (h2 : OwnX wr (H + 3) (Sb (H + 3) v.ownBlock wr) v xs) :
    ∀ (i : Nat) (g : Tame.Ghost), (ghostsOwn H wr p k o n s v xs)[i]? = some g → g.g wr.drew ∧ (∀ w w', Tame.Later w w' → g.g w → g.g w') ∧
      ∀ j, [9, 11].contains j = true → g.keeps.contains j = true → ∀ w w', Turn p v.ownBlock j w w' → g.g w → g.g w' := by
  intro i g hi
  rcases i with _ | _ | _ | i
  · obtain rfl : (⟨Below (H + 2) wr, [9, 11]⟩ : Tame.Ghost) = g := by simpa [ghostsOwn] using hi
    refine ⟨(Below.refl _ _).drew, fun a b hl h => h.trans (Below.mono hl (by have := h.size; omega)), fun j _ _ a b hs h => h.grown hs (by have := h.size; omega) (fun q hq => ?_)⟩
    split at hq
    · have := hv q hq; omega
    · injection hq with hq; omega
  · obtain rfl : (⟨Held p k o n s v, [9]⟩ : Tame.Ghost) = g := by simpa [ghostsOwn] using hi
    refine ⟨Row.drew h1, fun a b hl h => Row.below h hl (Row.lt h), fun j _ hj a b hs h => ?_⟩
    obtain rfl := one_of hj
    exact Row.grown h hs (by simp only [if_true]; intro e; have := hv p e.symm; omega)
  · obtain rfl : (⟨fun w => OwnX w (H + 3) (Sb (H + 3) v.ownBlock w) v xs, []⟩ : Tame.Ghost) = g := by simpa [ghostsOwn] using hi
    exact ⟨h2.later ((Below.refl _ _).drew), fun a b hl h => h.later hl, fun j _ hj => by cases hj⟩
  · simp [ghostsOwn] at hi

set_option maxRecDepth 100000 in
set_option maxHeartbeats 4000000 in
theorem Own_any (N : Nat) : ∀ (x : X) (A : Option Addr) (c : Nat) (w : World) (S : Nat → Prop), x.size ≤ N → N ≤ 1099511627775 → KS w S A x.ks → (∀ b, S b → b < w.heap.size) →
    Calls Tryz.prog 12 #[ev x A c] w (OwnMade w x) := by
  obtain ⟨i0, hi0, hz0, hz1, hz2⟩ := info_parts expr_info
  induction N with
  | zero => intro x A c w S h; have := x.size_pos; omega
  | succ N ih =>
    intro x A c w S hN hM hk hS
    obtain ⟨k, o, n, s, ks⟩ := x
    simp only [X.size, X.ks, ev, X.k, X.o, X.n, X.s] at hN hk ⊢
    have hlen := X.sizes_length ks
    have HK := Lib.hid hk
    clear hk
    go_enter Tryz.func12, Tryz.ntmps12
    go_wp2_with fail
    go_loopw [4] (fun i wr => ∃ (j : Nat) (v : Value), j ≤ ks.length ∧ i = .int .i64 j ∧ Row wr w.heap.size 52 #[.int .i64 k, .int .i64 o, .int .i64 n, .string ⟨s.toArray⟩, .slice A ks.length c] ∧ Row wr (w.heap.size + 1) 46 #[.int .i64 0, .int .i64 0, .int .i64 0, .string ⟨#[]⟩, .slice none 0 0] ∧
        Held (w.heap.size + 2) k o n s v wr ∧ OwnX wr (w.heap.size + 3) (Sb (w.heap.size + 3) v.ownBlock wr) v (ks.take j) ∧ Below w.heap.size w wr ∧ w.heap.size + 3 ≤ wr.heap.size)
      (fun i _ => ks.length - (intOf i).toNat)
    case atStart =>
      refine ⟨0, .slice none 0 0, by omega, rfl, ?_, ?_, ?_, OwnX.nil _ _ _, ?_, by simp⟩
      · exact ((Row.made w 52 _).alloc _).alloc _
      · have := (Row.made (w.alloc (.cells #[.int .i64 k, .int .i64 o, .int .i64 n, .string ⟨s.toArray⟩, .slice A ks.length c] 52)) 46 #[.int .i64 0, .int .i64 0, .int .i64 0, .string ⟨#[]⟩, .slice none 0 0])
        rw [World.size_alloc] at this
        exact this.alloc _
      · have := (Row.made ((w.alloc (.cells #[.int .i64 k, .int .i64 o, .int .i64 n, .string ⟨s.toArray⟩, .slice A ks.length c] 52)).alloc (.cells #[.int .i64 0, .int .i64 0, .int .i64 0, .string ⟨#[]⟩, .slice none 0 0] 46)) 46 #[.int .i64 k, .int .i64 o, .int .i64 n, .string ⟨s.toArray⟩, .slice none 0 0])
        rw [World.size_alloc, World.size_alloc] at this
        exact this
      · exact (((Below.refl _ _).alloc (Nat.le_refl _) _).alloc (by simp) _).alloc (by simp; omega) _
    case round =>
      obtain ⟨j, v, hj, rfl, hr, hr1, hh, ho, hbw, hsz⟩ := hrel
      by_cases hlt : j < ks.length
      · obtain ⟨y, hy⟩ : ∃ y, ks[j]? = some y := ⟨_, List.getElem?_eq_getElem hlt⟩
        obtain ⟨b, off, A', c', rfl, d0, d1, d2, d3, d4, hk', hbl⟩ := HK.out.kid_at hS hbw hy
        have c4 := hr.cell 4
        simp at c4
        have HR := Lib.hid hr
        have HR1 := Lib.hid hr1
        have HH := Lib.hid hh
        have HO := Lib.hid ho
        have HBW := Lib.hid hbw
        have HY := Lib.hid hy
        have D0 := Lib.hid d0
        have D1 := Lib.hid d1
        have D2 := Lib.hid d2
        have D3 := Lib.hid d3
        have D4 := Lib.hid d4
        have HV : Hid (∀ q, v.ownBlock = some q → w.heap.size + 3 ≤ q ∧ q < wr.heap.size) := by obtain ⟨cs, h1, _⟩ := ho; exact fun q hq => World.ownsRow.lt h1 q hq
        have hws := hbw.size
        have HC0 : Hid (∀ w2, Below (w.heap.size + 2) wr w2 → Calls Tryz.prog 12 #[.agg #[.int .i64 y.k, .int .i64 y.o, .int .i64 y.n, .string ⟨y.s.toArray⟩, .slice A' y.ks.length c']] w2 (OwnMade w2 y)) :=
          fun w2 hb2 => ih y A' c' w2 S (by have := X.sizes_at hy; omega) (by omega) (hk'.move fun q hq => ⟨hq, hb2.block q (by have := hS q hq; omega)⟩) (fun q hq => by have := hS q hq; have := hb2.size; omega)
        clear hr hr1 hh ho hbw hy d0 d1 d2 d3 d4 hk'
        go_wp2_with fail
        refine Tame.wp_region_tamg (L := Tame.Later) (M := Turn (w.heap.size + 2) v.ownBlock) (gs := ghostsOwn w.heap.size wr (w.heap.size + 2) k o n s v (ks.take j)) [9, 11] (by kernel_rfl) (by kernel_rfl) Tame.Later.refl (Turn.refl _ _) (ghostsOwn_ok rfl hsz (fun q hq => (HV.out q hq).1) HH.out HO.out) ?_
        repeat
          ((first
            | (refine Tame.walk3_known (o := ⟨some 22, _, _, _, _, _⟩) (by kernel_rfl) (fun _ => rfl) ?_; apply Exists.intro; refine ⟨fun vals w2 hG hd => ?_, ?_⟩; (focus (have hv := (hG 1 _ rfl (by kernel_rfl) : Row w2 (w.heap.size + 2) 46 #[.int .i64 k, .int .i64 o, .int .i64 n, .string ⟨s.toArray⟩, v]).cell 4; clear hG hd; simp at hv; go_simp; exact Tame.Is.mk (Tame.Later.refl _))))
            | (refine Tame.walk3_known (o := ⟨some 24, _, _, _, _, _⟩) (by kernel_rfl) (fun _ => rfl) ?_; apply Exists.intro; refine ⟨fun vals w2 hG hd => ?_, ?_⟩; (focus (have hv := (HR.out.below (hG 0 _ rfl (by kernel_rfl) : Below (w.heap.size + 2) wr w2) (by omega)).cell 4; clear hG hd; simp at hv; go_simp; exact Tame.Is.mk (Tame.Later.refl _))))
            | (refine Tame.walk3_known (o := ⟨some 27, _, _, _, _, _⟩) (by kernel_rfl) (fun _ => rfl) ?_; apply Exists.intro; refine ⟨fun vals w2 hG hd => ?_, ?_⟩; (focus (have hb2 := (hG 0 _ rfl (by kernel_rfl) : Below (w.heap.size + 2) wr w2); have f0 := (hb2.cell (p := ⟨b, off + j * 5, none⟩) (Nat.lt_of_lt_of_le hbl (Nat.le_add_right _ _))).trans D0.out; have f1 := (hb2.cell (p := ⟨b, off + j * 5 + 1, none⟩) (Nat.lt_of_lt_of_le hbl (Nat.le_add_right _ _))).trans D1.out; have f2 := (hb2.cell (p := ⟨b, off + j * 5 + 2, none⟩) (Nat.lt_of_lt_of_le hbl (Nat.le_add_right _ _))).trans D2.out; have f3 := (hb2.cell (p := ⟨b, off + j * 5 + 3, none⟩) (Nat.lt_of_lt_of_le hbl (Nat.le_add_right _ _))).trans D3.out; have f4 := (hb2.cell (p := ⟨b, off + j * 5 + 4, none⟩) (Nat.lt_of_lt_of_le hbl (Nat.le_add_right _ _))).trans D4.out; clear hG hd hb2; go_simp; exact Tame.Is.mk (Tame.Later.refl _))))
            | (refine Tame.walk3_some (o := ⟨some 28, _, _, _, _, _⟩) (OwnVal (w.heap.size + 3) v y) (none) ([9, 11]) (by kernel_rfl) (fun _ => rfl) (by kernel_rfl) (fun u a c hl h => h.later hl) (fun i _ _ u a c hs h => h.turn (p := w.heap.size + 2) (by omega) hs) (fun vals w2 hG hd => ?_) ?_; (focus (have hb2 := (hG 0 _ rfl (by kernel_rfl) : Below (w.heap.size + 2) wr w2); have hzz := hb2.size; have HC := Lib.hid (HC0.out w2 hb2); clear hG hd; go_simp; refine HC.out.mono ?_; rintro e w' ⟨A1, c1, rfl, hk1, hb1⟩; exact ⟨_, rfl, hb1, A1, c1, rfl, hk1.move fun q hq => ⟨⟨by omega, hq.2, fun e => by have := HV.out q e.symm; omega⟩, rfl⟩⟩)))
            | (refine Tame.walk3_some (o := ⟨some 29, _, _, _, _, _⟩) (NewVal (w.heap.size + 3) v y) (none) ([9, 11]) (by kernel_rfl) (fun _ => rfl) (by kernel_rfl) (fun u a c hl h => h.later hl) (fun i _ _ u a c hs h => h.turn (p := w.heap.size + 2) (by omega) hs) (fun vals w2 hG hd => ?_) ?_; (focus (have hb2 := (hG 0 _ rfl (by kernel_rfl) : Below (w.heap.size + 2) wr w2); have hzz := hb2.size; have h1 := (hd 7 _ rfl (by kernel_rfl) rfl : OwnVal (w.heap.size + 3) v y (vals 7) w2); clear hG hd; obtain ⟨A1, c1, hv1, hk1⟩ := h1; unfold ev at hv1; have HK1 := Lib.hid hk1; clear hk1; go_simp; exact Tame.Has.mk ((Below.refl _ _).alloc (Nat.le_refl _) _) ⟨w2.heap.size, A1, c1, rfl, Row.made _ _ _, (HK1.out.move fun q hq => ⟨⟨hq.1, by have := hq.2.1; simp; omega, hq.2.2⟩, Below.heap_alloc _ _ _ hq.2.1⟩), by omega, fun e => by have := HV.out _ e.symm; omega⟩)))
            | (refine Tame.walk3_write (o := ⟨some 30, _, _, _, _, _⟩) (Appended (w.heap.size + 3) (ks.take (j + 1))) (none) ([11]) (fun _ => rfl) (by kernel_rfl) (by kernel_rfl) (fun u a c hl h => h.later hl) (fun i _ hj u a c hs h => h.other (p := w.heap.size + 2) (r := v.ownBlock) (by omega) (by have := one_of hj; subst this; exact hs)) (fun vals w2 hG hd => ?_) ?_; (focus (have hb2 := (hG 0 _ rfl (by kernel_rfl) : Below (w.heap.size + 2) wr w2); have hzz := hb2.size; have h1 := (hd 8 _ rfl (by kernel_rfl) rfl : NewVal (w.heap.size + 3) v y (vals 8) w2); have h2 := (hG 2 _ rfl (by kernel_rfl) : OwnX w2 (w.heap.size + 3) (Sb (w.heap.size + 3) v.ownBlock w2) v (ks.take j)); clear hG hd; obtain ⟨g1, A1, c1, hv1, hr1, hk1, hg1, hg2⟩ := h1; obtain ⟨cs, ho, hx⟩ := h2; exact op_append (.tmp 22) (.tmp 29) _ rfl (w.heap.size + 3) 46 i0 _ 5 64 Tryz.underlying44 hi0 hz0 hz1 hz2 rfl (by omega) (by omega) v _ cs rfl ho g1 1 46 (c5 y A1 c1) hv1 rfl hr1 (c5_one _ _ _) (by simp; omega) (by omega) (fun v' w' ho' hgr hat => Appended.step HY.out ho hx ho' hgr hat hk1))))
            | (refine Tame.walk3_lays (o := ⟨none, Op.store _ _ _, _, _, _, _⟩) (Laid (w.heap.size + 2) k o n s 9) none ([]) ([9]) (fun _ => rfl) (by kernel_rfl) (by kernel_rfl) (by kernel_rfl) (fun vals vals' w hh h => h.same (hh 9 (by decide))) (fun vals w w' hl h => h.later hl) (fun j hj hk => by cases hk) (fun vals w2 hG hd => ?_) ?_; (focus (have h1 := (hd 9 _ rfl (by kernel_rfl) (by kernel_rfl) : Appended (w.heap.size + 3) (ks.take (j + 1)) (vals 9) w2); have hr := (hG 1 _ rfl (by kernel_rfl) : Row w2 (w.heap.size + 2) 46 #[.int .i64 k, .int .i64 o, .int .i64 n, .string ⟨s.toArray⟩, v]); clear hG hd; obtain ⟨A1, c1, hv1, _⟩ := h1.form; rw [show (ks.take (j + 1)).length = j + 1 by simp; omega] at hv1; have HR1 := Lib.hid hr; have c4 := hr.cell 4; have f4 := hr.free 4; simp at c4; clear hr h1; go_simp; exact ⟨Turn.store, Laid.mk hv1 (HR1.out.set 4 (.slice A1 (j + 1) c1))⟩)))
            | (refine Tame.walk3_known (by kernel_rfl) (fun _ => rfl) ?_; apply Exists.intro; refine ⟨fun vals w2 hG hd => ?_, ?_⟩; (focus (go_simp; first | exact Tame.Is.mk (Tame.Later.refl _) | (rw [if_neg]; (focus exact Tame.Is.mk (Tame.Later.refl _)); omega)))))
           simp only [Act.put, List.setIfInBounds_toArray, List.set_cons_zero, List.set_cons_succ, List.nil_append, List.cons_append, List.length_cons, List.length_nil, Nat.zero_add, Nat.reduceAdd])
        refine Tame.walk3_end fun vals w2 hG hts => ?_
        have f0 : Below (w.heap.size + 2) wr w2 := hG 0 _ rfl (by kernel_rfl)
        have f1 : Appended (w.heap.size + 3) (ks.take (j + 1)) (vals 9) w2 := hts 9 _ rfl rfl
        have f2 : Laid (w.heap.size + 2) k o n s 9 vals w2 := hts 11 _ rfl rfl
        have F0 := Lib.hid f0
        have F1 := Lib.hid f1
        have F2 := Lib.hid f2
        clear f0 f1 f2 hts hG
        go_wp2_with fail
        go_roundw
        case rel => exact ⟨j + 1, vals 9, by omega, by go_num, HR.out.below F0.out (by omega), HR1.out.below F0.out (by omega), F2.out, F1.out, HBW.out.trans (F0.out.mono (by omega)), Nat.le_trans hsz F0.out.size⟩
        case measure => simp [intOf]; omega
      · obtain rfl : j = ks.length := by omega
        have c4 := hr.cell 4
        have F2 := Lib.hid hh
        have g0 := (show Row wr (w.heap.size + 2) 46 _ from hh).cell
        have q0 := hr1.free
        have HBW := Lib.hid hbw
        have HR1 := Lib.hid hr1
        obtain ⟨A2, c2, rfl, hk2⟩ := ho.form (S' := fun b => w.heap.size + 3 ≤ b ∧ b < wr.heap.size) (fun b hb => ⟨hb.1, hb.2.1⟩) (fun q hq => by obtain ⟨cs, h1, _⟩ := ho; have := World.ownsRow.lt h1 q hq; omega)
        rw [List.take_length] at hk2 F2 g0
        have e0 := g0 0
        have e1 := g0 1
        have e2 := g0 2
        have e3 := g0 3
        have e4 := g0 4
        have r0 := hr1.cell 0
        have r1 := hr1.cell 1
        have r2 := hr1.cell 2
        have r3 := hr1.cell 3
        have r4 := hr1.cell 4
        simp at c4 e0 e1 e2 e3 e4 r0 r1 r2 r3 r4
        have HK2 := Lib.hid hk2
        clear hr hr1 hh ho hbw g0 hk2
        go_wp2_with fail
        have z := ((((HR1.out.set 0 (.int .i64 k)).set 1 (.int .i64 o)).set 2 (.int .i64 n)).set 3 (.string ⟨s.toArray⟩)).set 4 (.slice A2 ks.length c2)
        have hB5 : Below w.heap.size w (((((wr.setCell ⟨w.heap.size + 1, 0, none⟩ (.int .i64 k)).setCell ⟨w.heap.size + 1, 1, none⟩ (.int .i64 o)).setCell ⟨w.heap.size + 1, 2, none⟩ (.int .i64 n)).setCell ⟨w.heap.size + 1, 3, none⟩ (.string ⟨s.toArray⟩)).setCell ⟨w.heap.size + 1, 4, none⟩ (.slice A2 ks.length c2)) :=
          ((((HBW.out.setCell (p := ⟨w.heap.size + 1, 0, none⟩) (Nat.le_add_right _ _) _).setCell (p := ⟨w.heap.size + 1, 1, none⟩) (Nat.le_add_right _ _) _).setCell (p := ⟨w.heap.size + 1, 2, none⟩) (Nat.le_add_right _ _) _).setCell (p := ⟨w.heap.size + 1, 3, none⟩) (Nat.le_add_right _ _) _).setCell (p := ⟨w.heap.size + 1, 4, none⟩) (Nat.le_add_right _ _) _
        have hK5 : KS (((((wr.setCell ⟨w.heap.size + 1, 0, none⟩ (.int .i64 k)).setCell ⟨w.heap.size + 1, 1, none⟩ (.int .i64 o)).setCell ⟨w.heap.size + 1, 2, none⟩ (.int .i64 n)).setCell ⟨w.heap.size + 1, 3, none⟩ (.string ⟨s.toArray⟩)).setCell ⟨w.heap.size + 1, 4, none⟩ (.slice A2 ks.length c2)) (fun b => w.heap.size ≤ b ∧ b < wr.heap.size) A2 ks :=
          HK2.out.move fun b hb => ⟨⟨by have := hb.1; omega, hb.2⟩, by
            have hne : b ≠ w.heap.size + 1 := by have := hb.1; omega
            rw [Below.heap_setCell _ _ _ _ hne, Below.heap_setCell _ _ _ _ hne, Below.heap_setCell _ _ _ _ hne, Below.heap_setCell _ _ _ _ hne, Below.heap_setCell _ _ _ _ hne]⟩
        have hs5 : wr.heap.size ≤ (((((wr.setCell ⟨w.heap.size + 1, 0, none⟩ (.int .i64 k)).setCell ⟨w.heap.size + 1, 1, none⟩ (.int .i64 o)).setCell ⟨w.heap.size + 1, 2, none⟩ (.int .i64 n)).setCell ⟨w.heap.size + 1, 3, none⟩ (.string ⟨s.toArray⟩)).setCell ⟨w.heap.size + 1, 4, none⟩ (.slice A2 ks.length c2)).heap.size := by simp
        generalize ((((wr.setCell ⟨w.heap.size + 1, 0, none⟩ (.int .i64 k)).setCell ⟨w.heap.size + 1, 1, none⟩ (.int .i64 o)).setCell ⟨w.heap.size + 1, 2, none⟩ (.int .i64 n)).setCell ⟨w.heap.size + 1, 3, none⟩ (.string ⟨s.toArray⟩)).setCell ⟨w.heap.size + 1, 4, none⟩ (.slice A2 ks.length c2) = w5 at z hB5 hK5 hs5 ⊢
        have z0 := z.cell 0
        have z1 := z.cell 1
        have z2 := z.cell 2
        have z3 := z.cell 3
        have z4 := z.cell 4
        simp at z0 z1 z2 z3 z4
        exact bodyPost_ret (v := ev (.mk k o n s ks) A2 c2) (by simp [results, Tryz.results12, go_sem, z0, z1, z2, z3, z4, ev, X.k, X.o, X.n, X.s, X.ks]) rfl ⟨A2, c2, rfl, hK5.move fun b hb => ⟨⟨hb.1, by have := hb.2; omega⟩, rfl⟩, hB5⟩

end Go.Proofs.YtdabndiaflagpaaGreatDoor
namespace Go.Proofs.YtdabndiaflagpaaGreatDoor
open Go.RowKit

/-- What the cells of one thing are, and where they lead to. -/
abbrev Of (α : Type) := World → (Nat → Prop) → α → List Value → Prop
structure Lasts {α : Type} (R : Of α) (k : Nat) : Prop where
  move : ∀ {w w' : World} {S S' : Nat → Prop} {x : α} {cs : List Value}, R w S x cs → (∀ b, S b → S' b ∧ w'.heap[b]? = w.heap[b]?) → R w' S' x cs
  len : ∀ {w : World} {S : Nat → Prop} {x : α} {cs : List Value}, R w S x cs → cs.length = k
  one : ∀ {w : World} {S : Nat → Prop} {x : α} {cs : List Value}, R w S x cs → ∀ u ∈ cs, u.oneCell' = true

def CG {α : Type} (R : Of α) (w : World) (S : Nat → Prop) : List α → List Value → Prop
  | [], cs => cs = []
  | x :: xs, cs => ∃ c rest, cs = c ++ rest ∧ R w S x c ∧ CG R w S xs rest

section
variable {α : Type} {R : Of α} {k : Nat} {w w' : World} {S S' : Nat → Prop}
theorem CG.move (hl : Lasts R k) {xs : List α} : ∀ {cs : List Value}, CG R w S xs cs → (∀ b, S b → S' b ∧ w'.heap[b]? = w.heap[b]?) → CG R w' S' xs cs := by
  induction xs with
  | nil => intro cs h _; exact h
  | cons x xs ih =>
    intro cs h hm
    obtain ⟨c, rest, hc, hk, hr⟩ := h
    exact ⟨c, rest, hc, hl.move hk hm, ih hr hm⟩
theorem CG.snoc {xs : List α} {x : α} {c : List Value} (hk : R w S x c) : ∀ {cs : List Value}, CG R w S xs cs → CG R w S (xs ++ [x]) (cs ++ c) := by
  induction xs with
  | nil => intro cs h; subst h; exact ⟨c, [], by simp, hk, rfl⟩
  | cons y ys ih =>
    intro cs h
    obtain ⟨c', rest, hc, hk', hr⟩ := h
    exact ⟨c', rest ++ c, by rw [hc, List.append_assoc], hk', ih hr⟩
theorem CG.at (hl : Lasts R k) {xs : List α} {i : Nat} {x : α} : ∀ {cs : List Value}, CG R w S xs cs → xs[i]? = some x → ∃ c, R w S x c ∧ ∀ (j : Nat) u, c[j]? = some u → cs[i * k + j]? = some u := by
  induction xs generalizing i with
  | nil => intro cs _ hi; simp at hi
  | cons y ys ih =>
    intro cs h hi
    obtain ⟨c', rest, rfl, hk', hr⟩ := h
    have hlen := hl.len hk'
    cases i with
    | zero =>
      simp at hi; subst hi
      exact ⟨c', hk', fun j u hu => by
        have hj : j < c'.length := by
          rcases Nat.lt_or_ge j c'.length with h' | h'
          · exact h'
          · rw [List.getElem?_eq_none h'] at hu; cases hu
        rw [Nat.zero_mul, Nat.zero_add, List.getElem?_append_left hj]; exact hu⟩
    | succ i =>
      simp at hi
      obtain ⟨c, hc, hat⟩ := ih hr hi
      exact ⟨c, hc, fun j u hu => by
        rw [show (i + 1) * k + j = c'.length + (i * k + j) by rw [hlen, Nat.add_mul]; omega, List.getElem?_append_right (by omega), Nat.add_sub_cancel_left]
        exact hat j u hu⟩
end

/-- The value v is a slice of such things, of the call's own: its row lies from block B on, all else that it leads to in blocks of S. -/
def OwnG {α : Type} (R : Of α) (e : TypeId) (k : Nat) (w : World) (B : Nat) (S : Nat → Prop) (v : Value) (xs : List α) : Prop := ∃ cs, w.ownsRow B e k v xs.length cs ∧ CG R w S xs cs

section
variable {α : Type} {R : Of α} {e : TypeId} {k : Nat} {w w' : World} {B : Nat} {v : Value} {xs : List α}
theorem OwnG.nil (R : Of α) (e : TypeId) (k : Nat) (w : World) (B : Nat) (S : Nat → Prop) : OwnG R e k w B S (.slice none 0 0) [] := ⟨[], World.ownsRow_nil w B e k, rfl⟩
theorem OwnG.lt {S : Nat → Prop} (h : OwnG R e k w B S v xs) : ∀ q, v.ownBlock = some q → B ≤ q ∧ q < w.heap.size := by obtain ⟨cs, ho, _⟩ := h; exact World.ownsRow.lt ho
/-- In memory. -/
theorem OwnG.form (hl : Lasts R k) {S S' : Nat → Prop} (h : OwnG R e k w B S v xs) (hS : ∀ b, S b → S' b) (hg : ∀ q cs, v.ownBlock = some q → Row w q e cs → S' q) :
    ∃ A c, v = .slice A xs.length c ∧ Rw (fun x b off => S' b ∧ ∃ cs, R w S' x cs ∧ ∀ (j : Nat) u, cs[j]? = some u → w.cell? ⟨b, off + j, none⟩ = some u) k A xs := by
  obtain ⟨cs, ho, hx⟩ := h
  rcases ho.2 with ⟨rfl, hz⟩ | ⟨g, cap, cur, rfl, hb, hgg, hnc, hcm, hcs, htake⟩
  · exact ⟨none, 0, by rw [hz], .inl (List.eq_nil_of_length_eq_zero hz)⟩
  · refine ⟨_, _, rfl, .inr ⟨g, 0, rfl, fun i x hi => ⟨hg g cur rfl hgg, ?_⟩⟩⟩
    obtain ⟨c, hc, hat⟩ := hx.at hl hi
    refine ⟨c, hl.move hc fun b hb => ⟨hS b hb, rfl⟩, fun j u hu => ?_⟩
    have h1 := hat j u hu
    have hlt : i * k + j < cs.length := by
      rcases Nat.lt_or_ge (i * k + j) cs.length with h' | h'
      · exact h'
      · rw [List.getElem?_eq_none h'] at h1; cases h1
    rw [Nat.zero_add, World.ownsRow.cellAt ho (i * k + j) (by have := ho.1; omega), h1]
theorem OwnG.later (hl : Lasts R k) (h : OwnG R e k w B (Sb B v.ownBlock w) v xs) (hb : Tame.Later w w') : OwnG R e k w' B (Sb B v.ownBlock w') v xs := by
  obtain ⟨cs, ho, hx⟩ := h
  refine ⟨cs, ⟨ho.1, ?_⟩, hx.move hl fun b hb' => later_keep hb b hb'⟩
  rcases ho.2 with hn | ⟨g, cap, cur, rfl, hbg, hg, rest⟩
  · exact .inl hn
  · exact .inr ⟨g, cap, cur, rfl, hbg, (Below.block hb g (Array.getElem?_eq_some_iff.1 hg).1).trans hg, rest⟩
theorem OwnG.far (hl : Lasts R k) {p : Nat} (h : OwnG R e k w B (Sb B v.ownBlock w) v xs) (hp : p < B) (hs : w.grownBy w' (some p)) : OwnG R e k w' B (Sb B v.ownBlock w') v xs := by
  obtain ⟨cs, ho, hx⟩ := h
  have hlt := World.ownsRow.lt ho
  refine ⟨cs, ho.kept hs ?_, hx.move hl fun b hb => ⟨⟨hb.1, Nat.lt_of_lt_of_le hb.2.1 hs.size, hb.2.2⟩, hs.block b hb.2.1 (by intro e; injection e with e; have := hb.1; omega)⟩⟩
  cases hv : v.ownBlock with
  | none => exact .inl rfl
  | some q => exact .inr (by intro e; injection e with e; have := (hlt q hv).1; omega)
/-- One more. -/
theorem OwnG.step (hl : Lasts R k) {v' : Value} {j : Nat} {y : α} {cs c : List Value} (hy : xs[j]? = some y) (hx : CG R w (Sb B v.ownBlock w) (xs.take j) cs)
    (ho' : w'.ownsRow B e k v' ((xs.take j).length + 1) (cs ++ c)) (hgr : w.grownBy w' v.ownBlock) (hat : v'.ownBlock = v.ownBlock ∨ v'.ownBlock = some w.heap.size) (hk : R w (Sb B v.ownBlock w) y c) :
    OwnG R e k w' B (Sb B v'.ownBlock w') v' (xs.take (j + 1)) := by
  have hm : ∀ b, Sb B v.ownBlock w b → Sb B v'.ownBlock w' b ∧ w'.heap[b]? = w.heap[b]? := fun b hb => ⟨⟨hb.1, Nat.lt_of_lt_of_le hb.2.1 hgr.size, by
    rcases hat with h | h
    · rw [h]; exact hb.2.2
    · rw [h]; intro e; injection e with e; have := hb.2.1; omega⟩, hgr.block b hb.2.1 hb.2.2⟩
  refine ⟨cs ++ c, ?_, ?_⟩
  · rw [take_succ hy, List.length_append]; exact ho'
  · rw [take_succ hy]; exact CG.snoc (hl.move hk hm) (hx.move hl hm)
end

/-! ### The kinds -/
def RV : Of Vr := fun _ _ v cs => cs = [.string ⟨v.name.toArray⟩, .int .i64 v.type]
def RQ : Of Q := fun w S q cs => ∃ A c A2 c2, cs = .slice A q.lhs.length c :: c5 q.rhs A2 c2 ∧ TS w S A q.lhs ∧ KS w S A2 q.rhs.ks ∧ q.lhs.length ≤ c
def RN : Of Nd := fun w S n cs => ∃ A1 c1 A2 c2 A3 c3 A4 c4, cs = [.string ⟨n.name.toArray⟩, .slice A1 n.ins.length c1, .slice A2 n.outs.length c2, .slice A3 n.locals.length c3, .slice A4 n.eqs.length c4] ∧ VS w S A1 n.ins ∧ VS w S A2 n.outs ∧ VS w S A3 n.locals ∧ QS w S A4 n.eqs
theorem lastsV : Lasts RV 2 := ⟨fun h _ => h, fun h => by rw [show _ = _ from h]; rfl, fun h u hu => by
  rw [show _ = _ from h] at hu
  simp only [List.mem_cons, List.not_mem_nil, or_false] at hu
  rcases hu with rfl | rfl <;> rfl⟩
theorem lastsQ : Lasts RQ 6 := ⟨fun ⟨A, c, A2, c2, h, h1, h2, h3⟩ hm => ⟨A, c, A2, c2, h, h1.move hm, h2.move hm, h3⟩, fun ⟨A, c, A2, c2, h, _⟩ => by rw [h]; rfl, fun ⟨A, c, A2, c2, h, _⟩ u hu => by
  rw [h] at hu
  rcases List.mem_cons.1 hu with rfl | hu
  · rfl
  · exact c5_one _ _ _ u hu⟩
theorem lastsN : Lasts RN 5 := ⟨fun ⟨A1, c1, A2, c2, A3, c3, A4, c4, h, h1, h2, h3, h4⟩ hm => ⟨A1, c1, A2, c2, A3, c3, A4, c4, h, h1.move hm, h2.move hm, h3.move hm, h4.move hm⟩, fun ⟨A1, c1, A2, c2, A3, c3, A4, c4, h, _⟩ => by rw [h]; rfl, fun ⟨A1, c1, A2, c2, A3, c3, A4, c4, h, _⟩ u hu => by
  rw [h] at hu
  simp only [List.mem_cons, List.not_mem_nil, or_false] at hu
  rcases hu with rfl | rfl | rfl | rfl | rfl <;> rfl⟩

theorem rv_vs {w : World} {S : Nat → Prop} {A : Option Addr} {xs : List Vr} (h : Rw (fun x b off => S b ∧ ∃ cs, RV w S x cs ∧ ∀ (j : Nat) u, cs[j]? = some u → w.cell? ⟨b, off + j, none⟩ = some u) 2 A xs) : VS w S A xs :=
  Rw.imp h fun x b off ⟨hb, cs, hc, hat⟩ => by
    have hc : cs = _ := hc
    subst hc
    exact ⟨hb, hat 0 _ rfl, hat 1 _ rfl⟩
theorem rq_qs {w : World} {S : Nat → Prop} {A : Option Addr} {xs : List Q} (h : Rw (fun x b off => S b ∧ ∃ cs, RQ w S x cs ∧ ∀ (j : Nat) u, cs[j]? = some u → w.cell? ⟨b, off + j, none⟩ = some u) 6 A xs) : QS w S A xs :=
  Rw.imp h fun x b off ⟨hb, cs, ⟨A1, c1, A2, c2, hc, h1, h2, h3⟩, hat⟩ => by
    subst hc
    exact ⟨hb, ⟨A1, c1, hat 0 _ rfl, h1, h3⟩, EC.mk' hb (hat 1 _ rfl) (hat 2 _ rfl) (hat 3 _ rfl) (hat 4 _ rfl) (hat 5 _ rfl) h2⟩
theorem rn_ns {w : World} {S : Nat → Prop} {A : Option Addr} {xs : List Nd} (h : Rw (fun x b off => S b ∧ ∃ cs, RN w S x cs ∧ ∀ (j : Nat) u, cs[j]? = some u → w.cell? ⟨b, off + j, none⟩ = some u) 5 A xs) : NS w S A xs :=
  Rw.imp h fun x b off ⟨hb, cs, ⟨A1, c1, A2, c2, A3, c3, A4, c4, hc, h1, h2, h3, h4⟩, hat⟩ => by
    subst hc
    exact ⟨hb, hat 0 _ rfl, ⟨A1, c1, hat 1 _ rfl, h1⟩, ⟨A2, c2, hat 2 _ rfl, h2⟩, ⟨A3, c3, hat 3 _ rfl, h3⟩, A4, c4, hat 4 _ rfl, h4⟩

end Go.Proofs.YtdabndiaflagpaaGreatDoor
