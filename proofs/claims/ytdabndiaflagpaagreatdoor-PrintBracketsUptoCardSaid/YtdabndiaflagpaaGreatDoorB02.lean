/- Parts: PsS, PsZ, PsZ5, PsC, PsM, PsN, PsG, PsH, PsO, PsE0. -/
import Derived.Test.YtdabndiaflagpaaGreatDoorB01
import Derived.Test.YtdabndiaflagpaaGreatDoorB00
import Derived.Test.YtdabndiaflagpaaGreatDoorB03
import Derived.Test.YtdabndiaflagpaaGreatDoorB04
import Derived.WalkLawsBesides
import Derived.Deep.LoopGhost
import Derived.Deep.DeepMust
import Derived.Lib.AppendZeros
import Derived.Deep.CutRange
set_option maxRecDepth 100000
set_option maxHeartbeats 4000000
set_option linter.unusedVariables false
namespace Go.Proofs.YtdabndiaflagpaaGreatDoor
open Go.RowKit

inductive Pr (α : Type) where
  | ok (x : α) (L : List Tk)
  | bad (c : Int) (a : Nat)
def Pr.bind {α β : Type} (r : Pr α) (f : α → List Tk → Pr β) : Pr β :=
  match r with
  | .ok x L => f x L
  | .bad c a => .bad c a

def hdT : List Tk → T | t :: _ => t.text | [] => []
def hdK : List Tk → Int | t :: _ => t.kind | [] => 0
def hdN : List Tk → Int | t :: _ => t.n | [] => 0
def hdF : List Tk → Nat | t :: _ => t.from_ | [] => 0
def failP {α : Type} (c : Int) (L : List Tk) : Pr α := .bad c (hdF L)
def isP (s : T) (L : List Tk) : Bool := decide (hdT L = s)
def mustP (s : T) (L : List Tk) : Pr Unit := if isP s L = true then .ok () L.tail else failP 2 L
def mustsP : List T → List Tk → Pr Unit
  | [], L => .ok () L
  | s :: ss, L => (mustP s L).bind fun _ L => mustsP ss L
def nmP (L : List Tk) : Pr T := if hdK L = 1 then .ok (hdT L) L.tail else failP 2 L

abbrev wIf : T := [105, 102]
abbrev wThen : T := [116, 104, 101, 110]
abbrev wElse : T := [101, 108, 115, 101]
abbrev wFalse : T := [102, 97, 108, 115, 101]
abbrev wTrue : T := [116, 114, 117, 101]
abbrev wNot : T := [110, 111, 116]
abbrev wPre : T := [112, 114, 101]
abbrev wNode : T := [110, 111, 100, 101]
abbrev wReturns : T := [114, 101, 116, 117, 114, 110, 115]
abbrev wVar : T := [118, 97, 114]
abbrev wLet : T := [108, 101, 116]
abbrev wTel : T := [116, 101, 108]
abbrev wInt : T := [105, 110, 116]
abbrev wBool : T := [98, 111, 111, 108]

def opsP : Nat → List (T × Int)
  | 0 => [([45, 62], 0)]
  | 1 => [([61, 62], 1)]
  | 2 => [([111, 114], 2), ([120, 111, 114], 3)]
  | 3 => [([97, 110, 100], 4)]
  | 4 => [([61], 5), ([60, 62], 6), ([60], 7), ([60, 61], 8), ([62], 9), ([62, 61], 10)]
  | 5 => [([43], 11), ([45], 12)]
  | 6 => [([42], 13), ([100, 105, 118], 14), ([109, 111, 100], 15)]
  | _ => []
def opP (n : Nat) (L : List Tk) : Option Int := ((opsP n).find? (fun p => isP p.1 L)).map (·.2)
def presL : List (T × Int) := [([45], 0), (wNot, 1), (wPre, 2)]
def preP (L : List Tk) : Option Int := (presL.find? (fun p => isP p.1 L)).map (·.2)
def leftB (n : Nat) : Bool := n == 2 || n == 3 || n == 5 || n == 6

/-- One more is open. -/
def openP {α : Type} (o : Nat) (L : List Tk) (f : List Tk → Pr α) : Pr α := if 400 ≤ o then failP 5 L else f L.tail

mutual
def exprP : Nat → List Tk → Nat → Pr X
  | 0, _, _ => .bad 99 0
  | f + 1, L, o => if isP wIf L = true then choiceP f L o else levelP f 0 L o
def choiceP : Nat → List Tk → Nat → Pr X
  | 0, _, _ => .bad 99 0
  | f + 1, L, o => openP o L fun L => (exprP f L (o + 1)).bind fun a L => (mustP wThen L).bind fun _ L => (exprP f L (o + 1)).bind fun b L => (mustP wElse L).bind fun _ L => (exprP f L (o + 1)).bind fun c L => .ok (.mk 5 0 0 [] [a, b, c]) L
def levelP : Nat → Nat → List Tk → Nat → Pr X
  | 0, _, _, _ => .bad 99 0
  | f + 1, n, L, o => if n = 7 then prefixP f L o else (levelP f (n + 1) L o).bind fun x L => restP f n x L o
def restP : Nat → Nat → X → List Tk → Nat → Pr X
  | 0, _, _, _, _ => .bad 99 0
  | f + 1, n, x, L, o =>
    match opP n L with
    | none => .ok x L
    | some op => (secondP f n L o).bind fun y L => if leftB n = true then restP f n (.mk 4 op 0 [] [x, y]) L o else .ok (.mk 4 op 0 [] [x, y]) L
def secondP : Nat → Nat → List Tk → Nat → Pr X
  | 0, _, _, _ => .bad 99 0
  | f + 1, n, L, o => if n < 2 then openP o L fun L => levelP f n L (o + 1) else levelP f (n + 1) L.tail o
def prefixP : Nat → List Tk → Nat → Pr X
  | 0, _, _ => .bad 99 0
  | f + 1, L, o =>
    match preP L with
    | some op => openP o L fun L => (prefixP f L (o + 1)).bind fun x L => .ok (.mk 3 op 0 [] [x]) L
    | none => atomP f L o
def atomP : Nat → List Tk → Nat → Pr X
  | 0, _, _ => .bad 99 0
  | f + 1, L, o =>
    if hdK L = 3 then .ok (.mk 0 0 (hdN L) [] []) L.tail
    else if isP wFalse L = true then .ok (.mk 1 0 0 [] []) L.tail
    else if isP wTrue L = true then .ok (.mk 1 0 1 [] []) L.tail
    else if hdK L = 1 then
      (if isP [40] L.tail = true then (operandsP f L.tail o).bind fun ks L' => .ok (.mk 6 0 0 (hdT L) ks) L' else .ok (.mk 2 0 0 (hdT L) []) L.tail)
    else bracketP f L o
def operandsP : Nat → List Tk → Nat → Pr (List X)
  | 0, _, _ => .bad 99 0
  | f + 1, L, o => openP o L fun L => (if isP [41] L = true then moreP f [] L (o + 1) else (exprP f L (o + 1)).bind fun x L => moreP f [x] L (o + 1)).bind fun ks L => (mustP [41] L).bind fun _ L => .ok ks L
def moreP : Nat → List X → List Tk → Nat → Pr (List X)
  | 0, _, _, _ => .bad 99 0
  | f + 1, acc, L, o => if isP [44] L = true then (if 1000 ≤ acc.length then failP 4 L.tail else (exprP f L.tail o).bind fun x L => moreP f (acc ++ [x]) L o) else .ok acc L
def bracketP : Nat → List Tk → Nat → Pr X
  | 0, _, _ => .bad 99 0
  | f + 1, L, o => if isP [40] L = true then openP o L fun L => (exprP f L (o + 1)).bind fun x L => (mustP [41] L).bind fun _ L => .ok x L else failP 2 L
end

/-! ### Lists and nodes -/
def entryP (n : Nat) (L : List Tk) : Pr T := if hdK L = 1 then (if 1000 ≤ n then failP 4 L else .ok (hdT L) L.tail) else failP 2 L
def namesF : Nat → Nat → List T → List Tk → Pr (List T)
  | 0, _, _, _ => .bad 99 0
  | f + 1, n, acc, L => if isP [44] L = true then (entryP (n + acc.length) L.tail).bind fun t L => namesF f n (acc ++ [t]) L else .ok acc L
def namesP (n : Nat) (L : List Tk) : Pr (List T) := (entryP n L).bind fun t L => namesF (L.length + 1) n [t] L
def typeP (L : List Tk) : Pr Int := if isP wInt L = true then .ok 0 L.tail else (mustP wBool L).bind fun _ L => .ok 1 L
def groupP (n : Nat) (L : List Tk) : Pr (List Vr) := (namesP n L).bind fun ts L => (mustP [58] L).bind fun _ L => (typeP L).bind fun ty L => .ok (ts.map fun t => ⟨t, ty⟩) L
def varsF : Nat → List Vr → List Tk → Pr (List Vr)
  | 0, _, _ => .bad 99 0
  | f + 1, acc, L => if isP [59] L = true then (groupP acc.length L.tail).bind fun vs L => varsF f (acc ++ vs) L else .ok acc L
def varsP (L : List Tk) : Pr (List Vr) := (groupP 0 L).bind fun vs L => varsF (L.length + 1) vs L
def localsF : Nat → List Vr → List Tk → Pr (List Vr)
  | 0, _, _ => .bad 99 0
  | f + 1, acc, L => if hdK L = 1 then (groupP acc.length L).bind fun vs L => (mustP [59] L).bind fun _ L => localsF f (acc ++ vs) L else .ok acc L
def localsP (L : List Tk) : Pr (List Vr) := (groupP 0 L).bind fun vs L => (mustP [59] L).bind fun _ L => localsF (L.length + 1) vs L
def leftP (L : List Tk) : Pr (List T) := if isP [40] L = true then (namesP 0 L.tail).bind fun ts L => (mustP [41] L).bind fun _ L => .ok ts L else (nmP L).bind fun t L => .ok [t] L
def fuelP (L : List Tk) : Nat := 16 * L.length + 16
def eqnP (L : List Tk) : Pr Q := (leftP L).bind fun ts L => (mustP [61] L).bind fun _ L0 => (exprP (fuelP L0) L0 0).bind fun x L => if 200 < x.depth then .bad 5 (hdF L0) else (mustP [59] L).bind fun _ L => .ok ⟨ts, x⟩ L
def eqsF : Nat → List Q → List Tk → Pr (List Q)
  | 0, _, _ => .bad 99 0
  | f + 1, acc, L => if hdK L = 1 ∨ isP [40] L = true then (if 1000 ≤ acc.length then failP 4 L else (eqnP L).bind fun q L => eqsF f (acc ++ [q]) L) else .ok acc L
def insP (L : List Tk) : Pr (List Vr) := if isP [41] L = true then .ok [] L else varsP L
def varP (L : List Tk) : Pr (List Vr) := if isP wVar L = true then localsP L.tail else .ok [] L
def nodeP (L : List Tk) : Pr Nd :=
  (mustP wNode L).bind fun _ L => (nmP L).bind fun nm L => (mustP [40] L).bind fun _ L => (insP L).bind fun ins L => (mustsP [[41], wReturns, [40]] L).bind fun _ L => (varsP L).bind fun outs L => (mustsP [[41], [59]] L).bind fun _ L =>
  (varP L).bind fun locals L => (mustP wLet L).bind fun _ L => (eqsF (L.length + 1) [] L).bind fun eqs L => (mustP wTel L).bind fun _ L => .ok ⟨nm, ins, outs, locals, eqs⟩ L
def progF : Nat → List Nd → List Tk → Pr (List Nd)
  | 0, _, _ => .bad 99 0
  | f + 1, acc, L => if isP wNode L = true then (if 1000 ≤ acc.length then failP 4 L else (nodeP L).bind fun n L => progF f (acc ++ [n]) L) else if hdK L = 0 then .ok acc L else failP 2 L
/-! ### Tokens as they come from a text -/
structure GoodTk (t : Tk) : Prop where
  kind_ : t.kind = 1 ∨ t.kind = 2 ∨ t.kind = 3 ∨ t.kind = 4
  text_ : t.text ≠ []
  name_ : t.kind = 1 → nameB t.text = true
  word_ : t.kind = 2 → wordB t.text = true
  num_ : t.kind = 3 → ∀ c ∈ t.text, dgt c = true
  numb_ : 0 ≤ t.n ∧ t.n ≤ 9223372036854775807
  sign_ : t.kind = 4 → t.text ∈ signsL
  len_ : t.text.length ≤ 1000000
def WFt : List Tk → Prop
  | [] => False
  | [e] => e.kind = 0 ∧ e.text = []
  | t :: r => GoodTk t ∧ WFt r
theorem WFt.ne {L : List Tk} (h : WFt L) : L ≠ [] := by rintro rfl; exact h
theorem WFt.cons {t u : Tk} {r : List Tk} : WFt (t :: u :: r) ↔ GoodTk t ∧ WFt (u :: r) := by simp [WFt]
/-- What has a text or a kind is not the end. -/
theorem WFt.pass {L : List Tk} (h : WFt L) (hn : hdT L ≠ [] ∨ hdK L ≠ 0) : ∃ t r, L = t :: r ∧ GoodTk t ∧ WFt r := by
  cases L with
  | nil => exact h.elim
  | cons t r =>
    cases r with
    | nil =>
      obtain ⟨h1, h2⟩ := h
      simp [hdT, hdK, h1, h2] at hn
    | cons u r =>
      obtain ⟨h1, h2⟩ := WFt.cons.1 h
      exact ⟨t, u :: r, rfl, h1, h2⟩
theorem isP_ne {s : T} {L : List Tk} (h : isP s L = true) (hs : s ≠ []) : hdT L ≠ [] := by
  have : hdT L = s := of_decide_eq_true h
  rw [this]; exact hs

/-- A shorter one, as good. -/
def Sh (L L' : List Tk) : Prop := WFt L' ∧ L'.length < L.length
def Shr {α : Type} (L : List Tk) (r : Pr α) : Prop := ∀ x L', r = .ok x L' → Sh L L'
/-- It may be that nothing is passed. -/
def She {α : Type} (L : List Tk) (r : Pr α) : Prop := ∀ x L', r = .ok x L' → WFt L' ∧ L'.length ≤ L.length
theorem Shr.she {α : Type} {L : List Tk} {r : Pr α} (h : Shr L r) : She L r := fun x L' e => ⟨(h x L' e).1, Nat.le_of_lt (h x L' e).2⟩
theorem Shr.bad {α : Type} (L : List Tk) (c : Int) (a : Nat) : Shr L (.bad c a : Pr α) := fun _ _ e => by cases e
theorem Shr.fail {α : Type} (L M : List Tk) (c : Int) : Shr L (failP c M : Pr α) := fun _ _ e => by cases e
theorem She.ok {α : Type} {L M : List Tk} {x : α} (h : WFt M) (hl : M.length ≤ L.length) : She L (.ok x M) := fun _ _ e => by injection e with _ e; subst e; exact ⟨h, hl⟩
theorem Shr.ok {α : Type} {L M : List Tk} {x : α} (h : WFt M) (hl : M.length < L.length) : Shr L (.ok x M) := fun _ _ e => by injection e with _ e; subst e; exact ⟨h, hl⟩
theorem Shr.bind {α β : Type} {L : List Tk} {r : Pr α} {f : α → List Tk → Pr β} (h : Shr L r) (hf : ∀ x L', r = .ok x L' → WFt L' → L'.length < L.length → She L' (f x L')) : Shr L (r.bind f) := by
  intro y L2 e
  cases r with
  | bad c a => cases e
  | ok x L' =>
    obtain ⟨h1, h2⟩ := h x L' rfl
    obtain ⟨h3, h4⟩ := hf x L' rfl h1 h2 y L2 e
    exact ⟨h3, by omega⟩
theorem She.bind {α β : Type} {L : List Tk} {r : Pr α} {f : α → List Tk → Pr β} (h : She L r) (hf : ∀ x L', r = .ok x L' → WFt L' → L'.length ≤ L.length → She L' (f x L')) : She L (r.bind f) := by
  intro y L2 e
  cases r with
  | bad c a => cases e
  | ok x L' =>
    obtain ⟨h1, h2⟩ := h x L' rfl
    obtain ⟨h3, h4⟩ := hf x L' rfl h1 h2 y L2 e
    exact ⟨h3, by omega⟩
theorem tail_sh {L : List Tk} (h : WFt L) (hn : hdT L ≠ [] ∨ hdK L ≠ 0) : WFt L.tail ∧ L.tail.length < L.length := by
  obtain ⟨t, r, rfl, _, h2⟩ := h.pass hn
  exact ⟨h2, by simp⟩
theorem is_sh {L : List Tk} {s : T} (h : WFt L) (hi : isP s L = true) (hs : s ≠ []) : WFt L.tail ∧ L.tail.length < L.length := tail_sh h (.inl (isP_ne hi hs))
theorem kind_sh {L : List Tk} {k : Int} (h : WFt L) (hk : hdK L = k) (h0 : k ≠ 0) : WFt L.tail ∧ L.tail.length < L.length := tail_sh h (.inr (by rw [hk]; exact h0))
theorem mustP_sh {L : List Tk} {s : T} (h : WFt L) (hs : s ≠ []) : Shr L (mustP s L) := by
  unfold mustP
  split
  · rename_i hi
    have := is_sh h hi hs
    exact Shr.ok this.1 this.2
  · exact Shr.fail _ _ _
theorem nmP_sh {L : List Tk} (h : WFt L) : Shr L (nmP L) := by
  unfold nmP
  split
  · rename_i hi
    have := kind_sh h hi (by decide)
    exact Shr.ok this.1 this.2
  · exact Shr.fail _ _ _
theorem openP_sh {α : Type} {L : List Tk} {o : Nat} {f : List Tk → Pr α} (_ : WFt L.tail) (hl : L.tail.length < L.length) (hf : She L.tail (f L.tail)) : Shr L (openP o L f) := by
  unfold openP
  split
  · exact Shr.fail _ _ _
  · intro x L' e
    have := hf x L' e
    exact ⟨this.1, by omega⟩
theorem openP_sh' {α : Type} {L : List Tk} {o : Nat} {f : List Tk → Pr α} (h : WFt L.tail) (hl : L.tail.length < L.length) (hf : Shr L.tail (f L.tail)) : Shr L (openP o L f) := openP_sh h hl hf.she
theorem opsP_ne (n : Nat) : ∀ p ∈ opsP n, p.1 ≠ [] := by
  unfold opsP
  split <;> decide
theorem opP_ne {n : Nat} {L : List Tk} {op : Int} (h : opP n L = some op) : hdT L ≠ [] := by
  unfold opP at h
  obtain ⟨p, hp, _⟩ := Option.map_eq_some_iff.1 h
  exact isP_ne (List.find?_some (p := fun p : T × Int => isP p.1 L) hp) (opsP_ne n p (List.mem_of_find?_eq_some hp))
theorem preP_ne {L : List Tk} {op : Int} (h : preP L = some op) : hdT L ≠ [] := by
  unfold preP at h
  obtain ⟨p, hp, _⟩ := Option.map_eq_some_iff.1 h
  exact isP_ne (List.find?_some (p := fun p : T × Int => isP p.1 L) hp) ((by decide : ∀ p ∈ presL, p.1 ≠ []) p (List.mem_of_find?_eq_some hp))

/-- Expressions pass something. -/
structure Passes (f : Nat) : Prop where
  expr : ∀ L o, WFt L → Shr L (exprP f L o)
  choice : ∀ L o, WFt L → isP wIf L = true → Shr L (choiceP f L o)
  level : ∀ n L o, WFt L → Shr L (levelP f n L o)
  rest : ∀ n x L o, WFt L → She L (restP f n x L o)
  second : ∀ n L o, WFt L → hdT L ≠ [] → Shr L (secondP f n L o)
  pre : ∀ L o, WFt L → Shr L (prefixP f L o)
  atom : ∀ L o, WFt L → Shr L (atomP f L o)
  operands : ∀ L o, WFt L → isP [40] L = true → Shr L (operandsP f L o)
  more : ∀ acc L o, WFt L → She L (moreP f acc L o)
  bracket : ∀ L o, WFt L → Shr L (bracketP f L o)
theorem passes (f : Nat) : Passes f := by
  induction f with
  | zero =>
    refine ⟨?_, ?_, ?_, ?_, ?_, ?_, ?_, ?_, ?_, ?_⟩ <;> (intros; first | (unfold exprP; exact Shr.bad _ _ _) | (unfold choiceP; exact Shr.bad _ _ _) | (unfold levelP; exact Shr.bad _ _ _) | (unfold restP; exact (Shr.bad _ _ _).she) | (unfold secondP; exact Shr.bad _ _ _) | (unfold prefixP; exact Shr.bad _ _ _) | (unfold atomP; exact Shr.bad _ _ _) | (unfold operandsP; exact Shr.bad _ _ _) | (unfold moreP; exact (Shr.bad _ _ _).she) | (unfold bracketP; exact Shr.bad _ _ _))
  | succ f ih =>
    refine ⟨?_, ?_, ?_, ?_, ?_, ?_, ?_, ?_, ?_, ?_⟩
    · intro L o h
      unfold exprP
      split
      · rename_i hi; exact ih.choice L o h hi
      · exact ih.level 0 L o h
    · intro L o h hi
      unfold choiceP
      have ht := is_sh h hi (by decide)
      exact openP_sh' ht.1 ht.2 ((ih.expr _ _ ht.1).bind fun a L1 _ h1 _ => ((mustP_sh h1 (by decide)).bind fun _ L2 _ h2 _ => ((ih.expr _ _ h2).bind fun b L3 _ h3 _ => ((mustP_sh h3 (by decide)).bind fun _ L4 _ h4 _ => ((ih.expr _ _ h4).bind fun c L5 _ h5 _ => She.ok h5 (Nat.le_refl _)).she).she).she).she)
    · intro n L o h
      unfold levelP
      split
      · exact ih.pre L o h
      · exact (ih.level _ L o h).bind fun x L1 _ h1 _ => ih.rest n x L1 o h1
    · intro n x L o h
      unfold restP
      split
      · exact She.ok h (Nat.le_refl _)
      · rename_i op hop
        refine ((ih.second n L o h (opP_ne hop)).bind fun y L1 _ h1 _ => ?_).she
        split
        · exact ih.rest n _ L1 o h1
        · exact She.ok h1 (Nat.le_refl _)
    · intro n L o h hn
      unfold secondP
      have ht := tail_sh h (.inl hn)
      split
      · exact openP_sh' ht.1 ht.2 (ih.level n _ _ ht.1)
      · intro x L' e
        have := ih.level (n + 1) L.tail o ht.1 x L' e
        exact ⟨this.1, by have := this.2; omega⟩
    · intro L o h
      unfold prefixP
      split
      · rename_i op hop
        have ht := tail_sh h (.inl (preP_ne hop))
        exact openP_sh' ht.1 ht.2 ((ih.pre _ _ ht.1).bind fun x L1 _ h1 _ => She.ok h1 (Nat.le_refl _))
      · exact ih.atom L o h
    · intro L o h
      unfold atomP
      split
      · rename_i hk
        have ht := kind_sh h hk (by decide)
        exact Shr.ok ht.1 ht.2
      · split
        · rename_i hi
          have ht := is_sh h hi (by decide)
          exact Shr.ok ht.1 ht.2
        · split
          · rename_i hi
            have ht := is_sh h hi (by decide)
            exact Shr.ok ht.1 ht.2
          · split
            · rename_i hk
              have ht := kind_sh h hk (by decide)
              split
              · rename_i hi
                intro x L' e
                have := ((ih.operands L.tail o ht.1 hi).bind (f := fun ks L' => .ok (.mk 6 0 0 (hdT L) ks) L') fun ks L1 _ h1 _ => She.ok h1 (Nat.le_refl _)) x L' e
                exact ⟨this.1, by have := this.2; omega⟩
              · exact Shr.ok ht.1 ht.2
            · exact ih.bracket L o h
    · intro L o h hi
      unfold operandsP
      have ht := is_sh h hi (by decide)
      refine openP_sh ht.1 ht.2 (She.bind ?_ fun ks L1 _ h1 _ => ((mustP_sh h1 (by decide)).bind fun _ L2 _ h2 _ => She.ok h2 (Nat.le_refl _)).she)
      split
      · exact ih.more _ _ _ ht.1
      · exact ((ih.expr _ _ ht.1).bind fun x L1 _ h1 _ => ih.more _ _ _ h1).she
    · intro acc L o h
      unfold moreP
      split
      · rename_i hi
        have ht := is_sh h hi (by decide)
        split
        · exact (Shr.fail _ _ _).she
        · intro x L' e
          have := ((ih.expr L.tail o ht.1).bind (f := fun x L => moreP f (acc ++ [x]) L o) fun x L1 _ h1 _ => ih.more _ _ _ h1) x L' e
          exact ⟨this.1, by have := this.2; omega⟩
      · exact She.ok h (Nat.le_refl _)
    · intro L o h
      unfold bracketP
      split
      · rename_i hi
        have ht := is_sh h hi (by decide)
        exact openP_sh' ht.1 ht.2 ((ih.expr _ _ ht.1).bind fun x L1 _ h1 _ => ((mustP_sh h1 (by decide)).bind fun _ L2 _ h2 _ => She.ok h2 (Nat.le_refl _)).she)
      · exact Shr.fail _ _ _

theorem entryP_sh {L : List Tk} (n : Nat) (h : WFt L) : Shr L (entryP n L) := by
  unfold entryP
  split
  · rename_i hk
    have ht := kind_sh h hk (by decide)
    split
    · exact Shr.fail _ _ _
    · exact Shr.ok ht.1 ht.2
  · exact Shr.fail _ _ _
theorem namesF_sh (f : Nat) : ∀ (n : Nat) (acc : List T) (L : List Tk), WFt L → She L (namesF f n acc L) := by
  induction f with
  | zero => intro n acc L h; unfold namesF; exact (Shr.bad _ _ _).she
  | succ f ih =>
    intro n acc L h
    unfold namesF
    split
    · rename_i hi
      have ht := is_sh h hi (by decide)
      intro x L' e
      have := ((entryP_sh (n + acc.length) ht.1).bind (f := fun t L => namesF f n (acc ++ [t]) L) fun t L1 _ h1 _ => ih _ _ _ h1) x L' e
      exact ⟨this.1, by have := this.2; omega⟩
    · exact She.ok h (Nat.le_refl _)
theorem namesP_sh {L : List Tk} (n : Nat) (h : WFt L) : Shr L (namesP n L) := (entryP_sh n h).bind fun _ _ _ h1 _ => namesF_sh _ _ _ _ h1
theorem typeP_sh {L : List Tk} (h : WFt L) : Shr L (typeP L) := by
  unfold typeP
  split
  · rename_i hi
    have ht := is_sh h hi (by decide)
    exact Shr.ok ht.1 ht.2
  · exact (mustP_sh h (by decide)).bind fun _ L1 _ h1 _ => She.ok h1 (Nat.le_refl _)
theorem groupP_sh {L : List Tk} (n : Nat) (h : WFt L) : Shr L (groupP n L) :=
  (namesP_sh n h).bind fun ts L1 _ h1 _ => ((mustP_sh h1 (by decide)).bind fun _ L2 _ h2 _ => ((typeP_sh h2).bind fun ty L3 _ h3 _ => She.ok h3 (Nat.le_refl _)).she).she
theorem varsF_sh (f : Nat) : ∀ (acc : List Vr) (L : List Tk), WFt L → She L (varsF f acc L) := by
  induction f with
  | zero => intro acc L h; unfold varsF; exact (Shr.bad _ _ _).she
  | succ f ih =>
    intro acc L h
    unfold varsF
    split
    · rename_i hi
      have ht := is_sh h hi (by decide)
      intro x L' e
      have := ((groupP_sh acc.length ht.1).bind (f := fun vs L => varsF f (acc ++ vs) L) fun t L1 _ h1 _ => ih _ _ h1) x L' e
      exact ⟨this.1, by have := this.2; omega⟩
    · exact She.ok h (Nat.le_refl _)
theorem varsP_sh {L : List Tk} (h : WFt L) : Shr L (varsP L) := (groupP_sh 0 h).bind fun _ _ _ h1 _ => varsF_sh _ _ _ h1
theorem localsF_sh (f : Nat) : ∀ (acc : List Vr) (L : List Tk), WFt L → She L (localsF f acc L) := by
  induction f with
  | zero => intro acc L h; unfold localsF; exact (Shr.bad _ _ _).she
  | succ f ih =>
    intro acc L h
    unfold localsF
    split
    · exact ((groupP_sh acc.length h).bind fun vs L1 _ h1 _ => ((mustP_sh h1 (by decide)).bind fun _ L2 _ h2 _ => ih _ _ h2).she).she
    · exact She.ok h (Nat.le_refl _)
theorem localsP_sh {L : List Tk} (h : WFt L) : Shr L (localsP L) := (groupP_sh 0 h).bind fun _ _ _ h1 _ => ((mustP_sh h1 (by decide)).bind fun _ L2 _ h2 _ => localsF_sh _ _ _ h2).she
theorem leftP_sh {L : List Tk} (h : WFt L) : Shr L (leftP L) := by
  unfold leftP
  split
  · rename_i hi
    have ht := is_sh h hi (by decide)
    intro x L' e
    have := ((namesP_sh 0 ht.1).bind (f := fun ts L => (mustP [41] L).bind fun _ L => .ok ts L) fun ts L1 _ h1 _ => ((mustP_sh h1 (by decide)).bind fun _ L2 _ h2 _ => She.ok h2 (Nat.le_refl _)).she) x L' e
    exact ⟨this.1, by have := this.2; omega⟩
  · exact (nmP_sh h).bind fun t L1 _ h1 _ => She.ok h1 (Nat.le_refl _)
theorem eqnP_sh {L : List Tk} (h : WFt L) : Shr L (eqnP L) :=
  (leftP_sh h).bind fun ts L1 _ h1 _ => ((mustP_sh h1 (by decide)).bind fun _ L2 _ h2 _ => (((passes _).expr L2 0 h2).bind fun x L3 _ h3 _ => by
    split
    · exact (Shr.bad _ _ _).she
    · exact ((mustP_sh h3 (by decide)).bind fun _ L4 _ h4 _ => She.ok h4 (Nat.le_refl _)).she).she).she
theorem eqsF_sh (f : Nat) : ∀ (acc : List Q) (L : List Tk), WFt L → She L (eqsF f acc L) := by
  induction f with
  | zero => intro acc L h; unfold eqsF; exact (Shr.bad _ _ _).she
  | succ f ih =>
    intro acc L h
    unfold eqsF
    split
    · split
      · exact (Shr.fail _ _ _).she
      · exact ((eqnP_sh h).bind fun q L1 _ h1 _ => ih _ _ h1).she
    · exact She.ok h (Nat.le_refl _)
theorem mustsP_sh : ∀ (ss : List T) (L : List Tk), WFt L → (∀ s ∈ ss, s ≠ []) → She L (mustsP ss L) := by
  intro ss
  induction ss with
  | nil => intro L h _; exact She.ok h (Nat.le_refl _)
  | cons s ss ih => intro L h hs; exact ((mustP_sh h (hs s (List.mem_cons_self ..))).bind fun _ L1 _ h1 _ => ih L1 h1 fun s hs' => hs s (List.mem_cons_of_mem _ hs')).she
theorem insP_sh {L : List Tk} (h : WFt L) : She L (insP L) := by
  unfold insP
  split
  · exact She.ok h (Nat.le_refl _)
  · exact (varsP_sh h).she
theorem varP_sh {L : List Tk} (h : WFt L) : She L (varP L) := by
  unfold varP
  split
  · rename_i hi
    have ht := is_sh h hi (by decide)
    intro x L' e
    have := localsP_sh ht.1 x L' e
    exact ⟨this.1, by have := this.2; omega⟩
  · exact She.ok h (Nat.le_refl _)
theorem nodeP_sh {L : List Tk} (h : WFt L) : Shr L (nodeP L) :=
  (mustP_sh h (by decide)).bind fun _ L1 _ h1 _ => ((nmP_sh h1).bind fun _ L2 _ h2 _ => ((mustP_sh h2 (by decide)).bind fun _ L3 _ h3 _ => (insP_sh h3).bind fun _ L4 _ h4 _ => (mustsP_sh _ L4 h4 (by decide)).bind fun _ L5 _ h5 _ =>
    ((varsP_sh h5).bind fun _ L6 _ h6 _ => (mustsP_sh _ L6 h6 (by decide)).bind fun _ L7 _ h7 _ => (varP_sh h7).bind fun _ L8 _ h8 _ => ((mustP_sh h8 (by decide)).bind fun _ L9 _ h9 _ => (eqsF_sh _ _ L9 h9).bind fun _ L10 _ h10 _ => ((mustP_sh h10 (by decide)).bind fun _ L11 _ h11 _ => She.ok h11 (Nat.le_refl _)).she).she).she).she).she

end Go.Proofs.YtdabndiaflagpaaGreatDoor
namespace Go.Proofs.YtdabndiaflagpaaGreatDoor
open Go.RowKit

/-- No greater than what has been passed. -/
def Sz (L : List Tk) (r : Pr X) : Prop := ∀ x L', r = .ok x L' → x.size + L'.length ≤ L.length
def SzM (d : Nat) (L : List Tk) (r : Pr X) : Prop := ∀ x L', r = .ok x L' → x.size + L'.length ≤ L.length + d
def SzL (d : Nat) (L : List Tk) (r : Pr (List X)) : Prop := ∀ xs L', r = .ok xs L' → X.sizes xs + L'.length ≤ L.length + d
structure Sizes (f : Nat) : Prop where
  expr : ∀ L o, WFt L → Sz L (exprP f L o)
  choice : ∀ L o, WFt L → isP wIf L = true → Sz L (choiceP f L o)
  level : ∀ n L o, WFt L → Sz L (levelP f n L o)
  rest : ∀ n x L o, WFt L → SzM x.size L (restP f n x L o)
  second : ∀ n L o, WFt L → hdT L ≠ [] → ∀ x L', secondP f n L o = .ok x L' → x.size + L'.length + 1 ≤ L.length
  pre : ∀ L o, WFt L → Sz L (prefixP f L o)
  atom : ∀ L o, WFt L → Sz L (atomP f L o)
  operands : ∀ L o, WFt L → isP [40] L = true → SzL 0 L (operandsP f L o)
  more : ∀ acc L o, WFt L → SzL (X.sizes acc) L (moreP f acc L o)
  bracket : ∀ L o, WFt L → Sz L (bracketP f L o)
theorem bind_ok {α β : Type} {r : Pr α} {f : α → List Tk → Pr β} {y : β} {L : List Tk} (h : r.bind f = .ok y L) : ∃ x L1, r = .ok x L1 ∧ f x L1 = .ok y L := by
  cases r with
  | bad c a => cases h
  | ok x L1 => exact ⟨x, L1, rfl, h⟩
theorem open_ok {α : Type} {o : Nat} {L : List Tk} {f : List Tk → Pr α} {y : α} {L' : List Tk} (h : openP o L f = .ok y L') : ¬ 400 ≤ o ∧ f L.tail = .ok y L' := by
  unfold openP at h
  split at h
  · cases h
  · exact ⟨by assumption, h⟩
theorem must_ok {s : T} {L : List Tk} {u : Unit} {L' : List Tk} (h : mustP s L = .ok u L') : isP s L = true ∧ L' = L.tail := by
  unfold mustP at h
  split at h
  · injection h with _ h; exact ⟨by assumption, h.symm⟩
  · cases h
theorem X.size_mk (k o n : Int) (s : T) (ks : List X) : (X.mk k o n s ks).size = 1 + X.sizes ks := by simp [X.size]
theorem sizes (f : Nat) : Sizes f := by
  induction f with
  | zero =>
    refine ⟨?_, ?_, ?_, ?_, (fun n L o _ _ x L' e => by unfold secondP at e; cases e), ?_, ?_, ?_, ?_, ?_⟩ <;> (intros; intro x L' e; first | (unfold exprP at e; cases e) | (unfold choiceP at e; cases e) | (unfold levelP at e; cases e) | (unfold restP at e; cases e) | (unfold prefixP at e; cases e) | (unfold atomP at e; cases e) | (unfold operandsP at e; cases e) | (unfold moreP at e; cases e) | (unfold bracketP at e; cases e))
  | succ f ih =>
    have ps := passes f
    refine ⟨?_, ?_, ?_, ?_, ?_, ?_, ?_, ?_, ?_, ?_⟩
    · intro L o h x L' e
      unfold exprP at e
      split at e
      · rename_i hi; exact ih.choice L o h hi x L' e
      · exact ih.level 0 L o h x L' e
    · intro L o h hi x L' e
      have ht := is_sh h hi (by decide)
      unfold choiceP at e
      obtain ⟨_, e⟩ := open_ok e
      obtain ⟨a, L1, e1, e⟩ := bind_ok e
      obtain ⟨_, L2, e2, e⟩ := bind_ok e
      obtain ⟨b, L3, e3, e⟩ := bind_ok e
      obtain ⟨_, L4, e4, e⟩ := bind_ok e
      obtain ⟨c, L5, e5, e⟩ := bind_ok e
      injection e with e e'
      subst e e'
      have w1 := (ps.expr _ _ ht.1 _ _ e1).1
      have w2 := mustP_sh w1 (by decide) _ _ e2
      have w3 := (ps.expr _ _ w2.1 _ _ e3).1
      have w4 := mustP_sh w3 (by decide) _ _ e4
      have s1 := ih.expr _ _ ht.1 _ _ e1
      have s2 := ih.expr _ _ w2.1 _ _ e3
      have s3 := ih.expr _ _ w4.1 _ _ e5
      have := w2.2
      have := w4.2
      have := ht.2
      rw [X.size_mk]
      simp only [X.sizes]
      omega
    · intro n L o h x L' e
      unfold levelP at e
      split at e
      · exact ih.pre L o h x L' e
      · obtain ⟨y, L1, e1, e⟩ := bind_ok e
        have s1 := ih.level _ L o h _ _ e1
        have s2 := ih.rest n y L1 o (ps.level _ L o h _ _ e1).1 _ _ e
        omega
    · intro n x L o h y L' e
      unfold restP at e
      split at e
      · injection e with e e'; subst e e'; omega
      · rename_i op hop
        obtain ⟨z, L1, e1, e⟩ := bind_ok e
        have s1 := ih.second n L o h (opP_ne hop) _ _ e1
        have w1 := (ps.second n L o h (opP_ne hop) _ _ e1).1
        split at e
        · have s2 := ih.rest n _ L1 o w1 _ _ e
          rw [X.size_mk] at s2
          simp only [X.sizes] at s2
          omega
        · injection e with e e'
          subst e e'
          rw [X.size_mk]
          simp only [X.sizes]
          omega
    · intro n L o h hn x L' e
      have ht := tail_sh h (.inl hn)
      unfold secondP at e
      split at e
      · obtain ⟨_, e⟩ := open_ok e
        have := ih.level n _ _ ht.1 _ _ e
        omega
      · have := ih.level (n + 1) _ _ ht.1 _ _ e
        omega
    · intro L o h x L' e
      unfold prefixP at e
      split at e
      · rename_i op hop
        have ht := tail_sh h (.inl (preP_ne hop))
        obtain ⟨_, e⟩ := open_ok e
        obtain ⟨y, L1, e1, e⟩ := bind_ok e
        injection e with e e'
        subst e e'
        have := ih.pre _ _ ht.1 _ _ e1
        rw [X.size_mk]
        simp only [X.sizes]
        omega
      · exact ih.atom L o h x L' e
    · intro L o h x L' e
      unfold atomP at e
      split at e
      · rename_i hk
        have ht := kind_sh h hk (by decide)
        injection e with e e'; subst e e'
        rw [X.size_mk]; simp only [X.sizes]; omega
      · split at e
        · rename_i hi
          have ht := is_sh h hi (by decide)
          injection e with e e'; subst e e'
          rw [X.size_mk]; simp only [X.sizes]; omega
        · split at e
          · rename_i hi
            have ht := is_sh h hi (by decide)
            injection e with e e'; subst e e'
            rw [X.size_mk]; simp only [X.sizes]; omega
          · split at e
            · rename_i hk
              have ht := kind_sh h hk (by decide)
              split at e
              · rename_i hi
                obtain ⟨ks, L1, e1, e⟩ := bind_ok e
                injection e with e e'
                subst e e'
                have := ih.operands _ _ ht.1 hi _ _ e1
                rw [X.size_mk]; omega
              · injection e with e e'; subst e e'
                rw [X.size_mk]; simp only [X.sizes]; omega
            · exact ih.bracket L o h x L' e
    · intro L o h hi xs L' e
      have ht := is_sh h hi (by decide)
      unfold operandsP at e
      obtain ⟨_, e⟩ := open_ok e
      obtain ⟨ks, L1, e1, e⟩ := bind_ok e
      obtain ⟨_, L2, e2, e⟩ := bind_ok e
      injection e with e e'
      subst e e'
      obtain ⟨_, rfl⟩ := must_ok e2
      have hl : L1.tail.length ≤ L1.length := by simp
      split at e1
      · have := ih.more [] _ _ ht.1 _ _ e1
        simp only [X.sizes] at this
        omega
      · obtain ⟨x, L3, e3, e1⟩ := bind_ok e1
        have s1 := ih.expr _ _ ht.1 _ _ e3
        have := ih.more [x] _ _ (ps.expr _ _ ht.1 _ _ e3).1 _ _ e1
        simp only [X.sizes] at this
        omega
    · intro acc L o h xs L' e
      unfold moreP at e
      split at e
      · rename_i hi
        have ht := is_sh h hi (by decide)
        split at e
        · cases e
        · obtain ⟨x, L3, e3, e1⟩ := bind_ok e
          have s1 := ih.expr _ _ ht.1 _ _ e3
          have := ih.more (acc ++ [x]) _ _ (ps.expr _ _ ht.1 _ _ e3).1 _ _ e1
          rw [X.sizes_append] at this
          simp only [X.sizes] at this
          omega
      · injection e with e e'; subst e e'; omega
    · intro L o h x L' e
      unfold bracketP at e
      split at e
      · rename_i hi
        have ht := is_sh h hi (by decide)
        obtain ⟨_, e⟩ := open_ok e
        obtain ⟨y, L1, e1, e⟩ := bind_ok e
        obtain ⟨_, L2, e2, e⟩ := bind_ok e
        injection e with e e'
        subst e e'
        obtain ⟨_, rfl⟩ := must_ok e2
        have := ih.expr _ _ ht.1 _ _ e1
        have hl : L1.tail.length ≤ L1.length := by simp
        omega
      · cases e

end Go.Proofs.YtdabndiaflagpaaGreatDoor
namespace Go.Proofs.YtdabndiaflagpaaGreatDoor
open Go.RowKit

def Okx (x : X) : Prop := x.shape = true ∧ x.ok
def Okl (ks : List X) : Prop := X.shapes ks = true ∧ X.oks ks
theorem Okl.nil : Okl [] := ⟨rfl, trivial⟩
theorem Okl.cons {x : X} {ks : List X} (h : Okx x) (hk : Okl ks) : Okl (x :: ks) := ⟨by rw [X.shapes, h.1, hk.1]; rfl, h.2, hk.2⟩
theorem Okl.snoc : ∀ {ks : List X} {x : X}, Okl ks → Okx x → Okl (ks ++ [x])
  | [], x, _, h => h |> fun h => Okl.cons h Okl.nil
  | y :: ks, x, hk, h => by
    have h1 := hk.1
    rw [X.shapes, Bool.and_eq_true] at h1
    exact Okl.cons ⟨h1.1, hk.2.1⟩ (Okl.snoc ⟨h1.2, hk.2.2⟩ h)
theorem Okx.mk {k o n : Int} {s : T} {ks : List X} (hk : Okl ks) (hf : fitP (.mk k o n s ks)) (hn : n ≤ 9223372036854775807) (hs : s.length ≤ 1099511627776) : Okx (.mk k o n s ks) :=
  ⟨by rw [X.shape, hk.1, fitB_true hf]; rfl, hn, hs, hk.2⟩
theorem opP_rng {n : Nat} {L : List Tk} {op : Int} (h : opP n L = some op) : 0 ≤ op ∧ op ≤ 15 := by
  unfold opP at h
  obtain ⟨p, hp, he⟩ := Option.map_eq_some_iff.1 h
  have hm := List.mem_of_find?_eq_some hp
  have : ∀ n : Nat, ∀ p ∈ opsP n, 0 ≤ p.2 ∧ p.2 ≤ 15 := by
    intro n
    unfold opsP
    split <;> decide
  rw [← he]; exact this n p hm
theorem preP_rng {L : List Tk} {op : Int} (h : preP L = some op) : 0 ≤ op ∧ op ≤ 2 := by
  unfold preP at h
  obtain ⟨p, hp, he⟩ := Option.map_eq_some_iff.1 h
  have hm := List.mem_of_find?_eq_some hp
  have : ∀ p ∈ presL, 0 ≤ p.2 ∧ p.2 ≤ 2 := by decide
  rw [← he]; exact this p hm
theorem name_at {L : List Tk} (h : WFt L) (hk : hdK L = 1) : nameB (hdT L) = true ∧ (hdT L).length ≤ 1000000 := by
  obtain ⟨t, r, rfl, gt, _⟩ := h.pass (.inr (by rw [hk]; decide))
  exact ⟨gt.name_ hk, gt.len_⟩

/-- Expressions are as they may be. -/
structure Fitsx (f : Nat) : Prop where
  expr : ∀ L o, WFt L → ∀ x L', exprP f L o = .ok x L' → Okx x
  choice : ∀ L o, WFt L → isP wIf L = true → ∀ x L', choiceP f L o = .ok x L' → Okx x
  level : ∀ n L o, WFt L → ∀ x L', levelP f n L o = .ok x L' → Okx x
  rest : ∀ n x L o, WFt L → Okx x → ∀ y L', restP f n x L o = .ok y L' → Okx y
  second : ∀ n L o, WFt L → hdT L ≠ [] → ∀ x L', secondP f n L o = .ok x L' → Okx x
  pre : ∀ L o, WFt L → ∀ x L', prefixP f L o = .ok x L' → Okx x
  atom : ∀ L o, WFt L → ∀ x L', atomP f L o = .ok x L' → Okx x
  operands : ∀ L o, WFt L → isP [40] L = true → ∀ ks L', operandsP f L o = .ok ks L' → Okl ks ∧ ks.length ≤ 1000
  more : ∀ acc L o, WFt L → Okl acc → acc.length ≤ 1000 → ∀ ks L', moreP f acc L o = .ok ks L' → Okl ks ∧ ks.length ≤ 1000
  bracket : ∀ L o, WFt L → ∀ x L', bracketP f L o = .ok x L' → Okx x
theorem fits_all (f : Nat) : Fitsx f := by
  induction f with
  | zero =>
    refine ⟨?_, ?_, ?_, ?_, ?_, ?_, ?_, ?_, ?_, ?_⟩ <;> (intros; rename_i e; first | (unfold exprP at e; cases e) | (unfold choiceP at e; cases e) | (unfold levelP at e; cases e) | (unfold restP at e; cases e) | (unfold secondP at e; cases e) | (unfold prefixP at e; cases e) | (unfold atomP at e; cases e) | (unfold operandsP at e; cases e) | (unfold moreP at e; cases e) | (unfold bracketP at e; cases e))
  | succ f ih =>
    have ps := passes f
    refine ⟨?_, ?_, ?_, ?_, ?_, ?_, ?_, ?_, ?_, ?_⟩
    · intro L o h x L' e
      unfold exprP at e
      split at e
      · rename_i hi; exact ih.choice L o h hi x L' e
      · exact ih.level 0 L o h x L' e
    · intro L o h hi x L' e
      have ht := is_sh h hi (by decide)
      unfold choiceP at e
      obtain ⟨_, e⟩ := open_ok e
      obtain ⟨a, L1, e1, e⟩ := bind_ok e
      obtain ⟨_, L2, e2, e⟩ := bind_ok e
      obtain ⟨b, L3, e3, e⟩ := bind_ok e
      obtain ⟨_, L4, e4, e⟩ := bind_ok e
      obtain ⟨c, L5, e5, e⟩ := bind_ok e
      injection e with e e'
      subst e e'
      have w1 := (ps.expr _ _ ht.1 _ _ e1).1
      have w2 := (mustP_sh w1 (by decide) _ _ e2).1
      have w3 := (ps.expr _ _ w2 _ _ e3).1
      have w4 := (mustP_sh w3 (by decide) _ _ e4).1
      exact Okx.mk (Okl.cons (ih.expr _ _ ht.1 _ _ e1) (Okl.cons (ih.expr _ _ w2 _ _ e3) (Okl.cons (ih.expr _ _ w4 _ _ e5) Okl.nil))) (by simp [fitP, fitK, calP, X.k, X.o, X.n, X.s, X.ks]) (by omega) (by simp)
    · intro n L o h x L' e
      unfold levelP at e
      split at e
      · exact ih.pre L o h x L' e
      · obtain ⟨y, L1, e1, e⟩ := bind_ok e
        exact ih.rest n y L1 o (ps.level _ _ _ h _ _ e1).1 (ih.level _ L o h y L1 e1) x L' e
    · intro n x L o h hx y L' e
      unfold restP at e
      cases hop : opP n L with
      | none => rw [hop] at e; injection e with e _; rw [← e]; exact hx
      | some op =>
        rw [hop] at e
        obtain ⟨z, L1, e1, e⟩ := bind_ok e
        have hz := ih.second n L o h (opP_ne hop) z L1 e1
        have hr := opP_rng hop
        have hb : Okx (.mk 4 op 0 [] [x, z]) := Okx.mk (Okl.cons hx (Okl.cons hz Okl.nil)) (by simp [fitP, fitK, calP, X.k, X.o, X.n, X.s, X.ks]; omega) (by omega) (by simp)
        split at e
        · exact ih.rest n _ L1 o (ps.second n L o h (opP_ne hop) _ _ e1).1 hb y L' e
        · injection e with e _; rw [← e]; exact hb
    · intro n L o h hne x L' e
      have ht := tail_sh h (.inl hne)
      unfold secondP at e
      split at e
      · obtain ⟨_, e⟩ := open_ok e
        exact ih.level n _ _ ht.1 x L' e
      · exact ih.level (n + 1) _ _ ht.1 x L' e
    · intro L o h x L' e
      unfold prefixP at e
      cases hop : preP L with
      | none => rw [hop] at e; exact ih.atom L o h x L' e
      | some op =>
        rw [hop] at e
        obtain ⟨_, e⟩ := open_ok e
        obtain ⟨y, L1, e1, e⟩ := bind_ok e
        injection e with e _
        rw [← e]
        have ht := tail_sh h (.inl (preP_ne hop))
        have hr := preP_rng hop
        exact Okx.mk (Okl.cons (ih.pre _ _ ht.1 y L1 e1) Okl.nil) (by simp [fitP, fitK, calP, X.k, X.o, X.n, X.s, X.ks]; omega) (by omega) (by simp)
    · intro L o h x L' e
      unfold atomP at e
      split at e
      · rename_i hk
        injection e with e _
        obtain ⟨t, r, rfl, gt, _⟩ := h.pass (.inr (by rw [hk]; decide))
        have hn := gt.numb_
        rw [← e]
        exact Okx.mk Okl.nil (by simp [fitP, fitK, calP, X.k, X.o, X.n, X.s, X.ks, hdN]; omega) hn.2 (by simp)
      · split at e
        · injection e with e _
          rw [← e]
          exact Okx.mk Okl.nil (by simp [fitP, fitK, calP, X.k, X.o, X.n, X.s, X.ks]) (by omega) (by simp)
        · split at e
          · injection e with e _
            rw [← e]
            exact Okx.mk Okl.nil (by simp [fitP, fitK, calP, X.k, X.o, X.n, X.s, X.ks]) (by omega) (by simp)
          · split at e
            · rename_i hk
              obtain ⟨hnm, hnl⟩ := name_at h hk
              have ht := kind_sh h hk (by decide)
              split at e
              · rename_i hb
                obtain ⟨ks, L1, e1, e⟩ := bind_ok e
                injection e with e _
                rw [← e]
                obtain ⟨ok, ol⟩ := ih.operands _ _ ht.1 hb ks L1 e1
                exact Okx.mk ok (by simp [fitP, fitK, calP, X.k, X.o, X.n, X.s, X.ks, hnm]; omega) (by omega) (by omega)
              · injection e with e _
                rw [← e]
                exact Okx.mk Okl.nil (by simp [fitP, fitK, calP, X.k, X.o, X.n, X.s, X.ks, hnm]) (by omega) (by omega)
            · exact ih.bracket L o h x L' e
    · intro L o h hb ks L' e
      have ht := is_sh h hb (by decide)
      unfold operandsP at e
      obtain ⟨_, e⟩ := open_ok e
      obtain ⟨ks2, L2, e2, e⟩ := bind_ok e
      obtain ⟨_, L3, _, e⟩ := bind_ok e
      injection e with e _
      rw [← e]
      split at e2
      · exact ih.more [] _ _ ht.1 Okl.nil (by simp) ks2 L2 e2
      · obtain ⟨y, L1, e1, e2⟩ := bind_ok e2
        exact ih.more [y] _ _ (ps.expr _ _ ht.1 _ _ e1).1 (Okl.cons (ih.expr _ _ ht.1 y L1 e1) Okl.nil) (by simp) ks2 L2 e2
    · intro acc L o h ha hl ks L' e
      unfold moreP at e
      split at e
      · rename_i hi
        have ht := is_sh h hi (by decide)
        split at e
        · cases e
        · obtain ⟨y, L1, e1, e⟩ := bind_ok e
          exact ih.more (acc ++ [y]) _ _ (ps.expr _ _ ht.1 _ _ e1).1 (ha.snoc (ih.expr _ _ ht.1 y L1 e1)) (by simp; omega) ks L' e
      · injection e with e _; rw [← e]; exact ⟨ha, hl⟩
    · intro L o h x L' e
      unfold bracketP at e
      split at e
      · rename_i hi
        have ht := is_sh h hi (by decide)
        obtain ⟨_, e⟩ := open_ok e
        obtain ⟨y, L1, e1, e⟩ := bind_ok e
        obtain ⟨_, L2, _, e⟩ := bind_ok e
        injection e with e _
        rw [← e]
        exact ih.expr _ _ ht.1 y L1 e1
      · cases e

end Go.Proofs.YtdabndiaflagpaaGreatDoor
namespace Go.Proofs.YtdabndiaflagpaaGreatDoor
open Go.RowKit

def cO (s : T) : Nat := s.count 40
def nO (L : List Tk) : Nat := L.countP fun t => decide (t.text = [40])
theorem cO_app (a b : T) : cO (a ++ b) = cO a + cO b := List.count_append
theorem cO_none {s : T} (h : ∀ c ∈ s, c ≠ 40) : cO s = 0 := List.count_eq_zero.2 fun hm => h 40 hm rfl
theorem nO_cons (t : Tk) (L : List Tk) : nO (t :: L) = nO L + (if t.text = [40] then 1 else 0) := by
  unfold nO
  rw [List.countP_cons]
  simp
theorem nO_tail (L : List Tk) : nO L.tail ≤ nO L := by
  cases L with
  | nil => exact Nat.le_refl _
  | cons t r => rw [List.tail_cons, nO_cons]; omega
theorem nO_is {L : List Tk} (h : isP [40] L = true) : nO L = nO L.tail + 1 := by
  have h : hdT L = [40] := of_decide_eq_true h
  cases L with
  | nil => cases h
  | cons t r =>
    have h : t.text = [40] := h
    rw [nO_cons, if_pos h, List.tail_cons]
theorem must_nO {s : T} {L L' : List Tk} {u : Unit} (h : mustP s L = .ok u L') : nO L' ≤ nO L := by
  unfold mustP at h
  split at h
  · injection h with _ h; rw [← h]; exact nO_tail L
  · cases h
theorem ltr_no (c : UInt8) (h : isL (c.toNat : Int) = true) : c ≠ 40 := by rintro rfl; revert h; decide
theorem dgt_no (c : UInt8) (h : isD (c.toNat : Int) = true) : c ≠ 40 := by rintro rfl; revert h; decide
theorem name_no {s : T} (h : nameB s = true) : cO s = 0 := by
  have h : nameP s := by
    unfold nameB at h
    exact @of_decide_eq_true _ (Classical.propDecidable _) h
  refine cO_none fun c hc => ?_
  obtain ⟨i, hi⟩ := List.getElem?_of_mem hc
  rcases h.1 i c hi with h1 | h1
  · exact ltr_no c h1
  · exact dgt_no c h1.2
theorem dec_dgt (u : Nat) : ∀ c ∈ Lib.decDigits u, dgt c = true := by
  rw [Lib.decDigits_eq]
  intro c hc
  obtain ⟨t, _, rfl⟩ := List.mem_map.1 hc
  unfold Lib.dg dgt isD
  have : u / 10 ^ (Lib.nDigits u - 1 - t) % 10 < 10 := Nat.mod_lt _ (by decide)
  generalize u / 10 ^ (Lib.nDigits u - 1 - t) % 10 = z at this ⊢
  simp
  omega
theorem dec_no (u : Nat) : cO (Lib.decDigits u) = 0 := cO_none fun c hc => dgt_no c (dec_dgt u c hc)
theorem pre_no (o : Nat) : cO (preS.getD o []) = 0 := by
  unfold preS
  match o with
  | 0 => rfl
  | 1 => rfl
  | 2 => rfl
  | _ + 3 => rfl
theorem op_no (o : Nat) : cO (opS.getD o []) = 0 := by
  have : ∀ s ∈ opS, cO s = 0 := by decide
  rw [List.getD_eq_getElem?_getD]
  cases h : opS[o]? with
  | none => rfl
  | some s => exact this s (List.mem_of_getElem? h)
theorem cO_comma (ts : List T) : cO (commaS ts) = (ts.map cO).sum := by
  cases ts with
  | nil => rfl
  | cons t ts =>
    unfold commaS
    rw [cO_app, List.map_cons, List.sum_cons]
    congr 1
    induction ts with
    | nil => rfl
    | cons u us ih => rw [List.map_cons, List.flatten_cons, cO_app, cO_app, List.map_cons, List.sum_cons, ih]; simp [cO]

/-- The brackets of an expression's text. -/
def ct (x : X) : Nat := cO x.txt
def cts (ks : List X) : Nat := (ks.map ct).sum
theorem cts_snoc (ks : List X) (x : X) : cts (ks ++ [x]) = cts ks + ct x := by unfold cts; simp
/-- Whether a level asks for brackets at a place. -/
def bi (l a : Int) : Nat := if l < a then 1 else 0
theorem bi_mono {l a b : Int} (h : a ≤ b) : bi l a ≤ bi l b := by unfold bi; split <;> split <;> omega
theorem bi_le (l a : Int) : bi l a ≤ 1 := by unfold bi; split <;> omega
theorem bi_no {l a : Int} (h : a ≤ l) : bi l a = 0 := by unfold bi; rw [if_neg (by omega)]
theorem cO_in (l a : Int) (t : T) : cO (inT l a t) = cO t + bi l a := by
  unfold inT bi
  split
  · rw [cO_app, cO_app]; simp [cO]; omega
  · rfl
theorem ct_un {o n : Int} {s : T} {a : X} : ct (.mk 3 o n s [a]) = ct a + bi a.lev 7 := by
  unfold ct
  rw [txt_un (a := a) rfl rfl, cO_app, cO_app, pre_no, cO_in]
  split <;> simp [cO]
theorem ct_bin {o n : Int} {s : T} {a b : X} : ct (.mk 4 o n s [a, b]) = ct a + bi a.lev (askL (levOf o)) + (ct b + bi b.lev (askR (levOf o))) := by
  unfold ct
  rw [txt_bin (a := a) (b := b) rfl rfl, cO_app, cO_app, cO_app, cO_app, op_no, cO_in, cO_in]
  simp [cO, X.o]
theorem ct_if {o n : Int} {s : T} {a b c : X} : ct (.mk 5 o n s [a, b, c]) = ct a + (ct b + ct c) := by
  unfold ct
  rw [txt_if (a := a) (b := b) (c := c) rfl rfl, cO_app, cO_app, cO_app, cO_app, cO_app]
  simp [cO]
theorem ct_call {o n : Int} {s : T} {ks : List X} (hs : cO s = 0) : ct (.mk 6 o n s ks) = 1 + cts ks := by
  unfold ct
  rw [txt_call rfl, cO_app, cO_app, cO_app, cO_comma, X.ks, X.s, hs, List.map_map]
  simp only [cts, cO]
  have : (List.map ct ks).sum = (List.map (cO ∘ X.txt) ks).sum := rfl
  simp [this]

theorem ops_lev (n : Nat) : ∀ p ∈ opsP n, levOf p.2 = n := by
  unfold opsP
  split <;> first | decide | simp
theorem opP_lev {n : Nat} {L : List Tk} {op : Int} (h : opP n L = some op) : levOf op = n := by
  unfold opP at h
  obtain ⟨p, hp, he⟩ := Option.map_eq_some_iff.1 h
  rw [← he]; exact ops_lev n p (List.mem_of_find?_eq_some hp)
theorem lev_un {o n : Int} {s : T} {ks : List X} : (X.mk 3 o n s ks).lev = 7 := rfl
theorem lev_8 {k o n : Int} {s : T} {ks : List X} (h5 : k ≠ 5) (h4 : k ≠ 4) (h3 : k ≠ 3) : (X.mk k o n s ks).lev = 8 := by
  show (if k = 5 then _ else if k = 4 then _ else if k = 3 then _ else _) = _
  rw [if_neg h5, if_neg h4, if_neg h3]
theorem lev_bin {o n : Int} {s : T} {ks : List X} : (X.mk 4 o n s ks).lev = levOf o := rfl

/-- Expressions need their brackets. -/
structure Cnt (f : Nat) : Prop where
  expr : ∀ L o, WFt L → ∀ x L', exprP f L o = .ok x L' → ct x + nO L' ≤ nO L
  choice : ∀ L o, WFt L → isP wIf L = true → ∀ x L', choiceP f L o = .ok x L' → ct x + nO L' ≤ nO L
  level : ∀ (n : Nat) L o, n ≤ 7 → WFt L → ∀ x L', levelP f n L o = .ok x L' → ct x + bi x.lev n + nO L' ≤ nO L
  rest : ∀ (n : Nat) x L o, n ≤ 6 → WFt L → ∀ y L', restP f n x L o = .ok y L' → ct y + bi y.lev n + nO L' ≤ ct x + bi x.lev (askL n) + nO L
  second : ∀ (n : Nat) L o, n ≤ 6 → WFt L → hdT L ≠ [] → ∀ x L', secondP f n L o = .ok x L' → ct x + bi x.lev (askR n) + nO L' ≤ nO L
  pre : ∀ L o, WFt L → ∀ x L', prefixP f L o = .ok x L' → ct x + bi x.lev 7 + nO L' ≤ nO L
  atom : ∀ L o, WFt L → ∀ x L', atomP f L o = .ok x L' → ct x + bi x.lev 7 + nO L' ≤ nO L
  operands : ∀ L o, WFt L → isP [40] L = true → ∀ ks L', operandsP f L o = .ok ks L' → 1 + cts ks + nO L' ≤ nO L
  more : ∀ acc L o, WFt L → ∀ ks L', moreP f acc L o = .ok ks L' → cts ks + nO L' ≤ cts acc + nO L
  bracket : ∀ L o, WFt L → ∀ x L', bracketP f L o = .ok x L' → ct x + 1 + nO L' ≤ nO L
theorem cnt_all (f : Nat) : Cnt f := by
  induction f with
  | zero =>
    refine ⟨?_, ?_, ?_, ?_, ?_, ?_, ?_, ?_, ?_, ?_⟩ <;> (intros; rename_i e; first | (unfold exprP at e; cases e) | (unfold choiceP at e; cases e) | (unfold levelP at e; cases e) | (unfold restP at e; cases e) | (unfold secondP at e; cases e) | (unfold prefixP at e; cases e) | (unfold atomP at e; cases e) | (unfold operandsP at e; cases e) | (unfold moreP at e; cases e) | (unfold bracketP at e; cases e))
  | succ f ih =>
    have ps := passes f
    refine ⟨?_, ?_, ?_, ?_, ?_, ?_, ?_, ?_, ?_, ?_⟩
    · intro L o h x L' e
      unfold exprP at e
      split at e
      · rename_i hi; exact ih.choice L o h hi x L' e
      · have := ih.level 0 L o (by omega) h x L' e; omega
    · intro L o h hi x L' e
      have ht := is_sh h hi (by decide)
      unfold choiceP at e
      obtain ⟨_, e⟩ := open_ok e
      obtain ⟨a, L1, e1, e⟩ := bind_ok e
      obtain ⟨_, L2, e2, e⟩ := bind_ok e
      obtain ⟨b, L3, e3, e⟩ := bind_ok e
      obtain ⟨_, L4, e4, e⟩ := bind_ok e
      obtain ⟨c, L5, e5, e⟩ := bind_ok e
      injection e with e e'
      subst e e'
      have w1 := (ps.expr _ _ ht.1 _ _ e1).1
      have w2 := (mustP_sh w1 (by decide) _ _ e2).1
      have w3 := (ps.expr _ _ w2 _ _ e3).1
      have w4 := (mustP_sh w3 (by decide) _ _ e4).1
      have k1 := ih.expr _ _ ht.1 _ _ e1
      have k2 := must_nO e2
      have k3 := ih.expr _ _ w2 _ _ e3
      have k4 := must_nO e4
      have k5 := ih.expr _ _ w4 _ _ e5
      have k0 := nO_tail L
      rw [ct_if]
      omega
    · intro n L o hn h x L' e
      unfold levelP at e
      split at e
      · rename_i h7; subst h7; exact ih.pre L o h x L' e
      · obtain ⟨y, L1, e1, e⟩ := bind_ok e
        have k1 := ih.level _ L o (by omega) h y L1 e1
        have k2 := ih.rest n y L1 o (by omega) (ps.level _ _ _ h _ _ e1).1 x L' e
        have k3 : bi y.lev (askL (n : Int)) ≤ bi y.lev ((n + 1 : Nat) : Int) := bi_mono (by unfold askL; split <;> omega)
        omega
    · intro n x L o hn h y L' e
      unfold restP at e
      cases hop : opP n L with
      | none =>
        rw [hop] at e
        injection e with e e'
        subst e e'
        have : bi x.lev (n : Int) ≤ bi x.lev (askL (n : Int)) := bi_mono (by unfold askL; split <;> omega)
        omega
      | some op =>
        rw [hop] at e
        obtain ⟨z, L1, e1, e⟩ := bind_ok e
        have hz := ih.second n L o hn h (opP_ne hop) z L1 e1
        have hl := opP_lev hop
        have hb : ct (.mk 4 op 0 [] [x, z]) + nO L1 ≤ ct x + bi x.lev (askL n) + nO L := by rw [ct_bin, hl]; omega
        split at e
        · rename_i hlf
          have k := ih.rest n _ L1 o hn (ps.second n L o h (opP_ne hop) _ _ e1).1 y L' e
          have ka : askL (n : Int) = n := by
            unfold askL
            rw [if_neg]
            rintro (h0 | h0 | h0)
            · obtain rfl : n = 0 := by omega
              simp [leftB] at hlf
            · obtain rfl : n = 1 := by omega
              simp [leftB] at hlf
            · obtain rfl : n = 4 := by omega
              simp [leftB] at hlf
          have kb : bi (X.mk 4 op 0 [] [x, z]).lev (askL (n : Int)) = 0 := bi_no (by rw [ka, lev_bin, hl]; exact Int.le_refl _)
          omega
        · injection e with e e'
          subst e e'
          have kb : bi (X.mk 4 op 0 [] [x, z]).lev (n : Int) = 0 := bi_no (by rw [lev_bin, hl]; exact Int.le_refl _)
          omega
    · intro n L o hn h hne x L' e
      have ht := tail_sh h (.inl hne)
      have k0 := nO_tail L
      unfold secondP at e
      split at e
      · rename_i h2
        obtain ⟨_, e⟩ := open_ok e
        have k := ih.level n _ _ (by omega) ht.1 x L' e
        have ka : askR (n : Int) = n := by unfold askR; rw [if_pos (by omega)]
        rw [ka]; omega
      · rename_i h2
        have k := ih.level (n + 1) _ _ (by omega) ht.1 x L' e
        have ka : askR (n : Int) = ((n + 1 : Nat) : Int) := by unfold askR; rw [if_neg (by omega)]; omega
        rw [ka]; omega
    · intro L o h x L' e
      unfold prefixP at e
      cases hop : preP L with
      | none => rw [hop] at e; exact ih.atom L o h x L' e
      | some op =>
        rw [hop] at e
        obtain ⟨_, e⟩ := open_ok e
        obtain ⟨y, L1, e1, e⟩ := bind_ok e
        injection e with e e'
        subst e e'
        have ht := tail_sh h (.inl (preP_ne hop))
        have k := ih.pre _ _ ht.1 y L1 e1
        have k0 := nO_tail L
        rw [ct_un, lev_un, bi_no (Int.le_refl 7)]
        omega
    · intro L o h x L' e
      have k0 := nO_tail L
      unfold atomP at e
      split at e
      · injection e with e e'
        subst e e'
        have : ct (.mk 0 0 (hdN L) [] []) = 0 := by unfold ct; rw [txt_int rfl]; exact dec_no _
        rw [this, lev_8 (by decide) (by decide) (by decide), bi_no (show (7 : Int) ≤ 8 by decide)]; omega
      · split at e
        · injection e with e e'
          subst e e'
          have : ct (.mk 1 0 0 [] []) = 0 := by unfold ct; rw [txt_bool rfl]; decide
          rw [this, lev_8 (by decide) (by decide) (by decide), bi_no (show (7 : Int) ≤ 8 by decide)]; omega
        · split at e
          · injection e with e e'
            subst e e'
            have : ct (.mk 1 0 1 [] []) = 0 := by unfold ct; rw [txt_bool rfl]; decide
            rw [this, lev_8 (by decide) (by decide) (by decide), bi_no (show (7 : Int) ≤ 8 by decide)]; omega
          · split at e
            · rename_i hk
              obtain ⟨hnm, hnl⟩ := name_at h hk
              have ht := kind_sh h hk (by decide)
              split at e
              · rename_i hb
                obtain ⟨ks, L1, e1, e⟩ := bind_ok e
                injection e with e e'
                subst e e'
                have k := ih.operands _ _ ht.1 hb ks L1 e1
                rw [ct_call (name_no hnm), lev_8 (by decide) (by decide) (by decide), bi_no (show (7 : Int) ≤ 8 by decide)]
                omega
              · injection e with e e'
                subst e e'
                have : ct (.mk 2 0 0 (hdT L) []) = 0 := by unfold ct; rw [txt_var rfl]; exact name_no hnm
                rw [this, lev_8 (by decide) (by decide) (by decide), bi_no (show (7 : Int) ≤ 8 by decide)]; omega
            · have k := ih.bracket L o h x L' e
              have := bi_le x.lev 7
              omega
    · intro L o h hb ks L' e
      have ht := is_sh h hb (by decide)
      have k0 := nO_is hb
      unfold operandsP at e
      obtain ⟨_, e⟩ := open_ok e
      obtain ⟨ks2, L2, e2, e⟩ := bind_ok e
      obtain ⟨_, L3, e3, e⟩ := bind_ok e
      injection e with e e'
      subst e e'
      have k3 := must_nO e3
      split at e2
      · have k := ih.more [] _ _ ht.1 ks2 L2 e2
        have : cts [] = 0 := rfl
        omega
      · obtain ⟨y, L1, e1, e2⟩ := bind_ok e2
        have k1 := ih.expr _ _ ht.1 y L1 e1
        have k := ih.more [y] _ _ (ps.expr _ _ ht.1 _ _ e1).1 ks2 L2 e2
        have : cts [y] = ct y := by simp [cts]
        omega
    · intro acc L o h ks L' e
      unfold moreP at e
      split at e
      · rename_i hi
        have ht := is_sh h hi (by decide)
        have k0 := nO_tail L
        split at e
        · cases e
        · obtain ⟨y, L1, e1, e⟩ := bind_ok e
          have k1 := ih.expr _ _ ht.1 y L1 e1
          have k := ih.more (acc ++ [y]) _ _ (ps.expr _ _ ht.1 _ _ e1).1 ks L' e
          rw [cts_snoc] at k
          omega
      · injection e with e e'
        subst e e'
        exact Nat.le_refl _
    · intro L o h x L' e
      unfold bracketP at e
      split at e
      · rename_i hi
        have ht := is_sh h hi (by decide)
        have k0 := nO_is hi
        obtain ⟨_, e⟩ := open_ok e
        obtain ⟨y, L1, e1, e⟩ := bind_ok e
        obtain ⟨_, L2, e2, e⟩ := bind_ok e
        injection e with e e'
        subst e e'
        have k1 := ih.expr _ _ ht.1 y L1 e1
        have k2 := must_nO e2
        omega
      · cases e

/-! ### The text around it -/
theorem lexF_nO : ∀ (f : Nat) (l : T) (a : Nat) (acc ts : List Tk) (p : Nat), l.length < f → lexF f l a acc = (ts, p, 0) → ∃ us, ts = acc ++ us ∧ nO us ≤ cO l := by
  intro f
  induction f with
  | zero => intro l a acc ts p h; omega
  | succ f ih =>
    intro l a acc ts p hf h
    unfold lexF at h
    split at h
    · injection h with h1 h2
      exact ⟨[⟨0, [], 0, a⟩], h1.symm, by rw [nO_cons]; simp [nO]⟩
    · rename_i n hs
      have := step_skip hs
      obtain ⟨us, h1, h2⟩ := ih _ _ _ _ _ (by rw [List.length_drop]; omega) h
      refine ⟨us, h1, Nat.le_trans h2 ?_⟩
      have := cO_app (l.take n) (l.drop n)
      rw [List.take_append_drop] at this
      omega
    · rename_i k n v hs
      have := step_tok hs
      obtain ⟨us, h1, h2⟩ := ih _ _ _ _ _ (by rw [List.length_drop]; omega) h
      refine ⟨⟨k, l.take n, v, a⟩ :: us, by rw [h1, List.append_assoc]; rfl, ?_⟩
      have := cO_app (l.take n) (l.drop n)
      rw [List.take_append_drop] at this
      rw [nO_cons]
      split
      · rename_i ht
        have ht : l.take n = [40] := ht
        rw [ht] at this
        have : cO [40] = 1 := by decide
        omega
      · omega
    · rename_i e hs
      injection h with h1 h2
      injection h2 with h2 h3
      exfalso
      subst h3
      unfold stepS at hs
      split at hs
      · cases hs
      · repeat' split at hs
        all_goals cases hs
theorem progF_acc : ∀ (f : Nat) (acc : List Nd) (L : List Tk) (ns : List Nd) (L' : List Tk), progF f acc L = .ok ns L' → ∃ r, ns = acc ++ r := by
  intro f
  induction f with
  | zero => intro acc L ns L' h; cases h
  | succ f ih =>
    intro acc L ns L' h
    unfold progF at h
    split at h
    · split at h
      · cases h
      · obtain ⟨n, L1, _, h⟩ := bind_ok h
        obtain ⟨r, rfl⟩ := ih _ _ _ _ h
        exact ⟨n :: r, by simp⟩
    · split at h
      · injection h with h _; exact ⟨[], by simp [h]⟩
      · cases h
theorem eqsF_acc : ∀ (f : Nat) (acc : List Q) (L : List Tk) (ns : List Q) (L' : List Tk), eqsF f acc L = .ok ns L' → ∃ r, ns = acc ++ r := by
  intro f
  induction f with
  | zero => intro acc L ns L' h; cases h
  | succ f ih =>
    intro acc L ns L' h
    unfold eqsF at h
    split at h
    · split at h
      · cases h
      · obtain ⟨n, L1, _, h⟩ := bind_ok h
        obtain ⟨r, rfl⟩ := ih _ _ _ _ h
        exact ⟨n :: r, by simp⟩
    · injection h with h _; exact ⟨[], by simp [h]⟩

end Go.Proofs.YtdabndiaflagpaaGreatDoor
namespace Go.Proofs.YtdabndiaflagpaaGreatDoor
open Go.RowKit

/-- From cell off of block g on these tokens lie. -/
def TkAt (s : T) (w : World) (g off : Nat) (L : List Tk) : Prop := ∀ (i : Nat) t, L[i]? = some t → w.cell? ⟨g, off + i * 5, none⟩ = some (.int .i64 t.kind) ∧ w.cell? ⟨g, off + i * 5 + 1, none⟩ = some (.string ⟨t.text.toArray⟩) ∧ w.cell? ⟨g, off + i * 5 + 2, none⟩ = some (.int .i64 t.n) ∧
  w.cell? ⟨g, off + i * 5 + 3, none⟩ = some (.int .i64 (plAt s t.from_).1) ∧ w.cell? ⟨g, off + i * 5 + 4, none⟩ = some (.int .i64 (plAt s t.from_).2)
theorem TkAt.same {s : T} {w w' : World} {g off : Nat} {L : List Tk} (h : TkAt s w g off L) (hb : w'.heap[g]? = w.heap[g]?) : TkAt s w' g off L := fun i t hi => by
  obtain ⟨h0, h1, h2, h3, h4⟩ := h i t hi
  exact ⟨(World.cell?_of_block hb).trans h0, (World.cell?_of_block hb).trans h1, (World.cell?_of_block hb).trans h2, (World.cell?_of_block hb).trans h3, (World.cell?_of_block hb).trans h4⟩
theorem TkAt.tail {s : T} {w : World} {g off : Nat} {L : List Tk} (h : TkAt s w g off L) : TkAt s w g (off + 5) L.tail := fun i t hi => by
  have := h (i + 1) t (by rw [← hi]; cases L <;> simp)
  rw [show off + (i + 1) * 5 = off + 5 + i * 5 by omega] at this
  exact this

/-- The parser's text is in block b: these tokens are left, so many things are open. -/
structure StT (s : T) (B : Nat) (w : World) (b : Nat) (L : List Tk) (o : Nat) : Prop where
  row_ : ∃ g off c, Row w b 97 #[.slice (some ⟨g, off, none⟩) L.length c, .int .i64 (o : Int)] ∧ L.length ≤ c ∧ g < B ∧ g ≠ b ∧ TkAt s w g off L
  wf_ : WFt L
  open_ : o ≤ 400
  few_ : L.length ≤ 1000000
  base_ : b < B
  room_ : B ≤ w.heap.size
theorem StT.grown {s : T} {B : Nat} {w w' : World} {b : Nat} {L : List Tk} {o : Nat} {r : Option Nat} (h : StT s B w b L o) (hg : w.grownBy w' r) (hr : ∀ q, r = some q → B ≤ q) : StT s B w' b L o := by
  obtain ⟨g, off, c, h1, h2, h3, h4, h5⟩ := h.row_
  have h6 := h.base_
  have h7 := h.room_
  have hne : ∀ q, q < B → some q ≠ r := fun q hq e => by have := hr q e.symm; omega
  exact ⟨⟨g, off, c, h1.grown hg (hne b h6), h2, h3, h4, h5.same (hg.block g (by omega) (hne g h3))⟩, h.wf_, h.open_, h.few_, h6, Nat.le_trans h7 hg.size⟩
theorem StT.later {s : T} {B : Nat} {w w' : World} {b : Nat} {L : List Tk} {o : Nat} (h : StT s B w b L o) (hb : Below w.heap.size w w') : StT s B w' b L o := h.grown (only_below hb none) (fun _ e => by cases e)

/-- What the text is given up with. -/
def faultV (s : T) (c : Int) (a : Nat) : List PanicEntry := [{ v := .iface 94 (.agg #[.int .i64 (plAt s a).1, .int .i64 (plAt s a).2, .int .i64 c]), recovered := false }]
/-- What a part of the parser does, as the plain one says. -/
def PRes {α : Type} (s : T) (b B : Nat) (w : World) (o : Nat) (V : α → Value → World → Prop) (r : Pr α) (e : Ending) (w' : World) : Prop :=
  w.grownBy w' (some b) ∧ match r with
    | .ok x L => ∃ v, e = .returned v ∧ V x v w' ∧ StT s B w' b L o
    | .bad c a => e = .panicked (faultV s c a)
theorem PRes.okI {α : Type} {s : T} {b B : Nat} {w : World} {o : Nat} {V : α → Value → World → Prop} {r : Pr α} {e : Ending} {w' : World} {x : α} {L : List Tk} {v : Value} (h : r = .ok x L) (hg : w.grownBy w' (some b)) (he : e = .returned v) (hv : V x v w') (hs : StT s B w' b L o) : PRes s b B w o V r e w' := by
  subst h; exact ⟨hg, v, he, hv, hs⟩
theorem PRes.badI {α : Type} {s : T} {b B : Nat} {w : World} {o : Nat} {V : α → Value → World → Prop} {r : Pr α} {e : Ending} {w' : World} {c : Int} {a : Nat} (h : r = .bad c a) (hg : w.grownBy w' (some b)) (he : e = .panicked (faultV s c a)) : PRes s b B w o V r e w' := by
  subst h; exact ⟨hg, he⟩
theorem PRes.okE {α : Type} {s : T} {b B : Nat} {w : World} {o : Nat} {V : α → Value → World → Prop} {r : Pr α} {e : Ending} {w' : World} {x : α} {L : List Tk} (hh : PRes s b B w o V r e w') (h : r = .ok x L) : ∃ v, e = .returned v ∧ V x v w' ∧ StT s B w' b L o ∧ w.grownBy w' (some b) := by
  subst h; obtain ⟨hg, v, he, hv, hs⟩ := hh; exact ⟨v, he, hv, hs, hg⟩
theorem PRes.badE {α : Type} {s : T} {b B : Nat} {w : World} {o : Nat} {V : α → Value → World → Prop} {r : Pr α} {e : Ending} {w' : World} {c : Int} {a : Nat} (hh : PRes s b B w o V r e w') (h : r = .bad c a) : e = .panicked (faultV s c a) ∧ w.grownBy w' (some b) := by
  subst h; exact ⟨hh.2, hh.1⟩
theorem Pr.cases {α : Type} (r : Pr α) : (∃ x L, r = .ok x L) ∨ ∃ c a, r = .bad c a := by
  cases r with
  | ok x L => exact .inl ⟨x, L, rfl⟩
  | bad c a => exact .inr ⟨c, a, rfl⟩

theorem only_below' {w w' : World} (h : Below w.heap.size w w') (b : Nat) : w.grownBy w' (some b) := only_below h _

theorem hd_of {L : List Tk} (h : WFt L) : ∃ t r, L = t :: r := by
  cases L with
  | nil => exact h.elim
  | cons t r => exact ⟨t, r, rfl⟩

set_option maxRecDepth 100000 in
set_option maxHeartbeats 1000000 in
theorem pNext (s : T) (B b o : Nat) (t : Tk) (r : List Tk) (w : World) (h : StT s B w b (t :: r) o) :
    Calls Tryz.prog 64 #[.pointer (some ⟨b, 0, none⟩)] w fun e w' => e = .returned (.agg #[.int .i64 t.kind, .string ⟨t.text.toArray⟩, .int .i64 t.n, .int .i64 (plAt s t.from_).1, .int .i64 (plAt s t.from_).2]) ∧ Below w.heap.size w w' := by
  obtain ⟨g, off, c, h1, h2, h3, h4, h5⟩ := h.row_
  obtain ⟨d0, d1, d2, d3, d4⟩ := h5 0 t rfl
  have h6 := h.base_
  have h7 := h.room_
  have e0 := h1.cell 0
  simp only [Nat.zero_mul, Nat.add_zero] at d0 d1 d2 d3 d4
  simp at e0
  have hg : g < w.heap.size := by omega
  have hb : b < w.heap.size := by omega
  obtain ⟨z1, hz1⟩ : ∃ z, z = (plAt s t.from_).1 := ⟨_, rfl⟩
  obtain ⟨z2, hz2⟩ : ∃ z, z = (plAt s t.from_).2 := ⟨_, rfl⟩
  rw [← hz1] at d3 ⊢
  rw [← hz2] at d4 ⊢
  obtain ⟨k, hk⟩ : ∃ k, k = t.kind := ⟨_, rfl⟩
  obtain ⟨x, hx⟩ : ∃ x, x = t.text := ⟨_, rfl⟩
  obtain ⟨n, hn⟩ : ∃ n, n = t.n := ⟨_, rfl⟩
  rw [← hk] at d0 ⊢
  rw [← hx] at d1 ⊢
  rw [← hn] at d2 ⊢
  have hl : (0 : Int) < ((r.length + 1 : Nat) : Int) := by omega
  clear hz1 hz2 hk hx hn h h5 h2 h1 h6 h7 h3 h4
  go_enter Tryz.func64, Tryz.ntmps64
  go_wp2_with fail
  refine bodyPost_ret (by simp [results, Tryz.results64, go_sem]; rfl) rfl ?_
  exact ⟨rfl, (Below.refl _ _).alloc (Nat.le_refl _) _⟩

theorem tfld0 (a b c d e : Value) (w : World) : (Instr.field 141 (.agg #[a, b, c, d, e]) 0).run Tryz.prog w = .ok a w := by kernel_rfl
theorem tfld1 (a b c d e : Value) (w : World) : (Instr.field 141 (.agg #[a, b, c, d, e]) 1).run Tryz.prog w = .ok b w := by kernel_rfl
theorem tfld3 (a b c d e : Value) (w : World) : (Instr.field 141 (.agg #[a, b, c, d, e]) 3).run Tryz.prog w = .ok (.agg #[d, e]) w := by kernel_rfl

theorem StT.hd {s : T} {B : Nat} {w : World} {b : Nat} {L : List Tk} {o : Nat} (h : StT s B w b L o) : ∃ t r, L = t :: r := hd_of h.wf_
set_option maxRecDepth 100000 in
set_option maxHeartbeats 1000000 in
theorem pIs (s : T) (B b o : Nat) (x : T) (L : List Tk) (w : World) (h : StT s B w b L o) :
    Calls Tryz.prog 61 #[.pointer (some ⟨b, 0, none⟩), .string ⟨x.toArray⟩] w fun e w' => e = .returned (.bool (isP x L)) ∧ Below w.heap.size w w' := by
  obtain ⟨t, r, rfl⟩ := h.hd
  have HC := Lib.hid (pNext s B b o t r w h)
  obtain ⟨y, hy⟩ : ∃ y, y = t.text := ⟨_, rfl⟩
  have HY : Hid (isP x (t :: r) = (y == x)) := Lib.hid (by rw [hy, Bool.eq_iff_iff]; unfold isP hdT; rw [decide_eq_true_iff, beq_iff_eq])
  rw [← hy] at HC
  clear h hy
  have hfl := tfld1
  go_enter Tryz.func61, Tryz.ntmps61
  go_wp2_with (go_at_call 64; refine HC.out.mono ?_; rintro e w1 ⟨rfl, hb⟩; have HB := Lib.hid hb; clear hb HC)
  go_ret
  exact ⟨by rw [HY.out]; rfl, HB.out⟩

set_option maxRecDepth 100000 in
set_option maxHeartbeats 1000000 in
theorem pNamed (s : T) (B b o : Nat) (L : List Tk) (w : World) (h : StT s B w b L o) :
    Calls Tryz.prog 104 #[.pointer (some ⟨b, 0, none⟩)] w fun e w' => e = .returned (.bool (decide (hdK L = 1))) ∧ Below w.heap.size w w' := by
  obtain ⟨t, r, rfl⟩ := h.hd
  have HC := Lib.hid (pNext s B b o t r w h)
  obtain ⟨k, hk⟩ : ∃ k, k = t.kind := ⟨_, rfl⟩
  have HY : Hid (decide (hdK (t :: r) = 1) = (k == 1)) := Lib.hid (by rw [hk, Bool.eq_iff_iff]; unfold hdK; rw [decide_eq_true_iff, beq_iff_eq])
  rw [← hk] at HC
  clear h hk
  have hfl := tfld0
  go_enter Tryz.func104, Tryz.ntmps104
  go_wp2_with (go_at_call 64; refine HC.out.mono ?_; rintro e w1 ⟨rfl, hb⟩; have HB := Lib.hid hb; clear hb HC)
  go_ret
  exact ⟨by rw [HY.out]; rfl, HB.out⟩

set_option maxRecDepth 100000 in
set_option maxHeartbeats 1000000 in
theorem pGiveUp (s : T) (B b o : Nat) (c : Int) (L : List Tk) (w : World) (h : StT s B w b L o) :
    Calls Tryz.prog 65 #[.pointer (some ⟨b, 0, none⟩), .int .i64 c] w fun e w' => e = .panicked (faultV s c (hdF L)) ∧ Below w.heap.size w w' := by
  obtain ⟨t, r, rfl⟩ := h.hd
  have HC := Lib.hid (pNext s B b o t r w h)
  obtain ⟨z1, hz1⟩ : ∃ z, z = (plAt s t.from_).1 := ⟨_, rfl⟩
  obtain ⟨z2, hz2⟩ : ∃ z, z = (plAt s t.from_).2 := ⟨_, rfl⟩
  have HY : Hid (faultV s c (hdF (t :: r)) = [{ v := .iface 94 (.agg #[.int .i64 z1, .int .i64 z2, .int .i64 c]), recovered := false }]) := Lib.hid (by rw [hz1, hz2]; rfl)
  rw [← hz1, ← hz2] at HC
  clear h hz1 hz2
  have hfl := tfld3
  go_enter Tryz.func65, Tryz.ntmps65
  go_wp2_with (go_at_call 64; refine HC.out.mono ?_; rintro e w1 ⟨rfl, hb⟩; have HB := Lib.hid hb; clear hb HC)
  exact ⟨rfl, by rw [HY.out], HB.out⟩

set_option maxRecDepth 100000 in
set_option maxHeartbeats 1000000 in
theorem pPass (s : T) (B b o : Nat) (L : List Tk) (w : World) (h : StT s B w b L o) (ht : WFt L.tail) :
    Calls Tryz.prog 132 #[.pointer (some ⟨b, 0, none⟩)] w fun e w' => e = .returned (.tuple #[]) ∧ StT s B w' b L.tail o ∧ w.grownBy w' (some b) := by
  obtain ⟨t, r, rfl⟩ := h.hd
  obtain ⟨g, off, c, h1, h2, h3, h4, h5⟩ := h.row_
  have h6 := h.base_
  have h7 := h.room_
  have hr0 : 0 < r.length := List.length_pos_iff.2 ht.ne
  simp only [List.length_cons] at h1 h2
  have e0 := h1.cell 0
  simp at e0
  have hb : b < w.heap.size := by omega
  have f0 := h1.free 0
  have hc1 : 1 < c := by omega
  have HR := Lib.hid h1
  have HT := Lib.hid h5.tail
  have HH := Lib.hid h
  have HX := Lib.hid h2
  have HG3 := Lib.hid h3
  have HG4 := Lib.hid h4
  have HWF := Lib.hid ht
  have hc2 : (1 : Int) ≤ ((r.length + 1 : Nat) : Int) := by omega
  have hc3 : ¬ (c : Int) = 1 := by omega
  clear h1 h5 h ht hr0 h6 h7 h3 h4
  go_enter Tryz.func132, Tryz.ntmps132
  go_wp2_with fail
  go_end0
  have z := HR.out.set 0 (.slice (some ⟨g, off + 5, none⟩) r.length (c - 1))
  exact ⟨rfl, ⟨⟨g, off + 5, c - 1, by simpa using z, by have := HX.out; simp; omega, HG3.out, HG4.out, HT.out.same (Below.heap_setCell _ _ _ _ HG4.out)⟩, HWF.out, HH.out.open_, by have := HH.out.few_; simp at this ⊢; omega, HH.out.base_, by simpa using HH.out.room_⟩, only_set (only_refl w b) 0 _⟩

set_option maxRecDepth 100000 in
set_option maxHeartbeats 1000000 in
theorem pMay (s : T) (B b o : Nat) (x : T) (L : List Tk) (w : World) (h : StT s B w b L o) (hx : x ≠ []) :
    Calls Tryz.prog 102 #[.pointer (some ⟨b, 0, none⟩), .string ⟨x.toArray⟩] w fun e w' => e = .returned (.bool (isP x L)) ∧ StT s B w' b (if isP x L = true then L.tail else L) o ∧ w.grownBy w' (some b) := by
  have HC := Lib.hid (pIs s B b o x L w h)
  have HH := Lib.hid h
  have HP : Hid (∀ w1, Below w.heap.size w w1 → isP x L = true → Calls Tryz.prog 132 #[.pointer (some ⟨b, 0, none⟩)] w1 fun e w' => e = .returned (.tuple #[]) ∧ StT s B w' b L.tail o ∧ w1.grownBy w' (some b)) := Lib.hid fun w1 hb hi => pPass s B b o L w1 (h.later hb) (is_sh h.wf_ hi hx).1
  obtain ⟨i, hi⟩ : ∃ i, i = isP x L := ⟨_, rfl⟩
  rw [← hi] at HC HP ⊢
  clear h hx hi
  go_enter Tryz.func102, Tryz.ntmps102
  cases i with
  | true =>
    go_wp2_with (first | (go_at_call 61; refine HC.out.mono ?_; rintro e w1 ⟨rfl, hb⟩; have HB := Lib.hid hb; clear hb HC) | (go_at_call 132; refine (HP.out w1 HB.out (by simp)).mono ?_; rintro e w2 ⟨rfl, g1, g2⟩; have HG1 := Lib.hid g1; have HG2 := Lib.hid g2; clear g1 g2))
    go_ret
    exact ⟨rfl, HG1.out, only_trans (only_below HB.out _) HG2.out⟩
  | false =>
    go_wp2_with (go_at_call 61; refine HC.out.mono ?_; rintro e w1 ⟨rfl, hb⟩; have HB := Lib.hid hb; clear hb HC)
    go_ret
    exact ⟨rfl, HH.out.later HB.out, only_below HB.out _⟩

/-- A name that comes next. -/
def TxV : T → Value → World → Prop := fun x v _ => v = .string ⟨x.toArray⟩
def NoV {α : Type} : α → Value → World → Prop := fun _ v _ => v = .tuple #[]
set_option maxRecDepth 100000 in
set_option maxHeartbeats 1000000 in
theorem pName (s : T) (B b o : Nat) (L : List Tk) (w : World) (h : StT s B w b L o) :
    Calls Tryz.prog 100 #[.pointer (some ⟨b, 0, none⟩)] w (PRes s b B w o TxV (nmP L)) := by
  have HC := Lib.hid (pNamed s B b o L w h)
  have HH := Lib.hid h
  by_cases hk : hdK L = 1
  · obtain ⟨t, r, rfl⟩ := h.hd
    have ht := (kind_sh h.wf_ hk (by decide)).1
    have HR : Hid (nmP (t :: r) = .ok t.text r) := Lib.hid (by unfold nmP; rw [if_pos hk]; rfl)
    have hd : decide (hdK (t :: r) = 1) = true := decide_eq_true hk
    rw [hd] at HC
    have HN : Hid (∀ w1, Below w.heap.size w w1 → Calls Tryz.prog 64 #[.pointer (some ⟨b, 0, none⟩)] w1 fun e w' => e = .returned (.agg #[.int .i64 t.kind, .string ⟨t.text.toArray⟩, .int .i64 t.n, .int .i64 (plAt s t.from_).1, .int .i64 (plAt s t.from_).2]) ∧ Below w1.heap.size w1 w') := Lib.hid fun w1 hb => pNext s B b o t r w1 (h.later hb)
    have HP : Hid (∀ w1, Below w.heap.size w w1 → Calls Tryz.prog 132 #[.pointer (some ⟨b, 0, none⟩)] w1 fun e w' => e = .returned (.tuple #[]) ∧ StT s B w' b r o ∧ w1.grownBy w' (some b)) := Lib.hid fun w1 hb => pPass s B b o (t :: r) w1 (h.later hb) ht
    have hfl := tfld1
    clear h hk ht hd
    go_enter Tryz.func100, Tryz.ntmps100
    go_wp2_with (first | (go_at_call 104; refine HC.out.mono ?_; rintro e w1 ⟨rfl, hb⟩; have HB := Lib.hid hb; clear hb HC) | (go_at_call 64; refine (HN.out w1 HB.out).mono ?_; rintro e w2 ⟨rfl, hb⟩; have HB2 := Lib.hid (HB.out.trans (hb.mono HB.out.size)); clear hb HN) | (go_at_call 132; refine (HP.out w2 HB2.out).mono ?_; rintro e w3 ⟨rfl, g1, g2⟩; have HG1 := Lib.hid g1; have HG2 := Lib.hid g2; clear g1 g2))
    go_ret
    exact PRes.okI HR.out (only_trans (only_below HB2.out _) HG2.out) rfl rfl HG1.out
  · have HR : Hid (nmP L = .bad 2 (hdF L)) := Lib.hid (by unfold nmP; rw [if_neg hk]; rfl)
    have hd : decide (hdK L = 1) = false := decide_eq_false hk
    rw [hd] at HC
    have HU : Hid (∀ w1, Below w.heap.size w w1 → Calls Tryz.prog 65 #[.pointer (some ⟨b, 0, none⟩), .int .i64 2] w1 fun e w' => e = .panicked (faultV s 2 (hdF L)) ∧ Below w1.heap.size w1 w') := Lib.hid fun w1 hb => pGiveUp s B b o 2 L w1 (h.later hb)
    clear h hk hd
    go_enter Tryz.func100, Tryz.ntmps100
    go_wp2_with (first | (go_at_call 104; refine HC.out.mono ?_; rintro e w1 ⟨rfl, hb⟩; have HB := Lib.hid hb; clear hb HC) | (go_at_call 65; refine (HU.out w1 HB.out).mono ?_; rintro e w2 ⟨rfl, hb⟩; have HB2 := Lib.hid (HB.out.trans (hb.mono HB.out.size)); clear hb HU))
    exact ⟨rfl, PRes.badI HR.out (only_below HB2.out _) rfl⟩

set_option maxRecDepth 100000 in
set_option maxHeartbeats 1000000 in
theorem pRoom (s : T) (B b o n : Nat) (L : List Tk) (w : World) (h : StT s B w b L o) (hn : n ≤ 1000) :
    Calls Tryz.prog 62 #[.pointer (some ⟨b, 0, none⟩), .int .i64 (n : Int)] w (PRes s b B w o NoV (if 1000 ≤ n then failP 4 L else .ok () L)) := by
  have HU := Lib.hid (pGiveUp s B b o 4 L w h)
  have HH := Lib.hid h
  clear h
  by_cases h1 : n = 1000
  · subst h1
    clear hn
    go_enter Tryz.func62, Tryz.ntmps62
    go_wp2_with (go_at_call 65; refine HU.out.mono ?_; rintro e w2 ⟨rfl, hb⟩; have HB2 := Lib.hid hb; clear hb HU)
    exact ⟨rfl, PRes.badI rfl (only_below HB2.out _) rfl⟩
  · have hne : ((n : Int) == 1000) = false := beq_eq_false_iff_ne.2 (by omega)
    have HR : Hid (¬ 1000 ≤ n) := Lib.hid (by omega)
    clear hn h1
    go_enter Tryz.func62, Tryz.ntmps62
    go_wp2_with fail
    go_end0
    exact PRes.okI rfl (only_refl _ _) rfl rfl HH.out

set_option maxRecDepth 100000 in
set_option maxHeartbeats 1000000 in
theorem pBegin (s : T) (B b o : Nat) (L : List Tk) (w : World) (h : StT s B w b L o) (ht : WFt L.tail) :
    Calls Tryz.prog 177 #[.pointer (some ⟨b, 0, none⟩)] w (PRes s b B w (o + 1) NoV (openP o L fun L => .ok () L)) := by
  have HU := Lib.hid (pGiveUp s B b o 5 L w h)
  have HH := Lib.hid h
  obtain ⟨g, off, c, h1, h2, h3, h4, h5⟩ := h.row_
  have h6 := h.base_
  have h7 := h.room_
  have hb : b < w.heap.size := by omega
  have e1 := h1.cell 1
  have f1 := h1.free 1
  simp at e1
  have HR1 := Lib.hid h1
  have ho := h.open_
  by_cases h8 : o = 400
  · have HO : Hid (400 ≤ o) := Lib.hid (by omega)
    have hoi : (o : Int) = 400 := by omega
    rw [hoi] at e1
    clear h h1 h5 h8 hoi ho
    go_enter Tryz.func177, Tryz.ntmps177
    go_wp2_with (go_at_call 65; refine HU.out.mono ?_; rintro e w2 ⟨rfl, hb⟩; have HB2 := Lib.hid hb; clear hb HU)
    exact ⟨rfl, PRes.badI (if_pos HO.out) (only_below HB2.out _) rfl⟩
  · have hne : ((o : Int) == 400) = false := beq_eq_false_iff_ne.2 (by omega)
    have HO : Hid (¬ 400 ≤ o) := Lib.hid (by omega)
    have HS : Hid (StT s B (w.setCell ⟨b, 1, none⟩ (.int .i64 ((o + 1 : Nat) : Int))) b L (o + 1)) := Lib.hid
      ⟨⟨g, off, c, by simpa using h1.set 1 (.int .i64 ((o + 1 : Nat) : Int)), h2, h3, h4, h5.same (Below.heap_setCell _ _ _ _ h4)⟩, h.wf_, by omega, h.few_, h.base_, by simpa using h.room_⟩
    have HP := Lib.hid (pPass s B b (o + 1) L _ HS.out ht)
    have hz : ((o : Int) + 1) = ((o + 1 : Nat) : Int) := by omega
    have HZ := Lib.hid hz
    rw [← hz] at HP
    clear h h1 h5 h8 ht hz
    go_enter Tryz.func177, Tryz.ntmps177
    go_wp2_with (go_at_call 132; refine HP.out.mono ?_; rintro e w2 ⟨rfl, g1, g2⟩; have HG1 := Lib.hid g1; have HG2 := Lib.hid g2; clear g1 g2 HP)
    go_end0
    exact PRes.okI (if_neg HO.out) (only_trans (only_set (only_refl w b) 1 _) HG2.out) rfl rfl HG1.out

set_option maxRecDepth 100000 in
set_option maxHeartbeats 1000000 in
theorem pEnd (s : T) (B b o : Nat) (L : List Tk) (w : World) (h : StT s B w b L (o + 1)) :
    Calls Tryz.prog 178 #[.pointer (some ⟨b, 0, none⟩)] w fun e w' => e = .returned (.tuple #[]) ∧ StT s B w' b L o ∧ w.grownBy w' (some b) := by
  have HH := Lib.hid h
  obtain ⟨g, off, c, h1, h2, h3, h4, h5⟩ := h.row_
  have h6 := h.base_
  have h7 := h.room_
  have hb : b < w.heap.size := by omega
  have e1 := h1.cell 1
  have f1 := h1.free 1
  simp at e1
  have ho := h.open_
  have HS : Hid (StT s B (w.setCell ⟨b, 1, none⟩ (.int .i64 (o : Int))) b L o) := Lib.hid
      ⟨⟨g, off, c, by simpa using h1.set 1 (.int .i64 (o : Int)), h2, h3, h4, h5.same (Below.heap_setCell _ _ _ _ h4)⟩, h.wf_, by omega, h.few_, h.base_, by simpa using h.room_⟩
  have hz : ((o : Int) + 1 - 1) = (o : Int) := by omega
  clear h h1 h5
  go_enter Tryz.func178, Tryz.ntmps178
  go_wp2_with fail
  go_end0
  exact ⟨rfl, HS.out, only_set (only_refl w b) 1 _⟩
end Go.Proofs.YtdabndiaflagpaaGreatDoor
namespace Go.Proofs.YtdabndiaflagpaaGreatDoor
open Go.RowKit

theorem only_far {a w w' : World} {p : Nat} {r : Option Nat} (h : a.grownBy w (some p)) (hg : w.grownBy w' r) (hr : ∀ q, r = some q → a.heap.size ≤ q) : a.grownBy w' (some p) :=
  ⟨hg.os.trans h.os, hg.tape.trans h.tape, hg.output.trans h.output, Nat.le_trans h.size hg.size, fun i hi hne => (hg.block i (Nat.lt_of_lt_of_le hi h.size) (fun e => by have := hr i e.symm; omega)).trans (h.block i hi hne)⟩
theorem owns_far {w w' : World} {B p : Nat} {e : TypeId} {k n : Nat} {v : Value} {xs : List Value} (h : w.ownsRow B e k v n xs) (hg : w.grownBy w' (some p)) (hp : p < B) : w'.ownsRow B e k v n xs := h.kept hg (by
  have hl := World.ownsRow.lt h
  cases hv : v.ownBlock with
  | none => exact .inl rfl
  | some q => exact .inr (by intro e; injection e with e; have := (hl q hv).1; omega))
def rowT (ss : List T) : Array Value := (ss.map fun x => Value.string ⟨x.toArray⟩).toArray
theorem rowT_at {ss : List T} {i : Nat} {x : T} (h : ss[i]? = some x) : (rowT ss)[i]? = some (.string ⟨x.toArray⟩) := by
  simp [rowT, h]
theorem mustsP_cons (x : T) (ss : List T) (L : List Tk) : mustsP (x :: ss) L = if isP x L = true then mustsP ss L.tail else .bad 2 (hdF L) := by
  rw [mustsP]
  unfold mustP
  split <;> rfl

set_option maxRecDepth 100000 in
set_option maxHeartbeats 2000000 in
theorem pMust (s : T) (B b o : Nat) (ss : List T) (g n : Nat) (L : List Tk) (w : World) (h : StT s B w b L o) (hr : Row w g 9 (rowT ss)) (hg : g ≠ b) (hn : n = ss.length) (hss : ∀ x ∈ ss, x ≠ []) (hl : ss.length ≤ 100) :
    Calls Tryz.prog 99 #[.pointer (some ⟨b, 0, none⟩), .slice (some ⟨g, 0, none⟩) n n] w (PRes s b B w o NoV (mustsP ss L)) := by
  subst hn
  obtain ⟨R, hR⟩ : ∃ R, R = mustsP ss L := ⟨_, rfl⟩
  rw [← hR]
  have HH := Lib.hid h
  have HRW := Lib.hid hr
  have HRR := Lib.hid hR
  have HG := Lib.hid hg
  have HSS := Lib.hid hss
  clear h hr hg hss hR
  go_enter Tryz.func99, Tryz.ntmps99
  go_wp2_with fail
  go_loopg [5, 8] ss.length (fun g' _ k wr => ∃ (i : Nat) (Li : List Tk), i + g' = ss.length ∧ k = .int .i64 (i : Int) ∧ R = mustsP (ss.drop i) Li ∧ StT s B wr b Li o ∧ w.grownBy wr (some b))
  case atStart => exact ⟨0, L, by omega, rfl, by rw [HRR.out]; rfl, HH.out, only_refl _ _⟩
  case round =>
    obtain ⟨i, Li, hi, rfl, hRi, hst, hgr⟩ := hrel
    have HST := Lib.hid hst
    have HGR := Lib.hid hgr
    have HRI := Lib.hid hRi
    clear hst hgr hRi
    by_cases hlt : i < ss.length
    · obtain ⟨x, hx⟩ : ∃ x, ss[i]? = some x := ⟨_, List.getElem?_eq_getElem hlt⟩
      have hxm : x ≠ [] := HSS.out x (List.mem_of_getElem? hx)
      have hrw := HRW.out.grown HGR.out (by intro e; injection e with e; exact HG.out e)
      have c0 := hrw.cell i
      rw [rowT_at hx] at c0
      have HDR : Hid (ss.drop i = x :: ss.drop (i + 1)) := Lib.hid (by rw [List.drop_eq_getElem_cons hlt]; congr 1; rw [List.getElem?_eq_getElem hlt] at hx; injection hx)
      have hgz : g < wr.heap.size := hrw.lt
      have HC := Lib.hid (pMay s B b o x Li wr HST.out hxm)
      have HU : Hid (∀ w1, StT s B w1 b Li o → Calls Tryz.prog 65 #[.pointer (some ⟨b, 0, none⟩), .int .i64 2] w1 fun e w' => e = .panicked (faultV s 2 (hdF Li)) ∧ Below w1.heap.size w1 w') := Lib.hid fun w1 h1 => pGiveUp s B b o 2 Li w1 h1
      by_cases hb : isP x Li = true
      · have HRI2 : Hid (R = mustsP (ss.drop (i + 1)) Li.tail) := Lib.hid (by rw [HRI.out, HDR.out, mustsP_cons, if_pos hb])
        rw [if_pos hb, hb] at HC
        clear hb hx hrw hxm
        go_wp2_with (go_at_call 102; refine HC.out.mono ?_; rintro e w1 ⟨rfl, g1, g2⟩; have HG1 := Lib.hid g1; have HG2 := Lib.hid g2; clear g1 g2 HC)
        go_roundg (ss.length - (i + 1))
        case rel => exact ⟨i + 1, Li.tail, by omega, by go_num, HRI2.out, HG1.out, only_trans HGR.out HG2.out⟩
        case measure => omega
      · have HRI2 : Hid (R = .bad 2 (hdF Li)) := Lib.hid (by rw [HRI.out, HDR.out, mustsP_cons, if_neg hb])
        have hb2 : isP x Li = false := by simpa using hb
        rw [if_neg hb, hb2] at HC
        clear hb hb2 hx hrw hxm
        go_wp2_with (first | (go_at_call 102; refine HC.out.mono ?_; rintro e w1 ⟨rfl, g1, g2⟩; have HG1 := Lib.hid g1; have HG2 := Lib.hid g2; clear g1 g2 HC) | (go_at_call 65; refine (HU.out w1 HG1.out).mono ?_; rintro e w2 ⟨rfl, hb⟩; have HB2 := Lib.hid hb; clear hb HU))
        exact ⟨rfl, PRes.badI HRI2.out (only_trans HGR.out (only_trans HG2.out (only_below HB2.out _))) rfl⟩
    · obtain rfl : i = ss.length := by omega
      have HRI2 : Hid (R = .ok () Li) := Lib.hid (by rw [HRI.out, List.drop_length]; rfl)
      go_wp2_with fail
      go_end0
      exact PRes.okI HRI2.out HGR.out rfl rfl HST.out

set_option maxRecDepth 100000 in
set_option maxHeartbeats 2000000 in
theorem pEntry (s : T) (B b o n : Nat) (L : List Tk) (w : World) (h : StT s B w b L o) (hn : n ≤ 1000) :
    Calls Tryz.prog 176 #[.pointer (some ⟨b, 0, none⟩), .int .i64 (n : Int)] w (PRes s b B w o TxV (entryP n L)) := by
  have HC := Lib.hid (pNamed s B b o L w h)
  have HM : Hid (∀ w1, StT s B w1 b L o → Calls Tryz.prog 100 #[.pointer (some ⟨b, 0, none⟩)] w1 (PRes s b B w1 o TxV (nmP L))) := Lib.hid fun w1 h1 => pName s B b o L w1 h1
  have HO : Hid (∀ w1, StT s B w1 b L o → Calls Tryz.prog 62 #[.pointer (some ⟨b, 0, none⟩), .int .i64 (n : Int)] w1 (PRes s b B w1 o NoV (if 1000 ≤ n then failP 4 L else .ok () L))) := Lib.hid fun w1 h1 => pRoom s B b o n L w1 h1 hn
  have HH := Lib.hid h
  obtain ⟨R, hR⟩ : ∃ R, R = entryP n L := ⟨_, rfl⟩
  rw [← hR]
  unfold entryP at hR
  clear h
  by_cases hk : hdK L = 1
  · have hd : decide (hdK L = 1) = true := decide_eq_true hk
    rw [hd] at HC
    rw [if_pos hk] at hR
    by_cases h1 : 1000 ≤ n
    · rw [if_pos h1] at hR HO
      have HR := Lib.hid hR
      clear hR hk hd h1
      go_enter Tryz.func176, Tryz.ntmps176
      go_wp2_with (first | (go_at_call 104; refine HC.out.mono ?_; rintro e w1 ⟨rfl, hb⟩; have HB := Lib.hid hb; clear hb HC) | (go_at_call 62; refine (HO.out w1 (HH.out.later HB.out)).mono ?_; intro e w2 h2; obtain ⟨rfl, g2⟩ := h2.badE rfl; have HG2 := Lib.hid g2; clear g2 h2))
      exact ⟨rfl, PRes.badI HR.out (only_trans (only_below HB.out _) HG2.out) rfl⟩
    · rw [if_neg h1] at hR HO
      have hm : nmP L = .ok (hdT L) L.tail := if_pos hk
      rw [hm] at HM
      have HR := Lib.hid hR
      clear hR hk hd h1 hm
      go_enter Tryz.func176, Tryz.ntmps176
      go_wp2_with (first | (go_at_call 104; refine HC.out.mono ?_; rintro e w1 ⟨rfl, hb⟩; have HB := Lib.hid hb; clear hb HC) | (go_at_call 62; refine (HO.out w1 (HH.out.later HB.out)).mono ?_; intro e w2 h2; obtain ⟨v, rfl, hv, g1, g2⟩ := h2.okE rfl; obtain rfl : v = .tuple #[] := hv; have HS2 := Lib.hid g1; have HG2 := Lib.hid g2; clear g1 g2 h2) | (go_at_call 100; refine (HM.out w2 HS2.out).mono ?_; intro e w3 h2; obtain ⟨v, rfl, hv, g1, g2⟩ := h2.okE rfl; obtain rfl : v = .string ⟨(hdT L).toArray⟩ := hv; have HS3 := Lib.hid g1; have HG3 := Lib.hid g2; clear g1 g2 h2))
      go_ret
      exact PRes.okI HR.out (only_trans (only_trans (only_below HB.out _) HG2.out) HG3.out) rfl rfl HS3.out
  · have hd : decide (hdK L = 1) = false := decide_eq_false hk
    rw [hd] at HC
    rw [if_neg hk] at hR
    have hm : nmP L = .bad 2 (hdF L) := if_neg hk
    rw [hm] at HM
    have HR := Lib.hid hR
    clear hR hk hd hm
    go_enter Tryz.func176, Tryz.ntmps176
    go_wp2_with (first | (go_at_call 104; refine HC.out.mono ?_; rintro e w1 ⟨rfl, hb⟩; have HB := Lib.hid hb; clear hb HC) | (go_at_call 100; refine (HM.out w1 (HH.out.later HB.out)).mono ?_; intro e w3 h2; obtain ⟨rfl, g2⟩ := h2.badE rfl; have HG3 := Lib.hid g2; clear g2 h2))
    exact ⟨rfl, PRes.badI HR.out (only_trans (only_below HB.out _) HG3.out) rfl⟩

/-! ### Rows of texts -/
def RS : Of T := fun _ _ t cs => cs = [.string ⟨t.toArray⟩]
theorem lastsS : Lasts RS 1 := ⟨fun h _ => h, fun h => by rw [show _ = _ from h]; rfl, fun h u hu => by
  rw [show _ = _ from h] at hu
  simp only [List.mem_cons, List.not_mem_nil, or_false] at hu
  subst hu; rfl⟩
/-- The value is a slice of these texts, of the call's own. -/
def OwnS (B : Nat) (ts : List T) (v : Value) (w : World) : Prop := OwnG RS 9 1 w B (fun _ => False) v ts
theorem OwnS.one {B : Nat} (x : T) (w : World) (hB : B ≤ w.heap.size) : OwnS B [x] (.slice (some ⟨w.heap.size, 0, none⟩) 1 1) (w.alloc (.cells #[.string ⟨x.toArray⟩] 9)) :=
  ⟨[.string ⟨x.toArray⟩], World.ownsRow_lit w #[.string ⟨x.toArray⟩] 1 hB (by unfold maxLen; omega) (by simp), [.string ⟨x.toArray⟩], [], by simp, rfl, rfl⟩
theorem OwnS.kept {B : Nat} {ts : List T} {v : Value} {w w' : World} {r : Option Nat} (h : OwnS B ts v w) (hg : w.grownBy w' r) (hr : ∀ q, r = some q → q < B) : OwnS B ts v w' := by
  obtain ⟨cs, ho, hx⟩ := h
  have hlt := World.ownsRow.lt ho
  refine ⟨cs, ho.kept hg ?_, hx.move lastsS fun _ h => h.elim⟩
  cases hv : v.ownBlock with
  | none => exact .inl rfl
  | some q => exact .inr fun e => by have h1 := (hlt q hv).1; have := hr q e.symm; omega
theorem OwnS.form {B : Nat} {ts : List T} {v : Value} {w : World} (h : OwnS B ts v w) : ∃ A c, v = .slice A ts.length c ∧ ts.length ≤ c ∧ ∀ i x, ts[i]? = some x → ∃ g, A = some ⟨g, 0, none⟩ ∧ B ≤ g ∧ w.cell? ⟨g, i, none⟩ = some (.string ⟨x.toArray⟩) := by
  obtain ⟨cs, ho, hx⟩ := h
  rcases ho.2 with ⟨rfl, hz⟩ | ⟨g, cap, cur, rfl, hb, hgg, hnc, hcm, hcs, htake⟩
  · exact ⟨none, 0, by rw [hz], by omega, fun i x hi => by rw [List.eq_nil_of_length_eq_zero hz] at hi; simp at hi⟩
  · refine ⟨_, _, rfl, hnc, fun i x hi => ⟨g, rfl, hb, ?_⟩⟩
    obtain ⟨c, hc, hat⟩ := hx.at lastsS hi
    have hc : c = _ := hc
    subst hc
    have h1 := hat 0 _ rfl
    rw [Nat.mul_one, Nat.add_zero] at h1
    have hlt : i < cs.length := by
      rcases Nat.lt_or_ge i cs.length with h' | h'
      · exact h'
      · rw [List.getElem?_eq_none h'] at h1; cases h1
    rw [World.ownsRow.cellAt ho i (by have := ho.1; omega), h1]
theorem str_info : (Tryz.prog.info? 9).map (fun i => (i.zero, i.size, i.bytes)) = some (some (.string ⟨#[]⟩), 1, 16) := by kernel_rfl

set_option maxRecDepth 100000 in
set_option maxHeartbeats 4000000 in
theorem pNames (s : T) (B b o n : Nat) (L : List Tk) (w : World) (h : StT s B w b L o) (hn : n ≤ 1000) :
    Calls Tryz.prog 157 #[.pointer (some ⟨b, 0, none⟩), .int .i64 (n : Int)] w (PRes s b B w o (fun ts v w' => OwnS w.heap.size ts v w' ∧ n + ts.length ≤ 1000) (namesP n L)) := by
  obtain ⟨i0, hi0, hz0, hz1, hz2⟩ := info_parts str_info
  obtain ⟨R, hR⟩ : ∃ R, R = namesP n L := ⟨_, rfl⟩
  rw [← hR]
  have HC := Lib.hid (pEntry s B b o n L w h hn)
  have HH := Lib.hid h
  unfold namesP at hR
  rcases (entryP n L).cases with ⟨x, L1, hE⟩ | ⟨c, a, hE⟩
  · have hn1 : n + 1 ≤ 1000 := by
      unfold entryP at hE
      split at hE
      · split at hE
        · cases hE
        · omega
      · cases hE
    rw [hE] at HC hR
    have HR : Hid (R = namesF (L1.length + 1) n [x] L1) := Lib.hid hR
    clear hR hE h hn
    go_enter Tryz.func157, Tryz.ntmps157
    go_wp2_with (go_at_call 176; refine HC.out.mono ?_; intro e w1 h2; obtain ⟨v, rfl, hv, g1, g2⟩ := h2.okE rfl; obtain rfl : v = .string ⟨x.toArray⟩ := hv; have HS1 := Lib.hid g1; have HG1 := Lib.hid g2; have HZ1 := Lib.hid g2.size; clear g1 g2 h2 HC)
    go_loopg [5] (L1.length + 1) (fun g' v wr => ∃ (acc : List T) (Li : List Tk), Li.length < g' ∧ R = namesF g' n acc Li ∧ StT s B wr b Li o ∧ OwnS w.heap.size acc v wr ∧ n + acc.length ≤ 1000 ∧ w.grownBy wr (some b))
    case atStart => exact ⟨[x], L1, Nat.lt_succ_self _, HR.out, HS1.out.later ((Below.refl _ _).alloc (Nat.le_refl _) _), OwnS.one x w1 HZ1.out, hn1, only_alloc HG1.out _⟩
    case round =>
      obtain ⟨acc, Li, hf, hRi, hst, hown, hna, hgr⟩ := hrel
      obtain ⟨f, rfl⟩ : ∃ f, gk = f + 1 := ⟨gk - 1, by omega⟩
      obtain ⟨A, c, rfl, hlc, _⟩ := hown.form
      have HST := Lib.hid hst
      have HGR := Lib.hid hgr
      have HOW := Lib.hid hown
      have HWS := Lib.hid hgr.size
      have hbB := hst.base_
      have hBw := HH.out.room_
      have HC := Lib.hid (pMay s B b o [44] Li wr hst (by decide))
      have HE : Hid (WFt Li.tail → ∀ w1, StT s B w1 b Li.tail o → Calls Tryz.prog 176 #[.pointer (some ⟨b, 0, none⟩), .int .i64 ((n + acc.length : Nat) : Int)] w1 (PRes s b B w1 o TxV (entryP (n + acc.length) Li.tail))) := Lib.hid fun _ w1 h1 => pEntry s B b o (n + acc.length) Li.tail w1 h1 hna
      rw [Int.natCast_add] at HE
      by_cases hb : isP [44] Li = true
      · have ht := is_sh hst.wf_ hb (by decide)
        have hRi2 : R = (entryP (n + acc.length) Li.tail).bind fun t L => namesF f n (acc ++ [t]) L := by rw [hRi, namesF, if_pos hb]
        rw [if_pos hb, hb] at HC
        rcases (entryP (n + acc.length) Li.tail).cases with ⟨y, L2, hE⟩ | ⟨c2, a2, hE⟩
        · have hsh := entryP_sh (n + acc.length) ht.1 y L2 hE
          have hn2 : n + acc.length + 1 ≤ 1000 := by
            unfold entryP at hE
            split at hE
            · split at hE
              · cases hE
              · omega
            · cases hE
          rw [hE] at hRi2 HE
          have HRI : Hid (R = namesF f n (acc ++ [y]) L2) := Lib.hid hRi2
          have HT := Lib.hid ht.1
          have hl2 : L2.length < f := by have := hsh.2; have := ht.2; omega
          obtain ⟨ds, ho, hx⟩ := hown
          have HO := Lib.hid ho
          have HX := Lib.hid hx
          have HV := Lib.hid (World.ownsRow.lt ho)
          clear hst hgr hRi hRi2 hb ht hE hsh ho hx hf
          go_wp2_with (first | (go_at_call 102; refine HC.out.mono ?_; rintro e w2 ⟨rfl, g1, g2⟩; have HS2 := Lib.hid g1; have HG2 := Lib.hid g2; clear g1 g2 HC) | (go_at_call 176; refine (HE.out HT.out w2 HS2.out).mono ?_; intro e w3 h2; obtain ⟨v, rfl, hv, g1, g2⟩ := h2.okE rfl; obtain rfl : v = .string ⟨y.toArray⟩ := hv; have HS3 := Lib.hid g1; have HG3 := Lib.hid (only_trans HG2.out g2); have HNW : Hid (∀ j u, [Value.string ⟨y.toArray⟩][j]? = some u → (w3.alloc (.cells #[.string ⟨y.toArray⟩] 9)).cell? ((⟨w3.heap.size, 0, none⟩ : Addr).add j) = some u) := Lib.hid (fun j u hu => by rw [addr_add, Nat.zero_add, (Row.made _ _ _).cell j, ← hu]; simp); have HO3 : Hid ((w3.alloc (.cells #[.string ⟨y.toArray⟩] 9)).ownsRow w.heap.size 9 1 (.slice A acc.length c) acc.length ds) := Lib.hid ((owns_far HO.out HG3.out (by omega)).alloc _); have HZ3 : Hid (w.heap.size ≤ (w3.alloc (.cells #[.string ⟨y.toArray⟩] 9)).heap.size) := Lib.hid (by have := HWS.out; have := HG3.out.size; simp; omega); clear g1 g2 h2) | (at_builtin; go_must (refine wpList_append_own_at _ rfl (.tmp 12) (.tmp 19) 43 rfl w.heap.size 9 i0 _ 1 16 Tryz.underlying43 hi0 hz0 hz1 hz2 rfl (by omega) _ acc.length ds rfl HO3.out ⟨w3.heap.size, 0, none⟩ 1 1 [.string ⟨y.toArray⟩] rfl rfl HNW.out (lastsS.one (w := wr) (S := fun _ => True) rfl) (by unfold maxLen; omega) (by omega) HZ3.out ?_); intro v' w4 ho' hgr' _ hat; have HO4 := Lib.hid ho'; have HG4 := Lib.hid hgr'; clear ho' hgr' hat))
          go_roundg f
          case rel => exact ⟨acc ++ [y], L2, hl2, HRI.out, (HS3.out.later ((Below.refl _ _).alloc (Nat.le_refl _) _)).grown HG4.out (fun q hq => by have := (HV.out q hq).1; omega), ⟨ds ++ [.string ⟨y.toArray⟩], by rw [List.length_append]; exact HO4.out, CG.snoc rfl (HX.out.move lastsS fun _ h => h.elim)⟩, by simp; omega, only_far (only_alloc (only_trans HGR.out HG3.out) _) HG4.out (fun q hq => (HV.out q hq).1)⟩
          case measure => omega
        · rw [hE] at hRi2 HE
          have HRI : Hid (R = .bad c2 a2) := Lib.hid hRi2
          have HT := Lib.hid ht.1
          clear hst hgr hRi hRi2 hb ht hE hf hown
          go_wp2_with (first | (go_at_call 102; refine HC.out.mono ?_; rintro e w2 ⟨rfl, g1, g2⟩; have HS2 := Lib.hid g1; have HG2 := Lib.hid g2; clear g1 g2 HC) | (go_at_call 176; refine (HE.out HT.out w2 HS2.out).mono ?_; intro e w3 h2; obtain ⟨rfl, g2⟩ := h2.badE rfl; have HG3 := Lib.hid (only_trans HG2.out g2); clear g2 h2))
          exact ⟨rfl, PRes.badI HRI.out (only_trans HGR.out HG3.out) rfl⟩
      · have hb2 : isP [44] Li = false := by simpa using hb
        have HRI : Hid (R = .ok acc Li) := Lib.hid (by rw [hRi, namesF, if_neg hb])
        rw [if_neg hb, hb2] at HC
        clear hst hgr hRi hb hb2 hf hown
        go_wp2_with (go_at_call 102; refine HC.out.mono ?_; rintro e w2 ⟨rfl, g1, g2⟩; have HS2 := Lib.hid g1; have HG2 := Lib.hid g2; clear g1 g2 HC)
        go_ret
        exact PRes.okI HRI.out (only_trans HGR.out HG2.out) rfl ⟨HOW.out.kept HG2.out (fun q hq => by injection hq with hq; omega), hna⟩ HS2.out
  · rw [hE] at HC hR
    have HR : Hid (R = .bad c a) := Lib.hid hR
    clear hR hE h hn
    go_enter Tryz.func157, Tryz.ntmps157
    go_wp2_with (go_at_call 176; refine HC.out.mono ?_; intro e w1 h2; obtain ⟨rfl, g2⟩ := h2.badE rfl; have HG1 := Lib.hid g2; clear g2 h2 HC)
    exact ⟨rfl, PRes.badI HR.out HG1.out rfl⟩

set_option maxRecDepth 100000 in
set_option maxHeartbeats 2000000 in
theorem pType (s : T) (B b o : Nat) (L : List Tk) (w : World) (h : StT s B w b L o) :
    Calls Tryz.prog 158 #[.pointer (some ⟨b, 0, none⟩)] w (PRes s b B w o (fun ty v _ => v = .int .i64 ty) (typeP L)) := by
  have HC := Lib.hid (pMay s B b o wInt L w h (by decide))
  have HH := Lib.hid h
  obtain ⟨R, hR⟩ : ∃ R, R = typeP L := ⟨_, rfl⟩
  rw [← hR]
  unfold typeP at hR
  by_cases hb : isP wInt L = true
  · rw [if_pos hb] at hR
    rw [if_pos hb, hb] at HC
    have HR := Lib.hid hR
    clear hR hb h
    go_enter Tryz.func158, Tryz.ntmps158
    go_wp2_with (go_at_call 102; refine HC.out.mono ?_; rintro e w2 ⟨rfl, g1, g2⟩; have HS2 := Lib.hid g1; have HG2 := Lib.hid g2; clear g1 g2 HC)
    go_ret
    exact PRes.okI HR.out HG2.out rfl rfl HS2.out
  · have hb2 : isP wInt L = false := by simpa using hb
    rw [if_neg hb] at hR
    rw [if_neg hb, hb2] at HC
    have HM : Hid (∀ w1, StT s B w1 b L o → Calls Tryz.prog 99 #[.pointer (some ⟨b, 0, none⟩), .slice (some ⟨w1.heap.size, 0, none⟩) 1 1] (w1.alloc (.cells #[.string ⟨#[98, 111, 111, 108]⟩] 9)) (PRes s b B (w1.alloc (.cells #[.string ⟨#[98, 111, 111, 108]⟩] 9)) o NoV (mustsP [wBool] L))) := Lib.hid fun w1 h1 => pMust s B b o [wBool] w1.heap.size 1 L _ (h1.later ((Below.refl _ _).alloc (Nat.le_refl _) _)) (Row.made _ _ _) (by have := h1.base_; have := h1.room_; omega) rfl (by decide) (by decide)
    have hm : mustsP [wBool] L = mustP wBool L := by rw [mustsP]; unfold mustP; split <;> rfl
    rw [hm] at HM
    rcases (mustP wBool L).cases with ⟨x, L1, hE⟩ | ⟨c, a, hE⟩
    · rw [hE] at hR HM
      have HR : Hid (R = .ok 1 L1) := Lib.hid hR
      clear hR hb hb2 hE hm h
      go_enter Tryz.func158, Tryz.ntmps158
      go_wp2_with (first | (go_at_call 102; refine HC.out.mono ?_; rintro e w2 ⟨rfl, g1, g2⟩; have HS2 := Lib.hid g1; have HG2 := Lib.hid g2; clear g1 g2 HC) | (go_at_call 99; refine (HM.out w2 HS2.out).mono ?_; intro e w3 h2; obtain ⟨v, rfl, hv, g1, g2⟩ := h2.okE rfl; obtain rfl : v = .tuple #[] := hv; have HS3 := Lib.hid g1; have HG3 := Lib.hid (only_trans (only_alloc HG2.out _) g2); clear g1 g2 h2))
      go_ret
      exact PRes.okI HR.out HG3.out rfl rfl HS3.out
    · rw [hE] at hR HM
      have HR : Hid (R = .bad c a) := Lib.hid hR
      clear hR hb hb2 hE hm h
      go_enter Tryz.func158, Tryz.ntmps158
      go_wp2_with (first | (go_at_call 102; refine HC.out.mono ?_; rintro e w2 ⟨rfl, g1, g2⟩; have HS2 := Lib.hid g1; have HG2 := Lib.hid g2; clear g1 g2 HC) | (go_at_call 99; refine (HM.out w2 HS2.out).mono ?_; intro e w3 h2; obtain ⟨rfl, g2⟩ := h2.badE rfl; have HG3 := Lib.hid (only_trans (only_alloc HG2.out _) g2); clear g2 h2))
      exact ⟨rfl, PRes.badI HR.out HG3.out rfl⟩

end Go.Proofs.YtdabndiaflagpaaGreatDoor
namespace Go.Proofs.YtdabndiaflagpaaGreatDoor
open Go.RowKit

/-- Below block B0 only block b has turned. -/
structure Kp (B0 b : Nat) (w w' : World) : Prop where
  os : w'.os = w.os
  tape : w'.tape = w.tape
  output : w'.output = w.output
  size : w.heap.size ≤ w'.heap.size
  block : ∀ q, q < B0 → q ≠ b → w'.heap[q]? = w.heap[q]?
theorem Kp.trans {B0 b : Nat} {w w' w'' : World} (h : Kp B0 b w w') (k : Kp B0 b w' w'') : Kp B0 b w w'' :=
  ⟨k.os.trans h.os, k.tape.trans h.tape, k.output.trans h.output, Nat.le_trans h.size k.size, fun q hq hne => (k.block q hq hne).trans (h.block q hq hne)⟩
theorem Kp.of {B0 b : Nat} {w w' : World} (h : w.grownBy w' (some b)) (hB : B0 ≤ w.heap.size) : Kp B0 b w w' :=
  ⟨h.os, h.tape, h.output, h.size, fun q hq hne => h.block q (by omega) (fun e => by injection e with e; exact hne e)⟩
theorem Kp.own {B0 b : Nat} {w w' : World} {r : Option Nat} (h : w.grownBy w' r) (hB : B0 ≤ w.heap.size) (hr : ∀ q, r = some q → B0 ≤ q) : Kp B0 b w w' :=
  ⟨h.os, h.tape, h.output, h.size, fun q hq _ => h.block q (by omega) (fun e => by have := hr q e.symm; omega)⟩
theorem Kp.only {b : Nat} {w w' : World} (h : Kp w.heap.size b w w') : w.grownBy w' (some b) :=
  ⟨h.os, h.tape, h.output, h.size, fun q hq hne => h.block q hq (fun e => hne (by rw [e]))⟩
def PResK {α : Type} (s : T) (b B B0 : Nat) (w : World) (o : Nat) (V : α → Value → World → Prop) (r : Pr α) (e : Ending) (w' : World) : Prop :=
  Kp B0 b w w' ∧ match r with
    | .ok x L => ∃ v, e = .returned v ∧ V x v w' ∧ StT s B w' b L o
    | .bad c a => e = .panicked (faultV s c a)
section
variable {α : Type} {s : T} {b B B0 : Nat} {w : World} {o : Nat} {V : α → Value → World → Prop} {r : Pr α} {e : Ending} {w' : World}
theorem PResK.okI {x : α} {L : List Tk} {v : Value} (h : r = .ok x L) (hg : Kp B0 b w w') (he : e = .returned v) (hv : V x v w') (hs : StT s B w' b L o) : PResK s b B B0 w o V r e w' := by
  subst h; exact ⟨hg, v, he, hv, hs⟩
theorem PResK.badI {c : Int} {a : Nat} (h : r = .bad c a) (hg : Kp B0 b w w') (he : e = .panicked (faultV s c a)) : PResK s b B B0 w o V r e w' := by
  subst h; exact ⟨hg, he⟩
theorem PResK.okE {x : α} {L : List Tk} (hh : PResK s b B B0 w o V r e w') (h : r = .ok x L) : ∃ v, e = .returned v ∧ V x v w' ∧ StT s B w' b L o ∧ Kp B0 b w w' := by
  subst h; obtain ⟨hg, v, he, hv, hs⟩ := hh; exact ⟨v, he, hv, hs, hg⟩
theorem PResK.badE {c : Int} {a : Nat} (hh : PResK s b B B0 w o V r e w') (h : r = .bad c a) : e = .panicked (faultV s c a) ∧ Kp B0 b w w' := by
  subst h; exact ⟨hh.2, hh.1⟩
end

/-! ### Words that have to come, as they stand in the text -/
theorem musts1 (x : T) (L : List Tk) : mustsP [x] L = mustP x L := by rw [mustsP]; unfold mustP; split <;> rfl
theorem pMust1 (s : T) (B b o : Nat) (x : T) (L : List Tk) (w : World) (h : StT s B w b L o) (hx : x ≠ []) :
    Calls Tryz.prog 99 #[.pointer (some ⟨b, 0, none⟩), .slice (some ⟨w.heap.size, 0, none⟩) 1 1] (w.alloc (.cells #[.string ⟨x.toArray⟩] 9)) (PRes s b B w o NoV (mustP x L)) := by
  refine (pMust s B b o [x] w.heap.size 1 L _ (h.later ((Below.refl _ _).alloc (Nat.le_refl _) _)) (Row.made _ _ _) (by have := h.base_; have := h.room_; omega) rfl (by simpa using hx) (by simp)).mono fun e w' hh => ?_
  rw [musts1] at hh
  exact ⟨only_trans (only_alloc (only_refl _ _) _) hh.1, hh.2⟩
theorem pMust2 (s : T) (B b o : Nat) (x y : T) (L : List Tk) (w : World) (h : StT s B w b L o) (hx : x ≠ []) (hy : y ≠ []) :
    Calls Tryz.prog 99 #[.pointer (some ⟨b, 0, none⟩), .slice (some ⟨w.heap.size, 0, none⟩) 2 2] (w.alloc (.cells #[.string ⟨x.toArray⟩, .string ⟨y.toArray⟩] 9)) (PRes s b B w o NoV (mustsP [x, y] L)) := by
  refine (pMust s B b o [x, y] w.heap.size 2 L _ (h.later ((Below.refl _ _).alloc (Nat.le_refl _) _)) (Row.made _ _ _) (by have := h.base_; have := h.room_; omega) rfl (by simpa using ⟨hx, hy⟩) (by simp)).mono fun e w' hh => ?_
  exact ⟨only_trans (only_alloc (only_refl _ _) _) hh.1, hh.2⟩
theorem pMust3 (s : T) (B b o : Nat) (x y z : T) (L : List Tk) (w : World) (h : StT s B w b L o) (hx : x ≠ []) (hy : y ≠ []) (hz : z ≠ []) :
    Calls Tryz.prog 99 #[.pointer (some ⟨b, 0, none⟩), .slice (some ⟨w.heap.size, 0, none⟩) 3 3] (w.alloc (.cells #[.string ⟨x.toArray⟩, .string ⟨y.toArray⟩, .string ⟨z.toArray⟩] 9)) (PRes s b B w o NoV (mustsP [x, y, z] L)) := by
  refine (pMust s B b o [x, y, z] w.heap.size 3 L _ (h.later ((Below.refl _ _).alloc (Nat.le_refl _) _)) (Row.made _ _ _) (by have := h.base_; have := h.room_; omega) rfl (by simpa using ⟨hx, hy, hz⟩) (by simp)).mono fun e w' hh => ?_
  exact ⟨only_trans (only_alloc (only_refl _ _) _) hh.1, hh.2⟩

/-! ### Variables -/
def OwnV (B : Nat) (xs : List Vr) (v : Value) (w : World) : Prop := OwnG RV 128 2 w B (fun _ => False) v xs
theorem ownF_kept {α : Type} {R : Of α} {e : TypeId} {k B : Nat} {xs : List α} {v : Value} {w w' : World} {r : Option Nat} (hl : Lasts R k) (h : OwnG R e k w B (fun _ => False) v xs) (hg : w.grownBy w' r) (hr : ∀ q, r = some q → q < B) : OwnG R e k w' B (fun _ => False) v xs := by
  obtain ⟨cs, ho, hx⟩ := h
  have hlt := World.ownsRow.lt ho
  refine ⟨cs, ho.kept hg ?_, hx.move hl fun _ h => h.elim⟩
  cases hv : v.ownBlock with
  | none => exact .inl rfl
  | some q => exact .inr fun e => by have h1 := (hlt q hv).1; have := hr q e.symm; omega
theorem ownF_snoc {α : Type} {R : Of α} {e : TypeId} {k B : Nat} {xs : List α} {y : α} {v' : Value} {w w' : World} {cs c : List Value} (hl : Lasts R k) (hx : CG R w (fun _ => False) xs cs) (hk : R w (fun _ => False) y c) (ho' : w'.ownsRow B e k v' (xs.length + 1) (cs ++ c)) : OwnG R e k w' B (fun _ => False) v' (xs ++ [y]) :=
  ⟨cs ++ c, by rw [List.length_append]; exact ho', CG.snoc (hl.move hk fun _ h => h.elim) (hx.move hl fun _ h => h.elim)⟩
theorem var_info : (Tryz.prog.info? 128).map (fun i => (i.zero, i.size, i.bytes)) = some (some (.agg #[.string ⟨#[]⟩, .int .i64 0]), 2, 24) := by kernel_rfl
/-- Names in a row that is not own. -/
def NmAt (ts : List T) (A : Option Addr) (own : Option Nat) (w : World) : Prop := ∀ (i : Nat) x, ts[i]? = some x → ∃ g, A = some ⟨g, 0, none⟩ ∧ own ≠ some g ∧ g < w.heap.size ∧ w.cell? ⟨g, i, none⟩ = some (.string ⟨x.toArray⟩)
theorem NmAt.step {ts : List T} {A : Option Addr} {own own' : Option Nat} {w w' : World} (h : NmAt ts A own w) (hg : w.grownBy w' own) (hat : own' = own ∨ ∃ q, own' = some q ∧ w.heap.size ≤ q) : NmAt ts A own' w' := fun i x hi => by
  obtain ⟨g, hA, hne, hlt, hc⟩ := h i x hi
  refine ⟨g, hA, ?_, Nat.lt_of_lt_of_le hlt hg.size, (World.cell?_of_block (hg.block g hlt fun e => hne e.symm)).trans hc⟩
  rcases hat with e | ⟨q, e, hq⟩
  · rw [e]; exact hne
  · rw [e]; intro e; injection e with e; omega
theorem grown_of_alloc {w w' : World} {o : Obj} {r : Option Nat} (h : (w.alloc o).grownBy w' r) : w.grownBy w' r :=
  ⟨h.os, h.tape, h.output, Nat.le_trans (by simp) h.size, fun i hi hne => (h.block i (by simp; omega) hne).trans (Below.heap_alloc w o i hi)⟩
theorem snoc_take {α β : Type} {f : α → β} {xs : List β} {ts : List α} {i : Nat} {x : α} (h : ts[i]? = some x) : xs ++ (ts.take (i + 1)).map f = (xs ++ (ts.take i).map f) ++ [f x] := by
  rw [take_succ h, List.map_append, ← List.append_assoc]; rfl
theorem own_lt {α : Type} {R : Of α} {e : TypeId} {k B : Nat} {S : Nat → Prop} {xs : List α} {v : Value} {w : World} (h : OwnG R e k w B S v xs) : ∀ q, v.ownBlock = some q → B ≤ q ∧ q < w.heap.size := h.lt
theorem own_slice {α : Type} {R : Of α} {e : TypeId} {k B : Nat} {S : Nat → Prop} {xs : List α} {v : Value} {w : World} (h : OwnG R e k w B S v xs) : ∃ A c, v = .slice A xs.length c ∧ xs.length ≤ c := by
  obtain ⟨cs, ho, hx⟩ := h
  rcases ho.2 with ⟨rfl, hz⟩ | ⟨g, cap, cur, rfl, hb, hgg, hnc, rest⟩
  · exact ⟨none, 0, by rw [hz], by omega⟩
  · exact ⟨_, _, rfl, hnc⟩

set_option maxRecDepth 100000 in
set_option maxHeartbeats 4000000 in
theorem pGroup (s : T) (B b o B0 : Nat) (xs : List Vr) (va : Value) (L : List Tk) (w : World) (h : StT s B w b L o) (hB0 : B ≤ B0) (hBw : B0 ≤ w.heap.size) (hown : OwnV B0 xs va w) (hn : xs.length ≤ 1000) :
    Calls Tryz.prog 133 #[.pointer (some ⟨b, 0, none⟩), va] w (PResK s b B B0 w o (fun vs v w' => OwnV B0 (xs ++ vs) v w' ∧ xs.length + vs.length ≤ 1000) (groupP xs.length L)) := by
  obtain ⟨i0, hi0, hz0, hz1, hz2⟩ := info_parts var_info
  obtain ⟨R, hR⟩ : ∃ R, R = groupP xs.length L := ⟨_, rfl⟩
  rw [← hR]
  have HC := Lib.hid (pNames s B b o xs.length L w h hn)
  have HH := Lib.hid h
  have hbB := h.base_
  obtain ⟨A0, c0, rfl, _⟩ := own_slice hown
  have HOW := Lib.hid hown
  unfold groupP at hR
  rcases (namesP xs.length L).cases with ⟨ts, L1, hE⟩ | ⟨c, a, hE⟩
  · rw [hE] at HC hR
    have hR : R = (mustP [58] L1).bind fun _ L => (typeP L).bind fun ty L => .ok (ts.map fun t => ⟨t, ty⟩) L := hR
    have HM : Hid (∀ w1, StT s B w1 b L1 o → Calls Tryz.prog 99 #[.pointer (some ⟨b, 0, none⟩), .slice (some ⟨w1.heap.size, 0, none⟩) 1 1] (w1.alloc (.cells #[.string ⟨#[58]⟩] 9)) (PRes s b B w1 o NoV (mustP [58] L1))) := Lib.hid fun w1 h1 => pMust1 s B b o [58] L1 w1 h1 (by decide)
    rcases (mustP [58] L1).cases with ⟨u, L2, hE2⟩ | ⟨c, a, hE2⟩
    · rw [hE2] at HM hR
      have hR : R = (typeP L2).bind fun ty L => .ok (ts.map fun t => ⟨t, ty⟩) L := hR
      have HT : Hid (∀ w1, StT s B w1 b L2 o → Calls Tryz.prog 158 #[.pointer (some ⟨b, 0, none⟩)] w1 (PRes s b B w1 o (fun ty v _ => v = .int .i64 ty) (typeP L2))) := Lib.hid fun w1 h1 => pType s B b o L2 w1 h1
      rcases (typeP L2).cases with ⟨ty, L3, hE3⟩ | ⟨c, a, hE3⟩
      · rw [hE3] at HT hR
        have HR : Hid (R = .ok (ts.map fun t => ⟨t, ty⟩) L3) := Lib.hid hR
        clear hR hE hE2 hE3 h hown
        go_enter Tryz.func133, Tryz.ntmps133
        go_wp2_with (first | (go_at_call 157; refine HC.out.mono ?_; intro e w1 h2; obtain ⟨v, rfl, ⟨hv, hvn⟩, g1, g2⟩ := h2.okE rfl; obtain ⟨A, c, rfl, hlc, hat⟩ := hv.form; have HS1 := Lib.hid g1; have HG1 := Lib.hid g2; have HAT := Lib.hid hat; have HOS := Lib.hid hv; clear g1 g2 h2 hv hat HC) | (go_at_call 99; refine (HM.out w1 HS1.out).mono ?_; intro e w2 h2; obtain ⟨v, rfl, hv, g1, g2⟩ := h2.okE rfl; obtain rfl : v = .tuple #[] := hv; have HS2 := Lib.hid g1; have HG2 := Lib.hid g2; clear g1 g2 h2) | (go_at_call 158; refine (HT.out w2 HS2.out).mono ?_; intro e w3 h2; obtain ⟨v, rfl, hv, g1, g2⟩ := h2.okE rfl; obtain rfl : v = .int .i64 ty := hv; have HS3 := Lib.hid g1; have HG3 := Lib.hid (only_trans HG2.out g2); clear g1 g2 h2))
        have HW1 := Lib.hid HG1.out.size
        have HW3 := Lib.hid HG3.out.size
        have HG := Lib.hid (only_trans HG1.out HG3.out)
        have HOW3 : Hid (OwnV B0 xs (.slice A0 xs.length c0) w3) := Lib.hid (ownF_kept lastsV HOW.out HG.out (fun q hq => by injection hq with hq; omega))
        have HNM : Hid (NmAt ts A (Value.slice A0 xs.length c0).ownBlock w3) := Lib.hid fun i x hi => by
          obtain ⟨g, hA, hg, hc⟩ := HAT.out i x hi
          have hlt : g < w1.heap.size := World.block_lt_of_cell? w1 _ hc
          exact ⟨g, hA, fun e => by have := (own_lt HOW.out g e).2; omega, by have := HW3.out; omega, (World.cell?_of_block (HG3.out.block g hlt (fun e => by injection e with e; omega))).trans hc⟩
        have HBW : Hid (B0 ≤ w3.heap.size) := Lib.hid (by have := HW1.out; have := HW3.out; omega)
        clear HAT HOS HM HT HW1 HW3
        go_loopg [1, 8, 20] ts.length (fun g' v _ k wr => ∃ (i : Nat), i + g' = ts.length ∧ k = .int .i64 (i : Int) ∧ OwnV B0 (xs ++ (ts.take i).map fun t => ⟨t, ty⟩) v wr ∧ NmAt ts A v.ownBlock wr ∧ StT s B wr b L3 o ∧ Kp B0 b w wr ∧ B0 ≤ wr.heap.size)
        case atStart => exact ⟨0, by omega, rfl, by simpa using HOW3.out, HNM.out, HS3.out, Kp.of HG.out hBw, HBW.out⟩
        case round =>
          obtain ⟨i, hi, rfl, hov, hnm, hst, hkp, hbr⟩ := hrel
          obtain ⟨A4, c4, rfl, _⟩ := own_slice hov
          have HKP := Lib.hid hkp
          have HST := Lib.hid hst
          by_cases hlt : i < ts.length
          · obtain ⟨x, hx⟩ : ∃ x, ts[i]? = some x := ⟨_, List.getElem?_eq_getElem hlt⟩
            obtain ⟨g, rfl, hne, hgl, hc⟩ := hnm i x hx
            have HLN : Hid ((xs ++ (ts.take i).map fun t => (⟨t, ty⟩ : Vr)).length = xs.length + i) := Lib.hid (by simp; omega)
            have HSN := Lib.hid (snoc_take (f := fun t => (⟨t, ty⟩ : Vr)) (xs := xs) hx)
            have HNM2 := Lib.hid hnm
            have HOV := Lib.hid hov
            obtain ⟨acc, hacc⟩ : ∃ acc, acc = xs ++ (ts.take i).map fun t => (⟨t, ty⟩ : Vr) := ⟨_, rfl⟩
            rw [← hacc] at HLN HSN HOV HNM2 hov ⊢
            have hln := HLN.out
            have hlb : acc.length ≤ 1000 := by omega
            obtain ⟨ds, ho, hcg⟩ := hov
            have HO : Hid ((wr.alloc (.cells #[.string ⟨x.toArray⟩, .int .i64 ty] 128)).ownsRow B0 128 2 (.slice A4 acc.length c4) acc.length ds) := Lib.hid (ho.alloc _)
            have HCG := Lib.hid hcg
            have HV := Lib.hid (World.ownsRow.lt ho)
            have HNW : Hid (∀ j u, [Value.string ⟨x.toArray⟩, .int .i64 ty][j]? = some u → (wr.alloc (.cells #[.string ⟨x.toArray⟩, .int .i64 ty] 128)).cell? ((⟨wr.heap.size, 0, none⟩ : Addr).add j) = some u) := Lib.hid (fun j u hu => by rw [addr_add, Nat.zero_add, (Row.made _ _ _).cell j, ← hu]; simp)
            have hz5 : B0 ≤ (wr.alloc (.cells #[.string ⟨x.toArray⟩, .int .i64 ty] 128)).heap.size := by simp; omega
            clear hst hkp hnm hx hne ho hcg hacc hln
            go_wp2_with (at_builtin; go_must (refine wpList_append_own_at _ rfl (.tmp 24) (.tmp 28) 38 rfl B0 128 i0 _ 2 24 Tryz.underlying38 hi0 hz0 hz1 hz2 rfl (by omega) _ acc.length ds rfl HO.out ⟨wr.heap.size, 0, none⟩ 1 1 [.string ⟨x.toArray⟩, .int .i64 ty] rfl rfl HNW.out (lastsV.one (w := wr) (S := fun _ => True) (x := ⟨x, ty⟩) rfl) (by unfold maxLen; omega) (by omega) hz5 ?_); intro v' w4 ho' hgr' _ hat; have HO4 := Lib.hid ho'; have HG4 := Lib.hid hgr'; have HAT := Lib.hid hat; clear ho' hgr' hat)
            go_roundg (ts.length - (i + 1))
            case rel => exact ⟨i + 1, by omega, by go_num, by rw [HSN.out]; exact ownF_snoc lastsV (HCG.out.move lastsV (w' := wr) (S' := fun _ => False) fun _ h => h.elim) rfl HO4.out, HNM2.out.step (grown_of_alloc HG4.out) (HAT.out.imp id fun e => ⟨_, e, by simp⟩), HST.out.grown (grown_of_alloc HG4.out) (fun q hq => by have := (HV.out q hq).1; omega), HKP.out.trans (Kp.own (grown_of_alloc HG4.out) hbr fun q hq => (HV.out q hq).1), Nat.le_trans hbr (grown_of_alloc HG4.out).size⟩
            case measure => omega
          · obtain rfl : i = ts.length := by omega
            rw [List.take_length] at hov ⊢
            have HOV := Lib.hid hov
            clear hst hkp hnm hov
            go_wp2_with fail
            go_ret
            exact PResK.okI HR.out HKP.out rfl ⟨HOV.out, by simpa using hvn⟩ HST.out
      · rw [hE3] at HT hR
        have HR : Hid (R = .bad c a) := Lib.hid hR
        clear hR hE hE2 hE3 h hown
        go_enter Tryz.func133, Tryz.ntmps133
        go_wp2_with (first | (go_at_call 157; refine HC.out.mono ?_; intro e w1 h2; obtain ⟨v, rfl, ⟨hv, hvn⟩, g1, g2⟩ := h2.okE rfl; have HS1 := Lib.hid g1; have HG1 := Lib.hid g2; clear g1 g2 h2 hv HC) | (go_at_call 99; refine (HM.out w1 HS1.out).mono ?_; intro e w2 h2; obtain ⟨v, rfl, hv, g1, g2⟩ := h2.okE rfl; obtain rfl : v = .tuple #[] := hv; have HS2 := Lib.hid g1; have HG2 := Lib.hid (only_trans HG1.out g2); clear g1 g2 h2) | (go_at_call 158; refine (HT.out w2 HS2.out).mono ?_; intro e w3 h2; obtain ⟨rfl, g2⟩ := h2.badE rfl; have HG3 := Lib.hid (only_trans HG2.out g2); clear g2 h2))
        exact ⟨rfl, PResK.badI HR.out (Kp.of HG3.out hBw) rfl⟩
    · rw [hE2] at HM hR
      have HR : Hid (R = .bad c a) := Lib.hid hR
      clear hR hE hE2 h hown
      go_enter Tryz.func133, Tryz.ntmps133
      go_wp2_with (first | (go_at_call 157; refine HC.out.mono ?_; intro e w1 h2; obtain ⟨v, rfl, ⟨hv, hvn⟩, g1, g2⟩ := h2.okE rfl; have HS1 := Lib.hid g1; have HG1 := Lib.hid g2; clear g1 g2 h2 hv HC) | (go_at_call 99; refine (HM.out w1 HS1.out).mono ?_; intro e w2 h2; obtain ⟨rfl, g2⟩ := h2.badE rfl; have HG2 := Lib.hid (only_trans HG1.out g2); clear g2 h2))
      exact ⟨rfl, PResK.badI HR.out (Kp.of HG2.out hBw) rfl⟩
  · rw [hE] at HC hR
    have HR : Hid (R = .bad c a) := Lib.hid hR
    clear hR hE h hown
    go_enter Tryz.func133, Tryz.ntmps133
    go_wp2_with (go_at_call 157; refine HC.out.mono ?_; intro e w1 h2; obtain ⟨rfl, g2⟩ := h2.badE rfl; have HG1 := Lib.hid g2; clear g2 h2 HC)
    exact ⟨rfl, PResK.badI HR.out (Kp.of HG1.out hBw) rfl⟩

end Go.Proofs.YtdabndiaflagpaaGreatDoor
namespace Go.Proofs.YtdabndiaflagpaaGreatDoor
open Go.RowKit

theorem OwnS.lower {B B' : Nat} {ts : List T} {v : Value} {w : World} (h : OwnS B ts v w) (hB : B' ≤ B) : OwnS B' ts v w := by
  obtain ⟨cs, ⟨h1, h2⟩, hx⟩ := h
  refine ⟨cs, ⟨h1, ?_⟩, hx⟩
  rcases h2 with hn | ⟨g, cap, cur, rfl, hb, rest⟩
  · exact .inl hn
  · exact .inr ⟨g, cap, cur, rfl, Nat.le_trans hB hb, rest⟩

set_option maxRecDepth 100000 in
set_option maxHeartbeats 200000 in
theorem pVars (s : T) (B b o : Nat) (L : List Tk) (w : World) (h : StT s B w b L o) :
    Calls Tryz.prog 101 #[.pointer (some ⟨b, 0, none⟩)] w (PRes s b B w o (fun vs v w' => OwnV w.heap.size vs v w' ∧ vs.length ≤ 1000) (varsP L)) := by
  obtain ⟨R, hR⟩ : ∃ R, R = varsP L := ⟨_, rfl⟩
  rw [← hR]
  have HC := Lib.hid (pGroup s B b o w.heap.size [] (.slice none 0 0) L w h h.room_ (Nat.le_refl _) (OwnG.nil _ _ _ _ _ _) (by simp))
  have HH := Lib.hid h
  have hBw := h.room_
  unfold varsP at hR
  rcases (groupP 0 L).cases with ⟨vs, L1, hE⟩ | ⟨c, a, hE⟩
  · rw [List.length_nil, hE] at HC
    rw [hE] at hR
    have HR : Hid (R = varsF (L1.length + 1) vs L1) := Lib.hid hR
    clear hR hE h
    go_enter Tryz.func101, Tryz.ntmps101
    go_wp2_with (go_at_call 133; refine HC.out.mono ?_; intro e w1 h2; obtain ⟨v, rfl, ⟨hv, hvn⟩, g1, g2⟩ := h2.okE rfl; have HS1 := Lib.hid g1; have HG1 := Lib.hid g2; have HOV := Lib.hid hv; clear g1 g2 h2 hv HC)
    go_loopg [3] (L1.length + 1) (fun g' v wr => ∃ (acc : List Vr) (Li : List Tk), Li.length < g' ∧ R = varsF g' acc Li ∧ StT s B wr b Li o ∧ OwnV w.heap.size acc v wr ∧ acc.length ≤ 1000 ∧ Kp w.heap.size b w wr)
    case atStart => exact ⟨vs, L1, Nat.lt_succ_self _, HR.out, HS1.out, HOV.out, by simpa using hvn, HG1.out⟩
    case round =>
      obtain ⟨acc, Li, hf, hRi, hst, hown, hna, hgr⟩ := hrel
      obtain ⟨f, rfl⟩ : ∃ f, gk = f + 1 := ⟨gk - 1, by omega⟩
      obtain ⟨A, c, rfl, _⟩ := own_slice hown
      have HGR := Lib.hid hgr
      have HOW := Lib.hid hown
      have HWS := Lib.hid hgr.size
      have HC := Lib.hid (pMay s B b o [59] Li wr hst (by decide))
      have HE : Hid (∀ w2, StT s B w2 b Li.tail o → wr.grownBy w2 (some b) → Calls Tryz.prog 133 #[.pointer (some ⟨b, 0, none⟩), .slice A acc.length c] w2 (PResK s b B w.heap.size w2 o (fun vs v w' => OwnV w.heap.size (acc ++ vs) v w' ∧ acc.length + vs.length ≤ 1000) (groupP acc.length Li.tail))) := Lib.hid fun w2 h1 h2 => pGroup s B b o w.heap.size acc (.slice A acc.length c) Li.tail w2 h1 hBw (Nat.le_trans hgr.size h2.size) (ownF_kept lastsV hown h2 (fun q hq => by injection hq with hq; have := hst.base_; omega)) hna
      by_cases hb : isP [59] Li = true
      · have ht := is_sh hst.wf_ hb (by decide)
        have hRi2 : R = (groupP acc.length Li.tail).bind fun vs L => varsF f (acc ++ vs) L := by rw [hRi, varsF, if_pos hb]
        rw [if_pos hb, hb] at HC
        rcases (groupP acc.length Li.tail).cases with ⟨ys, L2, hE⟩ | ⟨c2, a2, hE⟩
        · have hsh := groupP_sh acc.length ht.1 ys L2 hE
          rw [hE] at hRi2 HE
          have HRI : Hid (R = varsF f (acc ++ ys) L2) := Lib.hid hRi2
          have hl2 : L2.length < f := by have := hsh.2; have := ht.2; omega
          clear hst hgr hRi hRi2 hb ht hE hsh hf hown
          go_wp2_with (first | (go_at_call 102; refine HC.out.mono ?_; rintro e w2 ⟨rfl, g1, g2⟩; have HS2 := Lib.hid g1; have HG2 := Lib.hid g2; clear g1 g2 HC) | (go_at_call 133; refine (HE.out w2 HS2.out HG2.out).mono ?_; intro e w3 h2; obtain ⟨v, rfl, ⟨hv, hvn⟩, g1, g2⟩ := h2.okE rfl; have HS3 := Lib.hid g1; have HG3 := Lib.hid g2; have HOV := Lib.hid hv; clear g1 g2 h2 hv))
          go_roundg f
          case rel => exact ⟨acc ++ ys, L2, hl2, HRI.out, HS3.out, HOV.out, by simpa using hvn, HGR.out.trans ((Kp.of HG2.out HWS.out).trans HG3.out)⟩
          case measure => omega
        · rw [hE] at hRi2 HE
          have HRI : Hid (R = .bad c2 a2) := Lib.hid hRi2
          clear hst hgr hRi hRi2 hb ht hE hf hown
          go_wp2_with (first | (go_at_call 102; refine HC.out.mono ?_; rintro e w2 ⟨rfl, g1, g2⟩; have HS2 := Lib.hid g1; have HG2 := Lib.hid g2; clear g1 g2 HC) | (go_at_call 133; refine (HE.out w2 HS2.out HG2.out).mono ?_; intro e w3 h2; obtain ⟨rfl, g2⟩ := h2.badE rfl; have HG3 := Lib.hid g2; clear g2 h2))
          exact ⟨rfl, PRes.badI HRI.out (HGR.out.trans ((Kp.of HG2.out HWS.out).trans HG3.out)).only rfl⟩
      · have hb2 : isP [59] Li = false := by simpa using hb
        have HRI : Hid (R = .ok acc Li) := Lib.hid (by rw [hRi, varsF, if_neg hb])
        have hbw := hst.base_
        rw [if_neg hb, hb2] at HC
        clear hst hgr hRi hb hb2 hf hown
        go_wp2_with (go_at_call 102; refine HC.out.mono ?_; rintro e w2 ⟨rfl, g1, g2⟩; have HS2 := Lib.hid g1; have HG2 := Lib.hid g2; clear g1 g2 HC)
        go_ret
        exact PRes.okI HRI.out (HGR.out.trans (Kp.of HG2.out HWS.out)).only rfl ⟨ownF_kept lastsV HOW.out HG2.out (fun q hq => by injection hq with hq; omega), hna⟩ HS2.out
  · rw [List.length_nil, hE] at HC
    rw [hE] at hR
    have HR : Hid (R = .bad c a) := Lib.hid hR
    clear hR hE h
    go_enter Tryz.func101, Tryz.ntmps101
    go_wp2_with (go_at_call 133; refine HC.out.mono ?_; intro e w1 h2; obtain ⟨rfl, g2⟩ := h2.badE rfl; have HG1 := Lib.hid g2; clear g2 h2 HC)
    exact ⟨rfl, PRes.badI HR.out HG1.out.only rfl⟩

set_option maxRecDepth 100000 in
set_option maxHeartbeats 400000 in
theorem pLocals (s : T) (B b o : Nat) (L : List Tk) (w : World) (h : StT s B w b L o) :
    Calls Tryz.prog 103 #[.pointer (some ⟨b, 0, none⟩)] w (PRes s b B w o (fun vs v w' => OwnV w.heap.size vs v w' ∧ vs.length ≤ 1000) (localsP L)) := by
  obtain ⟨R, hR⟩ : ∃ R, R = localsP L := ⟨_, rfl⟩
  rw [← hR]
  have HC := Lib.hid (pGroup s B b o w.heap.size [] (.slice none 0 0) L w h h.room_ (Nat.le_refl _) (OwnG.nil _ _ _ _ _ _) (by simp))
  have HH := Lib.hid h
  have hBw := h.room_
  have HMM : Hid (∀ L1 w1, StT s B w1 b L1 o → Calls Tryz.prog 99 #[.pointer (some ⟨b, 0, none⟩), .slice (some ⟨w1.heap.size, 0, none⟩) 1 1] (w1.alloc (.cells #[.string ⟨#[59]⟩] 9)) (PRes s b B w1 o NoV (mustP [59] L1))) := Lib.hid fun L1 w1 h1 => pMust1 s B b o [59] L1 w1 h1 (by decide)
  unfold localsP at hR
  rcases (groupP 0 L).cases with ⟨vs, L1, hE⟩ | ⟨c, a, hE⟩
  · rw [List.length_nil, hE] at HC
    rw [hE] at hR
    have hR : R = (mustP [59] L1).bind fun _ L => localsF (L.length + 1) vs L := hR
    have HM := Lib.hid (HMM.out L1)
    rcases (mustP [59] L1).cases with ⟨u, L2, hE2⟩ | ⟨c, a, hE2⟩
    · rw [hE2] at hR HM
      have HR : Hid (R = localsF (L2.length + 1) vs L2) := Lib.hid hR
      clear hR hE hE2 h
      go_enter Tryz.func103, Tryz.ntmps103
      go_wp2_with (first | (go_at_call 133; refine HC.out.mono ?_; intro e w1 h2; obtain ⟨v, rfl, ⟨hv, hvn⟩, g1, g2⟩ := h2.okE rfl; have HS1 := Lib.hid g1; have HG1 := Lib.hid g2; have HOV := Lib.hid hv; clear g1 g2 h2 hv HC) | (go_at_call 99; refine (HM.out w1 HS1.out).mono ?_; intro e w2 h2; obtain ⟨v2, rfl, hv, g1, g2⟩ := h2.okE rfl; obtain rfl : v2 = .tuple #[] := hv; have HS2 := Lib.hid g1; have HG2 := Lib.hid g2; clear g1 g2 h2))
      have hbw := HS2.out.base_
      have HW1 := Lib.hid HG1.out.size
      go_loopg [3] (L2.length + 1) (fun g' v wr => ∃ (acc : List Vr) (Li : List Tk), Li.length < g' ∧ R = localsF g' acc Li ∧ StT s B wr b Li o ∧ OwnV w.heap.size acc v wr ∧ acc.length ≤ 1000 ∧ Kp w.heap.size b w wr)
      case atStart => exact ⟨vs, L2, Nat.lt_succ_self _, HR.out, HS2.out, ownF_kept lastsV HOV.out HG2.out (fun q hq => by injection hq with hq; omega), by simpa using hvn, HG1.out.trans (Kp.of HG2.out HW1.out)⟩
      case round =>
        obtain ⟨acc, Li, hf, hRi, hst, hown, hna, hgr⟩ := hrel
        obtain ⟨f, rfl⟩ : ∃ f, gk = f + 1 := ⟨gk - 1, by omega⟩
        obtain ⟨A, c, rfl, _⟩ := own_slice hown
        have HGR := Lib.hid hgr
        have HOW := Lib.hid hown
        have HWS := Lib.hid hgr.size
        have HST := Lib.hid hst
        have HC := Lib.hid (pNamed s B b o Li wr hst)
        have HE : Hid (∀ w2, StT s B w2 b Li o → wr.grownBy w2 (some b) → Calls Tryz.prog 133 #[.pointer (some ⟨b, 0, none⟩), .slice A acc.length c] w2 (PResK s b B w.heap.size w2 o (fun vs v w' => OwnV w.heap.size (acc ++ vs) v w' ∧ acc.length + vs.length ≤ 1000) (groupP acc.length Li))) := Lib.hid fun w2 h1 h2 => pGroup s B b o w.heap.size acc (.slice A acc.length c) Li w2 h1 hBw (Nat.le_trans hgr.size h2.size) (ownF_kept lastsV hown h2 (fun q hq => by injection hq with hq; have := hst.base_; omega)) hna
        by_cases hk : hdK Li = 1
        · have hd : decide (hdK Li = 1) = true := decide_eq_true hk
          have hRi2 : R = (groupP acc.length Li).bind fun vs L => (mustP [59] L).bind fun _ L => localsF f (acc ++ vs) L := by rw [hRi, localsF, if_pos hk]
          rw [hd] at HC
          rcases (groupP acc.length Li).cases with ⟨ys, L3, hE⟩ | ⟨c2, a2, hE⟩
          · have hsh := groupP_sh acc.length hst.wf_ ys L3 hE
            rw [hE] at hRi2 HE
            have hRi2 : R = (mustP [59] L3).bind fun _ L => localsF f (acc ++ ys) L := hRi2
            have HM := Lib.hid (HMM.out L3)
            rcases (mustP [59] L3).cases with ⟨u, L4, hE2⟩ | ⟨c2, a2, hE2⟩
            · have hsh2 := mustP_sh hsh.1 (by decide) u L4 hE2
              rw [hE2] at hRi2 HM
              have HRI : Hid (R = localsF f (acc ++ ys) L4) := Lib.hid hRi2
              have hl2 : L4.length < f := by have := hsh.2; have := hsh2.2; omega
              clear hst hgr hRi hRi2 hk hd hE hsh hf hown hE2 hsh2
              go_wp2_with (first | (go_at_call 104; refine HC.out.mono ?_; rintro e w2 ⟨rfl, g1⟩; have HS2 := Lib.hid (HST.out.later g1); have HG2 := Lib.hid (only_below' g1 b); clear g1 HC) | (go_at_call 133; refine (HE.out w2 HS2.out HG2.out).mono ?_; intro e w3 h2; obtain ⟨v, rfl, ⟨hv, hvn⟩, g1, g2⟩ := h2.okE rfl; have HS3 := Lib.hid g1; have HG3 := Lib.hid ((Kp.of HG2.out HWS.out).trans g2); have HOV := Lib.hid hv; clear g1 g2 h2 hv) | (go_at_call 99; refine (HM.out w3 HS3.out).mono ?_; intro e w4 h2; obtain ⟨v2, rfl, hv, g1, g2⟩ := h2.okE rfl; obtain rfl : v2 = .tuple #[] := hv; have HS4 := Lib.hid g1; have HG4 := Lib.hid g2; clear g1 g2 h2))
              go_roundg f
              case rel => exact ⟨acc ++ ys, L4, hl2, HRI.out, HS4.out, ownF_kept lastsV HOV.out HG4.out (fun q hq => by injection hq with hq; omega), by simpa using hvn, HGR.out.trans (HG3.out.trans (Kp.of HG4.out (by have := HGR.out.size; have := HG3.out.size; omega)))⟩
              case measure => omega
            · rw [hE2] at hRi2 HM
              have HRI : Hid (R = .bad c2 a2) := Lib.hid hRi2
              clear hst hgr hRi hRi2 hk hd hE hsh hf hown hE2
              go_wp2_with (first | (go_at_call 104; refine HC.out.mono ?_; rintro e w2 ⟨rfl, g1⟩; have HS2 := Lib.hid (HST.out.later g1); have HG2 := Lib.hid (only_below' g1 b); clear g1 HC) | (go_at_call 133; refine (HE.out w2 HS2.out HG2.out).mono ?_; intro e w3 h2; obtain ⟨v, rfl, ⟨hv, hvn⟩, g1, g2⟩ := h2.okE rfl; have HS3 := Lib.hid g1; have HG3 := Lib.hid ((Kp.of HG2.out HWS.out).trans g2); have HOV := Lib.hid hv; clear g1 g2 h2 hv) | (go_at_call 99; refine (HM.out w3 HS3.out).mono ?_; intro e w4 h2; obtain ⟨rfl, g2⟩ := h2.badE rfl; have HG4 := Lib.hid g2; clear g2 h2))
              exact ⟨rfl, PRes.badI HRI.out (HGR.out.trans (HG3.out.trans (Kp.of HG4.out (by have := HGR.out.size; have := HG3.out.size; omega)))).only rfl⟩
          · rw [hE] at hRi2 HE
            have HRI : Hid (R = .bad c2 a2) := Lib.hid hRi2
            clear hst hgr hRi hRi2 hk hd hE hf hown
            go_wp2_with (first | (go_at_call 104; refine HC.out.mono ?_; rintro e w2 ⟨rfl, g1⟩; have HS2 := Lib.hid (HST.out.later g1); have HG2 := Lib.hid (only_below' g1 b); clear g1 HC) | (go_at_call 133; refine (HE.out w2 HS2.out HG2.out).mono ?_; intro e w3 h2; obtain ⟨rfl, g2⟩ := h2.badE rfl; have HG3 := Lib.hid ((Kp.of HG2.out HWS.out).trans g2); clear g2 h2))
            exact ⟨rfl, PRes.badI HRI.out (HGR.out.trans HG3.out).only rfl⟩
        · have hd : decide (hdK Li = 1) = false := decide_eq_false hk
          have HRI : Hid (R = .ok acc Li) := Lib.hid (by rw [hRi, localsF, if_neg hk])
          rw [hd] at HC
          clear hst hgr hRi hk hd hf hown
          go_wp2_with (go_at_call 104; refine HC.out.mono ?_; rintro e w2 ⟨rfl, g1⟩; have HS2 := Lib.hid (HST.out.later g1); have HG2 := Lib.hid (only_below' g1 b); clear g1 HC)
          go_ret
          exact PRes.okI HRI.out (HGR.out.trans (Kp.of HG2.out HWS.out)).only rfl ⟨ownF_kept lastsV HOW.out HG2.out (fun q hq => by injection hq with hq; omega), hna⟩ HS2.out
    · rw [hE2] at hR HM
      have HR : Hid (R = .bad c a) := Lib.hid hR
      clear hR hE hE2 h
      go_enter Tryz.func103, Tryz.ntmps103
      go_wp2_with (first | (go_at_call 133; refine HC.out.mono ?_; intro e w1 h2; obtain ⟨v, rfl, ⟨hv, hvn⟩, g1, g2⟩ := h2.okE rfl; have HS1 := Lib.hid g1; have HG1 := Lib.hid g2; have HOV := Lib.hid hv; clear g1 g2 h2 hv HC) | (go_at_call 99; refine (HM.out w1 HS1.out).mono ?_; intro e w2 h2; obtain ⟨rfl, g2⟩ := h2.badE rfl; have HG2 := Lib.hid g2; clear g2 h2))
      exact ⟨rfl, PRes.badI HR.out (HG1.out.trans (Kp.of HG2.out HG1.out.size)).only rfl⟩
  · rw [List.length_nil, hE] at HC
    rw [hE] at hR
    have HR : Hid (R = .bad c a) := Lib.hid hR
    clear hR hE h
    go_enter Tryz.func103, Tryz.ntmps103
    go_wp2_with (go_at_call 133; refine HC.out.mono ?_; intro e w1 h2; obtain ⟨rfl, g2⟩ := h2.badE rfl; have HG1 := Lib.hid g2; clear g2 h2 HC)
    exact ⟨rfl, PRes.badI HR.out HG1.out.only rfl⟩

set_option maxRecDepth 100000 in
set_option maxHeartbeats 400000 in
theorem pLeft (s : T) (B b o : Nat) (L : List Tk) (w : World) (h : StT s B w b L o) :
    Calls Tryz.prog 134 #[.pointer (some ⟨b, 0, none⟩)] w (PRes s b B w o (fun ts v w' => OwnS w.heap.size ts v w' ∧ ts.length ≤ 1000) (leftP L)) := by
  obtain ⟨R, hR⟩ : ∃ R, R = leftP L := ⟨_, rfl⟩
  rw [← hR]
  have HC := Lib.hid (pMay s B b o [40] L w h (by decide))
  have HH := Lib.hid h
  have hBw := h.room_
  have hbw := h.base_
  unfold leftP at hR
  by_cases hb : isP [40] L = true
  · rw [if_pos hb, hb] at HC
    rw [if_pos hb] at hR
    have HN : Hid (∀ w1, StT s B w1 b L.tail o → Calls Tryz.prog 157 #[.pointer (some ⟨b, 0, none⟩), .int .i64 0] w1 (PRes s b B w1 o (fun ts v w' => OwnS w1.heap.size ts v w' ∧ 0 + ts.length ≤ 1000) (namesP 0 L.tail))) := Lib.hid fun w1 h1 => pNames s B b o 0 L.tail w1 h1 (by omega)
    rcases (namesP 0 L.tail).cases with ⟨ts, L1, hE⟩ | ⟨c, a, hE⟩
    · rw [hE] at hR HN
      have hR : R = (mustP [41] L1).bind fun _ L => .ok ts L := hR
      have HM : Hid (∀ w1, StT s B w1 b L1 o → Calls Tryz.prog 99 #[.pointer (some ⟨b, 0, none⟩), .slice (some ⟨w1.heap.size, 0, none⟩) 1 1] (w1.alloc (.cells #[.string ⟨#[41]⟩] 9)) (PRes s b B w1 o NoV (mustP [41] L1))) := Lib.hid fun w1 h1 => pMust1 s B b o [41] L1 w1 h1 (by decide)
      rcases (mustP [41] L1).cases with ⟨u, L2, hE2⟩ | ⟨c, a, hE2⟩
      · rw [hE2] at hR HM
        have HR : Hid (R = .ok ts L2) := Lib.hid hR
        clear hR hE hE2 h hb
        go_enter Tryz.func134, Tryz.ntmps134
        go_wp2_with (first | (go_at_call 102; refine HC.out.mono ?_; rintro e w1 ⟨rfl, g1, g2⟩; have HS1 := Lib.hid g1; have HG1 := Lib.hid g2; clear g1 g2 HC) | (go_at_call 157; refine (HN.out w1 HS1.out).mono ?_; intro e w2 h2; obtain ⟨v, rfl, ⟨hv, hvn⟩, g1, g2⟩ := h2.okE rfl; have HS2 := Lib.hid g1; have HG2 := Lib.hid g2; have HOV := Lib.hid hv; clear g1 g2 h2 hv HN) | (go_at_call 99; refine (HM.out w2 HS2.out).mono ?_; intro e w3 h2; obtain ⟨v2, rfl, hv, g1, g2⟩ := h2.okE rfl; obtain rfl : v2 = .tuple #[] := hv; have HS3 := Lib.hid g1; have HG3 := Lib.hid g2; clear g1 g2 h2))
        go_ret
        exact PRes.okI HR.out (only_trans HG1.out (only_trans HG2.out HG3.out)) rfl ⟨(HOV.out.lower HG1.out.size).kept HG3.out (fun q hq => by injection hq with hq; omega), by omega⟩ HS3.out
      · rw [hE2] at hR HM
        have HR : Hid (R = .bad c a) := Lib.hid hR
        clear hR hE hE2 h hb
        go_enter Tryz.func134, Tryz.ntmps134
        go_wp2_with (first | (go_at_call 102; refine HC.out.mono ?_; rintro e w1 ⟨rfl, g1, g2⟩; have HS1 := Lib.hid g1; have HG1 := Lib.hid g2; clear g1 g2 HC) | (go_at_call 157; refine (HN.out w1 HS1.out).mono ?_; intro e w2 h2; obtain ⟨v, rfl, ⟨hv, hvn⟩, g1, g2⟩ := h2.okE rfl; have HS2 := Lib.hid g1; have HG2 := Lib.hid g2; have HOV := Lib.hid hv; clear g1 g2 h2 hv HN) | (go_at_call 99; refine (HM.out w2 HS2.out).mono ?_; intro e w3 h2; obtain ⟨rfl, g2⟩ := h2.badE rfl; have HG3 := Lib.hid g2; clear g2 h2))
        exact ⟨rfl, PRes.badI HR.out (only_trans HG1.out (only_trans HG2.out HG3.out)) rfl⟩
    · rw [hE] at hR HN
      have HR : Hid (R = .bad c a) := Lib.hid hR
      clear hR hE h hb
      go_enter Tryz.func134, Tryz.ntmps134
      go_wp2_with (first | (go_at_call 102; refine HC.out.mono ?_; rintro e w1 ⟨rfl, g1, g2⟩; have HS1 := Lib.hid g1; have HG1 := Lib.hid g2; clear g1 g2 HC) | (go_at_call 157; refine (HN.out w1 HS1.out).mono ?_; intro e w2 h2; obtain ⟨rfl, g2⟩ := h2.badE rfl; have HG2 := Lib.hid g2; clear g2 h2 HN))
      exact ⟨rfl, PRes.badI HR.out (only_trans HG1.out HG2.out) rfl⟩
  · have hb2 : isP [40] L = false := by simpa using hb
    rw [if_neg hb, hb2] at HC
    rw [if_neg hb] at hR
    have HM : Hid (∀ w1, StT s B w1 b L o → Calls Tryz.prog 100 #[.pointer (some ⟨b, 0, none⟩)] w1 (PRes s b B w1 o TxV (nmP L))) := Lib.hid fun w1 h1 => pName s B b o L w1 h1
    rcases (nmP L).cases with ⟨x, L1, hE⟩ | ⟨c, a, hE⟩
    · rw [hE] at hR HM
      have HR : Hid (R = .ok [x] L1) := Lib.hid hR
      clear hR hE h hb hb2
      go_enter Tryz.func134, Tryz.ntmps134
      go_wp2_with (first | (go_at_call 102; refine HC.out.mono ?_; rintro e w1 ⟨rfl, g1, g2⟩; have HS1 := Lib.hid g1; have HG1 := Lib.hid g2; clear g1 g2 HC) | (go_at_call 100; refine (HM.out w1 HS1.out).mono ?_; intro e w2 h2; obtain ⟨v, rfl, hv, g1, g2⟩ := h2.okE rfl; obtain rfl : v = .string ⟨x.toArray⟩ := hv; have HS2 := Lib.hid g1; have HG2 := Lib.hid g2; clear g1 g2 h2 HM))
      go_ret
      exact PRes.okI HR.out (only_alloc (only_trans HG1.out HG2.out) _) rfl ⟨OwnS.one x w2 (Nat.le_trans HG1.out.size HG2.out.size), by simp⟩ (HS2.out.later ((Below.refl _ _).alloc (Nat.le_refl _) _))
    · rw [hE] at hR HM
      have HR : Hid (R = .bad c a) := Lib.hid hR
      clear hR hE h hb hb2
      go_enter Tryz.func134, Tryz.ntmps134
      go_wp2_with (first | (go_at_call 102; refine HC.out.mono ?_; rintro e w1 ⟨rfl, g1, g2⟩; have HS1 := Lib.hid g1; have HG1 := Lib.hid g2; clear g1 g2 HC) | (go_at_call 100; refine (HM.out w1 HS1.out).mono ?_; intro e w2 h2; obtain ⟨rfl, g2⟩ := h2.badE rfl; have HG2 := Lib.hid g2; clear g2 h2 HM))
      exact ⟨rfl, PRes.badI HR.out (only_trans HG1.out HG2.out) rfl⟩

end Go.Proofs.YtdabndiaflagpaaGreatDoor
namespace Go.Proofs.YtdabndiaflagpaaGreatDoor
open Go.RowKit

theorem tree_size : (Tryz.prog.info? 198).map (·.size) = some 6 := by kernel_rfl
set_option maxRecDepth 100000 in
set_option maxHeartbeats 1000000 in
theorem pGrow (n : Nat) (w : World) (hn : n ≤ 100000) :
    Calls Tryz.prog 194 #[.slice none 0 0, .int .i64 (n : Int)] w fun e w' => ∃ v, e = .returned v ∧ (∀ S, OwnX w' w.heap.size S v []) ∧ (∃ A c, v = .slice A 0 c) ∧ Below w.heap.size w w' := by
  obtain ⟨i0, hi0, hz0, hz1, hz2⟩ := info_parts expr_info
  by_cases h0 : n = 0
  · subst h0
    clear hn
    go_enter Tryz.func194, Tryz.ntmps194
    go_wp2_with fail
    go_ret
    exact ⟨_, rfl, fun S => OwnX.nil _ _ _, ⟨none, 0, rfl⟩, Below.refl _ _⟩
  · have h1 : ¬ (n : Int) < 0 := by omega
    have h2 : (0 : Int) < (n : Int) := by omega
    have h3 := grownCap_ge w n 0 46
    have h4 := grownCap_le_maxLen w n 0 46 (by unfold maxLen; omega)
    have hr := fun ty => Lib.run_append_nil_zeros (P := Tryz.prog) w 44 3 ty 46 i0 _ .i64 .i64 Tryz.underlying44 Tryz.underlying3 hi0 hz0 n (by omega) (by omega) (by omega) (by rw [hz2]; omega)
    have HR := Lib.hid hr
    have HO : Hid (∀ S, OwnX (w.drew.alloc (.cells (Builtin.zeroCells (Value.agg #[.int .i64 0, .int .i64 0, .int .i64 0, .string ⟨#[]⟩, .slice none 0 0]).cells n ++ Builtin.zeroCells (Value.agg #[.int .i64 0, .int .i64 0, .int .i64 0, .string ⟨#[]⟩, .slice none 0 0]).cells (grownCap w n 0 46 - n)) 46)) w.heap.size S (.slice (some ⟨w.heap.size, 0, none⟩) 0 (grownCap w n 0 46)) []) := Lib.hid fun S =>
      ⟨[], World.ownsRow_made w.drew _ _ (Nat.le_refl _) h4 (by rw [Array.size_append, size_zeroCells, size_zeroCells]; show n * 5 + (_ - n) * 5 = _ * 5; rw [← Nat.add_mul]; congr 1; omega), rfl⟩
    obtain ⟨cap, hcap⟩ : ∃ cap, cap = grownCap w n 0 46 := ⟨_, rfl⟩
    rw [← hcap] at HR HO h3 h4
    clear hcap hr h0
    unfold maxLen at h4
    go_enter Tryz.func194, Tryz.ntmps194
    go_wp2_with (at_builtin; refine Lib.wpList_append_run _ rfl _ _ _ _ rfl _ _ rfl rfl _ _ (HR.out _) ?_)
    go_ret
    exact ⟨_, rfl, HO.out, ⟨_, _, rfl⟩, ((Below.refl _ _).drew).alloc (Nat.le_refl _) _⟩

/-- A tree in memory: an expression, and its depth. -/
def TC6 (w : World) (S : Nat → Prop) (x : X) (b off : Nat) : Prop := EC w S x b off ∧ w.cell? ⟨b, off + 5, none⟩ = some (.int .i64 (x.depth : Int))
def TR (w : World) (S : Nat → Prop) (A : Option Addr) (ts : List X) : Prop := Rw (TC6 w S) 6 A ts
theorem TR.at_ {w : World} {S : Nat → Prop} {A : Option Addr} {ts : List X} (h : TR w S A ts) {i : Nat} {x : X} (hi : ts[i]? = some x) : ∃ b off A2 c2, A = some ⟨b, off, none⟩ ∧ S b ∧ w.cell? ⟨b, off + i * 6, none⟩ = some (.int .i64 x.k) ∧ w.cell? ⟨b, off + i * 6 + 1, none⟩ = some (.int .i64 x.o) ∧ w.cell? ⟨b, off + i * 6 + 2, none⟩ = some (.int .i64 x.n) ∧
    w.cell? ⟨b, off + i * 6 + 3, none⟩ = some (.string ⟨x.s.toArray⟩) ∧ w.cell? ⟨b, off + i * 6 + 4, none⟩ = some (.slice A2 x.ks.length c2) ∧ w.cell? ⟨b, off + i * 6 + 5, none⟩ = some (.int .i64 (x.depth : Int)) ∧ KS w S A2 x.ks := by
  obtain ⟨b, off, hA, h1, h2⟩ := Rw.at h hi
  obtain ⟨A2, c2, e0, e1, e2, e3, e4, hk⟩ := h1.ev
  exact ⟨b, off, A2, c2, hA, h1.block, e0, e1, e2, e3, e4, h2, hk⟩
theorem OwnX.slice {w : World} {B : Nat} {S : Nat → Prop} {v : Value} {xs : List X} (h : OwnX w B S v xs) : ∃ A c, v = .slice A xs.length c := by
  obtain ⟨cs, ho, hx⟩ := h
  rcases ho.2 with ⟨rfl, hz⟩ | ⟨g, cap, cur, rfl, hb, hgg, hnc, rest⟩
  · exact ⟨none, 0, by rw [hz]⟩
  · exact ⟨_, _, rfl⟩

theorem ownX_kept {w w' : World} {B : Nat} {S : Nat → Prop} {v : Value} {xs : List X} {r : Option Nat} (h : OwnX w B S v xs) (hg : w.grownBy w' r) (hr : ∀ q, r = some q → q < B) (hm : ∀ q, S q → w'.heap[q]? = w.heap[q]?) : OwnX w' B S v xs := by
  obtain ⟨cs, ho, hx⟩ := h
  have hlt := World.ownsRow.lt ho
  refine ⟨cs, ho.kept hg ?_, hx.move fun q hq => ⟨hq, hm q hq⟩⟩
  cases hv : v.ownBlock with
  | none => exact .inl rfl
  | some q => exact .inr fun e => by have h1 := (hlt q hv).1; have := hr q e.symm; omega
/-- What over leaves. -/
def OverPost (k o n : Int) (s : T) (ts : List X) (w : World) (S : Nat → Prop) (e : Ending) (w' : World) : Prop :=
  ∃ A c, e = .returned (.agg #[.int .i64 k, .int .i64 o, .int .i64 n, .string ⟨s.toArray⟩, .slice A ts.length c, .int .i64 (((1 + X.depths ts : Nat)) : Int)]) ∧ KS w' (fun q => S q ∨ (w.heap.size ≤ q ∧ q < w'.heap.size)) A ts ∧ Below w.heap.size w w'

set_option maxRecDepth 100000 in
set_option maxHeartbeats 2000000 in
theorem pOver (k o n : Int) (s : T) (ts : List X) (A : Option Addr) (c : Nat) (w : World) (S : Nat → Prop) (h : TR w S A ts) (hS : ∀ q, S q → q < w.heap.size) (hl : ts.length ≤ 2000) (hd : X.depths ts ≤ 100000000) :
    Calls Tryz.prog 179 #[.agg #[.int .i64 k, .int .i64 o, .int .i64 n, .string ⟨s.toArray⟩, .slice none 0 0], .slice A ts.length c] w (OverPost k o n s ts w S) := by
  obtain ⟨i0, hi0, hz0, hz1, hz2⟩ := info_parts expr_info
  have HT := Lib.hid h
  have HS := Lib.hid hS
  have hdt : ∀ i, X.depths (ts.take i) ≤ X.depths ts := X.depths_take_le ts
  have HDT := Lib.hid hdt
  have HG : Hid (∀ w1, Calls Tryz.prog 194 #[.slice none 0 0, .int .i64 (ts.length : Int)] w1 fun e w' => ∃ v, e = .returned v ∧ (∀ S, OwnX w' w1.heap.size S v []) ∧ (∃ A c, v = .slice A 0 c) ∧ Below w1.heap.size w1 w') := Lib.hid fun w1 => pGrow ts.length w1 (by omega)
  obtain ⟨w0, hw0⟩ : ∃ w0, w0 = (w.alloc (.cells #[.int .i64 k, .int .i64 o, .int .i64 n, .string ⟨s.toArray⟩, .slice none 0 0] 46)).alloc (.cells #[.int .i64 0, .int .i64 0, .int .i64 0, .string ⟨#[]⟩, .slice none 0 0, .int .i64 0] 198) := ⟨_, rfl⟩
  have hb0 : Below w.heap.size w w0 := by rw [hw0]; exact ((Below.refl _ _).alloc (Nat.le_refl _) _).alloc (by simp) _
  have hz : w0.heap.size = w.heap.size + 2 := by rw [hw0]; simp
  have HR0 : Hid (Row w0 w.heap.size 46 #[.int .i64 k, .int .i64 o, .int .i64 n, .string ⟨s.toArray⟩, .slice none 0 0]) := Lib.hid (by rw [hw0]; exact (Row.made _ _ _).alloc _)
  have HP0 : Hid (Row w0 (w.heap.size + 1) 198 #[.int .i64 0, .int .i64 0, .int .i64 0, .string ⟨#[]⟩, .slice none 0 0, .int .i64 0]) := Lib.hid (by rw [hw0]; have := Row.made (w.alloc (.cells #[.int .i64 k, .int .i64 o, .int .i64 n, .string ⟨s.toArray⟩, .slice none 0 0] 46)) 198 #[.int .i64 0, .int .i64 0, .int .i64 0, .string ⟨#[]⟩, .slice none 0 0, .int .i64 0]; rw [World.size_alloc] at this; exact this)
  have HB0 := Lib.hid hb0
  have HZ := Lib.hid hz
  clear h hS hdt hb0 hz
  go_enter Tryz.func179, Tryz.ntmps179
  go_upto_region 2 with fail
  rw [← hw0]
  clear hw0
  have e4 := HR0.out.cell 4
  have f4 := HR0.out.free 4
  simp at e4
  have hlt0 : w.heap.size < w0.heap.size := HR0.out.lt
  go_wp2_with (go_at_call 194; refine (HG.out w0).mono ?_; rintro e w1 ⟨v, rfl, hv, ⟨A1, c1, rfl⟩, hb1⟩; have HV := Lib.hid (hv S); have HB1 := Lib.hid hb1; have r1 := HR0.out.below hb1 HR0.out.lt; have x4 := r1.cell 4; have y4 := r1.free 4; simp at x4; have HR1 := Lib.hid r1; clear hv hb1 r1 e4 f4)
  have HO1 : Hid (OwnX (w1.setCell ⟨w.heap.size, 4, none⟩ (.slice A1 0 c1)) (w.heap.size + 2) S (.slice A1 0 c1) []) := Lib.hid (by
    have := HV.out
    rw [HZ.out] at this
    exact ownX_kept this (only_set (only_refl _ _) 4 _) (fun q hq => by injection hq with hq; omega) (fun q hq => Below.heap_setCell _ _ _ _ (by have := HS.out q hq; show q ≠ w.heap.size; omega)))
  have HP1 : Hid (Row (w1.setCell ⟨w.heap.size, 4, none⟩ (.slice A1 0 c1)) (w.heap.size + 1) 198 #[.int .i64 0, .int .i64 0, .int .i64 0, .string ⟨#[]⟩, .slice none 0 0, .int .i64 0]) := Lib.hid ((HP0.out.below HB1.out (by rw [HZ.out]; omega)).far (by show w.heap.size + 1 ≠ w.heap.size; omega) _)
  have HR2 : Hid (Row (w1.setCell ⟨w.heap.size, 4, none⟩ (.slice A1 0 c1)) w.heap.size 46 #[.int .i64 k, .int .i64 o, .int .i64 n, .string ⟨s.toArray⟩, .slice A1 0 c1]) := Lib.hid (by simpa using HR1.out.set 4 (.slice A1 0 c1))
  have HB2 : Hid (Below w.heap.size w (w1.setCell ⟨w.heap.size, 4, none⟩ (.slice A1 0 c1))) := Lib.hid ((HB0.out.trans (HB1.out.mono HB0.out.size)).setCell (p := ⟨w.heap.size, 4, none⟩) (Nat.le_refl _) _)
  generalize w1.setCell ⟨w.heap.size, 4, none⟩ (.slice A1 0 c1) = w2 at HO1 HP1 HR2 HB2 ⊢
  clear x4 y4 HV HB1 HR1 HG HP0 HR0 hlt0
  go_loopg [5, 7, 16] ts.length (fun g' d _ kk wr => ∃ (j : Nat) (v : Value), j + g' = ts.length ∧ kk = .int .i64 (j : Int) ∧ d = .int .i64 ((X.depths (ts.take j) : Nat) : Int) ∧ Row wr w.heap.size 46 #[.int .i64 k, .int .i64 o, .int .i64 n, .string ⟨s.toArray⟩, v] ∧ OwnX wr (w.heap.size + 2) S v (ts.take j) ∧ Row wr (w.heap.size + 1) 198 #[.int .i64 0, .int .i64 0, .int .i64 0, .string ⟨#[]⟩, .slice none 0 0, .int .i64 0] ∧ Below w.heap.size w wr)
  case atStart => exact ⟨0, _, by omega, rfl, rfl, HR2.out, HO1.out, HP1.out, HB2.out⟩
  case round =>
    obtain ⟨j, v, hj, rfl, rfl, hr, hown, hrp, hbw⟩ := hrel
    have HR := Lib.hid hr
    have HRP := Lib.hid hrp
    have HBW := Lib.hid hbw
    have hdj := HDT.out j
    have hdj2 := HDT.out (j + 1)
    obtain ⟨d, hdd⟩ : ∃ d, d = X.depths (ts.take j) := ⟨_, rfl⟩
    rw [← hdd] at hdj ⊢
    have HDD := Lib.hid hdd
    clear hdd
    by_cases hlt : j < ts.length
    · obtain ⟨y, hy⟩ : ∃ y, ts[j]? = some y := ⟨_, List.getElem?_eq_getElem hlt⟩
      obtain ⟨b, off, A2, c2, hA, hSb, d0, d1, d2, d3, d4, d5, hk⟩ := HT.out.at_ hy
      have hbz := HS.out b hSb
      have hcell : ∀ i, wr.cell? ⟨b, i, none⟩ = w.cell? ⟨b, i, none⟩ := fun i => hbw.cell (p := ⟨b, i, none⟩) hbz
      have D0 := (hcell _).trans d0
      have D1 := (hcell _).trans d1
      have D2 := (hcell _).trans d2
      have D3 := (hcell _).trans d3
      have D4 := (hcell _).trans d4
      have D5 := (hcell _).trans d5
      have hbr : b < wr.heap.size := by have := hbw.size; omega
      have HK : Hid (KS wr S A2 y.ks) := Lib.hid (hk.move fun q hq => ⟨hq, hbw.block q (HS.out q hq)⟩)
      have HDS : Hid (X.depths (ts.take (j + 1)) = max d y.depth) := Lib.hid (by rw [HDD.out, X.depths_take hy])
      have hyd : max d y.depth ≤ 100000000 := by rw [← HDS.out]; omega
      subst hA
      obtain ⟨ds, ho, hx⟩ := hown
      have HV := Lib.hid (World.ownsRow.lt ho)
      have hlj : (ts.take j).length = j := by simp; omega
      rw [hlj] at ho
      have HO := Lib.hid ho
      have HX := Lib.hid hx
      have HY := Lib.hid hy
      have HLJ := Lib.hid hlj
      obtain ⟨z0, hz0'⟩ : ∃ z, z = y.k := ⟨_, rfl⟩
      obtain ⟨z1, hz1'⟩ : ∃ z, z = y.o := ⟨_, rfl⟩
      obtain ⟨z2, hz2'⟩ : ∃ z, z = y.n := ⟨_, rfl⟩
      obtain ⟨z3, hz3'⟩ : ∃ z, z = y.s := ⟨_, rfl⟩
      obtain ⟨z5, hz5'⟩ : ∃ z, z = y.depth := ⟨_, rfl⟩
      obtain ⟨zl, hzl'⟩ : ∃ z, z = y.ks.length := ⟨_, rfl⟩
      have HC5 : Hid (c5 y A2 c2 = [.int .i64 z0, .int .i64 z1, .int .i64 z2, .string ⟨z3.toArray⟩, .slice A2 zl c2]) := Lib.hid (by rw [hz0', hz1', hz2', hz3', hzl']; rfl)
      rw [← hz0'] at D0
      rw [← hz1'] at D1
      rw [← hz2'] at D2
      rw [← hz3'] at D3
      rw [← hzl'] at D4
      rw [← hz5'] at D5 HDS hyd
      clear hz0' hz1' hz2' hz3' hz5' hzl' hr hrp hbw hcell d0 d1 d2 d3 d4 d5 hk hy ho hx hSb hlj
      have x4 := HR.out.cell 4
      have y4 := HR.out.free 4
      simp at x4
      have hHr : w.heap.size < wr.heap.size := HR.out.lt
      have HO2 : Hid (((wr.alloc (.cells #[.int .i64 z0, .int .i64 z1, .int .i64 z2, .string ⟨z3.toArray⟩, .slice A2 zl c2, .int .i64 (z5 : Int)] 198)).alloc (.cells #[.int .i64 z0, .int .i64 z1, .int .i64 z2, .string ⟨z3.toArray⟩, .slice A2 zl c2] 46)).ownsRow (w.heap.size + 2) 46 5 v j ds) := Lib.hid ((HO.out.alloc _).alloc _)
      have HNW : Hid (∀ i u, [Value.int .i64 z0, .int .i64 z1, .int .i64 z2, .string ⟨z3.toArray⟩, .slice A2 zl c2][i]? = some u → ((wr.alloc (.cells #[.int .i64 z0, .int .i64 z1, .int .i64 z2, .string ⟨z3.toArray⟩, .slice A2 zl c2, .int .i64 (z5 : Int)] 198)).alloc (.cells #[.int .i64 z0, .int .i64 z1, .int .i64 z2, .string ⟨z3.toArray⟩, .slice A2 zl c2] 46)).cell? ((⟨wr.heap.size + 1, 0, none⟩ : Addr).add i) = some u) := Lib.hid (fun i u hu => by
        have := (Row.made (wr.alloc (.cells #[.int .i64 z0, .int .i64 z1, .int .i64 z2, .string ⟨z3.toArray⟩, .slice A2 zl c2, .int .i64 (z5 : Int)] 198)) 46 #[.int .i64 z0, .int .i64 z1, .int .i64 z2, .string ⟨z3.toArray⟩, .slice A2 zl c2]).cell i
        rw [World.size_alloc] at this
        rw [addr_add, Nat.zero_add, this, ← hu]; simp)
      have HOC : Hid (∀ u ∈ [Value.int .i64 z0, .int .i64 z1, .int .i64 z2, .string ⟨z3.toArray⟩, .slice A2 zl c2], u.oneCell' = true) := Lib.hid (by rw [← HC5.out]; exact c5_one y A2 c2)
      have HKR : Hid (Row ((wr.alloc (.cells #[.int .i64 z0, .int .i64 z1, .int .i64 z2, .string ⟨z3.toArray⟩, .slice A2 zl c2, .int .i64 (z5 : Int)] 198)).alloc (.cells #[.int .i64 z0, .int .i64 z1, .int .i64 z2, .string ⟨z3.toArray⟩, .slice A2 zl c2] 46)) wr.heap.size 198 #[.int .i64 z0, .int .i64 z1, .int .i64 z2, .string ⟨z3.toArray⟩, .slice A2 zl c2, .int .i64 (z5 : Int)]) := Lib.hid ((Row.made _ _ _).alloc _)
      have HHR : Hid (Row ((wr.alloc (.cells #[.int .i64 z0, .int .i64 z1, .int .i64 z2, .string ⟨z3.toArray⟩, .slice A2 zl c2, .int .i64 (z5 : Int)] 198)).alloc (.cells #[.int .i64 z0, .int .i64 z1, .int .i64 z2, .string ⟨z3.toArray⟩, .slice A2 zl c2] 46)) w.heap.size 46 #[.int .i64 k, .int .i64 o, .int .i64 n, .string ⟨s.toArray⟩, v]) := Lib.hid ((HR.out.alloc _).alloc _)
      have HB3 : Hid (w.heap.size + 2 ≤ ((wr.alloc (.cells #[.int .i64 z0, .int .i64 z1, .int .i64 z2, .string ⟨z3.toArray⟩, .slice A2 zl c2, .int .i64 (z5 : Int)] 198)).alloc (.cells #[.int .i64 z0, .int .i64 z1, .int .i64 z2, .string ⟨z3.toArray⟩, .slice A2 zl c2] 46)).heap.size) := Lib.hid (by simp; omega)
      go_wp2_with (at_builtin; go_must (refine wpList_append_own_at _ rfl (.tmp 21) (.tmp 24) 44 rfl (w.heap.size + 2) 46 i0 _ 5 64 Tryz.underlying44 hi0 hz0 hz1 hz2 rfl (by omega) v j ds rfl HO2.out ⟨wr.heap.size + 1, 0, none⟩ 1 1 [.int .i64 z0, .int .i64 z1, .int .i64 z2, .string ⟨z3.toArray⟩, .slice A2 zl c2] rfl rfl HNW.out HOC.out (by unfold maxLen; omega) (by omega) HB3.out ?_); intro v' w4 ho' hgr' _ hat; obtain ⟨g9, cap9, rfl, _, _⟩ := ho'.form (by omega); have HO4 := Lib.hid ho'; have HG4 := Lib.hid hgr'; have r4 := HHR.out.grown hgr' (fun e => by have := (HV.out _ e.symm).1; omega); have x5 := r4.cell 4; have y5 := r4.free 4; have r5 := HKR.out.grown hgr' (fun e => by have := (HV.out _ e.symm).2; omega); have x6 := r5.cell 5; have hk4 : w.heap.size < w4.heap.size := r4.lt; simp at x5 x6; have HR4 := Lib.hid r4; have hne : ¬ wr.heap.size = w.heap.size := (by omega); clear ho' hgr' hat r4 r5 x4 y4)
      have HG5 : Hid (wr.grownBy w4 v.ownBlock) := Lib.hid (grown_of_alloc (grown_of_alloc HG4.out))
      have HG6 : Hid (Below w.heap.size w (w4.setCell ⟨w.heap.size, 4, none⟩ (.slice (some ⟨g9, 0, none⟩) (j + 1) cap9))) := Lib.hid ((HBW.out.grown HG5.out HBW.out.size (fun q hq => by have := (HV.out q hq).1; omega)).setCell (p := ⟨w.heap.size, 4, none⟩) (Nat.le_refl _) _)
      have HSM : Hid (∀ q, S q → (w4.setCell ⟨w.heap.size, 4, none⟩ (.slice (some ⟨g9, 0, none⟩) (j + 1) cap9)).heap[q]? = wr.heap[q]?) := Lib.hid fun q hq => (HG6.out.block q (HS.out q hq)).trans (HBW.out.block q (HS.out q hq)).symm
      go_roundg (ts.length - (j + 1))
      case rel =>
        refine ⟨j + 1, _, by omega, by go_num, ?_, by simpa using HR4.out.set 4 (.slice (some ⟨g9, 0, none⟩) (j + 1) cap9), ⟨ds ++ [.int .i64 z0, .int .i64 z1, .int .i64 z2, .string ⟨z3.toArray⟩, .slice A2 zl c2], ?_, ?_⟩, (HRP.out.grown HG5.out (fun e => by have := (HV.out _ e.symm).1; omega)).far (by show w.heap.size + 1 ≠ w.heap.size; omega) _, HG6.out⟩
        · rw [HDS.out]; congr 1; omega
        · rw [show (ts.take (j + 1)).length = j + 1 by simp; omega]
          exact owns_far HO4.out (only_set (only_refl _ _) 4 _) (by omega)
        · rw [← HC5.out, take_succ HY.out]
          exact CX.snoc (HK.out.move fun q hq => ⟨hq, HSM.out q hq⟩) (HX.out.move fun q hq => ⟨hq, HSM.out q hq⟩)
      case measure => omega
    · obtain rfl : j = ts.length := by omega
      rw [List.take_length] at hown HDD
      obtain ⟨A3, c3, rfl⟩ := hown.slice
      have HOW := Lib.hid hown
      have x0 := HR.out.cell 0
      have x1 := HR.out.cell 1
      have x2 := HR.out.cell 2
      have x3 := HR.out.cell 3
      have x4 := HR.out.cell 4
      simp at x0 x1 x2 x3 x4
      have hHr : w.heap.size < wr.heap.size := HR.out.lt
      have HSZ : (Tryz.prog.info? 198).map (·.size) = some (#[.int .i64 k, .int .i64 o, .int .i64 n, .string ⟨s.toArray⟩, .slice A3 ts.length c3, .int .i64 (1 + (d : Int))] : Array Value).size := tree_size
      have HSS : (#[.int .i64 0, .int .i64 0, .int .i64 0, .string ⟨#[]⟩, .slice none 0 0, .int .i64 0] : Array Value).size = (#[.int .i64 k, .int .i64 o, .int .i64 n, .string ⟨s.toArray⟩, .slice A3 ts.length c3, .int .i64 (1 + (d : Int))] : Array Value).size := rfl
      have HON : (#[.int .i64 k, .int .i64 o, .int .i64 n, .string ⟨s.toArray⟩, .slice A3 ts.length c3, .int .i64 (1 + (d : Int))] : Array Value).all (·.oneCell') = true := by simp [Value.oneCell']
      clear hr hrp hbw hown
      go_wp2_with (refine wpList_store_row (o := ⟨none, Op.store _ _ _, _, _, _, _⟩) rfl _ _ _ rfl (w.heap.size + 1) #[.int .i64 k, .int .i64 o, .int .i64 n, .string ⟨s.toArray⟩, .slice A3 ts.length c3, .int .i64 (1 + (d : Int))] rfl rfl _ _ HRP.out HSZ HSS HON ?_)
      have hz4 := HRP.out.setRow #[.int .i64 k, .int .i64 o, .int .i64 n, .string ⟨s.toArray⟩, .slice A3 ts.length c3, .int .i64 (1 + (d : Int))]
      have hb4 := below_setRow HBW.out (k := w.heap.size + 1) (by omega) #[.int .i64 k, .int .i64 o, .int .i64 n, .string ⟨s.toArray⟩, .slice A3 ts.length c3, .int .i64 (1 + (d : Int))]
      obtain ⟨A4, c4, hv4, hk4⟩ := HOW.out.form (S' := fun q => S q ∨ (w.heap.size + 2 ≤ q ∧ q < wr.heap.size)) (fun q hq => .inl hq) (fun q hq => by obtain ⟨cs, h1, _⟩ := HOW.out; exact .inr (World.ownsRow.lt h1 q hq))
      obtain ⟨rfl, rfl⟩ : A4 = A3 ∧ c4 = c3 := by injection hv4 with h1 _ h3; exact ⟨h1.symm, h3.symm⟩
      refine bodyPost_ret (results_cell_row rfl _ _ (w.heap.size + 1) _ _ _ _ rfl hz4 Tryz.underlying198 rfl tree_size) rfl ⟨A4, c4, ?_, hk4.move fun q hq => ?_, hb4⟩
      · rw [Int.natCast_add, ← HDD.out]; rfl
      · have hq1 : q ≠ w.heap.size + 1 := by
          rcases hq with hq | hq
          · have := HS.out q hq; omega
          · omega
        refine ⟨?_, setRow_other wr _ q _ (by omega)⟩
        rcases hq with hq | hq
        · exact .inl hq
        · exact .inr ⟨by omega, by simpa using hq.2⟩
end Go.Proofs.YtdabndiaflagpaaGreatDoor
namespace Go.Proofs.YtdabndiaflagpaaGreatDoor
open Go.RowKit

def joinZ (n : Nat) : Int := if n < 2 then 2 else if n = 4 then 0 else 1
def presT : List T := [[45], wNot, wPre]
/-- What is read of package variables: all of it lies below block b. -/
structure PaEnv (b : Nat) (w : World) : Prop where
  lev_ : ∀ n, n < 7 → w.cell? ⟨6, n * 2, none⟩ = some (.int .i64 (joinZ n)) ∧ ∃ q off c, w.cell? ⟨6, n * 2 + 1, none⟩ = some (.slice (some ⟨q, off, none⟩) (opsP n).length c) ∧ q < b ∧
    ∀ (i : Nat) p, (opsP n)[i]? = some p → w.cell? ⟨q, off + i * 2, none⟩ = some (.string ⟨p.1.toArray⟩) ∧ w.cell? ⟨q, off + i * 2 + 1, none⟩ = some (.int .i64 p.2)
  pre_ : ∀ (i : Nat) t, presT[i]? = some t → w.cell? ⟨10, i, none⟩ = some (.string ⟨t.toArray⟩)
  lt_ : 6 < b ∧ 10 < b
theorem PaEnv.grown {b : Nat} {w w' : World} {r : Option Nat} (h : PaEnv b w) (hg : w.grownBy w' r) (hb : b ≤ w.heap.size) (hr : ∀ q, r = some q → b ≤ q) : PaEnv b w' := by
  have hc : ∀ q i, q < b → w'.cell? ⟨q, i, none⟩ = w.cell? ⟨q, i, none⟩ := fun q i hq => World.cell?_of_block (hg.block q (by omega) (fun e => by have := hr q e.symm; omega))
  refine ⟨fun n hn => ?_, fun i t hi => (hc _ _ h.lt_.2).trans (h.pre_ i t hi), h.lt_⟩
  obtain ⟨h1, q, off, c, h2, hq, h3⟩ := h.lev_ n hn
  exact ⟨(hc _ _ h.lt_.1).trans h1, q, off, c, (hc _ _ h.lt_.1).trans h2, hq, fun i p hi => ⟨(hc _ _ hq).trans (h3 i p hi).1, (hc _ _ hq).trans (h3 i p hi).2⟩⟩

set_option maxRecDepth 100000 in
set_option maxHeartbeats 1000000 in
theorem pOperator (s : T) (B b o n : Nat) (L : List Tk) (w : World) (h : StT s B w b L o) (he : PaEnv b w) (hn : n < 7) :
    Calls Tryz.prog 181 #[.pointer (some ⟨b, 0, none⟩), .int .i64 (n : Int)] w fun e w' => e = .returned (.tuple #[.int .i64 ((opP n L).getD 0), .bool (opP n L).isSome]) ∧ Below w.heap.size w w' := by
  obtain ⟨_, q, off, c, h2, hq, h3⟩ := he.lev_ n hn
  have hlt := he.lt_.1
  have hbB := h.base_
  have hBw := h.room_
  have hI := fun x w1 (hb : Below w.heap.size w w1) => pIs s B b o x L w1 (h.later hb)
  have HI := Lib.hid hI
  have H2 := Lib.hid h2
  have H3 := Lib.hid h3
  have hlz : (opsP n).length ≤ 6 := by
    have : n = 0 ∨ n = 1 ∨ n = 2 ∨ n = 3 ∨ n = 4 ∨ n = 5 ∨ n = 6 := by omega
    rcases this with rfl | rfl | rfl | rfl | rfl | rfl | rfl <;> decide
  obtain ⟨l, hl⟩ : ∃ l, l = opsP n := ⟨_, rfl⟩
  have HOP : Hid (opP n L = (l.find? (fun p => isP p.1 L)).map (·.2)) := Lib.hid (by rw [hl]; rfl)
  rw [← hl] at h2 H3 hlz
  have hqw : q < w.heap.size := by omega
  have hgw : 6 < w.heap.size := by omega
  have hn1 : (n : Int) < 7 := by omega
  clear h3 hl hI he h
  go_enter Tryz.func181, Tryz.ntmps181
  go_wp2_with fail
  clear h2
  go_loopg [7, 13] l.length (fun g' _ k wr => ∃ i : Nat, i + g' = l.length ∧ k = .int .i64 (i : Int) ∧ opP n L = ((l.drop i).find? (fun p => isP p.1 L)).map (·.2) ∧ Below w.heap.size w wr)
  case atStart => exact ⟨0, by omega, rfl, HOP.out, Below.refl _ _⟩
  case round =>
    obtain ⟨i, hi, rfl, hop, hbl⟩ := hrel
    have HBL := Lib.hid hbl
    have HOI := Lib.hid hop
    have hwr := hbl.size
    by_cases hlt2 : i < l.length
    · obtain ⟨p, hp⟩ : ∃ p, l[i]? = some p := ⟨_, List.getElem?_eq_getElem hlt2⟩
      have HDR : Hid (l.drop i = p :: l.drop (i + 1)) := Lib.hid (by rw [List.drop_eq_getElem_cons hlt2]; congr 1; rw [List.getElem?_eq_getElem hlt2] at hp; injection hp)
      obtain ⟨d0, d1⟩ := H3.out i p hp
      have D0 := (hbl.cell (p := ⟨q, off + i * 2, none⟩) (by show q < w.heap.size; omega)).trans d0
      have D1 := (hbl.cell (p := ⟨q, off + i * 2 + 1, none⟩) (by show q < w.heap.size; omega)).trans d1
      have hqr : q < wr.heap.size := by omega
      obtain ⟨x, op⟩ := p
      simp only at D0 D1
      have HC := Lib.hid (HI.out x (wr.alloc (.cells #[.string ⟨x.toArray⟩, .int .i64 op] 249)) (hbl.alloc hbl.size _))
      have HRB : Hid (Row (wr.alloc (.cells #[.string ⟨x.toArray⟩, .int .i64 op] 249)) wr.heap.size 249 #[.string ⟨x.toArray⟩, .int .i64 op]) := Lib.hid (Row.made _ _ _)
      have HB3 : Hid (Below w.heap.size w (wr.alloc (.cells #[.string ⟨x.toArray⟩, .int .i64 op] 249))) := Lib.hid (hbl.alloc hbl.size _)
      by_cases hb : isP x L = true
      · have HR : Hid (opP n L = some op) := Lib.hid (by rw [hop, HDR.out, List.find?_cons_of_pos (by exact hb)]; rfl)
        rw [hb] at HC
        clear hbl hop hp d0 d1 hb
        go_wp2_with (go_at_call 61; refine HC.out.mono ?_; rintro e w2 ⟨rfl, g1⟩; have HG := Lib.hid g1; have r2 := HRB.out.below g1 HRB.out.lt; have y1 := r2.cell 1; simp at y1; clear g1 HC r2)
        go_ret2
        exact ⟨by rw [HR.out]; rfl, HB3.out.trans (HG.out.mono HB3.out.size)⟩
      · have hb2 : isP x L = false := by simpa using hb
        have HR : Hid (opP n L = ((l.drop (i + 1)).find? (fun p => isP p.1 L)).map (·.2)) := Lib.hid (by rw [hop, HDR.out, List.find?_cons_of_neg (by exact hb)])
        rw [hb2] at HC
        clear hbl hop hp d0 d1 hb hb2
        go_wp2_with (go_at_call 61; refine HC.out.mono ?_; rintro e w2 ⟨rfl, g1⟩; have HG := Lib.hid g1; clear g1 HC)
        go_roundg (l.length - (i + 1))
        case rel => exact ⟨i + 1, by omega, by go_num, HR.out, HB3.out.trans (HG.out.mono HB3.out.size)⟩
        case measure => omega
    · obtain rfl : i = l.length := by omega
      have HR : Hid (opP n L = none) := Lib.hid (by rw [hop, List.drop_length]; rfl)
      clear hop hbl
      go_wp2_with fail
      go_ret2
      exact ⟨by rw [HR.out]; rfl, HBL.out⟩

/-- A box with a tree. -/
def t6 (x : X) (A : Option Addr) (c : Nat) : Array Value := #[.int .i64 x.k, .int .i64 x.o, .int .i64 x.n, .string ⟨x.s.toArray⟩, .slice A x.ks.length c, .int .i64 (x.depth : Int)]
def z6 : Array Value := #[.int .i64 0, .int .i64 0, .int .i64 0, .string ⟨#[]⟩, .slice none 0 0, .int .i64 0]
/-- The blocks that a call made between two points. -/
def Bt (lo hi : Nat) : Nat → Prop := fun q => lo ≤ q ∧ q < hi
/-- The value of a tree that the call made. -/
def TrV (lo : Nat) : X → Value → World → Prop := fun x v w' => ∃ A c, v = .agg #[.int .i64 x.k, .int .i64 x.o, .int .i64 x.n, .string ⟨x.s.toArray⟩, .slice A x.ks.length c, .int .i64 (x.depth : Int)] ∧ KS w' (Bt lo w'.heap.size) A x.ks
theorem KS.bt {w w' : World} {lo hi lo' hi' : Nat} {A : Option Addr} {ks : List X} {r : Option Nat} (h : KS w (Bt lo hi) A ks) (hg : w.grownBy w' r) (hr : ∀ q, r = some q → q < lo ∨ hi ≤ q) (hl : lo' ≤ lo) (hh : hi ≤ hi') (hw : hi ≤ w.heap.size) : KS w' (Bt lo' hi') A ks :=
  h.move fun q hq => ⟨⟨by have := hq.1; omega, by have := hq.2; omega⟩, hg.block q (by have := hq.2; omega) (fun e => by have := hr q e.symm; have := hq.1; have := hq.2; omega)⟩
theorem grown_setRow {w : World} {k : Nat} {cs cs' : Array Value} {t : TypeId} (_ : Row w k t cs) : w.grownBy (w.setRow k cs') (some k) :=
  ⟨rfl, rfl, rfl, by simp, fun i _ hne => setRow_other w k i cs' (fun e => hne (by rw [e]))⟩
/-- A tree is handed back out of its box. -/
theorem tree_back {s : T} {B b o : Nat} {L : List Tk} {w wk : World} {x : X} {A : Option Addr} {c : Nat} {old : Array Value} (hg : w.grownBy wk (some b)) (hp : Row wk w.heap.size 198 old) (hk : KS wk (Bt (w.heap.size + 1) wk.heap.size) A x.ks) (hs : StT s B wk b L o) (hB : B ≤ w.heap.size) :
    w.grownBy (wk.setRow w.heap.size (t6 x A c)) (some b) ∧ KS (wk.setRow w.heap.size (t6 x A c)) (Bt w.heap.size (wk.setRow w.heap.size (t6 x A c)).heap.size) A x.ks ∧ StT s B (wk.setRow w.heap.size (t6 x A c)) b L o ∧ Row (wk.setRow w.heap.size (t6 x A c)) w.heap.size 198 (t6 x A c) :=
  ⟨only_far hg (grown_setRow hp) (fun q hq => by injection hq with hq; omega), hk.bt (grown_setRow hp) (fun q hq => by injection hq with hq; omega) (by omega) (by simp) (Nat.le_refl _), hs.grown (grown_setRow hp) (fun q hq => by injection hq with hq; omega), hp.setRow _⟩
theorem t6_one (x : X) (A : Option Addr) (c : Nat) : (t6 x A c).all (·.oneCell') = true := by simp [t6, Value.oneCell']
theorem t6_size (x : X) (A : Option Addr) (c : Nat) : (Tryz.prog.info? 198).map (·.size) = some (t6 x A c).size := tree_size
end Go.Proofs.YtdabndiaflagpaaGreatDoor
