/- DERIVED. What is said on the way through the law's own copy of a program. -/
import Derived.Test.YtfajnflfonechaaDoorOwnV
namespace Go.Proofs.YtfajnflfonechaaDoor
open Go.RowKit

theorem node_info : (Tryd.prog.info? 88).map (fun i => (i.zero, i.size, i.bytes)) = some (some (.agg #[.string ⟨#[]⟩, .slice none 0 0, .slice none 0 0, .slice none 0 0, .slice none 0 0]), 5, 112) := by kernel_rfl
theorem eqn_info : (Tryd.prog.info? 93).map (fun i => (i.zero, i.size, i.bytes)) = some (some (.agg #[.slice none 0 0, .int .i64 0, .int .i64 0, .int .i64 0, .string ⟨#[]⟩, .slice none 0 0]), 6, 88) := by kernel_rfl
theorem str_info : (Tryd.prog.info? 9).map (fun i => (i.zero, i.size, i.bytes)) = some (some (.string ⟨#[]⟩), 1, 16) := by kernel_rfl

/-! ### The node's own struct, ahead of its equations -/
/-- Blocks below B are as they were, and of the others none that isn't a node. -/
def Turn6 (B : Nat) (w w' : World) : Prop := Below B w w' ∧ ∀ q e cs, Row w q e cs → e ≠ 88 → w'.heap[q]? = w.heap[q]?
theorem Turn6.refl (B : Nat) (w : World) : Turn6 B w w := ⟨Below.refl _ _, fun _ _ _ _ _ => rfl⟩
theorem Turn6.set {B : Nat} {a w : World} (h : Turn6 B a w) {g : Nat} {cs : Array Value} (hg : B ≤ g) (hr : Row a g 88 cs) (i : Nat) (u : Value) : Turn6 B a (w.setCell ⟨g, i, none⟩ u) :=
  ⟨h.1.setCell (p := ⟨g, i, none⟩) hg u, fun q e cs' hq he => (Below.heap_setCell _ _ _ _ (fun e' => he (by
    have e' : q = g := e'
    subst e'
    exact (hq.same hr).2))).trans (h.2 q e cs' hq he)⟩
theorem Sty.turn6 {B : Nat} {w w' : World} (hs : Turn6 B w w') {b : Nat} (h : Sty 114 B w b) : Sty 114 B w' b ∧ w'.heap[b]? = w.heap[b]? := by
  obtain ⟨h1, h2, cs, hr⟩ := h
  have e := hs.2 b _ cs hr (by decide)
  exact ⟨⟨h1, Nat.lt_of_lt_of_le h2 hs.1.size, cs, e.trans hr⟩, e⟩

def VarW (B : Nat) (l : List Vr) (u : Value) (w : World) : Prop := ∃ A c, u = .slice A l.length c ∧ VS w (Sty 114 B w) A l
theorem VarW.later {B : Nat} {l : List Vr} {u : Value} {w w' : World} (h : VarW B l u w) (hl : Tame.Later w w') : VarW B l u w' := by
  obtain ⟨A, c, hv, hk⟩ := h
  exact ⟨A, c, hv, hk.move fun b hb => hb.later hl⟩
theorem VarW.turn {B : Nat} {l : List Vr} {u : Value} {w w' : World} (h : VarW B l u w) (hs : Turn6 B w w') : VarW B l u w' := by
  obtain ⟨A, c, hv, hk⟩ := h
  exact ⟨A, c, hv, hk.move fun b hb => hb.turn6 hs⟩
/-- The three lists of variables. -/
def Three (B : Nat) (n : Nd) (A1 A2 A3 : Option Addr) (w : World) : Prop := VS w (Sty 114 B w) A1 n.ins ∧ VS w (Sty 114 B w) A2 n.outs ∧ VS w (Sty 114 B w) A3 n.locals
theorem Three.later {B : Nat} {n : Nd} {A1 A2 A3 : Option Addr} {w w' : World} (h : Three B n A1 A2 A3 w) (hl : Tame.Later w w') : Three B n A1 A2 A3 w' := ⟨h.1.move fun _ hb => hb.later hl, h.2.1.move fun _ hb => hb.later hl, h.2.2.move fun _ hb => hb.later hl⟩
theorem Three.turn {B : Nat} {n : Nd} {A1 A2 A3 : Option Addr} {w w' : World} (h : Three B n A1 A2 A3 w) (hs : Turn6 B w w') : Three B n A1 A2 A3 w' := ⟨h.1.move fun _ hb => hb.turn6 hs, h.2.1.move fun _ hb => hb.turn6 hs, h.2.2.move fun _ hb => hb.turn6 hs⟩
def BldN (B : Nat) (n : Nd) (u : Value) (w : World) : Prop := ∃ A1 c1 A2 c2 A3 c3, u = .agg #[.string ⟨n.name.toArray⟩, .slice A1 n.ins.length c1, .slice A2 n.outs.length c2, .slice A3 n.locals.length c3, .slice none 0 0] ∧ Three B n A1 A2 A3 w
theorem BldN.later {B : Nat} {n : Nd} {u : Value} {w w' : World} (h : BldN B n u w) (hl : Tame.Later w w') : BldN B n u w' := by
  obtain ⟨A1, c1, A2, c2, A3, c3, hv, hk⟩ := h
  exact ⟨A1, c1, A2, c2, A3, c3, hv, hk.later hl⟩
theorem BldN.turn {B : Nat} {n : Nd} {u : Value} {w w' : World} (h : BldN B n u w) (hs : Turn6 B w w') : BldN B n u w' := by
  obtain ⟨A1, c1, A2, c2, A3, c3, hv, hk⟩ := h
  exact ⟨A1, c1, A2, c2, A3, c3, hv, hk.turn hs⟩
def AllN (B : Nat) (u : Value) (w : World) : Prop := ∃ g, u = .pointer (some ⟨g, 0, none⟩) ∧ Row w g 88 #[.string ⟨#[]⟩, .slice none 0 0, .slice none 0 0, .slice none 0 0, .slice none 0 0] ∧ B ≤ g
theorem AllN.later {B : Nat} {u : Value} {w w' : World} (h : AllN B u w) (hl : Tame.Later w w') : AllN B u w' := by
  obtain ⟨g, hv, hr, hb⟩ := h
  exact ⟨g, hv, hr.below hl hr.lt, hb⟩
def LaidN (B : Nat) (n : Nd) (vals : Nat → Value) (w : World) : Prop := ∃ g A1 c1 A2 c2 A3 c3, vals 12 = .pointer (some ⟨g, 0, none⟩) ∧ B ≤ g ∧ Row w g 88 #[.string ⟨n.name.toArray⟩, .slice A1 n.ins.length c1, .slice A2 n.outs.length c2, .slice A3 n.locals.length c3, .slice none 0 0] ∧ Three B n A1 A2 A3 w
theorem LaidN.later {B : Nat} {n : Nd} {vals : Nat → Value} {w w' : World} (h : LaidN B n vals w) (hl : Tame.Later w w') : LaidN B n vals w' := by
  obtain ⟨g, A1, c1, A2, c2, A3, c3, hv, hb, hr, hk⟩ := h
  exact ⟨g, A1, c1, A2, c2, A3, c3, hv, hb, hr.below hl hr.lt, hk.later hl⟩
theorem LaidN.same {B : Nat} {n : Nd} {vals vals' : Nat → Value} {w : World} (h : LaidN B n vals w) (e : vals 12 = vals' 12) : LaidN B n vals' w := by unfold LaidN; rw [← e]; exact h
def ghosts6 (B : Nat) (wa : World) : List Tame.Ghost := [⟨Below B wa, [13]⟩]
theorem ghosts6_ok {B : Nat} {wa : World} (hB : B ≤ wa.heap.size) : ∀ (i : Nat) (g : Tame.Ghost), (ghosts6 B wa)[i]? = some g → g.g wa.drew ∧ (∀ w w', Tame.Later w w' → g.g w → g.g w') ∧
      ∀ j, [13].contains j = true → g.keeps.contains j = true → ∀ w w', Turn6 B w w' → g.g w → g.g w' := by
  intro i g hi
  rcases i with _ | i
  · obtain rfl : (⟨Below B wa, [13]⟩ : Tame.Ghost) = g := by simpa [ghosts6] using hi
    exact ⟨(Below.refl _ _).drew, fun a b hl h => h.trans (Below.mono hl (by have := h.size; omega)), fun j _ _ a b hs h => h.trans hs.1⟩
  · simp [ghosts6] at hi

/-! ### Its equations -/
def Turn2 (p : Nat) (r : Option Nat) (j : Nat) (w w' : World) : Prop := w.grownBy w' (if j = 19 then r else some p)
theorem Turn2.refl (p : Nat) (r : Option Nat) (j : Nat) (w : World) : Turn2 p r j w w := World.grownBy.refl w _
theorem Turn2.store {p : Nat} {r : Option Nat} {w : World} {u : Value} : Turn2 p r 21 w (w.setCell ⟨p, 4, none⟩ u) := only_set (only_refl w p) 4 u
theorem Turn2.keep {p B j : Nat} {r : Option Nat} {w w' : World} (h : Turn2 p r j w w') (hp : p < B) (b : Nat) (hb : Sb B r w b) : Sb B r w' b ∧ w'.heap[b]? = w.heap[b]? :=
  ⟨⟨hb.1, Nat.lt_of_lt_of_le hb.2.1 h.size, hb.2.2⟩, h.block b hb.2.1 (by
    split
    · exact hb.2.2
    · intro e; injection e with e; have := hb.1; omega)⟩
/-- Something that leads to blocks from B on, away from v's row. -/
structure Firm (B : Nat) (r : Option Nat) (T : Value → World → Prop) : Prop where
  move : ∀ {w w' : World} {u : Value}, T u w → (∀ b, Sb B r w b → Sb B r w' b ∧ w'.heap[b]? = w.heap[b]?) → T u w'
theorem Firm.later {B : Nat} {r : Option Nat} {T : Value → World → Prop} (hf : Firm B r T) {u : Value} {w w' : World} (h : T u w) (hl : Tame.Later w w') : T u w' := hf.move h fun b hb => later_keep hl b hb
theorem Firm.turn {B p j : Nat} {r : Option Nat} {T : Value → World → Prop} (hf : Firm B r T) (hp : p < B) {u : Value} {w w' : World} (h : T u w) (hs : Turn2 p r j w w') : T u w' := hf.move h fun b hb => hs.keep hp b hb
theorem firmOwn (B : Nat) (v : Value) (y : X) : Firm B v.ownBlock (OwnVal B v y) := ⟨fun ⟨A, c, hv, hk⟩ hm => ⟨A, c, hv, hk.move hm⟩⟩
def NoneT (B : Nat) (v : Value) (u : Value) (w : World) : Prop := ∃ g, u = .slice (some ⟨g, 0, none⟩) 0 0 ∧ Row w g 9 #[] ∧ Sb B v.ownBlock w g
theorem firmNone (B : Nat) (v : Value) : Firm B v.ownBlock (NoneT B v) := ⟨fun ⟨g, hv, hr, hs⟩ hm => ⟨g, hv, (hm g hs).2.trans hr, (hm g hs).1⟩⟩
def LhsV (B : Nat) (v : Value) (l : List T) (u : Value) (w : World) : Prop := ∃ A c, u = .slice A l.length c ∧ TS w (Sb B v.ownBlock w) A l ∧ l.length ≤ c
theorem firmLhs (B : Nat) (v : Value) (l : List T) : Firm B v.ownBlock (LhsV B v l) := ⟨fun ⟨A, c, hv, hk, hc⟩ hm => ⟨A, c, hv, hk.move hm, hc⟩⟩
def EqV (B : Nat) (v : Value) (q : Q) (u : Value) (w : World) : Prop := ∃ A c A2 c2, u = .agg #[.slice A q.lhs.length c, .int .i64 q.rhs.k, .int .i64 q.rhs.o, .int .i64 q.rhs.n, .string ⟨q.rhs.s.toArray⟩, .slice A2 q.rhs.ks.length c2] ∧ TS w (Sb B v.ownBlock w) A q.lhs ∧ KS w (Sb B v.ownBlock w) A2 q.rhs.ks ∧ q.lhs.length ≤ c
theorem firmEq (B : Nat) (v : Value) (q : Q) : Firm B v.ownBlock (EqV B v q) := ⟨fun ⟨A, c, A2, c2, hv, hk, hk2, hc⟩ hm => ⟨A, c, A2, c2, hv, hk.move hm, hk2.move hm, hc⟩⟩
def NewQ (B : Nat) (v : Value) (q : Q) (u : Value) (w : World) : Prop := ∃ g A c A2 c2, u = .slice (some ⟨g, 0, none⟩) 1 1 ∧ Row w g 93 #[.slice A q.lhs.length c, .int .i64 q.rhs.k, .int .i64 q.rhs.o, .int .i64 q.rhs.n, .string ⟨q.rhs.s.toArray⟩, .slice A2 q.rhs.ks.length c2] ∧ TS w (Sb B v.ownBlock w) A q.lhs ∧ KS w (Sb B v.ownBlock w) A2 q.rhs.ks ∧ Sb B v.ownBlock w g ∧ q.lhs.length ≤ c
theorem firmNewQ (B : Nat) (v : Value) (q : Q) : Firm B v.ownBlock (NewQ B v q) := ⟨fun ⟨g, A, c, A2, c2, hv, hr, hk, hk2, hs, hc⟩ hm => ⟨g, A, c, A2, c2, hv, (hm g hs).2.trans hr, hk.move hm, hk2.move hm, (hm g hs).1, hc⟩⟩
def AppQ (B : Nat) (xs : List Q) (u : Value) (w : World) : Prop := OwnG RQ 93 6 w B (Sb B u.ownBlock w) u xs
theorem AppQ.form {B : Nat} {xs : List Q} {u : Value} {w : World} (h : AppQ B xs u w) : ∃ A c, u = .slice A xs.length c := by
  obtain ⟨A, c, hv, _⟩ := OwnG.form lastsQ h (S' := fun _ => True) (fun _ _ => trivial) (fun _ _ _ _ => trivial)
  exact ⟨A, c, hv⟩
/-- The struct, with a list of equations. -/
def HeldN (p : Nat) (s : T) (u1 u2 u3 v : Value) (w : World) : Prop := Row w p 88 #[.string ⟨s.toArray⟩, u1, u2, u3, v]
def LaidQ (p : Nat) (s : T) (u1 u2 u3 : Value) (vals : Nat → Value) (w : World) : Prop := HeldN p s u1 u2 u3 (vals 19) w
theorem LaidQ.same {p : Nat} {s : T} {u1 u2 u3 : Value} {vals vals' : Nat → Value} {w : World} (h : LaidQ p s u1 u2 u3 vals w) (e : vals 19 = vals' 19) : LaidQ p s u1 u2 u3 vals' w := by unfold LaidQ; rw [← e]; exact h
theorem LaidQ.mk {p : Nat} {s : T} {u1 u2 u3 u : Value} {vals : Nat → Value} {w : World} (e : vals 19 = u) (h : HeldN p s u1 u2 u3 u w) : LaidQ p s u1 u2 u3 vals w := by unfold LaidQ; rw [e]; exact h

def ghosts10 (B p : Nat) (wl wr : World) (s : T) (u1 u2 u3 v : Value) (xs : List Q) : List Tame.Ghost :=
  [⟨fun w => wl.grownBy w (some p) ∧ wr.heap.size ≤ w.heap.size, [19, 21]⟩, ⟨HeldN p s u1 u2 u3 v, [19]⟩, ⟨AppQ B xs v, []⟩]
theorem grown_later {wl w w' : World} {r : Option Nat} (h : wl.grownBy w r) (hl : Tame.Later w w') : wl.grownBy w' r := h.trans ⟨Below.os hl, Below.tape hl, Below.output hl, Below.size hl, fun i hi _ => Below.block hl i hi⟩
theorem ghosts10_ok {B p : Nat} {wl wr : World} {s : T} {u1 u2 u3 v : Value} {xs : List Q} (hp : p < B) (hB : B = wl.heap.size) (h0 : wl.grownBy wr (some p)) (h1 : HeldN p s u1 u2 u3 v wr) (h2 : AppQ B xs v wr) :
    ∀ (i : Nat) (g : Tame.Ghost), (ghosts10 B p wl wr s u1 u2 u3 v xs)[i]? = some g → g.g wr.drew ∧ (∀ w w', Tame.Later w w' → g.g w → g.g w') ∧
      ∀ j, [19, 21].contains j = true → g.keeps.contains j = true → ∀ w w', Turn2 p v.ownBlock j w w' → g.g w → g.g w' := by
  intro i g hi
  rcases i with _ | _ | _ | i
  · obtain rfl : (⟨fun w => wl.grownBy w (some p) ∧ wr.heap.size ≤ w.heap.size, [19, 21]⟩ : Tame.Ghost) = g := by simpa [ghosts10] using hi
    refine ⟨⟨grown_later h0 ((Below.refl _ _).drew), Nat.le_refl _⟩, fun a b hl h => ⟨grown_later h.1 hl, Nat.le_trans h.2 (Below.size hl)⟩, fun j _ _ a b hs h => ⟨⟨hs.os.trans h.1.os, hs.tape.trans h.1.tape, hs.output.trans h.1.output, Nat.le_trans h.1.size hs.size, fun k hk hne => (hs.block k (Nat.lt_of_lt_of_le hk h.1.size) ?_).trans (h.1.block k hk hne)⟩, Nat.le_trans h.2 hs.size⟩⟩
    split
    · intro e
      have := (h2.lt k e.symm).1
      omega
    · exact hne
  · obtain rfl : (⟨HeldN p s u1 u2 u3 v, [19]⟩ : Tame.Ghost) = g := by simpa [ghosts10] using hi
    refine ⟨Row.drew h1, fun a b hl h => Row.below h hl (Row.lt h), fun j _ hj a b hs h => ?_⟩
    obtain rfl := one_of hj
    exact Row.grown h hs (by simp only [if_true]; intro e; have := (h2.lt p e.symm).1; omega)
  · obtain rfl : (⟨AppQ B xs v, []⟩ : Tame.Ghost) = g := by simpa [ghosts10] using hi
    exact ⟨OwnG.later lastsQ h2 ((Below.refl _ _).drew), fun a b hl h => OwnG.later lastsQ h hl, fun j _ hj => by cases hj⟩
  · simp [ghosts10] at hi

/-- What OwnProgram hands back. -/
def ProgMade (w : World) (l : List Nd) (e : Ending) (w' : World) : Prop := ∃ A c, e = .returned (.agg #[.slice A l.length c]) ∧ NS w' (fun b => w.heap.size ≤ b ∧ b < w'.heap.size) A l ∧ Below w.heap.size w w'
def AppN (B : Nat) (xs : List Nd) (u : Value) (w : World) : Prop := OwnG RN 88 5 w B (Sb B u.ownBlock w) u xs

end Go.Proofs.YtfajnflfonechaaDoor
