/- Parts: PsR0. -/
import Derived.Test.YtdabndiaflagpaaGreatDoorB07
set_option maxRecDepth 100000
set_option maxHeartbeats 4000000
set_option linter.unusedVariables false
namespace Go.Proofs.YtdabndiaflagpaaGreatDoor
open Go.RowKit

theorem Bx.set {b p : Nat} {wx wi : World} {t : TypeId} {cs : Array Value} (h : Bx b wx p t cs wi) (i : Nat) (u : Value) : Bx b wx p t (cs.setIfInBounds i u) (wi.setCell ⟨p, i, none⟩ u) := ⟨h.row.set i u, h.lo, h.hb⟩
/-- Variables in a row of the call's own, behind the node's box. -/
structure Vrs (b p : Nat) (vs : List Vr) (v : Value) (wi : World) : Prop where
  own : OwnV (p + 1) vs v wi
  hb : b < p
theorem Vrs.grow {b p : Nat} {wi wj : World} {vs : List Vr} {v : Value} (h : Vrs b p vs v wi) (g2 : wi.grownBy wj (some b)) : Vrs b p vs v wj := ⟨ownF_kept lastsV h.own g2 (fun q hq => by injection hq with hq; have := h.hb; omega), h.hb⟩
theorem Vrs.set {b p i : Nat} {u : Value} {wi : World} {vs : List Vr} {v : Value} (h : Vrs b p vs v wi) : Vrs b p vs v (wi.setCell ⟨p, i, none⟩ u) := ⟨ownF_kept lastsV h.own (only_set (only_refl _ p) i u) (fun q hq => by injection hq with hq; omega), h.hb⟩
theorem Vrs.nil {b p : Nat} (wi : World) (hb : b < p) : Vrs b p [] (.slice none 0 0) wi := ⟨OwnG.nil _ _ _ _ _ _, hb⟩
theorem Vrs.made {b p lo : Nat} {wi : World} {vs : List Vr} {v : Value} (h : OwnV lo vs v wi) (hl : p + 1 ≤ lo) (hb : b < p) : Vrs b p vs v wi := by
  obtain ⟨cs, ⟨h1, h2⟩, hx⟩ := h
  refine ⟨⟨cs, ⟨h1, ?_⟩, hx⟩, hb⟩
  rcases h2 with hn | ⟨g, cap, cur, rfl, hg, rest⟩
  · exact .inl hn
  · exact .inr ⟨g, cap, cur, rfl, Nat.le_trans hl hg, rest⟩
theorem Vrs.vs {b p : Nat} {wi : World} {vs : List Vr} {A : Option Addr} {c : Nat} (h : Vrs b p vs (.slice A vs.length c) wi) : VS wi (Bt (p + 1) wi.heap.size) A vs := by
  have hlt := own_lt h.own
  obtain ⟨A2, c2, hv, hr⟩ := OwnG.form lastsV h.own (S' := Bt (p + 1) wi.heap.size) (fun q hq => hq.elim) (fun q cs hq _ => hlt q hq)
  injection hv with h1 _ _
  subst h1
  exact rv_vs hr
theorem At.set {s : T} {B b p i : Nat} {u : Value} {wx wi : World} {L : List Tk} {o : Nat} (h : At s B b wx L o wi) (hp : wx.heap.size ≤ p) (hB : B ≤ wx.heap.size) : At s B b wx L o (wi.setCell ⟨p, i, none⟩ u) :=
  h.own (only_set (only_refl _ p) i u) (fun q hq => by injection hq with hq; omega) hB

/-! ### What comes in a node -/
noncomputable def n4 (nm : T) (ins outs locals : List Vr) (eqs : List Q) (L : List Tk) : Pr Nd := (mustP wTel L).bind fun _ L => .ok ⟨nm, ins, outs, locals, eqs⟩ L
noncomputable def n3 (nm : T) (ins outs locals : List Vr) (L : List Tk) : Pr Nd := (mustP wLet L).bind fun _ L => (eqsF (L.length + 1) [] L).bind fun eqs L => n4 nm ins outs locals eqs L
noncomputable def n2 (nm : T) (ins outs : List Vr) (L : List Tk) : Pr Nd := (varP L).bind fun locals L => n3 nm ins outs locals L
noncomputable def n1 (nm : T) (ins : List Vr) (L : List Tk) : Pr Nd := (mustsP [[41], wReturns, [40]] L).bind fun _ L => (varsP L).bind fun outs L => (mustsP [[41], [59]] L).bind fun _ L => n2 nm ins outs L
noncomputable def n0 (nm : T) (L : List Tk) : Pr Nd := (insP L).bind fun ins L => n1 nm ins L
theorem nodeP_eq (L : List Tk) : nodeP L = (mustP wNode L).bind fun _ L => (nmP L).bind fun nm L => (mustP [40] L).bind fun _ L => n0 nm L := rfl

/-- The node's box. -/
def NB (b : Nat) (wx : World) (p : Nat) (nm : T) (ins outs locals : Value) (eqs : Value) (wi : World) : Prop := Bx b wx p 41 #[.string ⟨nm.toArray⟩, ins, outs, locals, eqs] wi
/-- Behind the in-ports. -/
def NodeAt1 (s : T) (B b p : Nat) (wx : World) (R : Pr Nd) (nm : T) (wi : World) : Prop :=
  ∃ ins A c L, R = n1 nm ins L ∧ At s B b wx L 0 wi ∧ NB b wx p nm (.slice A ins.length c) (.slice none 0 0) (.slice none 0 0) (.slice none 0 0) wi ∧ Vrs b p ins (.slice A ins.length c) wi
/-- Behind the locals. -/
def NodeAt2 (s : T) (B b p : Nat) (wx : World) (R : Pr Nd) (nm : T) (ins : List Vr) (A : Option Addr) (c : Nat) (wi : World) : Prop :=
  ∃ outs A2 c2 locals A3 c3 L, R = n3 nm ins outs locals L ∧ At s B b wx L 0 wi ∧ NB b wx p nm (.slice A ins.length c) (.slice A2 outs.length c2) (.slice A3 locals.length c3) (.slice none 0 0) wi ∧
    Vrs b p ins (.slice A ins.length c) wi ∧ Vrs b p outs (.slice A2 outs.length c2) wi ∧ Vrs b p locals (.slice A3 locals.length c3) wi
/-- The value of a node that the call made. -/
def NdV (lo : Nat) : Nd → Value → World → Prop := fun n v w' => ∃ A1 c1 A2 c2 A3 c3 A4 c4, v = .agg #[.string ⟨n.name.toArray⟩, .slice A1 n.ins.length c1, .slice A2 n.outs.length c2, .slice A3 n.locals.length c3, .slice A4 n.eqs.length c4] ∧
  VS w' (Bt lo w'.heap.size) A1 n.ins ∧ VS w' (Bt lo w'.heap.size) A2 n.outs ∧ VS w' (Bt lo w'.heap.size) A3 n.locals ∧ QS w' (Bt lo w'.heap.size) A4 n.eqs
theorem node_size : (Tryz.prog.info? 41).map (·.size) = some 5 := by kernel_rfl
def n5 (nm : T) (ins outs locals eqs : Value) : Array Value := #[.string ⟨nm.toArray⟩, ins, outs, locals, eqs]
theorem eqn_info : (Tryz.prog.info? 48).map (fun i => (i.zero, i.size, i.bytes)) = some (some (.agg #[.slice none 0 0, .int .i64 0, .int .i64 0, .int .i64 0, .string ⟨#[]⟩, .slice none 0 0]), 6, 88) := by kernel_rfl

/-- Below block B2 only b and p have turned. -/
structure Kp2 (B2 b p : Nat) (w w' : World) : Prop where
  size : w.heap.size ≤ w'.heap.size
  block : ∀ q, q < B2 → q ≠ b → q ≠ p → w'.heap[q]? = w.heap[q]?
theorem Kp2.refl (B2 b p : Nat) (w : World) : Kp2 B2 b p w w := ⟨Nat.le_refl _, fun _ _ _ _ => rfl⟩
theorem Kp2.step {B2 b p : Nat} {w w' w'' : World} {r : Option Nat} (h : Kp2 B2 b p w w') (g : w'.grownBy w'' r) (hB : B2 ≤ w.heap.size) (hr : ∀ q, r = some q → q = b ∨ q = p ∨ B2 ≤ q) : Kp2 B2 b p w w'' :=
  ⟨Nat.le_trans h.size g.size, fun q h1 h2 h3 => (g.block q (by have := h.size; omega) (fun e => by rcases hr q e.symm with h | h | h <;> omega)).trans (h.block q h1 h2 h3)⟩
theorem Kp2.vs {B2 b p : Nat} {w w' : World} {vs : List Vr} {A : Option Addr} (h : Kp2 B2 b p w w') (hv : VS w (Bt (p + 1) B2) A vs) (hb : b < p) (hB : B2 ≤ w.heap.size) {lo : Nat} (hl : lo ≤ p + 1) : VS w' (Bt lo w'.heap.size) A vs :=
  hv.move fun q hq => ⟨⟨by have := hq.1; omega, by have := hq.2; have := h.size; omega⟩, h.block q hq.2 (by have := hq.1; omega) (by have := hq.1; omega)⟩
/-- An equation, away from the row of equations. -/
def EqA (s : T) (B b : Nat) (wx : World) (L : List Tk) (B2 : Nat) (own : Option Nat) (q : Q) (u : Value) (w : World) : Prop :=
  At s B b wx L 0 w ∧ ∃ A1 c1 A2 c2, u = .agg #[.slice A1 q.lhs.length c1, .int .i64 q.rhs.k, .int .i64 q.rhs.o, .int .i64 q.rhs.n, .string ⟨q.rhs.s.toArray⟩, .slice A2 q.rhs.ks.length c2] ∧ TS w (Sb B2 own w) A1 q.lhs ∧ KS w (Sb B2 own w) A2 q.rhs.ks ∧ q.lhs.length ≤ c1
/-- A row of it alone. -/
def EqR (B2 : Nat) (own : Option Nat) (q : Q) (u : Value) (w : World) : Prop :=
  ∃ g A1 c1 A2 c2, u = .slice (some ⟨g, 0, none⟩) 1 1 ∧ Row w g 48 (q6 q A1 c1 A2 c2) ∧ TS w (Sb B2 own w) A1 q.lhs ∧ KS w (Sb B2 own w) A2 q.rhs.ks ∧ q.lhs.length ≤ c1 ∧ B2 ≤ g ∧ some g ≠ own
def OwnQ (B2 : Nat) (qs : List Q) (v : Value) (w : World) : Prop := OwnG RQ 48 6 w B2 (Sb B2 v.ownBlock w) v qs
theorem sb_keep {B2 : Nat} {own r : Option Nat} {w w' : World} (h : w.grownBy w' r) (hr : ∀ q, r = some q → q < B2 ∨ r = own) (q : Nat) (hq : Sb B2 own w q) : Sb B2 own w' q ∧ w'.heap[q]? = w.heap[q]? :=
  ⟨⟨hq.1, Nat.lt_of_lt_of_le hq.2.1 h.size, hq.2.2⟩, h.block q hq.2.1 (fun e => by
    rcases hr q e.symm with h1 | h1
    · have := hq.1; omega
    · exact hq.2.2 (by rw [← h1]; exact e))⟩
theorem EqA.keep {s : T} {B b : Nat} {wx : World} {L : List Tk} {B2 : Nat} {own r : Option Nat} {q : Q} {u : Value} {w w' : World} (h : EqA s B b wx L B2 own q u w) (g : w.grownBy w' r) (hr : ∀ q, r = some q → q < B2 ∨ r = own) (hx : ∀ q, r = some q → wx.heap.size ≤ q) (hB : B ≤ wx.heap.size) : EqA s B b wx L B2 own q u w' := by
  obtain ⟨ha, A1, c1, A2, c2, hu, h1, h2, h3⟩ := h
  exact ⟨ha.own g hx hB, A1, c1, A2, c2, hu, h1.move fun q hq => sb_keep g hr q hq, h2.move fun q hq => sb_keep g hr q hq, h3⟩
theorem EqR.keep {B2 : Nat} {own r : Option Nat} {q : Q} {u : Value} {w w' : World} (h : EqR B2 own q u w) (g : w.grownBy w' r) (hr : ∀ q, r = some q → q < B2 ∨ r = own) : EqR B2 own q u w' := by
  obtain ⟨k, A1, c1, A2, c2, hu, h0, h1, h2, h3, h4, h5⟩ := h
  exact ⟨k, A1, c1, A2, c2, hu, h0.grown g (fun e => (hr k e.symm).elim (fun h => by omega) (fun h => h5 (e.trans h))), h1.move fun q hq => sb_keep g hr q hq, h2.move fun q hq => sb_keep g hr q hq, h3, h4, h5⟩
theorem OwnQ.keep {B2 : Nat} {qs : List Q} {v : Value} {w w' : World} {r : Option Nat} (h : OwnQ B2 qs v w) (g : w.grownBy w' r) (hr : ∀ q, r = some q → q < B2) : OwnQ B2 qs v w' := by
  obtain ⟨cs, ho, hx⟩ := h
  have hlt := World.ownsRow.lt ho
  refine ⟨cs, ho.kept g ?_, hx.move lastsQ fun q hq => sb_keep g (fun k hk => .inl (hr k hk)) q hq⟩
  cases hv : v.ownBlock with
  | none => exact .inl rfl
  | some q => exact .inr fun e => by have h1 := (hlt q hv).1; have := hr q e.symm; omega
theorem OwnQ.snoc {B2 : Nat} {acc : List Q} {y : Q} {v v' : Value} {w w' : World} {cs : List Value} {A1 A2 : Option Addr} {c1 c2 : Nat} (hx : CG RQ w (Sb B2 v.ownBlock w) acc cs) (ho' : w'.ownsRow B2 48 6 v' (acc.length + 1) (cs ++ (q6 y A1 c1 A2 c2).toList))
    (hgr : w.grownBy w' v.ownBlock) (hat : v'.ownBlock = v.ownBlock ∨ v'.ownBlock = some w.heap.size) (h1 : TS w (Sb B2 v.ownBlock w) A1 y.lhs) (h2 : KS w (Sb B2 v.ownBlock w) A2 y.rhs.ks) (h3 : y.lhs.length ≤ c1) : OwnQ B2 (acc ++ [y]) v' w' := by
  have e1 : (acc ++ [y])[acc.length]? = some y := by simp
  have e2 : (acc ++ [y]).take acc.length = acc := by simp
  have e3 : (acc ++ [y]).take (acc.length + 1) = acc ++ [y] := List.take_of_length_le (by simp)
  have := OwnG.step (R := RQ) (e := 48) (xs := acc ++ [y]) (j := acc.length) (c := (q6 y A1 c1 A2 c2).toList) lastsQ e1 (by rw [e2]; exact hx) (by rw [e2]; exact ho') hgr hat ⟨A1, c1, A2, c2, rfl, h1, h2, h3⟩
  rw [e3] at this
  exact this
theorem OwnQ.qs {B2 : Nat} {qs : List Q} {v : Value} {w : World} (h : OwnQ B2 qs v w) {lo : Nat} (hl : lo ≤ B2) : ∃ A c, v = .slice A qs.length c ∧ QS w (Bt lo w.heap.size) A qs := by
  have hlt := own_lt h
  obtain ⟨A, c, hv, hr⟩ := OwnG.form lastsQ h (S' := Bt lo w.heap.size) (fun q hq => ⟨by have := hq.1; omega, hq.2.1⟩) (fun q cs hq _ => by have := hlt q hq; exact ⟨by omega, this.2⟩)
  exact ⟨A, c, hv, rq_qs hr⟩

end Go.Proofs.YtdabndiaflagpaaGreatDoor
