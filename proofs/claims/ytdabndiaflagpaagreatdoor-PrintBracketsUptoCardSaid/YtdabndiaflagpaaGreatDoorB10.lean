/- Parts: PsT0, PsT, PsU1, PsF, PsD, PsD2, PsU2, PsU3, PsU4, PsU5. -/
import Derived.Test.YtdabndiaflagpaaGreatDoorB09
import Derived.Test.YtdabndiaflagpaaGreatDoorB02
import Derived.Recover
import Derived.Test.YtdabndiaflagpaaGreatDoorB18
import Derived.Deep.CutRange
set_option maxRecDepth 100000
set_option maxHeartbeats 4000000
set_option linter.unusedVariables false
namespace Go.Proofs.YtdabndiaflagpaaGreatDoor
open Go.RowKit

/-- The value of a program that the call made. -/
def PgV (lo : Nat) : List Nd → Value → World → Prop := fun l v w' => ∃ A c, v = .agg #[.slice A l.length c] ∧ NS w' (Bt lo w'.heap.size) A l
/-- The rows of a node. -/
structure NG (w : World) (S : Nat → Prop) (n : Nd) (A1 A2 A3 A4 : Option Addr) : Prop where
  v1 : VS w S A1 n.ins
  v2 : VS w S A2 n.outs
  v3 : VS w S A3 n.locals
  v4 : QS w S A4 n.eqs
theorem NG.move {w w' : World} {S S' : Nat → Prop} {n : Nd} {A1 A2 A3 A4 : Option Addr} (h : NG w S n A1 A2 A3 A4) (hm : ∀ b, S b → S' b ∧ w'.heap[b]? = w.heap[b]?) : NG w' S' n A1 A2 A3 A4 :=
  ⟨h.v1.move hm, h.v2.move hm, h.v3.move hm, h.v4.move hm⟩
/-- A node, away from the row of nodes. -/
def NdA (s : T) (B b : Nat) (wx : World) (L : List Tk) (B2 : Nat) (own : Option Nat) (n : Nd) (u : Value) (w : World) : Prop :=
  At s B b wx L 0 w ∧ ∃ A1 c1 A2 c2 A3 c3 A4 c4, u = .agg #[.string ⟨n.name.toArray⟩, .slice A1 n.ins.length c1, .slice A2 n.outs.length c2, .slice A3 n.locals.length c3, .slice A4 n.eqs.length c4] ∧ NG w (Sb B2 own w) n A1 A2 A3 A4
def nd5 (n : Nd) (A1 : Option Addr) (c1 : Nat) (A2 : Option Addr) (c2 : Nat) (A3 : Option Addr) (c3 : Nat) (A4 : Option Addr) (c4 : Nat) : Array Value := #[.string ⟨n.name.toArray⟩, .slice A1 n.ins.length c1, .slice A2 n.outs.length c2, .slice A3 n.locals.length c3, .slice A4 n.eqs.length c4]
/-- A row of it alone. -/
def NdR (B2 : Nat) (own : Option Nat) (n : Nd) (u : Value) (w : World) : Prop :=
  ∃ g A1 c1 A2 c2 A3 c3 A4 c4, u = .slice (some ⟨g, 0, none⟩) 1 1 ∧ Row w g 41 (nd5 n A1 c1 A2 c2 A3 c3 A4 c4) ∧ NG w (Sb B2 own w) n A1 A2 A3 A4 ∧ B2 ≤ g ∧ some g ≠ own
def OwnN (B2 : Nat) (ns : List Nd) (v : Value) (w : World) : Prop := OwnG RN 41 5 w B2 (Sb B2 v.ownBlock w) v ns
theorem NdA.keep {s : T} {B b : Nat} {wx : World} {L : List Tk} {B2 : Nat} {own r : Option Nat} {n : Nd} {u : Value} {w w' : World} (h : NdA s B b wx L B2 own n u w) (g : w.grownBy w' r) (hr : ∀ q, r = some q → q < B2 ∨ r = own) (hx : ∀ q, r = some q → wx.heap.size ≤ q) (hB : B ≤ wx.heap.size) : NdA s B b wx L B2 own n u w' := by
  obtain ⟨ha, A1, c1, A2, c2, A3, c3, A4, c4, hu, h1⟩ := h
  exact ⟨ha.own g hx hB, A1, c1, A2, c2, A3, c3, A4, c4, hu, h1.move fun q hq => sb_keep g hr q hq⟩
theorem NdR.keep {B2 : Nat} {own r : Option Nat} {n : Nd} {u : Value} {w w' : World} (h : NdR B2 own n u w) (g : w.grownBy w' r) (hr : ∀ q, r = some q → q < B2 ∨ r = own) : NdR B2 own n u w' := by
  obtain ⟨k, A1, c1, A2, c2, A3, c3, A4, c4, hu, h0, h1, h4, h5⟩ := h
  exact ⟨k, A1, c1, A2, c2, A3, c3, A4, c4, hu, h0.grown g (fun e => (hr k e.symm).elim (fun h => by omega) (fun h => h5 (e.trans h))), h1.move fun q hq => sb_keep g hr q hq, h4, h5⟩
theorem OwnN.keep {B2 : Nat} {ns : List Nd} {v : Value} {w w' : World} {r : Option Nat} (h : OwnN B2 ns v w) (g : w.grownBy w' r) (hr : ∀ q, r = some q → q < B2) : OwnN B2 ns v w' := by
  obtain ⟨cs, ho, hx⟩ := h
  have hlt := World.ownsRow.lt ho
  refine ⟨cs, ho.kept g ?_, hx.move lastsN fun q hq => sb_keep g (fun k hk => .inl (hr k hk)) q hq⟩
  cases hv : v.ownBlock with
  | none => exact .inl rfl
  | some q => exact .inr fun e => by have h1 := (hlt q hv).1; have := hr q e.symm; omega
theorem OwnN.snoc {B2 : Nat} {acc : List Nd} {n : Nd} {v v' : Value} {w w' : World} {cs : List Value} {A1 A2 A3 A4 : Option Addr} {c1 c2 c3 c4 : Nat} (hx : CG RN w (Sb B2 v.ownBlock w) acc cs) (ho' : w'.ownsRow B2 41 5 v' (acc.length + 1) (cs ++ (nd5 n A1 c1 A2 c2 A3 c3 A4 c4).toList))
    (hgr : w.grownBy w' v.ownBlock) (hat : v'.ownBlock = v.ownBlock ∨ v'.ownBlock = some w.heap.size) (h1 : NG w (Sb B2 v.ownBlock w) n A1 A2 A3 A4) : OwnN B2 (acc ++ [n]) v' w' := by
  have e1 : (acc ++ [n])[acc.length]? = some n := by simp
  have e2 : (acc ++ [n]).take acc.length = acc := by simp
  have e3 : (acc ++ [n]).take (acc.length + 1) = acc ++ [n] := List.take_of_length_le (by simp)
  have := OwnG.step (R := RN) (e := 41) (xs := acc ++ [n]) (j := acc.length) (c := (nd5 n A1 c1 A2 c2 A3 c3 A4 c4).toList) lastsN e1 (by rw [e2]; exact hx) (by rw [e2]; exact ho') hgr hat ⟨A1, c1, A2, c2, A3, c3, A4, c4, rfl, h1.v1, h1.v2, h1.v3, h1.v4⟩
  rw [e3] at this
  exact this
theorem OwnN.ns {B2 : Nat} {ns : List Nd} {v : Value} {w : World} (h : OwnN B2 ns v w) {lo : Nat} (hl : lo ≤ B2) : ∃ A c, v = .slice A ns.length c ∧ NS w (Bt lo w.heap.size) A ns := by
  have hlt := own_lt h
  obtain ⟨A, c, hv, hr⟩ := OwnG.form lastsN h (S' := Bt lo w.heap.size) (fun q hq => ⟨by have := hq.1; omega, hq.2.1⟩) (fun q cs hq _ => by have := hlt q hq; exact ⟨by omega, this.2⟩)
  exact ⟨A, c, hv, rn_ns hr⟩
theorem prog_size : (Tryz.prog.info? 36).map (·.size) = some 1 := by kernel_rfl
theorem node_info : (Tryz.prog.info? 41).map (fun i => (i.zero, i.size, i.bytes)) = some (some (.agg #[.string ⟨#[]⟩, .slice none 0 0, .slice none 0 0, .slice none 0 0, .slice none 0 0]), 5, 112) := by kernel_rfl
def p1 (A : Option Addr) (l c : Nat) : Array Value := #[.slice A l c]
theorem p1_one (A : Option Addr) (l c : Nat) : (p1 A l c).all (·.oneCell') = true := by simp [p1, Value.oneCell']

/-- Nodes in a row of the call's own, and what stays below them. -/
structure Ns (b p B2 : Nat) (w1 : World) (acc : List Nd) (v : Value) (w : World) : Prop where
  own : OwnN B2 acc v w
  kp : Kp2 B2 b p w1 w
  hb : b < B2
  hB : B2 ≤ w1.heap.size
theorem Ns.grow {b p B2 : Nat} {w1 w w' : World} {acc : List Nd} {v : Value} (h : Ns b p B2 w1 acc v w) (g : w.grownBy w' (some b)) : Ns b p B2 w1 acc v w' :=
  ⟨h.own.keep g (fun q hq => by injection hq with hq; have := h.hb; omega), h.kp.step g h.hB (fun q hq => by injection hq with hq; exact .inl hq.symm), h.hb, h.hB⟩
theorem Ns.below {b p B2 : Nat} {w1 w w' : World} {acc : List Nd} {v : Value} (h : Ns b p B2 w1 acc v w) (g : Below w.heap.size w w') : Ns b p B2 w1 acc v w' := h.grow (only_below' g b)
def ghostsN (s : T) (B b p B2 : Nat) (wx w1 : World) (Li : List Tk) (acc : List Nd) (Av : Option Addr) (cv : Nat) : List Tame.Ghost :=
  [⟨fun w => At s B b wx Li 0 w, [5, 7]⟩, ⟨fun w => Row w p 36 #[.slice Av acc.length cv], [3, 5]⟩, ⟨fun w => OwnN B2 acc (.slice Av acc.length cv) w, [3, 7]⟩, ⟨fun w => Kp2 B2 b p w1 w, [3, 5, 7]⟩]
theorem ghostsN_ok {s : T} {B b p B2 : Nat} {wx w1 w3 : World} {Li : List Tk} {acc : List Nd} {Av : Option Addr} {cv : Nat} (ha : At s B b wx Li 0 w3) (hb : Bx b wx p 36 #[.slice Av acc.length cv] w3) (hq : Ns b p B2 w1 acc (.slice Av acc.length cv) w3)
    (hpx : wx.heap.size ≤ p) (hpB : p < B2) (hB : B ≤ wx.heap.size) (_ : B2 ≤ w3.heap.size) :
    ∀ (i : Nat) (g : Tame.Ghost), (ghostsN s B b p B2 wx w1 Li acc Av cv)[i]? = some g → g.g w3.drew ∧ (∀ w w', Tame.Later w w' → g.g w → g.g w') ∧
      ∀ j, [3, 5, 7].contains j = true → g.keeps.contains j = true → ∀ w w', ME b p (.slice Av acc.length cv) j w w' → g.g w → g.g w' := by
  have hv := own_lt hq.own
  have hpb : b ≠ p := by have := hb.hb; omega
  intro i g hi
  rcases i with _ | _ | _ | _ | i
  · obtain rfl : (⟨fun w => At s B b wx Li 0 w, [5, 7]⟩ : Tame.Ghost) = g := by simpa [ghostsN] using hi
    refine ⟨ha.below ((Below.refl _ _).drew), fun a c hl h => h.below hl, fun j _ hj a c hs h => ?_⟩
    rcases two_of hj with rfl | rfl
    · exact h.own hs (fun q hq => by have := (hv q hq).1; omega) hB
    · exact h.own hs (fun q hq => by injection hq with hq; omega) hB
  · obtain rfl : (⟨fun w => Row w p 36 #[.slice Av acc.length cv], [3, 5]⟩ : Tame.Ghost) = g := by simpa [ghostsN] using hi
    refine ⟨Row.drew hb.row, fun a c hl h => Row.below h hl (Row.lt h), fun j _ hj a c hs h => ?_⟩
    rcases two_of hj with rfl | rfl
    · exact Row.grown h hs (fun e => by injection e with e; omega)
    · exact Row.grown h hs (fun e => by have := (hv p e.symm).1; omega)
  · obtain rfl : (⟨fun w => OwnN B2 acc (.slice Av acc.length cv) w, [3, 7]⟩ : Tame.Ghost) = g := by simpa [ghostsN] using hi
    refine ⟨hq.own.keep (only_below ((Below.refl _ _).drew) none) (fun q e => by cases e), fun a c hl h => h.keep (only_below hl none) (fun q e => by cases e), fun j _ hj a c hs h => ?_⟩
    rcases two_of hj with rfl | rfl
    · exact h.keep hs (fun q e => by injection e with e; have := hq.hb; omega)
    · exact h.keep hs (fun q e => by injection e with e; omega)
  · obtain rfl : (⟨fun w => Kp2 B2 b p w1 w, [3, 5, 7]⟩ : Tame.Ghost) = g := by simpa [ghostsN] using hi
    refine ⟨hq.kp.step (only_below ((Below.refl _ _).drew) none) hq.hB (fun q e => by cases e), fun a c hl h => h.step (only_below hl none) hq.hB (fun q e => by cases e), fun j _ hj a c hs h => ?_⟩
    rcases three_of hj with rfl | rfl | rfl
    · exact h.step hs hq.hB (fun q e => by injection e with e; exact .inl e.symm)
    · exact h.step hs hq.hB (fun q e => .inr (.inr (hv q e).1))
    · exact h.step hs hq.hB (fun q e => by injection e with e; exact .inr (.inl e.symm))
  · simp [ghostsN] at hi
theorem nda_turn {s : T} {B b p : Nat} {wx : World} {L : List Tk} {B2 i : Nat} {v : Value} {n : Nd} {u : Value} {w w' : World} (hj : [5, 7].contains i = true) (hs : ME b p v i w w') (h : NdA s B b wx L B2 v.ownBlock n u w) (hv : ∀ q, v.ownBlock = some q → B2 ≤ q) (hpB : p < B2) (hpx : wx.heap.size ≤ p) (hB : B ≤ wx.heap.size) : NdA s B b wx L B2 v.ownBlock n u w' := by
  rcases two_of hj with rfl | rfl
  · exact h.keep hs (fun q _ => .inr rfl) (fun q hq => by have := hv q hq; omega) hB
  · exact h.keep hs (fun q hq => by injection hq with hq; exact .inl (by omega)) (fun q hq => by injection hq with hq; omega) hB
theorem ndr_turn {b p B2 i : Nat} {v : Value} {n : Nd} {u : Value} {w w' : World} (hj : [3, 5, 7].contains i = true) (hs : ME b p v i w w') (h : NdR B2 v.ownBlock n u w) (hb : b < B2) (hpB : p < B2) : NdR B2 v.ownBlock n u w' := by
  rcases three_of hj with rfl | rfl | rfl
  · exact h.keep hs (fun q hq => by injection hq with hq; exact .inl (by omega))
  · exact h.keep hs (fun q _ => .inr rfl)
  · exact h.keep hs (fun q hq => by injection hq with hq; exact .inl (by omega))
theorem ndr_made {B2 : Nat} {own : Option Nat} {n : Nd} {w : World} {A1 A2 A3 A4 : Option Addr} {c1 c2 c3 c4 : Nat} (h : NG w (Sb B2 own w) n A1 A2 A3 A4) (hB : B2 ≤ w.heap.size) (ho : some w.heap.size ≠ own) :
    NdR B2 own n (.slice (some ⟨w.heap.size, 0, none⟩) 1 1) (w.alloc (.cells (nd5 n A1 c1 A2 c2 A3 c3 A4 c4) 41)) :=
  ⟨w.heap.size, A1, c1, A2, c2, A3, c3, A4, c4, rfl, Row.made _ _ _, h.move fun q hq => sb_keep (only_alloc (World.grownBy.refl w none) _) (fun q e => by cases e) q hq, hB, ho⟩
theorem NS.bt {w w' : World} {lo hi lo' hi' : Nat} {A : Option Addr} {ks : List Nd} {r : Option Nat} (h : NS w (Bt lo hi) A ks) (hg : w.grownBy w' r) (hr : ∀ q, r = some q → q < lo ∨ hi ≤ q) (hl : lo' ≤ lo) (hh : hi ≤ hi') (hw : hi ≤ w.heap.size) : NS w' (Bt lo' hi') A ks :=
  h.move fun q hq => ⟨⟨by have := hq.1; omega, by have := hq.2; omega⟩, hg.block q (by have := hq.2; omega) (fun e => by have := hr q e.symm; have := hq.1; have := hq.2; omega)⟩
theorem prog_back {s : T} {B b : Nat} {L : List Tk} {w wk : World} {ns : List Nd} {A : Option Addr} {c : Nat} {old : Array Value} (hg : w.grownBy wk (some b)) (hp : Row wk w.heap.size 36 old) (h1 : NS wk (Bt (w.heap.size + 1) wk.heap.size) A ns) (hs : StT s B wk b L 0) (hB : B ≤ w.heap.size) :
    w.grownBy (wk.setRow w.heap.size (p1 A ns.length c)) (some b) ∧ NS (wk.setRow w.heap.size (p1 A ns.length c)) (Bt w.heap.size (wk.setRow w.heap.size (p1 A ns.length c)).heap.size) A ns ∧
      StT s B (wk.setRow w.heap.size (p1 A ns.length c)) b L 0 ∧ Row (wk.setRow w.heap.size (p1 A ns.length c)) w.heap.size 36 (p1 A ns.length c) :=
  ⟨only_far hg (grown_setRow hp) (fun q hq => by injection hq with hq; omega), h1.bt (grown_setRow hp) (fun q hq => by injection hq with hq; omega) (by omega) (by simp) (Nat.le_refl _), hs.grown (grown_setRow hp) (fun q hq => by injection hq with hq; omega), hp.setRow _⟩
theorem progF_eq (f : Nat) (acc : List Nd) (L : List Tk) : progF (f + 1) acc L = if isP wNode L = true then (if 1000 ≤ acc.length then failP 4 L else (nodeP L).bind fun n L => progF f (acc ++ [n]) L) else if hdK L = 0 then .ok acc L else failP 2 L := rfl

end Go.Proofs.YtdabndiaflagpaaGreatDoor
namespace Go.Proofs.YtdabndiaflagpaaGreatDoor
open Go.RowKit
attribute [local go_sem] Tame.Op Tame.upon Tamp.Op Tamp.upon

set_option maxRecDepth 100000 in
set_option maxHeartbeats 2000000 in
theorem pProgram (s : T) (B b : Nat) (L : List Tk) (w : World) (h : StT s B w b L 0) (he : PaEnv b w) :
    Calls Tryz.prog 33 #[.pointer (some ⟨b, 0, none⟩)] w (PRes s b B w 0 (PgV w.heap.size) (progF (L.length + 1) [] L)) := by
  obtain ⟨R, hR⟩ : ∃ R, R = progF (L.length + 1) [] L := ⟨_, rfl⟩
  rw [← hR]
  have hbB := h.base_
  have hBw := h.room_
  obtain ⟨wx, hwx⟩ : ∃ wx, wx = w.alloc (.cells #[.slice none 0 0] 36) := ⟨_, rfl⟩
  have hbx : Below w.heap.size w wx := by rw [hwx]; exact (Below.refl _ _).alloc (Nat.le_refl _) _
  have hxz : wx.heap.size = w.heap.size + 1 := by rw [hwx]; simp
  have HXZ := Lib.hid hxz
  have HPX : Hid (Row wx w.heap.size 36 #[.slice none 0 0]) := Lib.hid (by rw [hwx]; exact Row.made _ _ _)
  have hbxx : b < wx.heap.size := by omega
  have hpb : w.heap.size ≠ b := by omega
  have HGX := Lib.hid (only_below' hbx b)
  have HA0 : Hid (At s B b wx L 0 wx) := Lib.hid (At.refl (h.later hbx) (he.grown (only_below hbx none) (by omega) (fun _ e => by cases e)))
  clear hbx hxz
  have hfew := h.few_
  obtain ⟨i0, hi0, hz0, hz1, hz2⟩ := info_parts node_info
  have hBx : B ≤ wx.heap.size := by have := HXZ.out; omega
  have HR0 := Lib.hid hR
  have hfl := tfld0
  clear hR h he
  go_enter Tryz.func33, Tryz.ntmps33
  go_upto_region 1 with fail
  rw [← hwx]
  clear hwx
  go_upto_region 2 with fail
  have HKb_0 : Hid (Bx b wx wx.heap.size 36 #[.slice none 0 0] (wx.alloc (.cells #[.slice none 0 0] 36))) := Lib.hid ⟨Row.made _ _ _, Nat.le_refl _, hbxx⟩
  replace HA0 : Hid (At s B b wx L 0 (wx.alloc (.cells #[.slice none 0 0] 36))) := Lib.hid (HA0.out.alloc _)
  have hpz0 : wx.heap.size < (wx.alloc (.cells #[.slice none 0 0] 36)).heap.size := by simp
  generalize wx.alloc (.cells #[.slice none 0 0] 36) = v0 at HKb_0 HA0 hpz0 ⊢
  obtain ⟨p, hp⟩ : ∃ p, p = wx.heap.size := ⟨_, rfl⟩
  have hbp : b < p := by omega
  have hpx : wx.heap.size ≤ p := by omega
  have HPP := Lib.hid hp
  rw [← hp] at HKb_0 hpz0 ⊢
  clear hp
  obtain ⟨wl, rfl⟩ : ∃ wl, wl = v0 := ⟨v0, rfl⟩
  have HB2 : Hid (∃ B2, B2 = wl.heap.size) := Lib.hid ⟨_, rfl⟩
  obtain ⟨B2, hB2⟩ := HB2.out
  have hB2z : B2 ≤ wl.heap.size := by omega
  have hpB2 : p < B2 := by rw [hB2]; exact hpz0
  clear HB2 hB2
  go_loopg [4] (L.length + 1) (fun g' _ wr => ∃ (acc : List Nd) (Av : Option Addr) (cv : Nat) (Li : List Tk), R = progF g' acc Li ∧ Li.length < g' ∧ At s B b wx Li 0 wr ∧ Bx b wx p 36 #[.slice Av acc.length cv] wr ∧ Ns b p B2 wl acc (.slice Av acc.length cv) wr ∧ acc.length ≤ 1000)
  case atStart => exact ⟨[], none, 0, L, HR0.out, Nat.lt_succ_self _, HA0.out, HKb_0.out, ⟨OwnG.nil _ _ _ _ _ _, Kp2.refl _ _ _ _, by omega, hB2z⟩, by simp⟩
  case round =>
    obtain ⟨acc, Av, cv, Li, hRi, hfu, hat, hbx, hqs, hna⟩ := hrel
    obtain ⟨fl, rfl⟩ : ∃ fl, gk = fl + 1 := ⟨gk - 1, by omega⟩
    replace HA0 := Lib.hid hat
    replace HKb_0 := Lib.hid hbx
    have HKq_0 := Lib.hid hqs
    have hwf := hat.st.wf_
    have HWF := Lib.hid hwf
    have HIS : Hid (∀ w1, StT s B w1 b Li 0 → _) := Lib.hid fun w1 h1 => pIs s B b 0 wNode Li w1 h1
    have HRO : Hid (∀ w1, StT s B w1 b Li 0 → _) := Lib.hid fun w1 h1 => pRoom s B b 0 acc.length Li w1 h1 hna
    have HEQ : Hid (∀ w1, StT s B w1 b Li 0 → PaEnv b w1 → _) := Lib.hid fun w1 h1 h2 => pNode s B b Li w1 h1 h2
    have HNX : Hid (∀ t r, Li = t :: r → ∀ w1, StT s B w1 b Li 0 → _) := Lib.hid fun t r e w1 h1 => pNext s B b 0 t r w1 (by rw [← e]; exact h1)
    have HGU : Hid (∀ w1, StT s B w1 b Li 0 → _) := Lib.hid fun w1 h1 => pGiveUp s B b 0 2 Li w1 h1
    rw [progF_eq] at hRi
    clear hat hbx hqs hwf
    by_cases hk : isP wNode Li = true
    · rw [if_pos hk] at hRi
      rw [hk] at HIS
      clear hk HNX HGU
      go_upto_region 3 with (go_at_call 61; refine (HIS.out _ HA0.out.st).mono ?_; rintro e w1 ⟨rfl, g1⟩; have HA1 := Lib.hid (HA0.out.below g1); have HKb_1 := Lib.hid (HKb_0.out.below g1); have HKq_1 := Lib.hid (HKq_0.out.below g1); clear g1 HIS)
      have x4 := HKb_1.out.row.cell 0
      have hpz := HKb_1.out.row.lt
      simp at x4
      by_cases hfull : 1000 ≤ acc.length
      · rw [if_pos hfull] at hRi HRO
        have HR : Hid (R = .bad 4 (hdF Li)) := Lib.hid hRi
        clear hRi hfull
        go_wp2_with (go_at_call 62; refine (HRO.out _ HA1.out.st).mono ?_; intro e w2 h2; obtain ⟨rfl, g2⟩ := h2.badE rfl; have HGB := Lib.hid (only_trans HA1.out.grown g2); clear g2 h2 HRO)
        exact ⟨rfl, PRes.badI HR.out (only_trans HGX.out HGB.out) rfl⟩
      · rw [if_neg hfull] at hRi HRO
        go_upto_region 4 with (go_at_call 62; refine (HRO.out _ HA1.out.st).mono ?_; intro e w2 h2; obtain ⟨v, rfl, hv, g1, g2⟩ := h2.okE rfl; obtain rfl : v = .tuple #[] := hv; have HA2 := Lib.hid (HA1.out.grow g1 g2); have HKb_2 := Lib.hid (HKb_1.out.grow g2); have HKq_2 := Lib.hid (HKq_1.out.grow g2); clear g1 g2 h2 HRO)
        clear x4
        rcases (nodeP Li).cases with ⟨n, L2, hE⟩ | ⟨c, a, hE⟩
        · have hsh := nodeP_sh HWF.out _ _ hE
          have hl2 := hsh.2
          rw [hE] at hRi HEQ
          have HRI : Hid (R = progF fl (acc ++ [n]) L2) := Lib.hid hRi
          clear hRi hE hsh
          have HV5 : Hid (∀ q, (Value.slice Av acc.length cv).ownBlock = some q → B2 ≤ q ∧ q < w2.heap.size) := own_lt HKq_2.out.own
          refine Tame.wp_region_tamg (L := Tame.Later) (M := ME b p (Value.slice Av acc.length cv)) (gs := ghostsN s B b p B2 wx wl Li acc Av cv) [3, 5, 7] (by kernel_rfl) (by kernel_rfl) Tame.Later.refl (fun _ w => World.grownBy.refl w _) (ghostsN_ok HA2.out HKb_2.out HKq_2.out hpx hpB2 hBx (by have := HKb_2.out.row.lt; have := HKq_2.out.kp.size; omega)) ?_
          repeat
            ((first
              | (refine Tame.walk3_known (o := ⟨some 12, _, _, _, _, _⟩) (by kernel_rfl) (fun _ => rfl) ?_; apply Exists.intro; refine ⟨fun vals w2 hG hd => ?_, ?_⟩; (focus (have r := (hG 1 _ rfl (by kernel_rfl) : Row w2 p 36 #[.slice Av acc.length cv]); have u4 := r.cell 0; clear hd hG r; simp at u4; go_simp; exact Tame.Is.mk (Tame.Later.refl _))))
              | (refine Tame.walk3_write (o := ⟨some 14, _, _, _, _, _⟩) (NdA s B b wx L2 B2 (Value.slice Av acc.length cv).ownBlock n) (none) ([5, 7]) (fun _ => rfl) (by kernel_rfl) (by kernel_rfl) (fun u a c hl h => h.keep (only_below hl none) (fun q e => by cases e) (fun q e => by cases e) hBx) (fun i _ hj u a c hs h => nda_turn hj hs h (fun q hq => (HV5.out q hq).1) hpB2 hpx hBx) (fun vals w2 hG hd => ?_) ?_; (focus (have ha2 := (hG 0 _ rfl (by kernel_rfl) : At s B b wx Li 0 w2); have hk2 := (hG 3 _ rfl (by kernel_rfl) : Kp2 B2 b p wl w2); have ho2 := (hG 2 _ rfl (by kernel_rfl) : OwnN B2 acc (Value.slice Av acc.length cv) w2); have HC := Lib.hid (HEQ.out w2 ha2.st ha2.env); have HA9 := Lib.hid ha2; have hk3 := hk2.size; have HO2 := Lib.hid ho2; clear hd hG ha2 hk2 ho2; go_simp; refine HC.out.mono ?_; intro e w' h2; obtain ⟨v, rfl, ⟨A1, c1, A2, c2, A3, c3, A4, c4, rfl, k1, k2, k3, k4⟩, g1, g2⟩ := h2.okE rfl; exact ⟨_, rfl, Tame.Leaves.mk g2 ⟨HA9.out.grow g1 g2, A1, c1, A2, c2, A3, c3, A4, c4, rfl, (NG.mk k1 k2 k3 k4).move (fun q hq => ⟨⟨by have := hq.1; omega, hq.2, fun e => by have := (own_lt HO2.out q e.symm).2; have := hq.1; omega⟩, rfl⟩)⟩⟩)))
              | (refine Tame.walk3_some (o := ⟨some 15, _, _, _, _, _⟩) (NdR B2 (Value.slice Av acc.length cv).ownBlock n) (none) ([3, 5, 7]) (by kernel_rfl) (fun _ => rfl) (by kernel_rfl) (fun u a c hl h => h.keep (only_below hl none) (fun q e => by cases e)) (fun i _ hj u a c hs h => ndr_turn hj hs h (by omega) hpB2) (fun vals w2 hG hd => ?_) ?_; (focus (have h1 := (hd 3 _ rfl (by kernel_rfl) rfl : NdA s B b wx L2 B2 (Value.slice Av acc.length cv).ownBlock n (vals 3) w2); have hk2 := (hG 3 _ rfl (by kernel_rfl) : Kp2 B2 b p wl w2); have hk3 := hk2.size; have ho2 := (hG 2 _ rfl (by kernel_rfl) : OwnN B2 acc (Value.slice Av acc.length cv) w2); have HO2 := Lib.hid ho2; clear hG hd hk2 ho2; obtain ⟨ha2, A1, c1, A2, c2, A3, c3, A4, c4, hv1, k1⟩ := h1; have HA9 := Lib.hid k1; clear ha2 k1; go_simp; exact Tame.Has.mk ((Below.refl _ _).alloc (Nat.le_refl _) _) (ndr_made HA9.out (by omega) (fun e => by have := (own_lt HO2.out _ e.symm).2; omega)))))
              | (refine Tame.walk3_write (o := ⟨some 16, _, _, _, _, _⟩) (OwnN B2 (acc ++ [n])) (none) ([7]) (fun _ => rfl) (by kernel_rfl) (by kernel_rfl) (fun u a c hl h => h.keep (only_below hl none) (fun q e => by cases e)) (fun i _ hj u a c hs h => by obtain rfl := one_of hj; exact h.keep hs (fun q hq => by injection hq with hq; omega)) (fun vals w2 hG hd => ?_) ?_; (focus (have hk2 := (hG 3 _ rfl (by kernel_rfl) : Kp2 B2 b p wl w2); have hk3 := hk2.size; have h1 := (hd 4 _ rfl (by kernel_rfl) rfl : NdR B2 (Value.slice Av acc.length cv).ownBlock n (vals 4) w2); have h2 := (hG 2 _ rfl (by kernel_rfl) : OwnN B2 acc (Value.slice Av acc.length cv) w2); clear hG hd hk2; obtain ⟨g1, A1, c1, A2, c2, A3, c3, A4, c4, hv1, hr1, k1, k4, k5⟩ := h1; obtain ⟨cs, ho, hx⟩ := h2; exact op_append (.tmp 12) (.tmp 15) _ rfl B2 41 i0 _ 5 112 Tryz.underlying34 hi0 hz0 hz1 hz2 rfl (by omega) (by omega) (Value.slice Av acc.length cv) _ cs rfl ho g1 1 41 (nd5 n A1 c1 A2 c2 A3 c3 A4 c4).toList hv1 rfl (by simpa using hr1) (lastsN.one (w := w2) (S := Sb B2 (Value.slice Av acc.length cv).ownBlock w2) (x := n) ⟨A1, c1, A2, c2, A3, c3, A4, c4, rfl, k1.v1, k1.v2, k1.v3, k1.v4⟩) (by omega) (by omega) (fun v' w' ho' hgr hat => ⟨hgr, OwnN.snoc hx ho' hgr hat k1⟩))))
              | (refine Tame.walk3_lays (o := ⟨none, Op.store _ _ _, _, _, _, _⟩) (fun vals w => Row w p 36 #[vals 5]) none ([]) ([5]) (fun _ => rfl) (by kernel_rfl) (by kernel_rfl) (by kernel_rfl) (fun vals vals' w hh h => by rw [← hh 5 (by decide)]; exact h) (fun vals w w' hl h => Row.below h hl (Row.lt h)) (fun j hj hk => by cases hk) (fun vals w2 hG hd => ?_) ?_; (focus (have h1 := (hd 5 _ rfl (by kernel_rfl) (by kernel_rfl) : OwnN B2 (acc ++ [n]) (vals 5) w2); have hr := (hG 1 _ rfl (by kernel_rfl) : Row w2 p 36 #[.slice Av acc.length cv]); clear hG hd; obtain ⟨E1, d1, hv1, _⟩ := own_slice h1; rw [show (acc ++ [n]).length = acc.length + 1 by simp] at hv1; have HR1 := Lib.hid hr; have c4 := hr.cell 0; have f4 := hr.free 0; simp at c4; clear hr h1; go_simp; exact ⟨only_set (only_refl _ p) 0 _, HR1.out.set 0 (.slice E1 (acc.length + 1) d1)⟩)))
              | (refine Tame.walk3_known (by kernel_rfl) (fun _ => rfl) ?_; apply Exists.intro; refine ⟨fun vals w2 hG hd => ?_, ?_⟩; (focus (go_simp; first | exact Tame.Is.mk (Tame.Later.refl _) | (rw [if_neg]; (focus exact Tame.Is.mk (Tame.Later.refl _)); omega)))))
             simp only [Act.put, List.setIfInBounds_toArray, List.set_cons_zero, List.set_cons_succ, List.nil_append, List.cons_append, List.length_cons, List.length_nil, Nat.zero_add, Nat.reduceAdd])
          refine Tame.walk3_end fun vals w5 hG hts => ?_
          have HF0 : Hid (Kp2 B2 b p wl w5) := Lib.hid (hG 3 _ rfl (by kernel_rfl))
          have HF3 : Hid (NdA s B b wx L2 B2 (Value.slice Av acc.length cv).ownBlock n (vals 3) w5) := Lib.hid (hts 3 _ rfl rfl)
          have f5 : OwnN B2 (acc ++ [n]) (vals 5) w5 := hts 5 _ rfl rfl
          have f7 : Row w5 p 36 #[vals 5] := hts 7 _ rfl rfl
          obtain ⟨A7, c7, hv7, _⟩ := own_slice f5
          rw [hv7] at f5 f7
          have HF5 := Lib.hid f5
          have HF7 := Lib.hid f7
          clear f5 f7 hts hG hv7
          go_wp2_with fail
          go_roundg fl
          case rel => exact ⟨acc ++ [n], A7, c7, L2, HRI.out, by omega, HF3.out.1, ⟨HF7.out, hpx, hbxx⟩, ⟨HF5.out, HF0.out, by omega, hB2z⟩, by simp; omega⟩
          case measure => omega
        · rw [hE] at hRi HEQ
          have HR : Hid (R = .bad c a) := Lib.hid hRi
          clear hRi hfull hE
          have HST := Lib.hid HA2.out
          refine Tamp.wp_region_tamp (Z := fun ch w' => ch = faultV s c a ∧ w2.grownBy w' (some b)) (L := Tame.Later) (fun ch a' w' hd hz => ?_) (by kernel_rfl) (by kernel_rfl) Tame.Later.refl Tame.Later.trans ?_
          · exact ⟨hd, PRes.badI HR.out (only_trans HGX.out (only_trans HA2.out.grown hz.2)) (by rw [hz.1])⟩
          repeat
            ((first
              | (refine Tamp.walk_known (o := ⟨some 12, _, _, _, _, _⟩) (fun _ => rfl) ?_; apply Exists.intro; refine ⟨fun vals wz hL hd => ?_, ?_⟩; (focus (have r := (HKb_2.out.row.drew).below hL (HKb_2.out.row.drew).lt; have u4 := r.cell 0; clear hd hL r; simp at u4; go_simp; exact Tame.Is.mk (Tame.Later.refl _))))
              | (refine Tamp.walk_some (o := ⟨some 14, _, _, _, _, _⟩) (fun _ _ => False) (fun _ => rfl) (fun v w w' hl h => h) (fun vals wz hL hd => ?_) ?_; (focus (have hb : Below w2.heap.size w2 wz := later_dr (B := w2.heap.size) hL (Nat.le_refl w2.heap.size); have ha2 := HST.out.below hb; have HC := Lib.hid (HEQ.out wz ha2.st ha2.env); have HBB := Lib.hid hb; clear hd hL hb ha2; go_simp; refine HC.out.mono ?_; intro e w' h2; obtain ⟨rfl, g2⟩ := h2.badE rfl; exact .inr ⟨_, rfl, rfl, only_trans (only_below' HBB.out b) g2⟩)))
              | (refine Tamp.walk_some (o := ⟨some 15, _, _, _, _, _⟩) (fun _ _ => False) (fun _ => rfl) (fun v w w' hl h => h) (fun vals wz hL hd => (hd ⟨3, .data⟩ (by simp) rfl _ rfl : False).elim) ?_)
              | (refine Tamp.walk_some (o := ⟨some 16, _, _, _, _, _⟩) (fun _ _ => False) (fun _ => rfl) (fun v w w' hl h => h) (fun vals wz hL hd => (hd ⟨4, .data⟩ (by simp) rfl _ rfl : False).elim) ?_)
              | (refine Tamp.walk_some (o := ⟨none, _, _, _, _, _⟩) (fun _ _ => False) (fun _ => rfl) (fun v w w' hl h => h) (fun vals wz hL hd => (hd ⟨5, .data⟩ (by simp) rfl _ rfl : False).elim) ?_)
              | (refine Tamp.walk_known (fun _ => rfl) ?_; apply Exists.intro; refine ⟨fun vals wz hL hd => ?_, ?_⟩; (focus (go_simp; exact Tame.Is.mk (Tame.Later.refl _)))))
             simp only [Act.put, List.setIfInBounds_toArray, List.set_cons_zero, List.set_cons_succ, List.nil_append, List.cons_append, List.length_cons, List.length_nil, Nat.zero_add, Nat.reduceAdd])
          refine Tamp.walk_end fun vals w5 hL hts => ?_
          exact (hts 3 _ rfl : False).elim
    · rw [if_neg hk] at hRi
      have hk2 : isP wNode Li = false := by simpa using hk
      rw [hk2] at HIS
      clear HRO HEQ
      obtain ⟨t, r, hLi⟩ := hd_of HWF.out
      have HN2 : Hid (∀ w1, StT s B w1 b Li 0 → _) := Lib.hid (HNX.out t r hLi)
      obtain ⟨kk, hkk⟩ : ∃ kk, kk = t.kind := ⟨_, rfl⟩
      rw [← hkk] at HN2
      have hhd : hdK Li = kk := by rw [hLi, hkk]; rfl
      rw [hhd] at hRi
      clear hk hk2 HNX hLi hkk hhd
      by_cases hz : kk = 0
      · subst hz
        have HR : Hid (R = .ok acc Li) := Lib.hid (by rw [hRi, if_pos rfl])
        clear hRi HGU
        go_wp2_with (first | (go_at_call 61; refine (HIS.out _ HA0.out.st).mono ?_; rintro e w1 ⟨rfl, g1⟩; have HA1 := Lib.hid (HA0.out.below g1); have HKb_1 := Lib.hid (HKb_0.out.below g1); have HKq_1 := Lib.hid (HKq_0.out.below g1); clear g1 HIS) | (go_at_call 64; refine (HN2.out _ HA1.out.st).mono ?_; rintro e w2 ⟨rfl, g1⟩; have HA2 := Lib.hid (HA1.out.below g1); have HKb_2 := Lib.hid (HKb_1.out.below g1); have HKq_2 := Lib.hid (HKq_1.out.below g1); have x0 := HKb_2.out.row.cell 0; have hpz := HKb_2.out.row.lt; have HROW := HA2.out.row HPX.out hpb; simp at x0; clear g1 HN2) | (refine wpList_store_row (o := ⟨none, Op.store _ _ _, _, _, _, _⟩) rfl _ _ _ rfl w.heap.size (p1 Av acc.length cv) rfl rfl _ _ HROW prog_size rfl (p1_one _ _ _) ?_))
        have hkp := HKq_2.out.kp
        obtain ⟨A9, c9, hv9, hq9⟩ := HKq_2.out.own.ns (lo := w.heap.size + 1) (by have := HXZ.out; omega)
        obtain ⟨rfl, rfl⟩ : A9 = Av ∧ c9 = cv := by injection hv9 with e1 _ e3; exact ⟨e1.symm, e3.symm⟩
        obtain ⟨t1, t2, t3, t4⟩ := prog_back (c := c9) (only_trans HGX.out HA2.out.grown) HROW hq9 HA2.out.st hBw
        exact bodyPost_ret (results_cell_row rfl _ _ w.heap.size _ _ _ _ rfl t4 Tryz.underlying36 rfl prog_size) rfl (PRes.okI HR.out t1 rfl ⟨A9, c9, rfl, t2⟩ t3)
      · have HR : Hid (R = .bad 2 (hdF Li)) := Lib.hid (by rw [hRi, if_neg hz]; rfl)
        clear hRi
        go_wp2_with (first | (go_at_call 61; refine (HIS.out _ HA0.out.st).mono ?_; rintro e w1 ⟨rfl, g1⟩; have HA1 := Lib.hid (HA0.out.below g1); have HKb_1 := Lib.hid (HKb_0.out.below g1); have HKq_1 := Lib.hid (HKq_0.out.below g1); clear g1 HIS) | (go_at_call 64; refine (HN2.out _ HA1.out.st).mono ?_; rintro e w2 ⟨rfl, g1⟩; have HA2 := Lib.hid (HA1.out.below g1); clear g1 HN2) | (go_at_call 65; refine (HGU.out _ HA2.out.st).mono ?_; rintro e w3 ⟨rfl, g1⟩; have HGB := Lib.hid (only_trans HA2.out.grown (only_below' g1 b)); clear g1 HGU))
        exact ⟨rfl, PRes.badI HR.out (only_trans HGX.out HGB.out) rfl⟩

end Go.Proofs.YtdabndiaflagpaaGreatDoor
namespace Go.Proofs.YtdabndiaflagpaaGreatDoor
open Go.RowKit

theorem takeWhile_mem {α : Type} {p : α → Bool} : ∀ (l : List α) (x : α), x ∈ l.takeWhile p → p x = true
  | [], x, h => by simp at h
  | y :: l, x, h => by
    rw [List.takeWhile_cons] at h
    split at h
    · rcases List.mem_cons.1 h with rfl | h
      · assumption
      · exact takeWhile_mem l x h
    · simp at h
theorem take_takeWhile {α : Type} {p : α → Bool} : ∀ (l : List α), l.take (l.takeWhile p).length = l.takeWhile p
  | [] => rfl
  | y :: l => by
    rw [List.takeWhile_cons]
    split
    · rw [List.length_cons, List.take_succ_cons, take_takeWhile l]
    · rfl
theorem name_of {c : UInt8} {r : T} (hl : ltr c = true) (hw : wordB ((c :: r).takeWhile ltd) = false) (hz : ((c :: r).takeWhile ltd).length ≤ 60) : nameB ((c :: r).takeWhile ltd) = true := by
  refine nameB_true ⟨run_letters hl, takeWhile_pos (by simp [ltd, hl]), hz, ?_⟩
  unfold wordB at hw
  exact of_decide_eq_false hw
theorem step_good {l : T} {k v : Int} {n a : Nat} (h : stepS l = .tok k n v) (hl : l.length ≤ 1000000) : GoodTk ⟨k, l.take n, v, a⟩ := by
  unfold stepS at h
  split at h
  · cases h
  · rename_i c r
    split at h
    · cases h
    · split at h
      · cases h
      · split at h
        · split at h <;> cases h
        · split at h
          · rename_i hc
            have h1 : 0 < ((c :: r).takeWhile ltd).length := takeWhile_pos (by simp [ltd, hc])
            have h2 := takeWhile_le (p := ltd) (c :: r)
            split at h
            · rename_i hw
              injection h with e1 e2 e3
              subst e1 e2 e3
              refine ⟨.inr (.inl rfl), ?_, by simp, fun _ => by rw [take_takeWhile]; exact hw, by simp, ⟨Int.le_refl _, by show (0 : Int) ≤ _; decide⟩, by simp, ?_⟩
              · show List.take _ _ ≠ []
                rw [take_takeWhile]; intro e; rw [e] at h1; simp at h1
              · show (List.take _ _).length ≤ _
                rw [take_takeWhile]; omega
            · rename_i hw
              split at h
              · rename_i hz
                injection h with e1 e2 e3
                subst e1 e2 e3
                refine ⟨.inl rfl, ?_, fun _ => by rw [take_takeWhile]; exact name_of hc (by simpa using hw) hz, by simp, by simp, ⟨Int.le_refl _, by show (0 : Int) ≤ _; decide⟩, by simp, ?_⟩
                · show List.take _ _ ≠ []
                  rw [take_takeWhile]; intro e; rw [e] at h1; simp at h1
                · show (List.take _ _).length ≤ _
                  rw [take_takeWhile]; omega
              · cases h
          · split at h
            · rename_i hc
              have h1 : 0 < ((c :: r).takeWhile dgt).length := takeWhile_pos hc
              have h2 := takeWhile_le (p := dgt) (c :: r)
              split at h
              · rename_i hv
                injection h with e1 e2 e3
                subst e1 e2 e3
                refine ⟨.inr (.inr (.inl rfl)), ?_, by simp, by simp, fun _ => by rw [take_takeWhile]; exact fun x hx => takeWhile_mem _ x hx, ⟨Int.natCast_nonneg _, by show ((valS 0 ((c :: r).takeWhile dgt) : Nat) : Int) ≤ _; omega⟩, by simp, ?_⟩
                · show List.take _ _ ≠ []
                  rw [take_takeWhile]; intro e; rw [e] at h1; simp at h1
                · show (List.take _ _).length ≤ _
                  rw [take_takeWhile]; omega
              · cases h
            · split at h
              · rename_i x hf
                injection h with e1 e2 e3
                subst e1 e2 e3
                have hm := List.mem_of_find?_eq_some hf
                have hp : x.isPrefixOf (c :: r) = true := by have := List.find?_some hf; exact this
                have ht : (c :: r).take x.length = x := by
                  obtain ⟨t, e⟩ := List.isPrefixOf_iff_prefix.1 hp
                  rw [← e]; simp
                have hx : x ≠ [] ∧ x.length ≤ 2 := by
                  have : ∀ x ∈ signsL, x ≠ [] ∧ x.length ≤ 2 := by decide
                  exact this x hm
                refine ⟨.inr (.inr (.inr rfl)), ?_, by simp, by simp, by simp, ⟨Int.le_refl _, by show (0 : Int) ≤ _; decide⟩, fun _ => by rw [ht]; exact hm, ?_⟩
                · show List.take _ _ ≠ []
                  rw [ht]; exact hx.1
                · show (List.take _ _).length ≤ _
                  rw [ht]; omega
              · cases h
theorem wft_snoc : ∀ (acc : List Tk) (e : Tk), (∀ t ∈ acc, GoodTk t) → e.kind = 0 → e.text = [] → WFt (acc ++ [e])
  | [], e, _, h1, h2 => ⟨h1, h2⟩
  | t :: r, e, h, h1, h2 => by
    have hr := wft_snoc r e (fun u hu => h u (List.mem_cons_of_mem _ hu)) h1 h2
    have ht := h t List.mem_cons_self
    cases r with
    | nil => exact ⟨ht, hr⟩
    | cons u r => exact ⟨ht, hr⟩
theorem lexF_wf : ∀ (f : Nat) (l : T) (a : Nat) (acc ts : List Tk) (p : Nat), l.length < f → l.length ≤ 1000000 → (∀ t ∈ acc, GoodTk t) → lexF f l a acc = (ts, p, 0) → WFt ts ∧ ts.length ≤ acc.length + l.length + 1 := by
  intro f
  induction f with
  | zero => intro l a acc ts p h; omega
  | succ f ih =>
    intro l a acc ts p hf hl hacc h
    unfold lexF at h
    split at h
    · injection h with h1 h2
      subst h1
      exact ⟨wft_snoc _ _ hacc rfl rfl, by simp⟩
    · rename_i n hs
      have := step_skip hs
      obtain ⟨h1, h2⟩ := ih _ _ _ _ _ (by rw [List.length_drop]; omega) (by rw [List.length_drop]; omega) hacc h
      exact ⟨h1, by rw [List.length_drop] at h2; omega⟩
    · rename_i k n v hs
      have := step_tok hs
      obtain ⟨h1, h2⟩ := ih _ _ _ _ _ (by rw [List.length_drop]; omega) (by rw [List.length_drop]; omega) (fun t ht => by
        rcases List.mem_append.1 ht with ht | ht
        · exact hacc t ht
        · obtain rfl := List.mem_singleton.1 ht
          exact step_good hs hl) h
      refine ⟨h1, ?_⟩
      simp only [List.length_append, List.length_cons, List.length_nil, List.length_drop] at h2
      omega
    · rename_i e hs
      injection h with h1 h2
      injection h2 with h2 h3
      exfalso
      subst h3
      unfold stepS at hs
      split at hs
      · cases hs
      · repeat' split at hs
        all_goals cases hs
theorem lexA_wf {s : T} {ts : List Tk} {p : Nat} (h : lexA s 0 [] = (ts, p, 0)) (hs : s.length ≤ 1000000) : WFt ts ∧ ts.length ≤ s.length + 1 := by
  obtain ⟨h1, h2⟩ := lexF_wf _ s 0 [] ts p (Nat.lt_succ_self _) hs (by simp) h
  exact ⟨h1, by simpa using h2⟩

end Go.Proofs.YtdabndiaflagpaaGreatDoor
namespace Go.Proofs.YtdabndiaflagpaaGreatDoor
open Go.RowKit

def Fr (N : Nat) (L : List Tk) : Prop := ∀ t ∈ L, t.from_ ≤ N
theorem Fr.tail {N : Nat} {L : List Tk} (h : Fr N L) : Fr N L.tail := fun t ht => h t (List.mem_of_mem_tail ht)
theorem Fr.hd {N : Nat} {L : List Tk} (h : Fr N L) : hdF L ≤ N := by
  cases L with
  | nil => exact Nat.zero_le _
  | cons t r => exact h t (List.mem_cons_self ..)
def Bd {α : Type} (N : Nat) (r : Pr α) : Prop := (∀ c a, r = .bad c a → c ≠ 0 ∧ a ≤ N) ∧ ∀ x L, r = .ok x L → Fr N L
section
variable {α β : Type} {N : Nat}
theorem Bd.ok {x : α} {L : List Tk} (h : Fr N L) : Bd N (.ok x L) := ⟨fun c a h => (by cases h), fun y L' e => by injection e with _ e; rw [← e]; exact h⟩
theorem Bd.bad {c : Int} {a : Nat} (h : c ≠ 0) (ha : a ≤ N) : Bd N (.bad c a : Pr α) := ⟨fun c' a' e => by injection e with e e'; rw [← e, ← e']; exact ⟨h, ha⟩, fun _ _ e => by cases e⟩
theorem Bd.bind {r : Pr α} {f : α → List Tk → Pr β} (h : Bd N r) (hf : ∀ x L, Fr N L → Bd N (f x L)) : Bd N (r.bind f) := by
  cases r with
  | ok x L => exact hf x L (h.2 x L rfl)
  | bad c a => exact Bd.bad (h.1 c a rfl).1 (h.1 c a rfl).2
theorem Bd.fail {c : Int} {L : List Tk} (h : c ≠ 0) (hL : Fr N L) : Bd N (failP c L : Pr α) := Bd.bad h hL.hd
theorem Bd.must {s : T} {L : List Tk} (hL : Fr N L) : Bd N (mustP s L) := by
  unfold mustP
  split
  · exact Bd.ok hL.tail
  · exact Bd.fail (by decide) hL
theorem Bd.opens {o : Nat} {L : List Tk} {f : List Tk → Pr α} (hL : Fr N L) (hf : ∀ L, Fr N L → Bd N (f L)) : Bd N (openP o L f) := by
  unfold openP
  split
  · exact Bd.fail (by decide) hL
  · exact hf _ hL.tail
end
structure Bds (N f : Nat) : Prop where
  expr : ∀ L o, Fr N L → Bd N (exprP f L o)
  choice : ∀ L o, Fr N L → Bd N (choiceP f L o)
  level : ∀ n L o, Fr N L → Bd N (levelP f n L o)
  rest : ∀ n x L o, Fr N L → Bd N (restP f n x L o)
  second : ∀ n L o, Fr N L → Bd N (secondP f n L o)
  pre : ∀ L o, Fr N L → Bd N (prefixP f L o)
  atom : ∀ L o, Fr N L → Bd N (atomP f L o)
  operands : ∀ L o, Fr N L → Bd N (operandsP f L o)
  more : ∀ acc L o, Fr N L → Bd N (moreP f acc L o)
  bracket : ∀ L o, Fr N L → Bd N (bracketP f L o)
theorem bds_all (N f : Nat) : Bds N f := by
  induction f with
  | zero => refine ⟨?_, ?_, ?_, ?_, ?_, ?_, ?_, ?_, ?_, ?_⟩ <;> intros <;> (first | unfold exprP | unfold choiceP | unfold levelP | unfold restP | unfold secondP | unfold prefixP | unfold atomP | unfold operandsP | unfold moreP | unfold bracketP) <;> (refine Bd.bad ?_ (Nat.zero_le _); decide)
  | succ f ih =>
    refine ⟨?_, ?_, ?_, ?_, ?_, ?_, ?_, ?_, ?_, ?_⟩ <;> intros <;> (first | unfold exprP | unfold choiceP | unfold levelP | unfold restP | unfold secondP | unfold prefixP | unfold atomP | unfold operandsP | unfold moreP | unfold bracketP) <;> repeat' (first | assumption | exact Fr.tail (by assumption) | refine Bd.ok ?_ | (refine Bd.bad ?_ (Nat.zero_le _); decide) | (refine Bd.bad ?_ (Fr.hd (by assumption)); decide) | (refine Bd.fail ?_ ?_; decide) | refine Bd.must ?_ | refine ih.expr _ _ ?_ | refine ih.choice _ _ ?_ | refine ih.level _ _ _ ?_ | refine ih.rest _ _ _ _ ?_ | refine ih.second _ _ _ ?_ | refine ih.pre _ _ ?_ | refine ih.atom _ _ ?_ | refine ih.operands _ _ ?_ | refine ih.more _ _ _ ?_ | refine ih.bracket _ _ ?_ | refine Bd.bind ?_ fun _ _ _ => ?_ | refine Bd.opens ?_ fun _ _ => ?_ | split)
section
variable {N : Nat}
theorem bd_nm {L : List Tk} (hL : Fr N L) : Bd N (nmP L) := by
  unfold nmP
  repeat' (first | assumption | exact Fr.tail (by assumption) | refine Bd.ok ?_ | (refine Bd.bad ?_ (Nat.zero_le _); decide) | (refine Bd.bad ?_ (Fr.hd (by assumption)); decide) | (refine Bd.fail ?_ ?_; decide) | refine Bd.must ?_ | refine Bd.bind ?_ fun _ _ _ => ?_ | split)
theorem bd_entry (n : Nat) {L : List Tk} (hL : Fr N L) : Bd N (entryP n L) := by
  unfold entryP
  repeat' (first | assumption | exact Fr.tail (by assumption) | refine Bd.ok ?_ | (refine Bd.bad ?_ (Nat.zero_le _); decide) | (refine Bd.bad ?_ (Fr.hd (by assumption)); decide) | (refine Bd.fail ?_ ?_; decide) | refine Bd.must ?_ | refine Bd.bind ?_ fun _ _ _ => ?_ | split)
theorem bd_namesF : ∀ (f : Nat) (n : Nat) (acc : List T) (L : List Tk), Fr N L → Bd N (namesF f n acc L) := by
  intro f
  induction f with
  | zero => intros; refine Bd.bad ?_ (Nat.zero_le _); decide
  | succ f ih =>
    intros
    unfold namesF
    repeat' (first | assumption | exact Fr.tail (by assumption) | refine Bd.ok ?_ | (refine Bd.bad ?_ (Nat.zero_le _); decide) | (refine Bd.bad ?_ (Fr.hd (by assumption)); decide) | (refine Bd.fail ?_ ?_; decide) | refine Bd.must ?_ | refine bd_entry _ ?_ | refine ih _ _ _ ?_ | refine Bd.bind ?_ fun _ _ _ => ?_ | split)
theorem bd_names (n : Nat) {L : List Tk} (hL : Fr N L) : Bd N (namesP n L) := by
  unfold namesP
  repeat' (first | assumption | exact Fr.tail (by assumption) | refine Bd.ok ?_ | (refine Bd.bad ?_ (Nat.zero_le _); decide) | (refine Bd.bad ?_ (Fr.hd (by assumption)); decide) | (refine Bd.fail ?_ ?_; decide) | refine Bd.must ?_ | refine bd_entry _ ?_ | refine bd_namesF _ _ _ _ ?_ | refine Bd.bind ?_ fun _ _ _ => ?_ | split)
theorem bd_type {L : List Tk} (hL : Fr N L) : Bd N (typeP L) := by
  unfold typeP
  repeat' (first | assumption | exact Fr.tail (by assumption) | refine Bd.ok ?_ | (refine Bd.bad ?_ (Nat.zero_le _); decide) | (refine Bd.bad ?_ (Fr.hd (by assumption)); decide) | (refine Bd.fail ?_ ?_; decide) | refine Bd.must ?_ | refine Bd.bind ?_ fun _ _ _ => ?_ | split)
theorem bd_group (n : Nat) {L : List Tk} (hL : Fr N L) : Bd N (groupP n L) := by
  unfold groupP
  repeat' (first | assumption | exact Fr.tail (by assumption) | refine Bd.ok ?_ | (refine Bd.bad ?_ (Nat.zero_le _); decide) | (refine Bd.bad ?_ (Fr.hd (by assumption)); decide) | (refine Bd.fail ?_ ?_; decide) | refine Bd.must ?_ | refine bd_names _ ?_ | refine bd_type ?_ | refine Bd.bind ?_ fun _ _ _ => ?_ | split)
theorem bd_varsF : ∀ (f : Nat) (acc : List Vr) (L : List Tk), Fr N L → Bd N (varsF f acc L) := by
  intro f
  induction f with
  | zero => intros; refine Bd.bad ?_ (Nat.zero_le _); decide
  | succ f ih =>
    intros
    unfold varsF
    repeat' (first | assumption | exact Fr.tail (by assumption) | refine Bd.ok ?_ | (refine Bd.bad ?_ (Nat.zero_le _); decide) | (refine Bd.bad ?_ (Fr.hd (by assumption)); decide) | (refine Bd.fail ?_ ?_; decide) | refine Bd.must ?_ | refine bd_group _ ?_ | refine ih _ _ ?_ | refine Bd.bind ?_ fun _ _ _ => ?_ | split)
theorem bd_vars {L : List Tk} (hL : Fr N L) : Bd N (varsP L) := by
  unfold varsP
  repeat' (first | assumption | exact Fr.tail (by assumption) | refine Bd.ok ?_ | (refine Bd.bad ?_ (Nat.zero_le _); decide) | (refine Bd.bad ?_ (Fr.hd (by assumption)); decide) | (refine Bd.fail ?_ ?_; decide) | refine Bd.must ?_ | refine bd_group _ ?_ | refine bd_varsF _ _ _ ?_ | refine Bd.bind ?_ fun _ _ _ => ?_ | split)
theorem bd_localsF : ∀ (f : Nat) (acc : List Vr) (L : List Tk), Fr N L → Bd N (localsF f acc L) := by
  intro f
  induction f with
  | zero => intros; refine Bd.bad ?_ (Nat.zero_le _); decide
  | succ f ih =>
    intros
    unfold localsF
    repeat' (first | assumption | exact Fr.tail (by assumption) | refine Bd.ok ?_ | (refine Bd.bad ?_ (Nat.zero_le _); decide) | (refine Bd.bad ?_ (Fr.hd (by assumption)); decide) | (refine Bd.fail ?_ ?_; decide) | refine Bd.must ?_ | refine bd_group _ ?_ | refine ih _ _ ?_ | refine Bd.bind ?_ fun _ _ _ => ?_ | split)
theorem bd_locals {L : List Tk} (hL : Fr N L) : Bd N (localsP L) := by
  unfold localsP
  repeat' (first | assumption | exact Fr.tail (by assumption) | refine Bd.ok ?_ | (refine Bd.bad ?_ (Nat.zero_le _); decide) | (refine Bd.bad ?_ (Fr.hd (by assumption)); decide) | (refine Bd.fail ?_ ?_; decide) | refine Bd.must ?_ | refine bd_group _ ?_ | refine bd_localsF _ _ _ ?_ | refine Bd.bind ?_ fun _ _ _ => ?_ | split)
theorem bd_left {L : List Tk} (hL : Fr N L) : Bd N (leftP L) := by
  unfold leftP
  repeat' (first | assumption | exact Fr.tail (by assumption) | refine Bd.ok ?_ | (refine Bd.bad ?_ (Nat.zero_le _); decide) | (refine Bd.bad ?_ (Fr.hd (by assumption)); decide) | (refine Bd.fail ?_ ?_; decide) | refine Bd.must ?_ | refine bd_names _ ?_ | refine bd_nm ?_ | refine Bd.bind ?_ fun _ _ _ => ?_ | split)
theorem bd_eqn {L : List Tk} (hL : Fr N L) : Bd N (eqnP L) := by
  unfold eqnP
  repeat' (first | assumption | exact Fr.tail (by assumption) | refine Bd.ok ?_ | (refine Bd.bad ?_ (Nat.zero_le _); decide) | (refine Bd.bad ?_ (Fr.hd (by assumption)); decide) | (refine Bd.fail ?_ ?_; decide) | refine Bd.must ?_ | refine bd_left ?_ | refine (bds_all N _).expr _ _ ?_ | refine Bd.bind ?_ fun _ _ _ => ?_ | split)
theorem bd_eqsF : ∀ (f : Nat) (acc : List Q) (L : List Tk), Fr N L → Bd N (eqsF f acc L) := by
  intro f
  induction f with
  | zero => intros; refine Bd.bad ?_ (Nat.zero_le _); decide
  | succ f ih =>
    intros
    unfold eqsF
    repeat' (first | assumption | exact Fr.tail (by assumption) | refine Bd.ok ?_ | (refine Bd.bad ?_ (Nat.zero_le _); decide) | (refine Bd.bad ?_ (Fr.hd (by assumption)); decide) | (refine Bd.fail ?_ ?_; decide) | refine Bd.must ?_ | refine bd_eqn ?_ | refine ih _ _ ?_ | refine Bd.bind ?_ fun _ _ _ => ?_ | split)
theorem bd_ins {L : List Tk} (hL : Fr N L) : Bd N (insP L) := by
  unfold insP
  repeat' (first | assumption | exact Fr.tail (by assumption) | refine Bd.ok ?_ | (refine Bd.bad ?_ (Nat.zero_le _); decide) | (refine Bd.bad ?_ (Fr.hd (by assumption)); decide) | (refine Bd.fail ?_ ?_; decide) | refine Bd.must ?_ | refine bd_vars ?_ | refine Bd.bind ?_ fun _ _ _ => ?_ | split)
theorem bd_var {L : List Tk} (hL : Fr N L) : Bd N (varP L) := by
  unfold varP
  repeat' (first | assumption | exact Fr.tail (by assumption) | refine Bd.ok ?_ | (refine Bd.bad ?_ (Nat.zero_le _); decide) | (refine Bd.bad ?_ (Fr.hd (by assumption)); decide) | (refine Bd.fail ?_ ?_; decide) | refine Bd.must ?_ | refine bd_locals ?_ | refine Bd.bind ?_ fun _ _ _ => ?_ | split)
theorem bd_musts : ∀ (ss : List T) (L : List Tk), Fr N L → Bd N (mustsP ss L) := by
  intro ss
  induction ss with
  | nil => intro L h; exact Bd.ok h
  | cons s ss ih => intro L h; exact Bd.bind (Bd.must h) fun _ _ h => ih _ h
theorem bd_node {L : List Tk} (hL : Fr N L) : Bd N (nodeP L) := by
  unfold nodeP
  repeat' (first | assumption | exact Fr.tail (by assumption) | refine Bd.ok ?_ | (refine Bd.bad ?_ (Nat.zero_le _); decide) | (refine Bd.bad ?_ (Fr.hd (by assumption)); decide) | (refine Bd.fail ?_ ?_; decide) | refine Bd.must ?_ | refine bd_nm ?_ | refine bd_ins ?_ | refine bd_musts _ _ ?_ | refine bd_vars ?_ | refine bd_var ?_ | refine bd_eqsF _ _ _ ?_ | refine Bd.bind ?_ fun _ _ _ => ?_ | split)
theorem bd_progF : ∀ (f : Nat) (acc : List Nd) (L : List Tk), Fr N L → Bd N (progF f acc L) := by
  intro f
  induction f with
  | zero => intros; refine Bd.bad ?_ (Nat.zero_le _); decide
  | succ f ih =>
    intros
    unfold progF
    repeat' (first | assumption | exact Fr.tail (by assumption) | refine Bd.ok ?_ | (refine Bd.bad ?_ (Nat.zero_le _); decide) | (refine Bd.bad ?_ (Fr.hd (by assumption)); decide) | (refine Bd.fail ?_ ?_; decide) | refine Bd.must ?_ | refine bd_node ?_ | refine ih _ _ ?_ | refine Bd.bind ?_ fun _ _ _ => ?_ | split)
theorem progF_bad {f : Nat} {acc : List Nd} {L : List Tk} {c : Int} {a : Nat} (hL : Fr N L) (h : progF f acc L = .bad c a) : c ≠ 0 ∧ a ≤ N := (bd_progF f acc L hL).1 c a h
end

end Go.Proofs.YtdabndiaflagpaaGreatDoor
namespace Go.Proofs.YtdabndiaflagpaaGreatDoor
open Go.RowKit

def hdB : T := [110, 111, 100, 101, 32, 102, 40, 41, 32, 114, 101, 116, 117, 114, 110, 115, 32, 40, 98, 58, 32, 105, 110, 116, 41, 59, 32, 108, 101, 116, 32, 98, 32, 61, 32]
def tlB : T := [59, 32, 116, 101, 108]
def hdL (L : List Tk) : List Tk := ⟨2, [110, 111, 100, 101], 0, 0⟩ :: ⟨1, [102], 0, 5⟩ :: ⟨4, [40], 0, 6⟩ :: ⟨4, [41], 0, 7⟩ :: ⟨2, [114, 101, 116, 117, 114, 110, 115], 0, 9⟩ :: ⟨4, [40], 0, 17⟩ :: ⟨1, [98], 0, 18⟩ :: ⟨4, [58], 0, 19⟩ :: ⟨2, [105, 110, 116], 0, 21⟩ :: ⟨4, [41], 0, 24⟩ :: ⟨4, [59], 0, 25⟩ :: ⟨2, [108, 101, 116], 0, 27⟩ :: ⟨1, [98], 0, 31⟩ :: ⟨4, [61], 0, 33⟩ :: L
set_option maxRecDepth 100000 in
theorem lexA_head (r : T) : lexA (hdB ++ r) 0 [] = lexA r 35 (hdL []) := by
  unfold hdB
  refine (lexA_tok (k := 2) (n := 4) (v := 0) rfl _ _).trans ?_
  refine (lexA_blank (by decide) _ _).trans ?_
  refine (lexA_tok (k := 1) (n := 1) (v := 0) rfl _ _).trans ?_
  refine (lexA_tok (k := 4) (n := 1) (v := 0) rfl _ _).trans ?_
  refine (lexA_tok (k := 4) (n := 1) (v := 0) rfl _ _).trans ?_
  refine (lexA_blank (by decide) _ _).trans ?_
  refine (lexA_tok (k := 2) (n := 7) (v := 0) rfl _ _).trans ?_
  refine (lexA_blank (by decide) _ _).trans ?_
  refine (lexA_tok (k := 4) (n := 1) (v := 0) rfl _ _).trans ?_
  refine (lexA_tok (k := 1) (n := 1) (v := 0) rfl _ _).trans ?_
  refine (lexA_tok (k := 4) (n := 1) (v := 0) rfl _ _).trans ?_
  refine (lexA_blank (by decide) _ _).trans ?_
  refine (lexA_tok (k := 2) (n := 3) (v := 0) rfl _ _).trans ?_
  refine (lexA_tok (k := 4) (n := 1) (v := 0) rfl _ _).trans ?_
  refine (lexA_tok (k := 4) (n := 1) (v := 0) rfl _ _).trans ?_
  refine (lexA_blank (by decide) _ _).trans ?_
  refine (lexA_tok (k := 2) (n := 3) (v := 0) rfl _ _).trans ?_
  refine (lexA_blank (by decide) _ _).trans ?_
  refine (lexA_tok (k := 1) (n := 1) (v := 0) rfl _ _).trans ?_
  refine (lexA_blank (by decide) _ _).trans ?_
  refine (lexA_tok (k := 4) (n := 1) (v := 0) rfl _ _).trans ?_
  refine (lexA_blank (by decide) _ _).trans ?_
  rfl

set_option maxRecDepth 100000 in
theorem node_head (L : List Tk) : nodeP (hdL L) = (eqsF (L.length + 3) [] (⟨1, [98], 0, 31⟩ :: ⟨4, [61], 0, 33⟩ :: L)).bind fun eqs L => (mustP wTel L).bind fun _ L => .ok ⟨[102], [], [⟨[98], 0⟩], [], eqs⟩ L := rfl
set_option maxRecDepth 100000 in
theorem eqn_head (t u : Tk) (L : List Tk) (ht : t.text = [98]) (hk : t.kind = 1) (hu : u.text = [61]) : eqnP (t :: u :: L) = (exprP (fuelP L) L 0).bind fun x L1 => if 200 < x.depth then .bad 5 (hdF L) else (mustP [59] L1).bind fun _ L => .ok ⟨[[98]], x⟩ L := by
  cases t; cases u; cases ht; cases hk; cases hu; rfl
theorem wft_tail {t u : Tk} {L : List Tk} (h : WFt (t :: u :: L)) : WFt (u :: L) := h.2
theorem wft_last {t : Tk} {L : List Tk} (h : WFt (t :: L)) (hk : t.kind ≠ 0) : WFt L := by
  cases L with
  | nil => exact absurd h.1 hk
  | cons u L => exact h.2
theorem need_brackets {t : T} {ts : List Tk} {ns : List Nd} {L' : List Tk} (hR : lexA (hdB ++ (t ++ tlB)) 0 [] = (ts, 0, 0)) (hp : progF (ts.length + 1) [] ts = .ok ns L') (hl : t.length ≤ 100000) : ∃ n q r r', ns = n :: r ∧ n.eqs = q :: r' ∧ ct q.rhs ≤ cO t := by
  have hR' := hR
  rw [lexA_head] at hR'
  obtain ⟨us, rfl, hn⟩ := lexF_nO _ _ _ _ _ _ (Nat.lt_succ_self _) hR'
  have hw := (lexA_wf hR (by simp [hdB, tlB]; omega)).1
  have hh : hdL [] ++ us = hdL us := rfl
  rw [hh] at hw hp
  have hus : WFt us := wft_last (wft_tail (wft_tail (wft_tail (wft_tail (wft_tail (wft_tail (wft_tail (wft_tail (wft_tail (wft_tail (wft_tail (wft_tail (wft_tail hw))))))))))))) (by decide)
  have ht : nO us ≤ cO t := by
    refine Nat.le_trans hn ?_
    rw [cO_app]
    have : cO tlB = 0 := by decide
    omega
  have hp : (if isP wNode (hdL us) = true then (if 1000 ≤ ([] : List Nd).length then failP 4 (hdL us) else (nodeP (hdL us)).bind fun n L => progF (hdL us).length ([] ++ [n]) L) else if hdK (hdL us) = 0 then .ok [] (hdL us) else failP 2 (hdL us)) = .ok ns L' := hp
  rw [if_pos (by rfl), if_neg (by simp)] at hp
  obtain ⟨n, L1, h1, hp⟩ := bind_ok hp
  obtain ⟨r, rfl⟩ := progF_acc _ _ _ _ _ hp
  rw [node_head] at h1
  obtain ⟨es, L2, h2, h1⟩ := bind_ok h1
  obtain ⟨_, L3, _, h1⟩ := bind_ok h1
  injection h1 with h1 _
  unfold eqsF at h2
  rw [if_pos (.inl rfl), if_neg (by simp)] at h2
  obtain ⟨q, L4, h4, h2⟩ := bind_ok h2
  obtain ⟨r', rfl⟩ := eqsF_acc _ _ _ _ _ h2
  rw [eqn_head _ _ _ rfl rfl rfl] at h4
  obtain ⟨x, L5, h5, h4⟩ := bind_ok h4
  split at h4
  · cases h4
  · obtain ⟨_, L6, _, h4⟩ := bind_ok h4
    injection h4 with h4 _
    have hc := (cnt_all _).expr us 0 hus x L5 h5
    refine ⟨n, q, r, r', rfl, by rw [← h1]; rfl, ?_⟩
    rw [← h4]
    show ct x ≤ cO t
    omega

end Go.Proofs.YtdabndiaflagpaaGreatDoor
namespace Go.Proofs.YtdabndiaflagpaaGreatDoor
open Go.RowKit

/-! ### Brackets that open and shut -/
def brk : Nat → T → Option Nat
  | d, [] => some d
  | d, c :: s => if c = 40 then brk (d + 1) s else if c = 41 then (match d with | 0 => none | d + 1 => brk d s) else brk d s
theorem brk_cons (d : Nat) (c : UInt8) (s : T) : brk d (c :: s) = if c = 40 then brk (d + 1) s else if c = 41 then (match d with | 0 => none | d + 1 => brk d s) else brk d s := rfl
theorem brk_app (a b : T) : ∀ d, brk d (a ++ b) = (brk d a).bind (brk · b) := by
  induction a with
  | nil => intro d; rfl
  | cons c a ih =>
    intro d
    rw [List.cons_append, brk_cons, brk_cons]
    split
    · exact ih _
    · split
      · cases d with
        | zero => rfl
        | succ d => exact ih _
      · exact ih _
def Dk (s : T) : Prop := ∀ d, brk d s = some d
theorem Dk.app {a b : T} (ha : Dk a) (hb : Dk b) : Dk (a ++ b) := fun d => by rw [brk_app, ha d]; exact hb d
theorem Dk.nil : Dk [] := fun _ => rfl
theorem Dk.none {s : T} (h : ∀ c ∈ s, c ≠ 40 ∧ c ≠ 41) : Dk s := by
  induction s with
  | nil => exact Dk.nil
  | cons c s ih =>
    intro d
    have hc := h c (List.mem_cons_self ..)
    unfold brk
    rw [if_neg hc.1, if_neg hc.2]
    exact ih (fun c hc => h c (List.mem_cons_of_mem _ hc)) d
theorem Dk.br {s : T} (h : Dk s) : Dk ([40] ++ (s ++ [41])) := fun d => by
  show brk (d + 1) (s ++ [41]) = _
  rw [brk_app, h (d + 1)]
  rfl
theorem Dk.inT {s : T} (h : Dk s) (l a : Int) : Dk (inT l a s) := by
  unfold Go.Proofs.YtdabndiaflagpaaGreatDoor.inT
  split
  · exact h.br
  · exact h
theorem Dk.flat {ts : List T} {p : T} (hp : Dk p) (h : ∀ t ∈ ts, Dk t) : Dk (ts.map (p ++ ·)).flatten := by
  induction ts with
  | nil => exact Dk.nil
  | cons t ts ih =>
    rw [List.map_cons, List.flatten_cons]
    exact (hp.app (h t (List.mem_cons_self ..))).app (ih fun t ht => h t (List.mem_cons_of_mem _ ht))
theorem Dk.comma {ts : List T} (h : ∀ t ∈ ts, Dk t) : Dk (commaS ts) := by
  cases ts with
  | nil => exact Dk.nil
  | cons t ts =>
    unfold commaS
    exact (h t (List.mem_cons_self ..)).app (Dk.flat (Dk.none (by decide)) fun t ht => h t (List.mem_cons_of_mem _ ht))
theorem ltr_no2 (c : UInt8) (h : isL (c.toNat : Int) = true) : c ≠ 41 := by rintro rfl; revert h; decide
theorem dgt_no2 (c : UInt8) (h : isD (c.toNat : Int) = true) : c ≠ 41 := by rintro rfl; revert h; decide
theorem name_dk {s : T} (h : nameB s = true) : Dk s := by
  have h : nameP s := by
    unfold nameB at h
    exact @of_decide_eq_true _ (Classical.propDecidable _) h
  refine Dk.none fun c hc => ?_
  obtain ⟨i, hi⟩ := List.getElem?_of_mem hc
  rcases h.1 i c hi with h1 | h1
  · exact ⟨ltr_no c h1, ltr_no2 c h1⟩
  · exact ⟨dgt_no c h1.2, dgt_no2 c h1.2⟩
theorem dec_dk (u : Nat) : Dk (Lib.decDigits u) := Dk.none fun c hc => ⟨dgt_no c (dec_dgt u c hc), dgt_no2 c (dec_dgt u c hc)⟩
theorem pre_dk (o : Nat) : Dk (preS.getD o []) := by
  have : ∀ s ∈ preS, ∀ c ∈ s, c ≠ 40 ∧ c ≠ 41 := by decide
  rw [List.getD_eq_getElem?_getD]
  cases h : preS[o]? with
  | none => exact Dk.nil
  | some s => exact Dk.none (this s (List.mem_of_getElem? h))
theorem op_dk (o : Nat) : Dk (opS.getD o []) := by
  have : ∀ s ∈ opS, ∀ c ∈ s, c ≠ 40 ∧ c ≠ 41 := by decide
  rw [List.getD_eq_getElem?_getD]
  cases h : opS[o]? with
  | none => exact Dk.nil
  | some s => exact Dk.none (this s (List.mem_of_getElem? h))
/-- The text of an expression that may be opens and shuts. -/
theorem txt_dk : ∀ (n : Nat) (x : X), x.size ≤ n → x.shape = true → Dk x.txt := by
  intro n
  induction n with
  | zero => intro x hx; have := x.size_pos; omega
  | succ n ih =>
    intro x hx hs
    obtain ⟨hf, hks⟩ := shape_open hs
    have hz : ∀ (i : Nat) y, x.ks[i]? = some y → Dk y.txt := fun i y hy => ih y (by
      have h1 := X.sizes_at hy
      have h2 : x.size = 1 + X.sizes x.ks := by cases x; rfl
      omega) (shapes_kid hks hy)
    rcases hf with ⟨h, hf⟩ | ⟨h, hf⟩ | ⟨h, hf⟩ | ⟨h, hf⟩ | ⟨h, hf⟩ | ⟨h, hf⟩ | ⟨h, hf⟩
    · rw [txt_int h]; exact dec_dk _
    · rw [txt_bool h]
      unfold boolS
      split <;> exact Dk.none (by decide)
    · rw [txt_var h]; exact name_dk hf.2.2.2.2.1
    · obtain ⟨a, ha⟩ := one_of_len (Nat.le_antisymm hf.2.2.2.2.2.2 hf.2.2.2.2.2.1)
      rw [txt_un h ha]
      refine (pre_dk _).app (Dk.app ?_ ((hz 0 a (by rw [ha]; rfl)).inT _ _))
      split
      · exact Dk.none (by decide)
      · exact Dk.nil
    · obtain ⟨a, b, ha⟩ := two_of_len (Nat.le_antisymm hf.2.2.2.2.2.2 hf.2.2.2.2.2.1)
      rw [txt_bin h ha]
      exact ((hz 0 a (by rw [ha]; rfl)).inT _ _).app (((Dk.none (by decide)).app ((op_dk _).app (Dk.none (by decide)))).app ((hz 1 b (by rw [ha]; rfl)).inT _ _))
    · obtain ⟨a, b, c, ha⟩ := three_of_len (Nat.le_antisymm hf.2.2.2.2.2.2 hf.2.2.2.2.2.1)
      rw [txt_if h ha]
      exact (Dk.none (by decide)).app ((hz 0 a (by rw [ha]; rfl)).app ((Dk.none (by decide)).app ((hz 1 b (by rw [ha]; rfl)).app ((Dk.none (by decide)).app (hz 2 c (by rw [ha]; rfl))))))
    · rw [txt_call h]
      have hc : Dk (commaS (x.ks.map X.txt)) := Dk.comma fun t ht => by
        obtain ⟨y, hy, rfl⟩ := List.mem_map.1 ht
        obtain ⟨i, hi⟩ := List.getElem?_of_mem hy
        exact hz i y hi
      have := (name_dk hf.2.2.2.2.1).app hc.br
      rw [List.append_assoc]
      exact this

/-! ### Where what has been opened is shut -/
theorem brk_from {s : T} (h : Dk s) (i : Nat) : ∃ e, brk e (s.drop i) = some 0 := by
  have h0 := h 0
  rw [← List.take_append_drop i s, brk_app] at h0
  cases hr : brk 0 (s.take i) with
  | none => rw [hr] at h0; cases h0
  | some e => rw [hr] at h0; exact ⟨e, by simpa using h0⟩
theorem brk_step {s : T} {i e D : Nat} {c : UInt8} (hc : s[i]? = some c) (h : brk (e + D) (s.drop i) = some 0) :
    (c = 40 → brk (e + (D + 1)) (s.drop (i + 1)) = some 0) ∧ (c = 41 → ∀ D', D = D' + 1 → brk (e + D') (s.drop (i + 1)) = some 0) ∧ (c ≠ 40 → c ≠ 41 → brk (e + D) (s.drop (i + 1)) = some 0) := by
  obtain ⟨hi, hc⟩ := List.getElem?_eq_some_iff.1 hc
  rw [List.drop_eq_getElem_cons hi, hc] at h
  refine ⟨fun h1 => ?_, fun h1 D' hD => ?_, fun h1 h2 => ?_⟩
  · subst h1
    exact h
  · subst h1 hD
    exact h
  · unfold brk at h
    rw [if_neg h1, if_neg h2] at h
    exact h
theorem brk_end {s : T} {i e D : Nat} (hi : s.length ≤ i) (h : brk (e + D) (s.drop i) = some 0) : D = 0 := by
  rw [List.drop_eq_nil_of_le hi] at h
  unfold brk at h
  injection h with h
  omega
/-- A text without two of its signs. -/
def cutT (s : T) (f k : Nat) : T := s.take f ++ ((s.take k).drop (f + 1) ++ s.drop (k + 1))
theorem cut_cO {s : T} {f k : Nat} (hf : s[f]? = some 40) (hk : s[k]? = some 41) (h : f < k) : cO s = cO (cutT s f k) + 1 := by
  obtain ⟨hf', hfe⟩ := List.getElem?_eq_some_iff.1 hf
  obtain ⟨hk', hke⟩ := List.getElem?_eq_some_iff.1 hk
  have h1 : s = s.take k ++ ([41] ++ s.drop (k + 1)) := by
    have := (List.take_append_drop k s).symm
    rw [List.drop_eq_getElem_cons hk', hke] at this
    exact this
  have h2 : s.take k = s.take f ++ ([40] ++ (s.take k).drop (f + 1)) := by
    have := (List.take_append_drop f (s.take k)).symm
    rw [List.take_take, Nat.min_eq_left (by omega), List.drop_eq_getElem_cons (by rw [List.length_take]; omega)] at this
    rw [List.getElem_take, hfe] at this
    exact this
  have e1 : cO s = cO (s.take k) + cO (s.drop (k + 1)) := by
    conv => lhs; rw [h1]
    rw [cO_app, cO_app]
    have : cO [41] = 0 := by decide
    omega
  have e2 : cO (s.take k) = cO (s.take f) + 1 + cO ((s.take k).drop (f + 1)) := by
    conv => lhs; rw [h2]
    rw [cO_app, cO_app]
    have : cO [40] = 1 := by decide
    omega
  unfold cutT
  rw [cO_app, cO_app]
  omega

end Go.Proofs.YtdabndiaflagpaaGreatDoor
namespace Go.Proofs.YtdabndiaflagpaaGreatDoor
open Go.RowKit

theorem catchIdle (p q r : Addr) (w : World) :
    CallsD Tryz.prog 32 #[.pointer (some p), .pointer (some q), .pointer (some r)] .returning w fun e u' w' => e = .returned (.tuple #[]) ∧ u' = .returning ∧ w' = w := by
  refine callsD_of_wpS Tryz.func32 rfl fun c₀ cs hu => ?_
  simp only [Tryz.ntmps32, List.size_toArray, List.length_cons, List.length_nil, Nat.reduceAdd, Nat.reduceSub, Array.replicate_succ, Array.replicate_zero, List.push_toArray, List.append_toArray, List.nil_append, List.cons_append]
  apply wpS_seq
  apply wpS_region
  simp [wpOpsS, go_sem, recoverD, hu, Exit.thenS]
  refine wpS_of_wp ?_
  go_wp2_with fail
  exact ⟨rfl, .returning, by cases c₀; simp_all, _, results_none rfl _ _ _, rfl, rfl, rfl⟩
theorem fault_assert (v : Value) (w : World) : (Instr.typeAssert (.iface 94 v) 20 94 true).run Tryz.prog w = .ok (.tuple #[v, .bool true]) w := by kernel_rfl
theorem catchFault (b2 b3 b4 : Nat) (x y z z1 z2 c : Int) (V0 : Value) (older : List PanicEntry) (w : World) (h2 : Row w b2 36 #[V0]) (h3 : Row w b3 58 #[.int .i64 x, .int .i64 y]) (h4 : Row w b4 54 #[.int .i64 z]) (h23 : b2 ≠ b3) (h24 : b2 ≠ b4) (h34 : b3 ≠ b4) :
    CallsD Tryz.prog 32 #[.pointer (some ⟨b2, 0, none⟩), .pointer (some ⟨b3, 0, none⟩), .pointer (some ⟨b4, 0, none⟩)] (.panicking ({ v := .iface 94 (.agg #[.int .i64 z1, .int .i64 z2, .int .i64 c]), recovered := false } :: older)) w fun e u' w' =>
      e = .returned (.tuple #[]) ∧ u' = .panicking ({ v := .iface 94 (.agg #[.int .i64 z1, .int .i64 z2, .int .i64 c]), recovered := true } :: older) ∧ Row w' b2 36 #[.slice none 0 0] ∧ Row w' b3 58 #[.int .i64 z1, .int .i64 z2] ∧ Row w' b4 54 #[.int .i64 c] ∧
        (∀ N, N ≤ b2 → N ≤ b3 → N ≤ b4 → N ≤ w.heap.size → Below N w w') := by
  have ha := fault_assert
  refine callsD_of_wpS Tryz.func32 rfl fun c₀ cs hu => ?_
  simp only [Tryz.ntmps32, List.size_toArray, List.length_cons, List.length_nil, Nat.reduceAdd, Nat.reduceSub, Array.replicate_succ, Array.replicate_zero, List.push_toArray, List.append_toArray, List.nil_append, List.cons_append]
  apply wpS_seq
  apply wpS_region
  simp [wpOpsS, go_sem, recoverD, hu, Exit.thenS]
  refine wpS_of_wp ?_
  go_upto_region 5 with fail
  obtain ⟨v, hv⟩ : ∃ v, v = w.alloc (.cells #[.int .i64 z1, .int .i64 z2, .int .i64 c] 94) := ⟨_, rfl⟩
  have hvf : Row v w.heap.size 94 #[.int .i64 z1, .int .i64 z2, .int .i64 c] := by rw [hv]; exact Row.made _ _ _
  have hb : Below w.heap.size w v := by rw [hv]; exact (Below.refl _ _).alloc (Nat.le_refl _) _
  rw [← hv]
  have l2 := Row.lt h2
  have l3 := Row.lt h3
  have l4 := Row.lt h4
  have r2 := Row.below h2 hb l2
  have r3 := Row.below h3 hb l3
  have r4 := Row.below h4 hb l4
  have hvs := hb.size
  obtain ⟨F, hF⟩ : ∃ F, F = w.heap.size := ⟨_, rfl⟩
  rw [← hF] at hvf ⊢
  have f2 : b2 < F := by omega
  have f3 : b3 < F := by omega
  have f4 : b4 < F := by omega
  have c0 := hvf.cell 0
  have c1 := hvf.cell 1
  have c2 := hvf.cell 2
  have d2 := r2.cell 0
  have d3 := r3.cell 0
  have d3' := r3.cell 1
  have d4 := r4.cell 0
  have y2 := r2.free 0
  have y3 := r3.free 0
  have y3' := r3.free 1
  have y4 := r4.free 0
  simp at c0 c1 c2 d2 d3 d3' d4
  have HB := Lib.hid hb
  have HR := Lib.hid (And.intro r2 (And.intro r3 r4))
  have HFF := Lib.hid hF
  have HH := Lib.hid hvs
  clear hv hvf hb h2 h3 h4 r2 r3 r4 l2 l3 l4 hF hvs ha hu
  go_region
  all_goals go_wp2_with fail
  obtain ⟨r2, r3, r4⟩ := HR.out
  have hb := HB.out
  have hvs := HH.out
  have hF := HFF.out
  have g1 := only_set (only_refl v b2) 0 (.slice none 0 0)
  have s2 := r2.set 0 (.slice none 0 0)
  have s3 := r3.grown g1 (fun e => by injection e with e; omega)
  have s4 := r4.grown g1 (fun e => by injection e with e; omega)
  obtain ⟨v1, hv1⟩ : ∃ v1, v1 = v.setCell ⟨b2, 0, none⟩ (.slice none 0 0) := ⟨_, rfl⟩
  rw [← hv1] at g1 s2 s3 s4 ⊢
  have k1 := only_set2 v1 b3 (.int .i64 z1) (.int .i64 z2)
  have t3 := (s3.set 0 (.int .i64 z1)).set 1 (.int .i64 z2)
  have t2 := s2.grown k1 (fun e => by injection e with e; omega)
  have t4 := s4.grown k1 (fun e => by injection e with e; omega)
  obtain ⟨v2, hv2⟩ : ∃ v2, v2 = (v1.setCell ⟨b3, 0, none⟩ (.int .i64 z1)).setCell ⟨b3, 1, none⟩ (.int .i64 z2) := ⟨_, rfl⟩
  rw [← hv2] at k1 t2 t3 t4 ⊢
  have m1 := only_set (only_refl v2 b4) 0 (.int .i64 c)
  have u4 := t4.set 0 (.int .i64 c)
  have u2 := t2.grown m1 (fun e => by injection e with e; omega)
  have u3 := t3.grown m1 (fun e => by injection e with e; omega)
  refine ⟨rfl, _, rfl, _, results_none rfl _ _ _, rfl, rfl, Row.drew u2, Row.drew u3, Row.drew u4, fun N n2 n3 n4 nw => ?_⟩
  have a1 : Below N w v := hb.mono nw
  have a2 := a1.grown g1 (by have := a1.size; omega) (fun k e => by injection e with e; omega)
  have a3 := a2.grown k1 (by have := a2.size; omega) (fun k e => by injection e with e; omega)
  have a4 := a3.grown m1 (by have := a3.size; omega) (fun k e => by injection e with e; omega)
  exact a4.drew

end Go.Proofs.YtdabndiaflagpaaGreatDoor
namespace Go.Proofs.YtdabndiaflagpaaGreatDoor
open Go.RowKit

/-- The cells of a row of the call's own that holds something, and its room. -/
theorem OwnG.cells3 {α : Type} {R : Of α} {e : TypeId} {k : Nat} {w : World} {B : Nat} {v : Value} {xs : List α} (hl : Lasts R k) {S : Nat → Prop} (h : OwnG R e k w B S v xs) (hne : xs ≠ []) :
    ∃ g c, v = .slice (some ⟨g, 0, none⟩) xs.length c ∧ xs.length ≤ c ∧ B ≤ g ∧ g < w.heap.size ∧ ∀ (i : Nat) x, xs[i]? = some x → ∃ cs, R w S x cs ∧ ∀ (j : Nat) u, cs[j]? = some u → w.cell? ⟨g, i * k + j, none⟩ = some u := by
  obtain ⟨g, c, hv, h1, h2, h3⟩ := h.cells hl hne
  refine ⟨g, c, hv, ?_, h1, h2, h3⟩
  obtain ⟨cs, ho, hx⟩ := h
  rcases ho.2 with ⟨rfl, hz⟩ | ⟨g', cap, cur, rfl, hb, hgg, hnc, hcm, hcs, htake⟩
  · exact absurd (List.eq_nil_of_length_eq_zero hz) hne
  · injection hv with e1 e2 e3
    omega
def LexOk3 (s : T) (ts : List Tk) (w0 : World) (e : Ending) (w' : World) : Prop :=
  ∃ g c, e = .returned (.tuple #[.slice (some ⟨g, 0, none⟩) ts.length c, .agg #[.int .i64 0, .int .i64 0], .int .i64 0]) ∧ ts.length ≤ c ∧ w0.heap.size ≤ g ∧ g < w'.heap.size ∧ TkAt s w' g 0 ts ∧ Below w0.heap.size w0 w'
theorem lex_ok3 {s : T} {ts : List Tk} (h : lexA s 0 [] = (ts, 0, 0)) (w : World) (hs : s.length ≤ 1000000) (he : LexEnv w) : Calls Tryz.prog 31 #[.string ⟨s.toArray⟩] w (LexOk3 s ts w) :=
  (lex_any s w hs he).mono fun e w' hp => by
    rcases hp with ⟨ts', V, B, h1, rfl, hB, hown, hb⟩ | ⟨a, code, h1, hc, _⟩
    · rw [h] at h1
      injection h1 with h1 _
      subst h1
      obtain ⟨g, c, rfl, hcl, hg, hgs, hcs⟩ := OwnG.cells3 (lastsT s) hown (lexA_ends h).1
      refine ⟨g, c, rfl, hcl, Nat.le_trans hB hg, hgs, fun i t hi => ?_, hb⟩
      obtain ⟨cs, hk, hat⟩ := hcs i t hi
      have hk : cs = tkC s t := hk
      subst hk
      simp only [Nat.zero_add]
      exact ⟨hat 0 _ rfl, hat 1 _ rfl, hat 2 _ rfl, hat 3 _ rfl, hat 4 _ rfl⟩
    · rw [h] at h1
      injection h1 with _ h1
      injection h1 with _ h1
      omega
def tripleV (V : Value) (x y z : Int) : Value := .tuple #[.agg #[V], .agg #[.int .i64 x, .int .i64 y], .int .i64 z]
theorem parse_results (tmps : Array Value) (b2 b3 b4 : Nat) (V : Value) (x y z : Int) (w : World) (t2 : tmps[2]? = some (.pointer (some ⟨b2, 0, none⟩))) (t3 : tmps[3]? = some (.pointer (some ⟨b3, 0, none⟩))) (t4 : tmps[4]? = some (.pointer (some ⟨b4, 0, none⟩)))
    (h2 : Row w b2 36 #[V]) (h3 : Row w b3 58 #[.int .i64 x, .int .i64 y]) (h4 : Row w b4 54 #[.int .i64 z]) : (results Tryz.f15 tmps).run Tryz.prog w = .ok (tripleV V x y z) w := by
  have c2 := h2.cell 0
  have c3 := h3.cell 0
  have c3' := h3.cell 1
  have c4 := h4.cell 0
  simp at c2 c3 c3' c4
  simp [results, Tryz.results15, go_sem, t2, t3, t4, c2, c3, c3', c4, tripleV]
  try rfl

end Go.Proofs.YtdabndiaflagpaaGreatDoor
namespace Go.Proofs.YtdabndiaflagpaaGreatDoor
open Go.RowKit

def threeW (w : World) : World := ((w.alloc (.cells #[.slice none 0 0] 36)).alloc (.cells #[.int .i64 0, .int .i64 0] 58)).alloc (.cells #[.int .i64 0] 54)
structure Thr (w : World) (b : Nat) (V : Value) (x y z : Int) : Prop where
  r2 : Row w b 36 #[V]
  r3 : Row w (b + 1) 58 #[.int .i64 x, .int .i64 y]
  r4 : Row w (b + 1 + 1) 54 #[.int .i64 z]
theorem Thr.lt {w : World} {b : Nat} {V : Value} {x y z : Int} (h : Thr w b V x y z) : b + 2 < w.heap.size := h.r4.lt
theorem Thr.below {w w' : World} {b : Nat} {V : Value} {x y z : Int} (h : Thr w b V x y z) (hb : Below w.heap.size w w') : Thr w' b V x y z :=
  ⟨h.r2.below hb h.r2.lt, h.r3.below hb h.r3.lt, h.r4.below hb h.r4.lt⟩
theorem Thr.grown {w w' : World} {b : Nat} {V : Value} {x y z : Int} {r : Nat} (h : Thr w b V x y z) (hb : w.grownBy w' (some r)) (hr : b + 2 < r) : Thr w' b V x y z :=
  ⟨h.r2.grown hb (fun e => by injection e with e; omega), h.r3.grown hb (fun e => by injection e with e; omega), h.r4.grown hb (fun e => by injection e with e; omega)⟩
theorem Thr.drew {w : World} {b : Nat} {V : Value} {x y z : Int} (h : Thr w b V x y z) : Thr w.drew b V x y z := ⟨h.r2.drew, h.r3.drew, h.r4.drew⟩
theorem Thr.place {w : World} {b : Nat} {V : Value} {x y z : Int} (h : Thr w b V x y z) (x' y' : Int) : Thr ((w.setCell ⟨b + 1, 0, none⟩ (.int .i64 x')).setCell ⟨b + 1, 1, none⟩ (.int .i64 y')) b V x' y' z := by
  have g := only_set2 w (b + 1) (.int .i64 x') (.int .i64 y')
  exact ⟨h.r2.grown g (fun e => by injection e with e; omega), (h.r3.set 0 (.int .i64 x')).set 1 (.int .i64 y'), h.r4.grown g (fun e => by injection e with e; omega)⟩
theorem Thr.code {w : World} {b : Nat} {V : Value} {x y z : Int} (h : Thr w b V x y z) (z' : Int) : Thr (w.setCell ⟨b + 1 + 1, 0, none⟩ (.int .i64 z')) b V x y z' := by
  have g := only_set (only_refl w (b + 1 + 1)) 0 (.int .i64 z')
  exact ⟨h.r2.grown g (fun e => by injection e with e; omega), h.r3.grown g (fun e => by injection e with e; omega), h.r4.set 0 (.int .i64 z')⟩
theorem Thr.prog {w : World} {b : Nat} {V : Value} {x y z : Int} (h : Thr w b V x y z) (V' : Value) : Thr (w.setCell ⟨b, 0, none⟩ V') b V' x y z := by
  have g := only_set (only_refl w b) 0 V'
  exact ⟨h.r2.set 0 V', h.r3.grown g (fun e => by injection e with e; omega), h.r4.grown g (fun e => by injection e with e; omega)⟩
theorem Thr.turned {w : World} {b : Nat} {V : Value} {x y z : Int} (h : Thr w b V x y z) (x' y' z' : Int) :
    Thr (((w.setCell ⟨b + 1, 0, none⟩ (.int .i64 x')).setCell ⟨b + 1, 1, none⟩ (.int .i64 y')).setCell ⟨b + 1 + 1, 0, none⟩ (.int .i64 z')) b V x' y' z' ∧ Below b w (((w.setCell ⟨b + 1, 0, none⟩ (.int .i64 x')).setCell ⟨b + 1, 1, none⟩ (.int .i64 y')).setCell ⟨b + 1 + 1, 0, none⟩ (.int .i64 z')) := by
  refine ⟨(h.place x' y').code z', ?_⟩
  have hl := h.lt
  have g1 := only_set2 w (b + 1) (.int .i64 x') (.int .i64 y')
  have a1 := (Below.refl b w).grown g1 (by omega) (fun k e => by injection e with e; omega)
  have g2 := only_set (only_refl ((w.setCell ⟨b + 1, 0, none⟩ (.int .i64 x')).setCell ⟨b + 1, 1, none⟩ (.int .i64 y')) (b + 1 + 1)) 0 (.int .i64 z')
  exact a1.grown g2 (by have := a1.size; omega) (fun k e => by injection e with e; omega)
def allW (w : World) (b : Nat) (V : Value) (x y z : Int) : World := (((w.setCell ⟨b, 0, none⟩ V).setCell ⟨b + 1, 0, none⟩ (.int .i64 x)).setCell ⟨b + 1, 1, none⟩ (.int .i64 y)).setCell ⟨b + 1 + 1, 0, none⟩ (.int .i64 z)
theorem Thr.all {w : World} {b : Nat} {V : Value} {x y z : Int} (h : Thr w b V x y z) (V' : Value) (x' y' z' : Int) : Thr (allW w b V' x' y' z') b V' x' y' z' ∧ Below b w (allW w b V' x' y' z') ∧ (∀ q, b + 2 < q → (allW w b V' x' y' z').heap[q]? = w.heap[q]?) ∧ (allW w b V' x' y' z').heap.size = w.heap.size := by
  have hl := h.lt
  obtain ⟨k, g⟩ := (h.prog V').turned x' y' z'
  have g0 := only_set (only_refl w b) 0 V'
  have a1 := (Below.refl b w).grown g0 (by omega) (fun k e => by injection e with e; omega)
  refine ⟨k, a1.trans g, fun q hq => ?_, by simp [allW, World.setCell]⟩
  unfold allW
  rw [Below.heap_setCell _ _ _ _ (by show q ≠ b + 1 + 1; omega), Below.heap_setCell _ _ _ _ (by show q ≠ b + 1; omega), Below.heap_setCell _ _ _ _ (by show q ≠ b + 1; omega), Below.heap_setCell _ _ _ _ (by show q ≠ b; omega)]
theorem three_made (w : World) : Thr (threeW w) w.heap.size (.slice none 0 0) 0 0 0 ∧ Below w.heap.size w (threeW w) ∧ (threeW w).heap.size = w.heap.size + 3 := by
  have a1 : Row (w.alloc (.cells #[.slice none 0 0] 36)) w.heap.size 36 #[.slice none 0 0] := Row.made _ _ _
  have s1 : (w.alloc (.cells #[.slice none 0 0] 36)).heap.size = w.heap.size + 1 := by simp
  have b1 : Below w.heap.size w (w.alloc (.cells #[.slice none 0 0] 36)) := (Below.refl _ _).alloc (Nat.le_refl _) _
  obtain ⟨w1, hw1⟩ : ∃ w1, w1 = w.alloc (.cells #[.slice none 0 0] 36) := ⟨_, rfl⟩
  unfold threeW
  rw [← hw1] at a1 s1 b1 ⊢
  have a2 : Row (w1.alloc (.cells #[.int .i64 0, .int .i64 0] 58)) w1.heap.size 58 #[.int .i64 0, .int .i64 0] := Row.made _ _ _
  have s2 : (w1.alloc (.cells #[.int .i64 0, .int .i64 0] 58)).heap.size = w1.heap.size + 1 := by simp
  have b2 : Below w1.heap.size w1 (w1.alloc (.cells #[.int .i64 0, .int .i64 0] 58)) := (Below.refl _ _).alloc (Nat.le_refl _) _
  obtain ⟨w2, hw2⟩ : ∃ w2, w2 = w1.alloc (.cells #[.int .i64 0, .int .i64 0] 58) := ⟨_, rfl⟩
  rw [← hw2] at a2 s2 b2 ⊢
  have a3 : Row (w2.alloc (.cells #[.int .i64 0] 54)) w2.heap.size 54 #[.int .i64 0] := Row.made _ _ _
  have s3 : (w2.alloc (.cells #[.int .i64 0] 54)).heap.size = w2.heap.size + 1 := by simp
  have b3 : Below w2.heap.size w2 (w2.alloc (.cells #[.int .i64 0] 54)) := (Below.refl _ _).alloc (Nat.le_refl _) _
  have c1 := a1.below b2 a1.lt
  refine ⟨⟨c1.below b3 c1.lt, ?_, ?_⟩, b1.trans ((b2.mono (by omega)).trans (b3.mono (by omega))), by omega⟩
  · have := a2.below b3 a2.lt
    rw [s1] at this; exact this
  · rw [s2, s1] at a3; exact a3

set_option maxRecDepth 100000 in
set_option maxHeartbeats 1000000 in
theorem parse_no {s : T} {a : Nat} {code : Int} (hc0 : code ≠ 0) (h : lexA s 0 [] = ([], a, code)) (w : World) (hs : s.length ≤ 1000000) (he : LexEnv w) :
    Calls Tryz.prog 15 #[.string ⟨s.toArray⟩] w fun e w' => e = .returned (tripleV (.slice none 0 0) (plAt s a).1 (plAt s a).2 code) ∧ Below w.heap.size w w' := by
  obtain ⟨w3, hw3⟩ : ∃ w3, w3 = threeW w := ⟨_, rfl⟩
  obtain ⟨t3, g3, z3⟩ := three_made w
  rw [← hw3] at t3 g3 z3
  have hmf : ∀ (fn : Fn) (first cap : Array Value) (w : World), (Instr.makeFunc fn first cap).run Tryz.prog w = .ok (.func fn first cap) w := fun _ _ _ _ => rfl
  have HLX := Lib.hid (lex_no hc0 h w3 hs (he.later g3))
  obtain ⟨z1, hz1⟩ : ∃ z, z = (plAt s a).1 := ⟨_, rfl⟩
  obtain ⟨z2, hz2⟩ : ∃ z, z = (plAt s a).2 := ⟨_, rfl⟩
  unfold LexNo at HLX
  rw [← hz1, ← hz2] at HLX ⊢
  have HG3 := Lib.hid g3
  unfold threeW at hw3
  clear h he g3 hz1 hz2
  go_enter_defers Tryz.func15, Tryz.ntmps15
  go_upto_region 1 with fail
  rw [← hw3]
  clear hw3
  obtain ⟨b, hb⟩ : ∃ b, b = w.heap.size := ⟨_, rfl⟩
  rw [← hb] at z3 ⊢
  have HB := Lib.hid hb
  have HT3 : Hid (Thr w3 b (.slice none 0 0) 0 0 0) := Lib.hid (by rw [hb]; exact t3)
  clear hb t3
  go_upto_region 2 with (go_at_call 31; refine HLX.out.mono ?_; rintro e w4 ⟨rfl, hb4⟩; have HB4 := Lib.hid hb4; have HT4 := Lib.hid (HT3.out.below hb4); have c3 := HT4.out.r3.cell 0; have c3' := HT4.out.r3.cell 1; have c4 := HT4.out.r4.cell 0; have f3 := HT4.out.r3.free 0; have f3' := HT4.out.r3.free 1; have f4 := HT4.out.r4.free 0; have q4 := HT4.out.lt; simp at c3 c3' c4; clear hb4)
  clear c3 c3' c4 f3 f3' f4
  obtain ⟨k5, g5⟩ := HT4.out.turned z1 z2 code
  obtain ⟨v, hv⟩ : ∃ v, v = ((w4.setCell ⟨b + 1, 0, none⟩ (.int .i64 z1)).setCell ⟨b + 1, 1, none⟩ (.int .i64 z2)).setCell ⟨b + 1 + 1, 0, none⟩ (.int .i64 code) := ⟨_, rfl⟩
  rw [← hv] at k5 g5 ⊢
  have hcb : Below b w v := by
    have h1 := HG3.out
    rw [← HB.out] at h1
    exact h1.trans ((HB4.out.mono (by omega)).trans g5)
  have HCB := Lib.hid hcb
  have c2 := k5.r2.cell 0
  have c3 := k5.r3.cell 0
  have c3' := k5.r3.cell 1
  have c4 := k5.r4.cell 0
  have f2 := k5.r2.free 0
  have f3 := k5.r3.free 0
  have f3' := k5.r3.free 1
  have f4 := k5.r4.free 0
  have q5 := k5.lt
  simp at c2 c3 c3' c4
  have HK5 := Lib.hid k5
  clear k5 g5 hv hcb q4
  go_upto_region 3 with fail
  go_region
  all_goals go_wp2_with fail
  obtain ⟨k6, g6, _, _⟩ := HK5.out.all (.slice none 0 0) z1 z2 code
  exact ⟨_, parse_results _ b (b + 1) (b + 1 + 1) _ _ _ _ _ rfl rfl rfl k6.drew.r2 k6.drew.r3 k6.drew.r4, rfl, by rw [← HB.out]; exact (HCB.out.trans g6).drew⟩

end Go.Proofs.YtdabndiaflagpaaGreatDoor
namespace Go.Proofs.YtdabndiaflagpaaGreatDoor
open Go.RowKit

theorem PaEnv.rise {b b' : Nat} {w w' : World} (h : PaEnv b w) (hb : Below b w w') (hbb : b ≤ b') : PaEnv b' w' := by
  have hc : ∀ q i, q < b → w'.cell? ⟨q, i, none⟩ = w.cell? ⟨q, i, none⟩ := fun q i hq => World.cell?_of_block (hb.block q hq)
  refine ⟨fun n hn => ?_, fun i t hi => (hc _ _ h.lt_.2).trans (h.pre_ i t hi), Nat.lt_of_lt_of_le h.lt_.1 hbb, Nat.lt_of_lt_of_le h.lt_.2 hbb⟩
  obtain ⟨h1, q, off, c, h2, hq, h3⟩ := h.lev_ n hn
  exact ⟨(hc _ _ h.lt_.1).trans h1, q, off, c, (hc _ _ h.lt_.1).trans h2, Nat.lt_of_lt_of_le hq hbb, fun i p hi => ⟨(hc _ _ hq).trans (h3 i p hi).1, (hc _ _ hq).trans (h3 i p hi).2⟩⟩
theorem st_made {s : T} {ts : List Tk} {g c : Nat} {v : World} (hw : WFt ts) (hl : ts.length ≤ 1000000) (hc : ts.length ≤ c) (hg : g < v.heap.size) (ht : TkAt s v g 0 ts) :
    StT s (v.heap.size + 1) (v.alloc (.cells #[.slice (some ⟨g, 0, none⟩) ts.length c, .int .i64 0] 97)) v.heap.size ts 0 :=
  ⟨⟨g, 0, c, Row.made _ _ _, hc, by omega, by omega, ht.same (((Below.refl v.heap.size v).alloc (Nat.le_refl _) _).block g hg)⟩, hw, by omega, hl, by omega, by simp⟩
theorem leave_ok {s : T} {w w7 : World} {b lo : Nat} {ns : List Nd} {A : Option Addr} {c : Nat} {V : Value} {x y z : Int} (hk : Thr w7 b V x y z) (hn : NS w7 (Bt lo w7.heap.size) A ns) (hb : b = w.heap.size) (hlo : b + 2 < lo) (hw : Below b w w7) :
    Below w.heap.size w (allW w7 b (.slice A ns.length c) 0 0 0) ∧ NS (allW w7 b (.slice A ns.length c) 0 0 0) (Bt w.heap.size (allW w7 b (.slice A ns.length c) 0 0 0).heap.size) A ns ∧ Thr (allW w7 b (.slice A ns.length c) 0 0 0) b (.slice A ns.length c) 0 0 0 := by
  obtain ⟨k6, g6, g7, g8⟩ := hk.all (.slice A ns.length c) 0 0 0
  refine ⟨by rw [← hb]; exact hw.trans g6, hn.move fun q hq => ⟨⟨by have := hq.1; omega, by rw [g8]; exact hq.2⟩, g7 q (by have := hq.1; omega)⟩, k6⟩

set_option maxRecDepth 100000 in
set_option maxHeartbeats 1000000 in
theorem parse_ok {s : T} {ts : List Tk} {ns : List Nd} {L : List Tk} (h : lexA s 0 [] = (ts, 0, 0)) (hp : progF (ts.length + 1) [] ts = .ok ns L) (w : World) (hs : s.length ≤ 999999) (he : LexEnv w) (hpe : PaEnv w.heap.size w) :
    Calls Tryz.prog 15 #[.string ⟨s.toArray⟩] w fun e w' => ∃ A c, e = .returned (tripleV (.slice A ns.length c) 0 0 0) ∧ Below w.heap.size w w' ∧ NS w' (Bt w.heap.size w'.heap.size) A ns := by
  obtain ⟨w3, hw3⟩ : ∃ w3, w3 = threeW w := ⟨_, rfl⟩
  obtain ⟨t3, g3, z3⟩ := three_made w
  rw [← hw3] at t3 g3 z3
  have hmf : ∀ (fn : Fn) (first cap : Array Value) (w : World), (Instr.makeFunc fn first cap).run Tryz.prog w = .ok (.func fn first cap) w := fun _ _ _ _ => rfl
  have HLX := Lib.hid (lex_ok3 h w3 (by omega) (he.later g3))
  unfold LexOk3 at HLX
  have hwf := lexA_wf h (by omega)
  have hfew : ts.length ≤ 1000000 := by have := hwf.2; omega
  have HWF := Lib.hid hwf.1
  have HP := Lib.hid hp
  have HPE := Lib.hid hpe
  have HG3 := Lib.hid g3
  unfold threeW at hw3
  clear h he g3 hwf hp hpe
  go_enter_defers Tryz.func15, Tryz.ntmps15
  go_upto_region 1 with fail
  rw [← hw3]
  clear hw3
  obtain ⟨b, hb⟩ : ∃ b, b = w.heap.size := ⟨_, rfl⟩
  rw [← hb] at z3 ⊢
  have HB := Lib.hid hb
  have HT3 : Hid (Thr w3 b (.slice none 0 0) 0 0 0) := Lib.hid (by rw [hb]; exact t3)
  clear hb t3
  go_upto_region 2 with (go_at_call 31; refine HLX.out.mono ?_; rintro e w4 ⟨g, c, rfl, hcl, hg3, hg4, htk, hb4⟩; have HB4 := Lib.hid hb4; have HT4 := Lib.hid (HT3.out.below hb4); have c3 := HT4.out.r3.cell 0; have c3' := HT4.out.r3.cell 1; have c4 := HT4.out.r4.cell 0; have f3 := HT4.out.r3.free 0; have f3' := HT4.out.r3.free 1; have f4 := HT4.out.r4.free 0; have q4 := HT4.out.lt; simp at c3 c3' c4; have HTK := Lib.hid htk; clear hb4 htk)
  clear c3 c3' c4 f3 f3' f4
  obtain ⟨k5, g5⟩ := HT4.out.turned 0 0 0
  obtain ⟨v, hv⟩ : ∃ v, v = ((w4.setCell ⟨b + 1, 0, none⟩ (.int .i64 0)).setCell ⟨b + 1, 1, none⟩ (.int .i64 0)).setCell ⟨b + 1 + 1, 0, none⟩ (.int .i64 0) := ⟨_, rfl⟩
  have hvg : v.heap[g]? = w4.heap[g]? ∧ v.heap.size = w4.heap.size := by
    rw [hv]
    refine ⟨?_, by simp [World.setCell]⟩
    rw [Below.heap_setCell _ _ _ _ (by show g ≠ b + 1 + 1; omega), Below.heap_setCell _ _ _ _ (by show g ≠ b + 1; omega), Below.heap_setCell _ _ _ _ (by show g ≠ b + 1; omega)]
  rw [← hv] at k5 g5 ⊢
  have hcb : Below b w v := by
    have h1 := HG3.out
    rw [← HB.out] at h1
    exact h1.trans ((HB4.out.mono (by omega)).trans g5)
  have hst := st_made HWF.out hfew hcl (by rw [hvg.2]; exact hg4) (HTK.out.same hvg.1)
  have hpv : PaEnv v.heap.size (v.alloc (.cells #[.slice (some ⟨g, 0, none⟩) ts.length c, .int .i64 0] 97)) := HPE.out.rise (by rw [← HB.out]; exact hcb.trans (((Below.refl v.heap.size v).alloc (Nat.le_refl _) _).mono (by have := k5.lt; omega))) (by rw [← HB.out]; have := k5.lt; omega)
  have hpr := pProgram s (v.heap.size + 1) v.heap.size ts _ hst hpv
  rw [HP.out] at hpr
  have hk6 := k5.below ((Below.refl v.heap.size v).alloc (Nat.le_refl _) (.cells #[.slice (some ⟨g, 0, none⟩) ts.length c, .int .i64 0] 97))
  have hb6 := hcb.trans (((Below.refl v.heap.size v).alloc (Nat.le_refl _) (.cells #[.slice (some ⟨g, 0, none⟩) ts.length c, .int .i64 0] 97)).mono (by have := k5.lt; omega))
  obtain ⟨w6, hw6⟩ : ∃ w6, w6 = v.alloc (.cells #[.slice (some ⟨g, 0, none⟩) ts.length c, .int .i64 0] 97) := ⟨_, rfl⟩
  have hz6 : w6.heap.size = v.heap.size + 1 := by rw [hw6]; simp
  rw [← hw6] at hpr hk6 hb6
  have HPR := Lib.hid hpr
  have HK6 := Lib.hid hk6
  have HB6 := Lib.hid hb6
  have c4 := k5.r4.cell 0
  have q5 := k5.lt
  simp at c4
  clear hv hvg hcb hst hpv hpr hk6 hb6 k5 g5 hcl hg3 hg4 q4
  go_upto_region 6 with fail
  rw [← hw6]
  clear c4 hw6
  obtain ⟨t, ht⟩ : ∃ t, t = v.heap.size := ⟨_, rfl⟩
  rw [← ht] at HPR hz6 q5 ⊢
  clear ht
  go_wp2_with (go_at_call 33; refine HPR.out.mono ?_; intro e w7 h2; obtain ⟨u, rfl, ⟨A, c', rfl, hns⟩, g1, g2⟩ := h2.okE rfl; have hk7 := HK6.out.grown g2 (by omega); have HNS := Lib.hid hns; have HG7 := Lib.hid g2; have HK7 := Lib.hid hk7; have c2 := hk7.r2.cell 0; have c3 := hk7.r3.cell 0; have c3' := hk7.r3.cell 1; have c4 := hk7.r4.cell 0; have f2 := hk7.r2.free 0; have f3 := hk7.r3.free 0; have f3' := hk7.r3.free 1; have f4 := hk7.r4.free 0; have q7 := hk7.lt; simp at c2 c3 c3' c4; clear g1 g2 h2 hk7 hns HPR)
  refine leaves_cons (f := 32) (args := #[.pointer (some ⟨b, 0, none⟩), .pointer (some ⟨b + 1, 0, none⟩), .pointer (some ⟨b + 1 + 1, 0, none⟩)]) (by simp) (by simp [go_sem]) ?_
  refine (catchIdle _ _ _ _).mono ?_
  rintro e u' w'' ⟨rfl, rfl, rfl⟩
  obtain ⟨t1, t2, t3⟩ := leave_ok (s := s) (w := w) (c := c') HK7.out HNS.out HB.out (by omega) (HB6.out.grown HG7.out (by omega) (fun k e => by injection e with e; omega))
  exact ⟨_, parse_results _ b (b + 1) (b + 1 + 1) _ _ _ _ _ rfl rfl rfl t3.r2 t3.r3 t3.r4, A, c', rfl, t1, t2⟩
set_option maxRecDepth 100000 in
set_option maxHeartbeats 1000000 in
theorem parse_bad {s : T} {ts : List Tk} {k : Int} {a : Nat} (h : lexA s 0 [] = (ts, 0, 0)) (hp : progF (ts.length + 1) [] ts = .bad k a) (w : World) (hs : s.length ≤ 999999) (he : LexEnv w) (hpe : PaEnv w.heap.size w) :
    Calls Tryz.prog 15 #[.string ⟨s.toArray⟩] w fun e w' => e = .returned (tripleV (.slice none 0 0) (plAt s a).1 (plAt s a).2 k) ∧ Below w.heap.size w w' := by
  obtain ⟨w3, hw3⟩ : ∃ w3, w3 = threeW w := ⟨_, rfl⟩
  obtain ⟨t3, g3, z3⟩ := three_made w
  rw [← hw3] at t3 g3 z3
  have hmf : ∀ (fn : Fn) (first cap : Array Value) (w : World), (Instr.makeFunc fn first cap).run Tryz.prog w = .ok (.func fn first cap) w := fun _ _ _ _ => rfl
  have HLX := Lib.hid (lex_ok3 h w3 (by omega) (he.later g3))
  unfold LexOk3 at HLX
  have hwf := lexA_wf h (by omega)
  have hfew : ts.length ≤ 1000000 := by have := hwf.2; omega
  have HWF := Lib.hid hwf.1
  have HP := Lib.hid hp
  have HPE := Lib.hid hpe
  have HG3 := Lib.hid g3
  unfold threeW at hw3
  clear h he g3 hwf hp hpe
  go_enter_defers Tryz.func15, Tryz.ntmps15
  go_upto_region 1 with fail
  rw [← hw3]
  clear hw3
  obtain ⟨b, hb⟩ : ∃ b, b = w.heap.size := ⟨_, rfl⟩
  rw [← hb] at z3 ⊢
  have HB := Lib.hid hb
  have HT3 : Hid (Thr w3 b (.slice none 0 0) 0 0 0) := Lib.hid (by rw [hb]; exact t3)
  clear hb t3
  go_upto_region 2 with (go_at_call 31; refine HLX.out.mono ?_; rintro e w4 ⟨g, c, rfl, hcl, hg3, hg4, htk, hb4⟩; have HB4 := Lib.hid hb4; have HT4 := Lib.hid (HT3.out.below hb4); have c3 := HT4.out.r3.cell 0; have c3' := HT4.out.r3.cell 1; have c4 := HT4.out.r4.cell 0; have f3 := HT4.out.r3.free 0; have f3' := HT4.out.r3.free 1; have f4 := HT4.out.r4.free 0; have q4 := HT4.out.lt; simp at c3 c3' c4; have HTK := Lib.hid htk; clear hb4 htk)
  clear c3 c3' c4 f3 f3' f4
  obtain ⟨k5, g5⟩ := HT4.out.turned 0 0 0
  obtain ⟨v, hv⟩ : ∃ v, v = ((w4.setCell ⟨b + 1, 0, none⟩ (.int .i64 0)).setCell ⟨b + 1, 1, none⟩ (.int .i64 0)).setCell ⟨b + 1 + 1, 0, none⟩ (.int .i64 0) := ⟨_, rfl⟩
  have hvg : v.heap[g]? = w4.heap[g]? ∧ v.heap.size = w4.heap.size := by
    rw [hv]
    refine ⟨?_, by simp [World.setCell]⟩
    rw [Below.heap_setCell _ _ _ _ (by show g ≠ b + 1 + 1; omega), Below.heap_setCell _ _ _ _ (by show g ≠ b + 1; omega), Below.heap_setCell _ _ _ _ (by show g ≠ b + 1; omega)]
  rw [← hv] at k5 g5 ⊢
  have hcb : Below b w v := by
    have h1 := HG3.out
    rw [← HB.out] at h1
    exact h1.trans ((HB4.out.mono (by omega)).trans g5)
  have hst := st_made HWF.out hfew hcl (by rw [hvg.2]; exact hg4) (HTK.out.same hvg.1)
  have hpv : PaEnv v.heap.size (v.alloc (.cells #[.slice (some ⟨g, 0, none⟩) ts.length c, .int .i64 0] 97)) := HPE.out.rise (by rw [← HB.out]; exact hcb.trans (((Below.refl v.heap.size v).alloc (Nat.le_refl _) _).mono (by have := k5.lt; omega))) (by rw [← HB.out]; have := k5.lt; omega)
  have hpr := pProgram s (v.heap.size + 1) v.heap.size ts _ hst hpv
  rw [HP.out] at hpr
  have hk6 := k5.below ((Below.refl v.heap.size v).alloc (Nat.le_refl _) (.cells #[.slice (some ⟨g, 0, none⟩) ts.length c, .int .i64 0] 97))
  have hb6 := hcb.trans (((Below.refl v.heap.size v).alloc (Nat.le_refl _) (.cells #[.slice (some ⟨g, 0, none⟩) ts.length c, .int .i64 0] 97)).mono (by have := k5.lt; omega))
  obtain ⟨w6, hw6⟩ : ∃ w6, w6 = v.alloc (.cells #[.slice (some ⟨g, 0, none⟩) ts.length c, .int .i64 0] 97) := ⟨_, rfl⟩
  have hz6 : w6.heap.size = v.heap.size + 1 := by rw [hw6]; simp
  rw [← hw6] at hpr hk6 hb6
  have HPR := Lib.hid hpr
  have HK6 := Lib.hid hk6
  have HB6 := Lib.hid hb6
  have c4 := k5.r4.cell 0
  have q5 := k5.lt
  simp at c4
  clear hv hvg hcb hst hpv hpr hk6 hb6 k5 g5 hcl hg3 hg4 q4
  go_upto_region 6 with fail
  rw [← hw6]
  clear c4 hw6
  obtain ⟨t, ht⟩ : ∃ t, t = v.heap.size := ⟨_, rfl⟩
  rw [← ht] at HPR hz6 q5 ⊢
  clear ht
  go_wp2_with (go_at_call 33; refine HPR.out.mono ?_; intro e w7 h2; obtain ⟨rfl, g2⟩ := h2.badE rfl; have hk7 := HK6.out.grown g2 (by omega); have HG7 := Lib.hid g2; have HK7 := Lib.hid hk7; clear g2 h2 hk7 HPR)
  refine leaves_cons (f := 32) (args := #[.pointer (some ⟨b, 0, none⟩), .pointer (some ⟨b + 1, 0, none⟩), .pointer (some ⟨b + 1 + 1, 0, none⟩)]) (by simp) (by simp [go_sem]) ?_
  refine (catchFault b (b + 1) (b + 1 + 1) 0 0 0 (plAt s a).1 (plAt s a).2 k _ [] w7 HK7.out.r2 HK7.out.r3 HK7.out.r4 (by omega) (by omega) (by omega)).mono ?_
  rintro e u' w'' ⟨rfl, rfl, r2, r3, r4, hbb⟩
  exact ⟨_, parse_results _ b (b + 1) (b + 1 + 1) _ _ _ _ _ rfl rfl rfl r2 r3 r4, rfl, by rw [← HB.out]; exact (HB6.out.grown HG7.out (by omega) (fun k e => by injection e with e; omega)).trans (hbb b (by omega) (by omega) (by omega) (by have := HK7.out.lt; omega))⟩

end Go.Proofs.YtdabndiaflagpaaGreatDoor
