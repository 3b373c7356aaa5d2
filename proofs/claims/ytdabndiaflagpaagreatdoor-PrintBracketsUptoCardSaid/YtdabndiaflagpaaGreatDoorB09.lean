/- Parts: PsR. -/
import Derived.Test.YtdabndiaflagpaaGreatDoorB08
set_option maxRecDepth 100000
set_option maxHeartbeats 4000000
set_option linter.unusedVariables false
namespace Go.Proofs.YtdabndiaflagpaaGreatDoor
open Go.RowKit

attribute [local go_sem] Tame.Op Tame.upon Tamp.Op Tamp.upon

/-- Equations in a row of the call's own, and what stays below them. -/
structure Qs (b p B2 : Nat) (w1 : World) (acc : List Q) (v : Value) (w : World) : Prop where
  own : OwnQ B2 acc v w
  kp : Kp2 B2 b p w1 w
  hb : b < B2
  hB : B2 ≤ w1.heap.size
theorem Qs.grow {b p B2 : Nat} {w1 w w' : World} {acc : List Q} {v : Value} (h : Qs b p B2 w1 acc v w) (g : w.grownBy w' (some b)) : Qs b p B2 w1 acc v w' :=
  ⟨h.own.keep g (fun q hq => by injection hq with hq; have := h.hb; omega), h.kp.step g h.hB (fun q hq => by injection hq with hq; exact .inl hq.symm), h.hb, h.hB⟩
theorem Qs.below {b p B2 : Nat} {w1 w w' : World} {acc : List Q} {v : Value} (h : Qs b p B2 w1 acc v w) (g : Below w.heap.size w w') : Qs b p B2 w1 acc v w' := h.grow (only_below' g b)
/-- What the three writers of the round leave. -/
def ME (b p : Nat) (v : Value) (j : Nat) (a c : World) : Prop := a.grownBy c (if j = 3 then some b else if j = 5 then v.ownBlock else some p)
theorem later_dr {B : Nat} {W w2 : World} (hL : Tame.Later W.drew w2) (h : B ≤ W.heap.size) : Below B W w2 := ((Below.refl B W).drew).trans (Below.mono hL h)
theorem two_of {a b j : Nat} (h : [a, b].contains j = true) : j = a ∨ j = b := by simpa using h
theorem three_of {a b c j : Nat} (h : [a, b, c].contains j = true) : j = a ∨ j = b ∨ j = c := by simpa using h
def ghostsE (s : T) (B b p B2 : Nat) (wx w1 : World) (Li : List Tk) (acc : List Q) (Av : Option Addr) (cv : Nat) (nm : T) (v1 v2 v3 : Value) : List Tame.Ghost :=
  [⟨fun w => At s B b wx Li 0 w, [5, 7]⟩, ⟨fun w => Row w p 41 #[.string ⟨nm.toArray⟩, v1, v2, v3, .slice Av acc.length cv], [3, 5]⟩, ⟨fun w => OwnQ B2 acc (.slice Av acc.length cv) w, [3, 7]⟩, ⟨fun w => Kp2 B2 b p w1 w, [3, 5, 7]⟩]
theorem ghostsE_ok {s : T} {B b p B2 : Nat} {wx w1 w3 : World} {Li : List Tk} {acc : List Q} {Av : Option Addr} {cv : Nat} {nm : T} {v1 v2 v3 : Value} (ha : At s B b wx Li 0 w3) (hb : Bx b wx p 41 #[.string ⟨nm.toArray⟩, v1, v2, v3, .slice Av acc.length cv] w3) (hq : Qs b p B2 w1 acc (.slice Av acc.length cv) w3)
    (hpx : wx.heap.size ≤ p) (hpB : p < B2) (hB : B ≤ wx.heap.size) (_ : B2 ≤ w3.heap.size) :
    ∀ (i : Nat) (g : Tame.Ghost), (ghostsE s B b p B2 wx w1 Li acc Av cv nm v1 v2 v3)[i]? = some g → g.g w3.drew ∧ (∀ w w', Tame.Later w w' → g.g w → g.g w') ∧
      ∀ j, [3, 5, 7].contains j = true → g.keeps.contains j = true → ∀ w w', ME b p (.slice Av acc.length cv) j w w' → g.g w → g.g w' := by
  have hv := own_lt hq.own
  have hpb : b ≠ p := by have := hb.hb; omega
  intro i g hi
  rcases i with _ | _ | _ | _ | i
  · obtain rfl : (⟨fun w => At s B b wx Li 0 w, [5, 7]⟩ : Tame.Ghost) = g := by simpa [ghostsE] using hi
    refine ⟨ha.below ((Below.refl _ _).drew), fun a c hl h => h.below hl, fun j _ hj a c hs h => ?_⟩
    rcases two_of hj with rfl | rfl
    · exact h.own hs (fun q hq => by have := (hv q hq).1; omega) hB
    · exact h.own hs (fun q hq => by injection hq with hq; omega) hB
  · obtain rfl : (⟨fun w => Row w p 41 #[.string ⟨nm.toArray⟩, v1, v2, v3, .slice Av acc.length cv], [3, 5]⟩ : Tame.Ghost) = g := by simpa [ghostsE] using hi
    refine ⟨Row.drew hb.row, fun a c hl h => Row.below h hl (Row.lt h), fun j _ hj a c hs h => ?_⟩
    rcases two_of hj with rfl | rfl
    · exact Row.grown h hs (fun e => by injection e with e; omega)
    · exact Row.grown h hs (fun e => by have := (hv p e.symm).1; omega)
  · obtain rfl : (⟨fun w => OwnQ B2 acc (.slice Av acc.length cv) w, [3, 7]⟩ : Tame.Ghost) = g := by simpa [ghostsE] using hi
    refine ⟨hq.own.keep (only_below ((Below.refl _ _).drew) none) (fun q e => by cases e), fun a c hl h => h.keep (only_below hl none) (fun q e => by cases e), fun j _ hj a c hs h => ?_⟩
    rcases two_of hj with rfl | rfl
    · exact h.keep hs (fun q e => by injection e with e; have := hq.hb; omega)
    · exact h.keep hs (fun q e => by injection e with e; omega)
  · obtain rfl : (⟨fun w => Kp2 B2 b p w1 w, [3, 5, 7]⟩ : Tame.Ghost) = g := by simpa [ghostsE] using hi
    refine ⟨hq.kp.step (only_below ((Below.refl _ _).drew) none) hq.hB (fun q e => by cases e), fun a c hl h => h.step (only_below hl none) hq.hB (fun q e => by cases e), fun j _ hj a c hs h => ?_⟩
    rcases three_of hj with rfl | rfl | rfl
    · exact h.step hs hq.hB (fun q e => by injection e with e; exact .inl e.symm)
    · exact h.step hs hq.hB (fun q e => .inr (.inr (hv q e).1))
    · exact h.step hs hq.hB (fun q e => by injection e with e; exact .inr (.inl e.symm))
  · simp [ghostsE] at hi
theorem eqa_turn {s : T} {B b p : Nat} {wx : World} {L : List Tk} {B2 i : Nat} {v : Value} {q : Q} {u : Value} {w w' : World} (hj : [5, 7].contains i = true) (hs : ME b p v i w w') (h : EqA s B b wx L B2 v.ownBlock q u w) (hv : ∀ q, v.ownBlock = some q → B2 ≤ q) (hpB : p < B2) (hpx : wx.heap.size ≤ p) (hB : B ≤ wx.heap.size) : EqA s B b wx L B2 v.ownBlock q u w' := by
  rcases two_of hj with rfl | rfl
  · exact h.keep hs (fun q _ => .inr rfl) (fun q hq => by have := hv q hq; omega) hB
  · exact h.keep hs (fun q hq => by injection hq with hq; exact .inl (by omega)) (fun q hq => by injection hq with hq; omega) hB
theorem eqr_turn {b p B2 i : Nat} {v : Value} {q : Q} {u : Value} {w w' : World} (hj : [3, 5, 7].contains i = true) (hs : ME b p v i w w') (h : EqR B2 v.ownBlock q u w) (hb : b < B2) (hpB : p < B2) : EqR B2 v.ownBlock q u w' := by
  rcases three_of hj with rfl | rfl | rfl
  · exact h.keep hs (fun q hq => by injection hq with hq; exact .inl (by omega))
  · exact h.keep hs (fun q _ => .inr rfl)
  · exact h.keep hs (fun q hq => by injection hq with hq; exact .inl (by omega))
theorem eqr_made {B2 : Nat} {own : Option Nat} {q : Q} {w : World} {E1 E2 : Option Addr} {d1 d2 : Nat} (h : TS w (Sb B2 own w) E1 q.lhs ∧ KS w (Sb B2 own w) E2 q.rhs.ks ∧ q.lhs.length ≤ d1) (hB : B2 ≤ w.heap.size) (ho : some w.heap.size ≠ own) :
    EqR B2 own q (.slice (some ⟨w.heap.size, 0, none⟩) 1 1) (w.alloc (.cells (q6 q E1 d1 E2 d2) 48)) :=
  ⟨w.heap.size, E1, d1, E2, d2, rfl, Row.made _ _ _, h.1.move fun q hq => sb_keep (only_alloc (World.grownBy.refl w none) _) (fun q e => by cases e) q hq, h.2.1.move fun q hq => sb_keep (only_alloc (World.grownBy.refl w none) _) (fun q e => by cases e) q hq, h.2.2, hB, ho⟩
theorem n5_one (nm : T) (A1 : Option Addr) (l1 c1 : Nat) (A2 : Option Addr) (l2 c2 : Nat) (A3 : Option Addr) (l3 c3 : Nat) (A4 : Option Addr) (l4 c4 : Nat) : (n5 nm (.slice A1 l1 c1) (.slice A2 l2 c2) (.slice A3 l3 c3) (.slice A4 l4 c4)).all (·.oneCell') = true := by simp [n5, Value.oneCell']
theorem VS.bt {w w' : World} {lo hi lo' hi' : Nat} {A : Option Addr} {ks : List Vr} {r : Option Nat} (h : VS w (Bt lo hi) A ks) (hg : w.grownBy w' r) (hr : ∀ q, r = some q → q < lo ∨ hi ≤ q) (hl : lo' ≤ lo) (hh : hi ≤ hi') (hw : hi ≤ w.heap.size) : VS w' (Bt lo' hi') A ks :=
  h.move fun q hq => ⟨⟨by have := hq.1; omega, by have := hq.2; omega⟩, hg.block q (by have := hq.2; omega) (fun e => by have := hr q e.symm; have := hq.1; have := hq.2; omega)⟩
theorem QS.bt {w w' : World} {lo hi lo' hi' : Nat} {A : Option Addr} {ks : List Q} {r : Option Nat} (h : QS w (Bt lo hi) A ks) (hg : w.grownBy w' r) (hr : ∀ q, r = some q → q < lo ∨ hi ≤ q) (hl : lo' ≤ lo) (hh : hi ≤ hi') (hw : hi ≤ w.heap.size) : QS w' (Bt lo' hi') A ks :=
  h.move fun q hq => ⟨⟨by have := hq.1; omega, by have := hq.2; omega⟩, hg.block q (by have := hq.2; omega) (fun e => by have := hr q e.symm; have := hq.1; have := hq.2; omega)⟩
theorem node_back {s : T} {B b : Nat} {L : List Tk} {w wk : World} {nm : T} {ins outs locals : List Vr} {eqs : List Q} {A1 A2 A3 A4 : Option Addr} {c1 c2 c3 c4 : Nat} {old : Array Value} (hg : w.grownBy wk (some b)) (hp : Row wk w.heap.size 41 old) (h1 : VS wk (Bt (w.heap.size + 1) wk.heap.size) A1 ins) (h2 : VS wk (Bt (w.heap.size + 1) wk.heap.size) A2 outs) (h3 : VS wk (Bt (w.heap.size + 1) wk.heap.size) A3 locals) (h4 : QS wk (Bt (w.heap.size + 1) wk.heap.size) A4 eqs) (hs : StT s B wk b L 0) (hB : B ≤ w.heap.size) :
    w.grownBy (wk.setRow w.heap.size (n5 nm (.slice A1 ins.length c1) (.slice A2 outs.length c2) (.slice A3 locals.length c3) (.slice A4 eqs.length c4))) (some b) ∧ VS (wk.setRow w.heap.size (n5 nm (.slice A1 ins.length c1) (.slice A2 outs.length c2) (.slice A3 locals.length c3) (.slice A4 eqs.length c4))) (Bt w.heap.size (wk.setRow w.heap.size (n5 nm (.slice A1 ins.length c1) (.slice A2 outs.length c2) (.slice A3 locals.length c3) (.slice A4 eqs.length c4))).heap.size) A1 ins ∧
      VS (wk.setRow w.heap.size (n5 nm (.slice A1 ins.length c1) (.slice A2 outs.length c2) (.slice A3 locals.length c3) (.slice A4 eqs.length c4))) (Bt w.heap.size (wk.setRow w.heap.size (n5 nm (.slice A1 ins.length c1) (.slice A2 outs.length c2) (.slice A3 locals.length c3) (.slice A4 eqs.length c4))).heap.size) A2 outs ∧
      VS (wk.setRow w.heap.size (n5 nm (.slice A1 ins.length c1) (.slice A2 outs.length c2) (.slice A3 locals.length c3) (.slice A4 eqs.length c4))) (Bt w.heap.size (wk.setRow w.heap.size (n5 nm (.slice A1 ins.length c1) (.slice A2 outs.length c2) (.slice A3 locals.length c3) (.slice A4 eqs.length c4))).heap.size) A3 locals ∧
      QS (wk.setRow w.heap.size (n5 nm (.slice A1 ins.length c1) (.slice A2 outs.length c2) (.slice A3 locals.length c3) (.slice A4 eqs.length c4))) (Bt w.heap.size (wk.setRow w.heap.size (n5 nm (.slice A1 ins.length c1) (.slice A2 outs.length c2) (.slice A3 locals.length c3) (.slice A4 eqs.length c4))).heap.size) A4 eqs ∧
      StT s B (wk.setRow w.heap.size (n5 nm (.slice A1 ins.length c1) (.slice A2 outs.length c2) (.slice A3 locals.length c3) (.slice A4 eqs.length c4))) b L 0 ∧ Row (wk.setRow w.heap.size (n5 nm (.slice A1 ins.length c1) (.slice A2 outs.length c2) (.slice A3 locals.length c3) (.slice A4 eqs.length c4))) w.heap.size 41 (n5 nm (.slice A1 ins.length c1) (.slice A2 outs.length c2) (.slice A3 locals.length c3) (.slice A4 eqs.length c4)) :=
  ⟨only_far hg (grown_setRow hp) (fun q hq => by injection hq with hq; omega), h1.bt (grown_setRow hp) (fun q hq => by injection hq with hq; omega) (by omega) (by simp) (Nat.le_refl _), h2.bt (grown_setRow hp) (fun q hq => by injection hq with hq; omega) (by omega) (by simp) (Nat.le_refl _), h3.bt (grown_setRow hp) (fun q hq => by injection hq with hq; omega) (by omega) (by simp) (Nat.le_refl _), h4.bt (grown_setRow hp) (fun q hq => by injection hq with hq; omega) (by omega) (by simp) (Nat.le_refl _), hs.grown (grown_setRow hp) (fun q hq => by injection hq with hq; omega), hp.setRow _⟩

set_option maxRecDepth 100000 in
set_option maxHeartbeats 2000000 in
theorem pNode (s : T) (B b : Nat) (L : List Tk) (w : World) (h : StT s B w b L 0) (he : PaEnv b w) :
    Calls Tryz.prog 63 #[.pointer (some ⟨b, 0, none⟩)] w (PRes s b B w 0 (NdV w.heap.size) (nodeP L)) := by
  obtain ⟨R, hR⟩ : ∃ R, R = nodeP L := ⟨_, rfl⟩
  rw [← hR]
  have hbB := h.base_
  have hBw := h.room_
  obtain ⟨wx, hwx⟩ : ∃ wx, wx = w.alloc (.cells #[.string ⟨#[]⟩, .slice none 0 0, .slice none 0 0, .slice none 0 0, .slice none 0 0] 41) := ⟨_, rfl⟩
  have hbx : Below w.heap.size w wx := by rw [hwx]; exact (Below.refl _ _).alloc (Nat.le_refl _) _
  have hxz : wx.heap.size = w.heap.size + 1 := by rw [hwx]; simp
  have HXZ := Lib.hid hxz
  have HPX : Hid (Row wx w.heap.size 41 #[.string ⟨#[]⟩, .slice none 0 0, .slice none 0 0, .slice none 0 0, .slice none 0 0]) := Lib.hid (by rw [hwx]; exact Row.made _ _ _)
  have hbxx : b < wx.heap.size := by omega
  have hpb : w.heap.size ≠ b := by omega
  have HGX := Lib.hid (only_below' hbx b)
  have HA0 : Hid (At s B b wx L 0 wx) := Lib.hid (At.refl (h.later hbx) (he.grown (only_below hbx none) (by omega) (fun _ e => by cases e)))
  clear hbx hxz
  have hfew := h.few_
  obtain ⟨i0, hi0, hz0, hz1, hz2⟩ := info_parts eqn_info
  rw [nodeP_eq] at hR
  have HMM : Hid (∀ x L1 w1, x ≠ [] → StT s B w1 b L1 0 → _) := Lib.hid fun (x : T) L1 w1 hx h1 => pMust1 s B b 0 x L1 w1 h1 hx
  have hBx : B ≤ wx.heap.size := by have := HXZ.out; omega
  have HM1 : Hid (∀ w1, StT s B w1 b L 0 → Calls Tryz.prog 99 #[.pointer (some ⟨b, 0, none⟩), .slice (some ⟨w1.heap.size, 0, none⟩) 1 1] (w1.alloc (.cells #[.string ⟨(wNode : T).toArray⟩] 9)) (PRes s b B w1 0 NoV (mustP wNode L))) := Lib.hid fun w1 h1 => pMust1 s B b 0 wNode L w1 h1 (by decide)
  rcases (mustP wNode L).cases with ⟨u, L1, hE1⟩ | ⟨c, a, hE1⟩
  · rw [hE1] at hR HM1
    replace hR : R = (nmP L1).bind fun nm L => (mustP [40] L).bind fun _ L => n0 nm L := hR
    have HN : Hid (∀ w1, StT s B w1 b L1 0 → _) := Lib.hid fun w1 h1 => pName s B b 0 L1 w1 h1
    rcases (nmP L1).cases with ⟨nm, L2, hE2⟩ | ⟨c, a, hE2⟩
    · rw [hE2] at hR HN
      replace hR : R = (mustP [40] L2).bind fun _ L => n0 nm L := hR
      have HM2 : Hid (∀ w1, StT s B w1 b L2 0 → Calls Tryz.prog 99 #[.pointer (some ⟨b, 0, none⟩), .slice (some ⟨w1.heap.size, 0, none⟩) 1 1] (w1.alloc (.cells #[.string ⟨([40] : T).toArray⟩] 9)) (PRes s b B w1 0 NoV (mustP [40] L2))) := Lib.hid fun w1 h1 => pMust1 s B b 0 [40] L2 w1 h1 (by decide)
      rcases (mustP [40] L2).cases with ⟨u, L3, hE3⟩ | ⟨c, a, hE3⟩
      · rw [hE3] at hR HM2
        replace hR : R = n0 nm L3 := hR
        have HR0 := Lib.hid hR
        have HI : Hid (∀ w1, StT s B w1 b L3 0 → _) := Lib.hid fun w1 h1 => pIs s B b 0 [41] L3 w1 h1
        obtain ⟨bl, hbl⟩ : ∃ bl, bl = isP [41] L3 := ⟨_, rfl⟩
        rw [← hbl] at HI
        have HBL := Lib.hid hbl
        clear hR hE1 hE2 hE3 hbl h he
        go_enter Tryz.func63, Tryz.ntmps63
        go_upto_region 1 with fail
        rw [← hwx]
        clear hwx
        go_upto_region 2 with fail
        have HKb_0 : Hid (Bx b wx wx.heap.size 41 #[.string ⟨#[]⟩, .slice none 0 0, .slice none 0 0, .slice none 0 0, .slice none 0 0] (wx.alloc (.cells #[.string ⟨#[]⟩, .slice none 0 0, .slice none 0 0, .slice none 0 0, .slice none 0 0] 41))) := Lib.hid ⟨Row.made _ _ _, Nat.le_refl _, hbxx⟩
        replace HA0 : Hid (At s B b wx L 0 (wx.alloc (.cells #[.string ⟨#[]⟩, .slice none 0 0, .slice none 0 0, .slice none 0 0, .slice none 0 0] 41))) := Lib.hid (HA0.out.alloc _)
        have hpz0 : wx.heap.size < (wx.alloc (.cells #[.string ⟨#[]⟩, .slice none 0 0, .slice none 0 0, .slice none 0 0, .slice none 0 0] 41)).heap.size := by simp
        generalize wx.alloc (.cells #[.string ⟨#[]⟩, .slice none 0 0, .slice none 0 0, .slice none 0 0, .slice none 0 0] 41) = v0 at HKb_0 HA0 hpz0 ⊢
        obtain ⟨p, hp⟩ : ∃ p, p = wx.heap.size := ⟨_, rfl⟩
        have hbp : b < p := by omega
        have hpx : wx.heap.size ≤ p := by omega
        have HPP := Lib.hid hp
        rw [← hp] at HKb_0 hpz0 ⊢
        clear hp
        go_upto_region 4 with (first | (go_at_call 99; refine (HM1.out _ HA0.out.st).mono ?_; intro e w1 h2; obtain ⟨v, rfl, hv, g1, g2⟩ := h2.okE rfl; obtain rfl : v = .tuple #[] := hv; have HA1 := Lib.hid (HA0.out.grow g1 g2); have HKb_1 := Lib.hid (HKb_0.out.grow g2); clear g1 g2 h2 HM1) | (go_at_call 100; refine (HN.out _ HA1.out.st).mono ?_; intro e w2 h2; obtain ⟨v, rfl, hv, g1, g2⟩ := h2.okE rfl; obtain rfl : v = .string ⟨nm.toArray⟩ := hv; have hb2 := HKb_1.out.grow g2; have x0 := hb2.row.cell 0; have y0 := hb2.row.free 0; have hpz2 := hb2.row.lt; simp at x0; have HA2 : Hid (At s B b wx L2 0 (w2.setCell ⟨p, 0, none⟩ (.string ⟨nm.toArray⟩))) := Lib.hid ((HA1.out.grow g1 g2).set hpx hBx); have HKb_2 : Hid (Bx b wx p 41 #[.string ⟨nm.toArray⟩, .slice none 0 0, .slice none 0 0, .slice none 0 0, .slice none 0 0] (w2.setCell ⟨p, 0, none⟩ (.string ⟨nm.toArray⟩))) := Lib.hid (by simpa using hb2.set 0 (.string ⟨nm.toArray⟩)); clear g1 g2 h2 hb2 HN))
        clear x0 y0
        generalize w2.setCell ⟨p, 0, none⟩ (.string ⟨nm.toArray⟩) = v2 at HA2 HKb_2 ⊢
        go_upto_if 15 with (first | (go_at_call 99; refine (HM2.out _ HA2.out.st).mono ?_; intro e w3 h2; obtain ⟨v, rfl, hv, g1, g2⟩ := h2.okE rfl; obtain rfl : v = .tuple #[] := hv; have HA3 := Lib.hid (HA2.out.grow g1 g2); have HKb_3 := Lib.hid (HKb_2.out.grow g2); clear g1 g2 h2 HM2) | (go_at_call 61; refine (HI.out _ HA3.out.st).mono ?_; rintro e w4 ⟨rfl, g1⟩; have HA4 := Lib.hid (HA3.out.below g1); have HKb_4 := Lib.hid (HKb_3.out.below g1); clear g1 HI))
        go_cut [3] from 15 (fun v w' => v = .pointer (some ⟨p, 0, none⟩) ∧ NodeAt1 s B b p wx R nm w')
        case first =>
          cases bl with
          | true =>
            go_wp2_with fail
            go_meet
            case rel => exact ⟨rfl, [], none, 0, L3, by rw [HR0.out, n0, insP, if_pos HBL.out.symm]; rfl, HA4.out, HKb_4.out, Vrs.nil _ hbp⟩
          | false =>
            have HV : Hid (∀ w1, StT s B w1 b L3 0 → _) := Lib.hid fun w1 h1 => pVars s B b 0 L3 w1 h1
            have hR : R = (varsP L3).bind fun ins L => n1 nm ins L := by rw [HR0.out, n0, insP, if_neg (by rw [← HBL.out]; decide)]
            rcases (varsP L3).cases with ⟨ins, L4, hE⟩ | ⟨c, a, hE⟩
            · rw [hE] at hR HV
              have HR1 : Hid (R = n1 nm ins L4) := Lib.hid hR
              clear hR hE
              go_wp2_with (go_at_call 101; refine (HV.out _ HA4.out.st).mono ?_; intro e w5 h2; obtain ⟨v, rfl, ⟨hv, hvn⟩, g1, g2⟩ := h2.okE rfl; obtain ⟨A1, c1, rfl, _⟩ := own_slice hv; have hvr := Vrs.made hv (by have := HKb_4.out.row.lt; omega) hbp; have hb2 := HKb_4.out.grow g2; have x0 := hb2.row.cell 1; have y0 := hb2.row.free 1; have hpzz := hb2.row.lt; simp at x0; have HA5 : Hid (At s B b wx L4 0 (w5.setCell ⟨p, 1, none⟩ (.slice A1 ins.length c1))) := Lib.hid ((HA4.out.grow g1 g2).set hpx hBx); have HKb_5 : Hid (Bx b wx p 41 #[.string ⟨nm.toArray⟩, .slice A1 ins.length c1, .slice none 0 0, .slice none 0 0, .slice none 0 0] (w5.setCell ⟨p, 1, none⟩ (.slice A1 ins.length c1))) := Lib.hid (by simpa using hb2.set 1 (.slice A1 ins.length c1)); have HKi_5 : Hid (Vrs b p ins (.slice A1 ins.length c1) (w5.setCell ⟨p, 1, none⟩ (.slice A1 ins.length c1))) := Lib.hid hvr.set; clear g1 g2 h2 hb2 hv hvr HV)
              go_meet
              case rel => exact ⟨rfl, ins, A1, c1, L4, HR1.out, HA5.out, HKb_5.out, HKi_5.out⟩
            · rw [hE] at hR HV
              have HR : Hid (R = .bad c a) := Lib.hid hR
              clear hR hE
              go_wp2_with (go_at_call 101; refine (HV.out _ HA4.out.st).mono ?_; intro e w5 h2; obtain ⟨rfl, g2⟩ := h2.badE rfl; have HGB := Lib.hid (only_trans HA4.out.grown g2); clear g2 h2 HV)
              exact ⟨rfl, PRes.badI HR.out (only_trans HGX.out HGB.out) rfl⟩
        case rest =>
          obtain ⟨rfl, ins, A1, c1, L4, hR1, ha, hb, hi⟩ := hcut
          replace HA0 := Lib.hid ha
          have HKb_0 := Lib.hid hb
          have HKi_0 := Lib.hid hi
          unfold NB at HKb_0
          have s4 := ha.st.wf_
          clear ha hb hi HKb_4 HA4
          unfold n1 at hR1
          have HM3 : Hid (∀ w1, StT s B w1 b L4 0 → _) := Lib.hid fun w1 h1 => pMust3 s B b 0 [41] wReturns [40] L4 w1 h1 (by decide) (by decide) (by decide)
          rcases (mustsP [[41], wReturns, [40]] L4).cases with ⟨u, L5, hE⟩ | ⟨c, a, hE⟩
          · rw [hE] at hR1 HM3
            replace hR1 : R = (varsP L5).bind fun outs L => (mustsP [[41], [59]] L).bind fun _ L => n2 nm ins outs L := hR1
            have HV : Hid (∀ w1, StT s B w1 b L5 0 → _) := Lib.hid fun w1 h1 => pVars s B b 0 L5 w1 h1
            rcases (varsP L5).cases with ⟨outs, L6, hE2⟩ | ⟨c, a, hE2⟩
            · rw [hE2] at hR1 HV
              replace hR1 : R = (mustsP [[41], [59]] L6).bind fun _ L => n2 nm ins outs L := hR1
              have HM4 : Hid (∀ w1, StT s B w1 b L6 0 → _) := Lib.hid fun w1 h1 => pMust2 s B b 0 [41] [59] L6 w1 h1 (by decide) (by decide)
              rcases (mustsP [[41], [59]] L6).cases with ⟨u, L7, hE3⟩ | ⟨c, a, hE3⟩
              · rw [hE3] at hR1 HM4
                have HR2 : Hid (R = n2 nm ins outs L7) := Lib.hid hR1
                have HY : Hid (∀ w1, StT s B w1 b L7 0 → _) := Lib.hid fun w1 h1 => pMay s B b 0 wVar L7 w1 h1 (by decide)
                obtain ⟨bv, hbv⟩ : ∃ bv, bv = isP wVar L7 := ⟨_, rfl⟩
                rw [← hbv] at HY
                have HBV := Lib.hid hbv
                clear hR1 hE hE2 hE3 hbv s4
                go_upto_region 9 with (first | (go_at_call 99; refine (HM3.out _ HA0.out.st).mono ?_; intro e w1 h2; obtain ⟨v, rfl, hv, g1, g2⟩ := h2.okE rfl; obtain rfl : v = .tuple #[] := hv; have HA1 := Lib.hid (HA0.out.grow g1 g2); have HKb_1 := Lib.hid (HKb_0.out.grow g2); have HKi_1 := Lib.hid (HKi_0.out.grow g2); clear g1 g2 h2 HM3) | (go_at_call 101; refine (HV.out _ HA1.out.st).mono ?_; intro e w2 h2; obtain ⟨v, rfl, ⟨hv, hvn⟩, g1, g2⟩ := h2.okE rfl; obtain ⟨A2, c2, rfl, _⟩ := own_slice hv; have hvr := Vrs.made hv (by have := HKb_1.out.row.lt; omega) hbp; have hb2 := HKb_1.out.grow g2; have x0 := hb2.row.cell 2; have y0 := hb2.row.free 2; have hpzz := hb2.row.lt; simp at x0; have HA2 : Hid (At s B b wx L6 0 (w2.setCell ⟨p, 2, none⟩ (.slice A2 outs.length c2))) := Lib.hid ((HA1.out.grow g1 g2).set hpx hBx); have HKb_2 : Hid (Bx b wx p 41 #[.string ⟨nm.toArray⟩, .slice A1 ins.length c1, .slice A2 outs.length c2, .slice none 0 0, .slice none 0 0] (w2.setCell ⟨p, 2, none⟩ (.slice A2 outs.length c2))) := Lib.hid (by simpa using hb2.set 2 (.slice A2 outs.length c2)); have HKi_2 := Lib.hid ((HKi_1.out.grow g2).set (i := 2) (u := .slice A2 outs.length c2)); have HKo_2 : Hid (Vrs b p outs (.slice A2 outs.length c2) (w2.setCell ⟨p, 2, none⟩ (.slice A2 outs.length c2))) := Lib.hid hvr.set; clear g1 g2 h2 hb2 hv hvr HV))
                clear x0 y0
                generalize w2.setCell ⟨p, 2, none⟩ (.slice A2 outs.length c2) = v2 at HA2 HKb_2 HKi_2 HKo_2 ⊢
                go_upto_if 29 with (first | (go_at_call 99; refine (HM4.out _ HA2.out.st).mono ?_; intro e w3 h2; obtain ⟨v, rfl, hv, g1, g2⟩ := h2.okE rfl; obtain rfl : v = .tuple #[] := hv; have HA3 := Lib.hid (HA2.out.grow g1 g2); have HKb_3 := Lib.hid (HKb_2.out.grow g2); have HKi_3 := Lib.hid (HKi_2.out.grow g2); have HKo_3 := Lib.hid (HKo_2.out.grow g2); clear g1 g2 h2 HM4) | (go_at_call 102; refine (HY.out _ HA3.out.st).mono ?_; rintro e w4 ⟨rfl, g1, g2⟩; have HA4 := Lib.hid (HA3.out.grow g1 g2); have HKb_4 := Lib.hid (HKb_3.out.grow g2); have HKi_4 := Lib.hid (HKi_3.out.grow g2); have HKo_4 := Lib.hid (HKo_3.out.grow g2); clear g1 g2 HY))
                go_cut [3] from 29 (fun v w' => v = .pointer (some ⟨p, 0, none⟩) ∧ NodeAt2 s B b p wx R nm ins A1 c1 w')
                case first =>
                  cases bv with
                  | false =>
                    rw [if_neg (by decide)] at HA4
                    go_wp2_with fail
                    go_meet
                    case rel => exact ⟨rfl, outs, A2, c2, [], none, 0, L7, by rw [HR2.out, n2, varP, if_neg (by rw [← HBV.out]; decide)]; rfl, HA4.out, HKb_4.out, HKi_4.out, HKo_4.out, Vrs.nil _ hbp⟩
                  | true =>
                    rw [if_pos rfl] at HA4
                    have hR : R = (localsP L7.tail).bind fun locals L => n3 nm ins outs locals L := by rw [HR2.out, n2, varP, if_pos HBV.out.symm]
                    have HV2 : Hid (∀ w1, StT s B w1 b L7.tail 0 → _) := Lib.hid fun w1 h1 => pLocals s B b 0 L7.tail w1 h1
                    rcases (localsP L7.tail).cases with ⟨locals, L8, hE⟩ | ⟨c, a, hE⟩
                    · rw [hE] at hR HV2
                      have HR3 : Hid (R = n3 nm ins outs locals L8) := Lib.hid hR
                      clear hR hE
                      go_wp2_with (go_at_call 103; refine (HV2.out _ HA4.out.st).mono ?_; intro e w5 h2; obtain ⟨v, rfl, ⟨hv, hvn⟩, g1, g2⟩ := h2.okE rfl; obtain ⟨A3, c3, rfl, _⟩ := own_slice hv; have hvr := Vrs.made hv (by have := HKb_4.out.row.lt; omega) hbp; have hb2 := HKb_4.out.grow g2; have x0 := hb2.row.cell 3; have y0 := hb2.row.free 3; have hpzz := hb2.row.lt; simp at x0; have HA5 : Hid (At s B b wx L8 0 (w5.setCell ⟨p, 3, none⟩ (.slice A3 locals.length c3))) := Lib.hid ((HA4.out.grow g1 g2).set hpx hBx); have HKb_5 : Hid (Bx b wx p 41 #[.string ⟨nm.toArray⟩, .slice A1 ins.length c1, .slice A2 outs.length c2, .slice A3 locals.length c3, .slice none 0 0] (w5.setCell ⟨p, 3, none⟩ (.slice A3 locals.length c3))) := Lib.hid (by simpa using hb2.set 3 (.slice A3 locals.length c3)); have HKi_5 := Lib.hid ((HKi_4.out.grow g2).set (i := 3) (u := .slice A3 locals.length c3)); have HKo_5 := Lib.hid ((HKo_4.out.grow g2).set (i := 3) (u := .slice A3 locals.length c3)); have HKl_5 : Hid (Vrs b p locals (.slice A3 locals.length c3) (w5.setCell ⟨p, 3, none⟩ (.slice A3 locals.length c3))) := Lib.hid hvr.set; clear g1 g2 h2 hb2 hv hvr HV2)
                      go_meet
                      case rel => exact ⟨rfl, outs, A2, c2, locals, A3, c3, L8, HR3.out, HA5.out, HKb_5.out, HKi_5.out, HKo_5.out, HKl_5.out⟩
                    · rw [hE] at hR HV2
                      have HR : Hid (R = .bad c a) := Lib.hid hR
                      clear hR hE
                      go_wp2_with (go_at_call 103; refine (HV2.out _ HA4.out.st).mono ?_; intro e w5 h2; obtain ⟨rfl, g2⟩ := h2.badE rfl; have HGB := Lib.hid (only_trans HA4.out.grown g2); clear g2 h2 HV2)
                      exact ⟨rfl, PRes.badI HR.out (only_trans HGX.out HGB.out) rfl⟩
                case rest =>
                  obtain ⟨rfl, outs, A2, c2, locals, A3, c3, L8, hR3, ha, hb, hi, ho, hl⟩ := hcut
                  replace HA0 := Lib.hid ha
                  replace HKb_0 := Lib.hid hb
                  unfold NB at HKb_0
                  replace HKi_0 := Lib.hid hi
                  have HKo_0 := Lib.hid ho
                  have HKl_0 := Lib.hid hl
                  have s8 := ha.st.wf_
                  clear ha hb hi ho hl HKb_4 HA4 HKi_4 HKo_4 HA2 HKb_2 HKi_2 HKo_2
                  unfold n3 at hR3
                  have HM5 : Hid (∀ w1, StT s B w1 b L8 0 → _) := Lib.hid fun w1 h1 => pMust1 s B b 0 wLet L8 w1 h1 (by decide)
                  rcases (mustP wLet L8).cases with ⟨u, L9, hE⟩ | ⟨c, a, hE⟩
                  · rw [hE] at hR3 HM5
                    have HR4 : Hid (R = (eqsF (L9.length + 1) [] L9).bind fun eqs L => n4 nm ins outs locals eqs L) := Lib.hid hR3
                    clear hR3 hE s8
                    go_wp2_with (go_at_call 99; refine (HM5.out _ HA0.out.st).mono ?_; intro e w1 h2; obtain ⟨v, rfl, hv, g1, g2⟩ := h2.okE rfl; obtain rfl : v = .tuple #[] := hv; have HA1 := Lib.hid (HA0.out.grow g1 g2); have HKb_1 := Lib.hid (HKb_0.out.grow g2); have HKi_1 := Lib.hid (HKi_0.out.grow g2); have HKo_1 := Lib.hid (HKo_0.out.grow g2); have HKl_1 := Lib.hid (HKl_0.out.grow g2); clear g1 g2 h2 HM5)
                    obtain ⟨wl, rfl⟩ : ∃ wl, wl = w1 := ⟨w1, rfl⟩
                    have HB2 : Hid (∃ B2, B2 = wl.heap.size) := Lib.hid ⟨_, rfl⟩
                    obtain ⟨B2, hB2⟩ := HB2.out
                    have HVi : Hid (VS wl (Bt (p + 1) B2) A1 ins) := Lib.hid (by rw [hB2]; exact HKi_1.out.vs)
                    have HVo : Hid (VS wl (Bt (p + 1) B2) A2 outs) := Lib.hid (by rw [hB2]; exact HKo_1.out.vs)
                    have HVl : Hid (VS wl (Bt (p + 1) B2) A3 locals) := Lib.hid (by rw [hB2]; exact HKl_1.out.vs)
                    have hB2z : B2 ≤ wl.heap.size := by omega
                    have hpB2 : p < B2 := by rw [hB2]; exact HKb_1.out.row.lt
                    clear HB2 hB2 HKi_1 HKo_1 HKl_1 HKi_0 HKo_0 HKl_0
                    go_loopg [36] (L9.length + 1) (fun g' _ wr => ∃ (acc : List Q) (Av : Option Addr) (cv : Nat) (Li : List Tk), R = (eqsF g' acc Li).bind (fun eqs L => n4 nm ins outs locals eqs L) ∧ Li.length < g' ∧ At s B b wx Li 0 wr ∧ Bx b wx p 41 #[.string ⟨nm.toArray⟩, .slice A1 ins.length c1, .slice A2 outs.length c2, .slice A3 locals.length c3, .slice Av acc.length cv] wr ∧ Qs b p B2 wl acc (.slice Av acc.length cv) wr ∧ acc.length ≤ 1000)
                    case atStart => exact ⟨[], none, 0, L9, HR4.out, Nat.lt_succ_self _, HA1.out, HKb_1.out, ⟨OwnG.nil _ _ _ _ _ _, Kp2.refl _ _ _ _, by omega, hB2z⟩, by simp⟩
                    case round =>
                      obtain ⟨acc, Av, cv, Li, hRi, hfu, hat, hbx, hqs, hna⟩ := hrel
                      obtain ⟨fl, rfl⟩ : ∃ fl, gk = fl + 1 := ⟨gk - 1, by omega⟩
                      replace HA0 := Lib.hid hat
                      replace HKb_0 := Lib.hid hbx
                      have HKq_0 := Lib.hid hqs
                      have hwf := hat.st.wf_
                      have HWF := Lib.hid hwf
                      have HNM : Hid (∀ w1, StT s B w1 b Li 0 → _) := Lib.hid fun w1 h1 => pNamed s B b 0 Li w1 h1
                      have HIS : Hid (∀ w1, StT s B w1 b Li 0 → _) := Lib.hid fun w1 h1 => pIs s B b 0 [40] Li w1 h1
                      have HRO : Hid (∀ w1, StT s B w1 b Li 0 → _) := Lib.hid fun w1 h1 => pRoom s B b 0 acc.length Li w1 h1 hna
                      have HEQ : Hid (∀ w1, StT s B w1 b Li 0 → PaEnv b w1 → _) := Lib.hid fun w1 h1 h2 => pEquation s B b Li w1 h1 h2
                      rw [eqsF] at hRi
                      clear hat hbx hqs HA1 HKb_1 hwf
                      by_cases hk : hdK Li = 1
                      · have hd : decide (hdK Li = 1) = true := decide_eq_true hk
                        rw [if_pos (.inl hk)] at hRi
                        rw [hd] at HNM
                        clear hk hd
                        go_upto_region 14 with (go_at_call 104; refine (HNM.out _ HA0.out.st).mono ?_; rintro e w1 ⟨rfl, g1⟩; have HA1 := Lib.hid (HA0.out.below g1); have HKb_1 := Lib.hid (HKb_0.out.below g1); have HKq_1 := Lib.hid (HKq_0.out.below g1); clear g1 HNM)
                        have x4 := HKb_1.out.row.cell 4
                        have hpz := HKb_1.out.row.lt
                        simp at x4
                        by_cases hfull : 1000 ≤ acc.length
                        · rw [if_pos hfull] at hRi HRO
                          have HR : Hid (R = .bad 4 (hdF Li)) := Lib.hid hRi
                          clear hRi hfull
                          go_wp2_with (go_at_call 62; refine (HRO.out _ HA1.out.st).mono ?_; intro e w2 h2; obtain ⟨rfl, g2⟩ := h2.badE rfl; have HGB := Lib.hid (only_trans HA1.out.grown g2); clear g2 h2 HRO)
                          exact ⟨rfl, PRes.badI HR.out (only_trans HGX.out HGB.out) rfl⟩
                        · rw [if_neg hfull] at hRi HRO
                          replace hRi : R = ((eqnP Li).bind fun q L => eqsF fl (acc ++ [q]) L).bind (fun eqs L => n4 nm ins outs locals eqs L) := hRi
                          go_upto_region 15 with (go_at_call 62; refine (HRO.out _ HA1.out.st).mono ?_; intro e w2 h2; obtain ⟨v, rfl, hv, g1, g2⟩ := h2.okE rfl; obtain rfl : v = .tuple #[] := hv; have HA2 := Lib.hid (HA1.out.grow g1 g2); have HKb_2 := Lib.hid (HKb_1.out.grow g2); have HKq_2 := Lib.hid (HKq_1.out.grow g2); clear g1 g2 h2 HRO)
                          clear x4
                          rcases (eqnP Li).cases with ⟨q, L2, hE⟩ | ⟨c, a, hE⟩
                          · have hsh := eqnP_sh HWF.out _ _ hE
                            have hl2 := hsh.2
                            rw [hE] at hRi HEQ
                            have HRI : Hid (R = (eqsF fl (acc ++ [q]) L2).bind (fun eqs L => n4 nm ins outs locals eqs L)) := Lib.hid hRi
                            clear hRi hE hsh
                            have HV5 : Hid (∀ q, (Value.slice Av acc.length cv).ownBlock = some q → B2 ≤ q ∧ q < w2.heap.size) := own_lt HKq_2.out.own
                            refine Tame.wp_region_tamg (L := Tame.Later) (M := ME b p (Value.slice Av acc.length cv)) (gs := ghostsE s B b p B2 wx wl Li acc Av cv nm (.slice A1 ins.length c1) (.slice A2 outs.length c2) (.slice A3 locals.length c3)) [3, 5, 7] (by kernel_rfl) (by kernel_rfl) Tame.Later.refl (fun _ w => World.grownBy.refl w _) (ghostsE_ok HA2.out HKb_2.out HKq_2.out hpx hpB2 hBx (by have := HKb_2.out.row.lt; have := HKq_2.out.kp.size; omega)) ?_
                            repeat
                              ((first
                                | (refine Tame.walk3_known (o := ⟨some 48, _, _, _, _, _⟩) (by kernel_rfl) (fun _ => rfl) ?_; apply Exists.intro; refine ⟨fun vals w2 hG hd => ?_, ?_⟩; (focus (have r := (hG 1 _ rfl (by kernel_rfl) : Row w2 p 41 #[.string ⟨nm.toArray⟩, .slice A1 ins.length c1, .slice A2 outs.length c2, .slice A3 locals.length c3, .slice Av acc.length cv]); have u4 := r.cell 4; clear hd hG r; simp at u4; go_simp; exact Tame.Is.mk (Tame.Later.refl _))))
                                | (refine Tame.walk3_write (o := ⟨some 50, _, _, _, _, _⟩) (EqA s B b wx L2 B2 (Value.slice Av acc.length cv).ownBlock q) (none) ([5, 7]) (fun _ => rfl) (by kernel_rfl) (by kernel_rfl) (fun u a c hl h => h.keep (only_below hl none) (fun q e => by cases e) (fun q e => by cases e) hBx) (fun i _ hj u a c hs h => eqa_turn hj hs h (fun q hq => (HV5.out q hq).1) hpB2 hpx hBx) (fun vals w2 hG hd => ?_) ?_; (focus (have ha2 := (hG 0 _ rfl (by kernel_rfl) : At s B b wx Li 0 w2); have hk2 := (hG 3 _ rfl (by kernel_rfl) : Kp2 B2 b p wl w2); have ho2 := (hG 2 _ rfl (by kernel_rfl) : OwnQ B2 acc (Value.slice Av acc.length cv) w2); have HC := Lib.hid (HEQ.out w2 ha2.st ha2.env); have HA9 := Lib.hid ha2; have hk3 := hk2.size; have HO2 := Lib.hid ho2; clear hd hG ha2 hk2 ho2; go_simp; refine HC.out.mono ?_; intro e w' h2; obtain ⟨v, rfl, ⟨E1, d1, E2, d2, rfl, k1, k2, k3⟩, g1, g2⟩ := h2.okE rfl; exact ⟨_, rfl, Tame.Leaves.mk g2 ⟨HA9.out.grow g1 g2, E1, d1, E2, d2, rfl, k1.move (fun q hq => ⟨⟨by have := hq.1; omega, hq.2, fun e => by have := (own_lt HO2.out q e.symm).2; have := hq.1; omega⟩, rfl⟩), k2.move (fun q hq => ⟨⟨by have := hq.1; omega, hq.2, fun e => by have := (own_lt HO2.out q e.symm).2; have := hq.1; omega⟩, rfl⟩), k3⟩⟩)))
                                | (refine Tame.walk3_some (o := ⟨some 51, _, _, _, _, _⟩) (EqR B2 (Value.slice Av acc.length cv).ownBlock q) (none) ([3, 5, 7]) (by kernel_rfl) (fun _ => rfl) (by kernel_rfl) (fun u a c hl h => h.keep (only_below hl none) (fun q e => by cases e)) (fun i _ hj u a c hs h => eqr_turn hj hs h (by omega) hpB2) (fun vals w2 hG hd => ?_) ?_; (focus (have h1 := (hd 3 _ rfl (by kernel_rfl) rfl : EqA s B b wx L2 B2 (Value.slice Av acc.length cv).ownBlock q (vals 3) w2); have hk2 := (hG 3 _ rfl (by kernel_rfl) : Kp2 B2 b p wl w2); have hk3 := hk2.size; have ho2 := (hG 2 _ rfl (by kernel_rfl) : OwnQ B2 acc (Value.slice Av acc.length cv) w2); have HO2 := Lib.hid ho2; clear hG hd hk2 ho2; obtain ⟨ha2, E1, d1, E2, d2, hv1, k1, k2, k3⟩ := h1; have HA9 := Lib.hid (⟨k1, k2, k3⟩ : TS w2 (Sb B2 (Value.slice Av acc.length cv).ownBlock w2) E1 q.lhs ∧ KS w2 (Sb B2 (Value.slice Av acc.length cv).ownBlock w2) E2 q.rhs.ks ∧ q.lhs.length ≤ d1); clear ha2 k1 k2 k3; go_simp; exact Tame.Has.mk ((Below.refl _ _).alloc (Nat.le_refl _) _) (eqr_made HA9.out (by omega) (fun e => by have := (own_lt HO2.out _ e.symm).2; omega)))))
                                | (refine Tame.walk3_write (o := ⟨some 52, _, _, _, _, _⟩) (OwnQ B2 (acc ++ [q])) (none) ([7]) (fun _ => rfl) (by kernel_rfl) (by kernel_rfl) (fun u a c hl h => h.keep (only_below hl none) (fun q e => by cases e)) (fun i _ hj u a c hs h => by obtain rfl := one_of hj; exact h.keep hs (fun q hq => by injection hq with hq; omega)) (fun vals w2 hG hd => ?_) ?_; (focus (have hk2 := (hG 3 _ rfl (by kernel_rfl) : Kp2 B2 b p wl w2); have hk3 := hk2.size; have h1 := (hd 4 _ rfl (by kernel_rfl) rfl : EqR B2 (Value.slice Av acc.length cv).ownBlock q (vals 4) w2); have h2 := (hG 2 _ rfl (by kernel_rfl) : OwnQ B2 acc (Value.slice Av acc.length cv) w2); clear hG hd hk2; obtain ⟨g1, E1, d1, E2, d2, hv1, hr1, k1, k2, k3, k4, k5⟩ := h1; obtain ⟨cs, ho, hx⟩ := h2; exact op_append (.tmp 48) (.tmp 51) _ rfl B2 48 i0 _ 6 88 Tryz.underlying39 hi0 hz0 hz1 hz2 rfl (by omega) (by omega) (Value.slice Av acc.length cv) _ cs rfl ho g1 1 48 (q6 q E1 d1 E2 d2).toList hv1 rfl (by simpa using hr1) (lastsQ.one (w := w2) (S := Sb B2 (Value.slice Av acc.length cv).ownBlock w2) (x := q) ⟨E1, d1, E2, d2, rfl, k1, k2, k3⟩) (by omega) (by omega) (fun v' w' ho' hgr hat => ⟨hgr, OwnQ.snoc hx ho' hgr hat k1 k2 k3⟩))))
                                | (refine Tame.walk3_lays (o := ⟨none, Op.store _ _ _, _, _, _, _⟩) (fun vals w => Row w p 41 #[.string ⟨nm.toArray⟩, .slice A1 ins.length c1, .slice A2 outs.length c2, .slice A3 locals.length c3, vals 5]) none ([]) ([5]) (fun _ => rfl) (by kernel_rfl) (by kernel_rfl) (by kernel_rfl) (fun vals vals' w hh h => by rw [← hh 5 (by decide)]; exact h) (fun vals w w' hl h => Row.below h hl (Row.lt h)) (fun j hj hk => by cases hk) (fun vals w2 hG hd => ?_) ?_; (focus (have h1 := (hd 5 _ rfl (by kernel_rfl) (by kernel_rfl) : OwnQ B2 (acc ++ [q]) (vals 5) w2); have hr := (hG 1 _ rfl (by kernel_rfl) : Row w2 p 41 #[.string ⟨nm.toArray⟩, .slice A1 ins.length c1, .slice A2 outs.length c2, .slice A3 locals.length c3, .slice Av acc.length cv]); clear hG hd; obtain ⟨E1, d1, hv1, _⟩ := own_slice h1; rw [show (acc ++ [q]).length = acc.length + 1 by simp] at hv1; have HR1 := Lib.hid hr; have c4 := hr.cell 4; have f4 := hr.free 4; simp at c4; clear hr h1; go_simp; exact ⟨only_set (only_refl _ p) 4 _, HR1.out.set 4 (.slice E1 (acc.length + 1) d1)⟩)))
                                | (refine Tame.walk3_known (by kernel_rfl) (fun _ => rfl) ?_; apply Exists.intro; refine ⟨fun vals w2 hG hd => ?_, ?_⟩; (focus (go_simp; first | exact Tame.Is.mk (Tame.Later.refl _) | (rw [if_neg]; (focus exact Tame.Is.mk (Tame.Later.refl _)); omega)))))
                               simp only [Act.put, List.setIfInBounds_toArray, List.set_cons_zero, List.set_cons_succ, List.nil_append, List.cons_append, List.length_cons, List.length_nil, Nat.zero_add, Nat.reduceAdd])
                            refine Tame.walk3_end fun vals w5 hG hts => ?_
                            have HF0 : Hid (Kp2 B2 b p wl w5) := Lib.hid (hG 3 _ rfl (by kernel_rfl))
                            have HF3 : Hid (EqA s B b wx L2 B2 (Value.slice Av acc.length cv).ownBlock q (vals 3) w5) := Lib.hid (hts 3 _ rfl rfl)
                            have f5 : OwnQ B2 (acc ++ [q]) (vals 5) w5 := hts 5 _ rfl rfl
                            have f7 : Row w5 p 41 #[.string ⟨nm.toArray⟩, .slice A1 ins.length c1, .slice A2 outs.length c2, .slice A3 locals.length c3, vals 5] := hts 7 _ rfl rfl
                            obtain ⟨A7, c7, hv7, _⟩ := own_slice f5
                            rw [hv7] at f5 f7
                            have HF5 := Lib.hid f5
                            have HF7 := Lib.hid f7
                            clear f5 f7 hts hG hv7
                            go_wp2_with fail
                            go_roundg fl
                            case rel => exact ⟨acc ++ [q], A7, c7, L2, HRI.out, by omega, HF3.out.1, ⟨HF7.out, hpx, hbxx⟩, ⟨HF5.out, HF0.out, by omega, hB2z⟩, by simp; omega⟩
                            case measure => omega
                          · rw [hE] at hRi HEQ
                            have HR : Hid (R = .bad c a) := Lib.hid hRi
                            clear hRi hfull hE
                            have HST := Lib.hid HA2.out
                            refine Tamp.wp_region_tamp (Z := fun ch w' => ch = faultV s c a ∧ w2.grownBy w' (some b)) (L := Tame.Later) (fun ch a' w' hd hz => ?_) (by kernel_rfl) (by kernel_rfl) Tame.Later.refl Tame.Later.trans ?_
                            · exact ⟨hd, PRes.badI HR.out (only_trans HGX.out (only_trans HA2.out.grown hz.2)) (by rw [hz.1])⟩
                            repeat
                              ((first
                                | (refine Tamp.walk_known (o := ⟨some 48, _, _, _, _, _⟩) (fun _ => rfl) ?_; apply Exists.intro; refine ⟨fun vals wz hL hd => ?_, ?_⟩; (focus (have r := (HKb_2.out.row.drew).below hL (HKb_2.out.row.drew).lt; have u4 := r.cell 4; clear hd hL r; simp at u4; go_simp; exact Tame.Is.mk (Tame.Later.refl _))))
                                | (refine Tamp.walk_some (o := ⟨some 50, _, _, _, _, _⟩) (fun _ _ => False) (fun _ => rfl) (fun v w w' hl h => h) (fun vals wz hL hd => ?_) ?_; (focus (have hb : Below w2.heap.size w2 wz := later_dr (B := w2.heap.size) hL (Nat.le_refl w2.heap.size); have ha2 := HST.out.below hb; have HC := Lib.hid (HEQ.out wz ha2.st ha2.env); have HBB := Lib.hid hb; clear hd hL hb ha2; go_simp; refine HC.out.mono ?_; intro e w' h2; obtain ⟨rfl, g2⟩ := h2.badE rfl; exact .inr ⟨_, rfl, rfl, only_trans (only_below' HBB.out b) g2⟩)))
                                | (refine Tamp.walk_some (o := ⟨some 51, _, _, _, _, _⟩) (fun _ _ => False) (fun _ => rfl) (fun v w w' hl h => h) (fun vals wz hL hd => (hd ⟨3, .data⟩ (by simp) rfl _ rfl : False).elim) ?_)
                                | (refine Tamp.walk_some (o := ⟨some 52, _, _, _, _, _⟩) (fun _ _ => False) (fun _ => rfl) (fun v w w' hl h => h) (fun vals wz hL hd => (hd ⟨4, .data⟩ (by simp) rfl _ rfl : False).elim) ?_)
                                | (refine Tamp.walk_some (o := ⟨none, _, _, _, _, _⟩) (fun _ _ => False) (fun _ => rfl) (fun v w w' hl h => h) (fun vals wz hL hd => (hd ⟨5, .data⟩ (by simp) rfl _ rfl : False).elim) ?_)
                                | (refine Tamp.walk_known (fun _ => rfl) ?_; apply Exists.intro; refine ⟨fun vals wz hL hd => ?_, ?_⟩; (focus (go_simp; exact Tame.Is.mk (Tame.Later.refl _)))))
                               simp only [Act.put, List.setIfInBounds_toArray, List.set_cons_zero, List.set_cons_succ, List.nil_append, List.cons_append, List.length_cons, List.length_nil, Nat.zero_add, Nat.reduceAdd])
                            refine Tamp.walk_end fun vals w5 hL hts => ?_
                            exact (hts 3 _ rfl : False).elim
                      · have hd : decide (hdK Li = 1) = false := decide_eq_false hk
                        rw [hd] at HNM
                        by_cases hp : isP [40] Li = true
                        · rw [if_pos (.inr hp)] at hRi
                          rw [hp] at HIS
                          clear hk hd hp
                          go_upto_region 14 with (first | (go_at_call 104; refine (HNM.out _ HA0.out.st).mono ?_; rintro e w1 ⟨rfl, g1⟩; have HA1 := Lib.hid (HA0.out.below g1); have HKb_1 := Lib.hid (HKb_0.out.below g1); have HKq_1 := Lib.hid (HKq_0.out.below g1); clear g1 HNM) | (go_at_call 61; refine (HIS.out _ HA1.out.st).mono ?_; rintro e w2 ⟨rfl, g1⟩; have HA2 := Lib.hid (HA1.out.below g1); have HKb_2 := Lib.hid (HKb_1.out.below g1); have HKq_2 := Lib.hid (HKq_1.out.below g1); clear g1 HIS))
                          have x4 := HKb_2.out.row.cell 4
                          have hpz := HKb_2.out.row.lt
                          simp at x4
                          by_cases hfull : 1000 ≤ acc.length
                          · rw [if_pos hfull] at hRi HRO
                            have HR : Hid (R = .bad 4 (hdF Li)) := Lib.hid hRi
                            clear hRi hfull
                            go_wp2_with (go_at_call 62; refine (HRO.out _ HA2.out.st).mono ?_; intro e w3 h2; obtain ⟨rfl, g2⟩ := h2.badE rfl; have HGB := Lib.hid (only_trans HA2.out.grown g2); clear g2 h2 HRO)
                            exact ⟨rfl, PRes.badI HR.out (only_trans HGX.out HGB.out) rfl⟩
                          · rw [if_neg hfull] at hRi HRO
                            replace hRi : R = ((eqnP Li).bind fun q L => eqsF fl (acc ++ [q]) L).bind (fun eqs L => n4 nm ins outs locals eqs L) := hRi
                            go_upto_region 15 with (go_at_call 62; refine (HRO.out _ HA2.out.st).mono ?_; intro e w3 h2; obtain ⟨v, rfl, hv, g1, g2⟩ := h2.okE rfl; obtain rfl : v = .tuple #[] := hv; have HA3 := Lib.hid (HA2.out.grow g1 g2); have HKb_3 := Lib.hid (HKb_2.out.grow g2); have HKq_3 := Lib.hid (HKq_2.out.grow g2); clear g1 g2 h2 HRO)
                            clear x4
                            rcases (eqnP Li).cases with ⟨q, L2, hE⟩ | ⟨c, a, hE⟩
                            · have hsh := eqnP_sh HWF.out _ _ hE
                              have hl2 := hsh.2
                              rw [hE] at hRi HEQ
                              have HRI : Hid (R = (eqsF fl (acc ++ [q]) L2).bind (fun eqs L => n4 nm ins outs locals eqs L)) := Lib.hid hRi
                              clear hRi hE hsh
                              have HV5 : Hid (∀ q, (Value.slice Av acc.length cv).ownBlock = some q → B2 ≤ q ∧ q < w3.heap.size) := own_lt HKq_3.out.own
                              refine Tame.wp_region_tamg (L := Tame.Later) (M := ME b p (Value.slice Av acc.length cv)) (gs := ghostsE s B b p B2 wx wl Li acc Av cv nm (.slice A1 ins.length c1) (.slice A2 outs.length c2) (.slice A3 locals.length c3)) [3, 5, 7] (by kernel_rfl) (by kernel_rfl) Tame.Later.refl (fun _ w => World.grownBy.refl w _) (ghostsE_ok HA3.out HKb_3.out HKq_3.out hpx hpB2 hBx (by have := HKb_3.out.row.lt; have := HKq_3.out.kp.size; omega)) ?_
                              repeat
                                ((first
                                  | (refine Tame.walk3_known (o := ⟨some 48, _, _, _, _, _⟩) (by kernel_rfl) (fun _ => rfl) ?_; apply Exists.intro; refine ⟨fun vals w2 hG hd => ?_, ?_⟩; (focus (have r := (hG 1 _ rfl (by kernel_rfl) : Row w2 p 41 #[.string ⟨nm.toArray⟩, .slice A1 ins.length c1, .slice A2 outs.length c2, .slice A3 locals.length c3, .slice Av acc.length cv]); have u4 := r.cell 4; clear hd hG r; simp at u4; go_simp; exact Tame.Is.mk (Tame.Later.refl _))))
                                  | (refine Tame.walk3_write (o := ⟨some 50, _, _, _, _, _⟩) (EqA s B b wx L2 B2 (Value.slice Av acc.length cv).ownBlock q) (none) ([5, 7]) (fun _ => rfl) (by kernel_rfl) (by kernel_rfl) (fun u a c hl h => h.keep (only_below hl none) (fun q e => by cases e) (fun q e => by cases e) hBx) (fun i _ hj u a c hs h => eqa_turn hj hs h (fun q hq => (HV5.out q hq).1) hpB2 hpx hBx) (fun vals w2 hG hd => ?_) ?_; (focus (have ha2 := (hG 0 _ rfl (by kernel_rfl) : At s B b wx Li 0 w2); have hk2 := (hG 3 _ rfl (by kernel_rfl) : Kp2 B2 b p wl w2); have ho2 := (hG 2 _ rfl (by kernel_rfl) : OwnQ B2 acc (Value.slice Av acc.length cv) w2); have HC := Lib.hid (HEQ.out w2 ha2.st ha2.env); have HA9 := Lib.hid ha2; have hk3 := hk2.size; have HO2 := Lib.hid ho2; clear hd hG ha2 hk2 ho2; go_simp; refine HC.out.mono ?_; intro e w' h2; obtain ⟨v, rfl, ⟨E1, d1, E2, d2, rfl, k1, k2, k3⟩, g1, g2⟩ := h2.okE rfl; exact ⟨_, rfl, Tame.Leaves.mk g2 ⟨HA9.out.grow g1 g2, E1, d1, E2, d2, rfl, k1.move (fun q hq => ⟨⟨by have := hq.1; omega, hq.2, fun e => by have := (own_lt HO2.out q e.symm).2; have := hq.1; omega⟩, rfl⟩), k2.move (fun q hq => ⟨⟨by have := hq.1; omega, hq.2, fun e => by have := (own_lt HO2.out q e.symm).2; have := hq.1; omega⟩, rfl⟩), k3⟩⟩)))
                                  | (refine Tame.walk3_some (o := ⟨some 51, _, _, _, _, _⟩) (EqR B2 (Value.slice Av acc.length cv).ownBlock q) (none) ([3, 5, 7]) (by kernel_rfl) (fun _ => rfl) (by kernel_rfl) (fun u a c hl h => h.keep (only_below hl none) (fun q e => by cases e)) (fun i _ hj u a c hs h => eqr_turn hj hs h (by omega) hpB2) (fun vals w2 hG hd => ?_) ?_; (focus (have h1 := (hd 3 _ rfl (by kernel_rfl) rfl : EqA s B b wx L2 B2 (Value.slice Av acc.length cv).ownBlock q (vals 3) w2); have hk2 := (hG 3 _ rfl (by kernel_rfl) : Kp2 B2 b p wl w2); have hk3 := hk2.size; have ho2 := (hG 2 _ rfl (by kernel_rfl) : OwnQ B2 acc (Value.slice Av acc.length cv) w2); have HO2 := Lib.hid ho2; clear hG hd hk2 ho2; obtain ⟨ha2, E1, d1, E2, d2, hv1, k1, k2, k3⟩ := h1; have HA9 := Lib.hid (⟨k1, k2, k3⟩ : TS w2 (Sb B2 (Value.slice Av acc.length cv).ownBlock w2) E1 q.lhs ∧ KS w2 (Sb B2 (Value.slice Av acc.length cv).ownBlock w2) E2 q.rhs.ks ∧ q.lhs.length ≤ d1); clear ha2 k1 k2 k3; go_simp; exact Tame.Has.mk ((Below.refl _ _).alloc (Nat.le_refl _) _) (eqr_made HA9.out (by omega) (fun e => by have := (own_lt HO2.out _ e.symm).2; omega)))))
                                  | (refine Tame.walk3_write (o := ⟨some 52, _, _, _, _, _⟩) (OwnQ B2 (acc ++ [q])) (none) ([7]) (fun _ => rfl) (by kernel_rfl) (by kernel_rfl) (fun u a c hl h => h.keep (only_below hl none) (fun q e => by cases e)) (fun i _ hj u a c hs h => by obtain rfl := one_of hj; exact h.keep hs (fun q hq => by injection hq with hq; omega)) (fun vals w2 hG hd => ?_) ?_; (focus (have hk2 := (hG 3 _ rfl (by kernel_rfl) : Kp2 B2 b p wl w2); have hk3 := hk2.size; have h1 := (hd 4 _ rfl (by kernel_rfl) rfl : EqR B2 (Value.slice Av acc.length cv).ownBlock q (vals 4) w2); have h2 := (hG 2 _ rfl (by kernel_rfl) : OwnQ B2 acc (Value.slice Av acc.length cv) w2); clear hG hd hk2; obtain ⟨g1, E1, d1, E2, d2, hv1, hr1, k1, k2, k3, k4, k5⟩ := h1; obtain ⟨cs, ho, hx⟩ := h2; exact op_append (.tmp 48) (.tmp 51) _ rfl B2 48 i0 _ 6 88 Tryz.underlying39 hi0 hz0 hz1 hz2 rfl (by omega) (by omega) (Value.slice Av acc.length cv) _ cs rfl ho g1 1 48 (q6 q E1 d1 E2 d2).toList hv1 rfl (by simpa using hr1) (lastsQ.one (w := w2) (S := Sb B2 (Value.slice Av acc.length cv).ownBlock w2) (x := q) ⟨E1, d1, E2, d2, rfl, k1, k2, k3⟩) (by omega) (by omega) (fun v' w' ho' hgr hat => ⟨hgr, OwnQ.snoc hx ho' hgr hat k1 k2 k3⟩))))
                                  | (refine Tame.walk3_lays (o := ⟨none, Op.store _ _ _, _, _, _, _⟩) (fun vals w => Row w p 41 #[.string ⟨nm.toArray⟩, .slice A1 ins.length c1, .slice A2 outs.length c2, .slice A3 locals.length c3, vals 5]) none ([]) ([5]) (fun _ => rfl) (by kernel_rfl) (by kernel_rfl) (by kernel_rfl) (fun vals vals' w hh h => by rw [← hh 5 (by decide)]; exact h) (fun vals w w' hl h => Row.below h hl (Row.lt h)) (fun j hj hk => by cases hk) (fun vals w2 hG hd => ?_) ?_; (focus (have h1 := (hd 5 _ rfl (by kernel_rfl) (by kernel_rfl) : OwnQ B2 (acc ++ [q]) (vals 5) w2); have hr := (hG 1 _ rfl (by kernel_rfl) : Row w2 p 41 #[.string ⟨nm.toArray⟩, .slice A1 ins.length c1, .slice A2 outs.length c2, .slice A3 locals.length c3, .slice Av acc.length cv]); clear hG hd; obtain ⟨E1, d1, hv1, _⟩ := own_slice h1; rw [show (acc ++ [q]).length = acc.length + 1 by simp] at hv1; have HR1 := Lib.hid hr; have c4 := hr.cell 4; have f4 := hr.free 4; simp at c4; clear hr h1; go_simp; exact ⟨only_set (only_refl _ p) 4 _, HR1.out.set 4 (.slice E1 (acc.length + 1) d1)⟩)))
                                  | (refine Tame.walk3_known (by kernel_rfl) (fun _ => rfl) ?_; apply Exists.intro; refine ⟨fun vals w2 hG hd => ?_, ?_⟩; (focus (go_simp; first | exact Tame.Is.mk (Tame.Later.refl _) | (rw [if_neg]; (focus exact Tame.Is.mk (Tame.Later.refl _)); omega)))))
                                 simp only [Act.put, List.setIfInBounds_toArray, List.set_cons_zero, List.set_cons_succ, List.nil_append, List.cons_append, List.length_cons, List.length_nil, Nat.zero_add, Nat.reduceAdd])
                              refine Tame.walk3_end fun vals w5 hG hts => ?_
                              have HF0 : Hid (Kp2 B2 b p wl w5) := Lib.hid (hG 3 _ rfl (by kernel_rfl))
                              have HF3 : Hid (EqA s B b wx L2 B2 (Value.slice Av acc.length cv).ownBlock q (vals 3) w5) := Lib.hid (hts 3 _ rfl rfl)
                              have f5 : OwnQ B2 (acc ++ [q]) (vals 5) w5 := hts 5 _ rfl rfl
                              have f7 : Row w5 p 41 #[.string ⟨nm.toArray⟩, .slice A1 ins.length c1, .slice A2 outs.length c2, .slice A3 locals.length c3, vals 5] := hts 7 _ rfl rfl
                              obtain ⟨A7, c7, hv7, _⟩ := own_slice f5
                              rw [hv7] at f5 f7
                              have HF5 := Lib.hid f5
                              have HF7 := Lib.hid f7
                              clear f5 f7 hts hG hv7
                              go_wp2_with fail
                              go_roundg fl
                              case rel => exact ⟨acc ++ [q], A7, c7, L2, HRI.out, by omega, HF3.out.1, ⟨HF7.out, hpx, hbxx⟩, ⟨HF5.out, HF0.out, by omega, hB2z⟩, by simp; omega⟩
                              case measure => omega
                            · rw [hE] at hRi HEQ
                              have HR : Hid (R = .bad c a) := Lib.hid hRi
                              clear hRi hfull hE
                              have HST := Lib.hid HA3.out
                              refine Tamp.wp_region_tamp (Z := fun ch w' => ch = faultV s c a ∧ w3.grownBy w' (some b)) (L := Tame.Later) (fun ch a' w' hd hz => ?_) (by kernel_rfl) (by kernel_rfl) Tame.Later.refl Tame.Later.trans ?_
                              · exact ⟨hd, PRes.badI HR.out (only_trans HGX.out (only_trans HA3.out.grown hz.2)) (by rw [hz.1])⟩
                              repeat
                                ((first
                                  | (refine Tamp.walk_known (o := ⟨some 48, _, _, _, _, _⟩) (fun _ => rfl) ?_; apply Exists.intro; refine ⟨fun vals wz hL hd => ?_, ?_⟩; (focus (have r := (HKb_3.out.row.drew).below hL (HKb_3.out.row.drew).lt; have u4 := r.cell 4; clear hd hL r; simp at u4; go_simp; exact Tame.Is.mk (Tame.Later.refl _))))
                                  | (refine Tamp.walk_some (o := ⟨some 50, _, _, _, _, _⟩) (fun _ _ => False) (fun _ => rfl) (fun v w w' hl h => h) (fun vals wz hL hd => ?_) ?_; (focus (have hb : Below w3.heap.size w3 wz := later_dr (B := w3.heap.size) hL (Nat.le_refl w3.heap.size); have ha2 := HST.out.below hb; have HC := Lib.hid (HEQ.out wz ha2.st ha2.env); have HBB := Lib.hid hb; clear hd hL hb ha2; go_simp; refine HC.out.mono ?_; intro e w' h2; obtain ⟨rfl, g2⟩ := h2.badE rfl; exact .inr ⟨_, rfl, rfl, only_trans (only_below' HBB.out b) g2⟩)))
                                  | (refine Tamp.walk_some (o := ⟨some 51, _, _, _, _, _⟩) (fun _ _ => False) (fun _ => rfl) (fun v w w' hl h => h) (fun vals wz hL hd => (hd ⟨3, .data⟩ (by simp) rfl _ rfl : False).elim) ?_)
                                  | (refine Tamp.walk_some (o := ⟨some 52, _, _, _, _, _⟩) (fun _ _ => False) (fun _ => rfl) (fun v w w' hl h => h) (fun vals wz hL hd => (hd ⟨4, .data⟩ (by simp) rfl _ rfl : False).elim) ?_)
                                  | (refine Tamp.walk_some (o := ⟨none, _, _, _, _, _⟩) (fun _ _ => False) (fun _ => rfl) (fun v w w' hl h => h) (fun vals wz hL hd => (hd ⟨5, .data⟩ (by simp) rfl _ rfl : False).elim) ?_)
                                  | (refine Tamp.walk_known (fun _ => rfl) ?_; apply Exists.intro; refine ⟨fun vals wz hL hd => ?_, ?_⟩; (focus (go_simp; exact Tame.Is.mk (Tame.Later.refl _)))))
                                 simp only [Act.put, List.setIfInBounds_toArray, List.set_cons_zero, List.set_cons_succ, List.nil_append, List.cons_append, List.length_cons, List.length_nil, Nat.zero_add, Nat.reduceAdd])
                              refine Tamp.walk_end fun vals w5 hL hts => ?_
                              exact (hts 3 _ rfl : False).elim
                        · rw [if_neg (fun h => h.elim hk hp)] at hRi
                          have hp2 : isP [40] Li = false := by simpa using hp
                          rw [hp2] at HIS
                          replace hRi : R = n4 nm ins outs locals acc Li := hRi
                          unfold n4 at hRi
                          have HM6 : Hid (∀ w1, StT s B w1 b Li 0 → _) := Lib.hid fun w1 h1 => pMust1 s B b 0 wTel Li w1 h1 (by decide)
                          rcases (mustP wTel Li).cases with ⟨u, L10, hE⟩ | ⟨c, a, hE⟩
                          · rw [hE] at hRi HM6
                            have HR : Hid (R = .ok ⟨nm, ins, outs, locals, acc⟩ L10) := Lib.hid hRi
                            clear hRi hk hd hp hp2 hE
                            go_wp2_with (first | (go_at_call 104; refine (HNM.out _ HA0.out.st).mono ?_; rintro e w1 ⟨rfl, g1⟩; have HA1 := Lib.hid (HA0.out.below g1); have HKb_1 := Lib.hid (HKb_0.out.below g1); have HKq_1 := Lib.hid (HKq_0.out.below g1); clear g1 HNM) | (go_at_call 61; refine (HIS.out _ HA1.out.st).mono ?_; rintro e w2 ⟨rfl, g1⟩; have HA2 := Lib.hid (HA1.out.below g1); have HKb_2 := Lib.hid (HKb_1.out.below g1); have HKq_2 := Lib.hid (HKq_1.out.below g1); clear g1 HIS) | (go_at_call 99; refine (HM6.out _ HA2.out.st).mono ?_; intro e w3 h2; obtain ⟨v, rfl, hv, g1, g2⟩ := h2.okE rfl; obtain rfl : v = .tuple #[] := hv; have HA3 := Lib.hid (HA2.out.grow g1 g2); have HKb_3 := Lib.hid (HKb_2.out.grow g2); have HKq_3 := Lib.hid (HKq_2.out.grow g2); clear g1 g2 h2 HM6; have x0 := HKb_3.out.row.cell 0; have x1 := HKb_3.out.row.cell 1; have x2 := HKb_3.out.row.cell 2; have x3 := HKb_3.out.row.cell 3; have x4 := HKb_3.out.row.cell 4; have hpz := HKb_3.out.row.lt; have HROW := HA3.out.row HPX.out hpb; simp at x0 x1 x2 x3 x4) | (refine wpList_store_row (o := ⟨none, Op.store _ _ _, _, _, _, _⟩) rfl _ _ _ rfl w.heap.size (n5 nm (.slice A1 ins.length c1) (.slice A2 outs.length c2) (.slice A3 locals.length c3) (.slice Av acc.length cv)) rfl rfl _ _ HROW node_size rfl (n5_one _ _ _ _ _ _ _ _ _ _ _ _ _) ?_))
                            have hkp := HKq_3.out.kp
                            obtain ⟨A9, c9, hv9, hq9⟩ := HKq_3.out.own.qs (lo := w.heap.size + 1) (by have := HXZ.out; omega)
                            obtain ⟨rfl, rfl⟩ : A9 = Av ∧ c9 = cv := by injection hv9 with e1 _ e3; exact ⟨e1.symm, e3.symm⟩
                            obtain ⟨t1, t2, t3, t4, t5, t6, t7⟩ := node_back (nm := nm) (only_trans HGX.out HA3.out.grown) HROW (hkp.vs HVi.out hbp hB2z (lo := w.heap.size + 1) (by have := HXZ.out; omega)) (hkp.vs HVo.out hbp hB2z (lo := w.heap.size + 1) (by have := HXZ.out; omega)) (hkp.vs HVl.out hbp hB2z (lo := w.heap.size + 1) (by have := HXZ.out; omega)) hq9 HA3.out.st hBw
                            exact bodyPost_ret (results_cell_row rfl _ _ w.heap.size _ _ _ _ rfl t7 Tryz.underlying41 rfl node_size) rfl (PRes.okI HR.out t1 rfl ⟨A1, c1, A2, c2, A3, c3, A9, c9, rfl, t2, t3, t4, t5⟩ t6)
                          · rw [hE] at hRi HM6
                            have HR : Hid (R = .bad c a) := Lib.hid hRi
                            clear hRi hk hd hp hp2 hE
                            go_wp2_with (first | (go_at_call 104; refine (HNM.out _ HA0.out.st).mono ?_; rintro e w1 ⟨rfl, g1⟩; have HA1 := Lib.hid (HA0.out.below g1); have HKb_1 := Lib.hid (HKb_0.out.below g1); have HKq_1 := Lib.hid (HKq_0.out.below g1); clear g1 HNM) | (go_at_call 61; refine (HIS.out _ HA1.out.st).mono ?_; rintro e w2 ⟨rfl, g1⟩; have HA2 := Lib.hid (HA1.out.below g1); have HKb_2 := Lib.hid (HKb_1.out.below g1); have HKq_2 := Lib.hid (HKq_1.out.below g1); clear g1 HIS) | (go_at_call 99; refine (HM6.out _ HA2.out.st).mono ?_; intro e w3 h2; obtain ⟨rfl, g2⟩ := h2.badE rfl; have HGB := Lib.hid (only_trans HA2.out.grown g2); clear g2 h2 HM6))
                            exact ⟨rfl, PRes.badI HR.out (only_trans HGX.out HGB.out) rfl⟩
                  · rw [hE] at hR3 HM5
                    have HR : Hid (R = .bad c a) := Lib.hid hR3
                    clear hR3 hE s8
                    go_wp2_with (go_at_call 99; refine (HM5.out _ HA0.out.st).mono ?_; intro e w1 h2; obtain ⟨rfl, g2⟩ := h2.badE rfl; have HGB := Lib.hid (only_trans HA0.out.grown g2); clear g2 h2 HM5)
                    exact ⟨rfl, PRes.badI HR.out (only_trans HGX.out HGB.out) rfl⟩
              · rw [hE3] at hR1 HM4
                have HR : Hid (R = .bad c a) := Lib.hid hR1
                clear hR1 hE hE2 hE3 s4
                go_upto_region 9 with (first | (go_at_call 99; refine (HM3.out _ HA0.out.st).mono ?_; intro e w1 h2; obtain ⟨v, rfl, hv, g1, g2⟩ := h2.okE rfl; obtain rfl : v = .tuple #[] := hv; have HA1 := Lib.hid (HA0.out.grow g1 g2); have HKb_1 := Lib.hid (HKb_0.out.grow g2); have HKi_1 := Lib.hid (HKi_0.out.grow g2); clear g1 g2 h2 HM3) | (go_at_call 101; refine (HV.out _ HA1.out.st).mono ?_; intro e w2 h2; obtain ⟨v, rfl, ⟨hv, hvn⟩, g1, g2⟩ := h2.okE rfl; obtain ⟨A2, c2, rfl, _⟩ := own_slice hv; have hvr := Vrs.made hv (by have := HKb_1.out.row.lt; omega) hbp; have hb2 := HKb_1.out.grow g2; have x0 := hb2.row.cell 2; have y0 := hb2.row.free 2; have hpzz := hb2.row.lt; simp at x0; have HA2 : Hid (At s B b wx L6 0 (w2.setCell ⟨p, 2, none⟩ (.slice A2 outs.length c2))) := Lib.hid ((HA1.out.grow g1 g2).set hpx hBx); have HKb_2 : Hid (Bx b wx p 41 #[.string ⟨nm.toArray⟩, .slice A1 ins.length c1, .slice A2 outs.length c2, .slice none 0 0, .slice none 0 0] (w2.setCell ⟨p, 2, none⟩ (.slice A2 outs.length c2))) := Lib.hid (by simpa using hb2.set 2 (.slice A2 outs.length c2)); have HKi_2 := Lib.hid ((HKi_1.out.grow g2).set (i := 2) (u := .slice A2 outs.length c2)); have HKo_2 : Hid (Vrs b p outs (.slice A2 outs.length c2) (w2.setCell ⟨p, 2, none⟩ (.slice A2 outs.length c2))) := Lib.hid hvr.set; clear g1 g2 h2 hb2 hv hvr HV))
                clear x0 y0
                generalize w2.setCell ⟨p, 2, none⟩ (.slice A2 outs.length c2) = v2 at HA2 HKb_2 HKi_2 HKo_2 ⊢
                go_wp2_with (go_at_call 99; refine (HM4.out _ HA2.out.st).mono ?_; intro e w3 h2; obtain ⟨rfl, g2⟩ := h2.badE rfl; have HGB := Lib.hid (only_trans HA2.out.grown g2); clear g2 h2 HM4)
                exact ⟨rfl, PRes.badI HR.out (only_trans HGX.out HGB.out) rfl⟩
            · rw [hE2] at hR1 HV
              have HR : Hid (R = .bad c a) := Lib.hid hR1
              clear hR1 hE hE2 s4
              go_wp2_with (first | (go_at_call 99; refine (HM3.out _ HA0.out.st).mono ?_; intro e w1 h2; obtain ⟨v, rfl, hv, g1, g2⟩ := h2.okE rfl; obtain rfl : v = .tuple #[] := hv; have HA1 := Lib.hid (HA0.out.grow g1 g2); have HKb_1 := Lib.hid (HKb_0.out.grow g2); have HKi_1 := Lib.hid (HKi_0.out.grow g2); clear g1 g2 h2 HM3) | (go_at_call 101; refine (HV.out _ HA1.out.st).mono ?_; intro e w2 h2; obtain ⟨rfl, g2⟩ := h2.badE rfl; have HGB := Lib.hid (only_trans HA1.out.grown g2); clear g2 h2 HV))
              exact ⟨rfl, PRes.badI HR.out (only_trans HGX.out HGB.out) rfl⟩
          · rw [hE] at hR1 HM3
            have HR : Hid (R = .bad c a) := Lib.hid hR1
            clear hR1 hE s4
            go_wp2_with (go_at_call 99; refine (HM3.out _ HA0.out.st).mono ?_; intro e w1 h2; obtain ⟨rfl, g2⟩ := h2.badE rfl; have HGB := Lib.hid (only_trans HA0.out.grown g2); clear g2 h2 HM3)
            exact ⟨rfl, PRes.badI HR.out (only_trans HGX.out HGB.out) rfl⟩
      · rw [hE3] at hR HM2
        have HR : Hid (R = .bad c a) := Lib.hid hR
        clear hR hE1 hE2 hE3 h he
        go_enter Tryz.func63, Tryz.ntmps63
        go_upto_region 1 with fail
        rw [← hwx]
        clear hwx
        go_upto_region 2 with fail
        have HKb_0 : Hid (Bx b wx wx.heap.size 41 #[.string ⟨#[]⟩, .slice none 0 0, .slice none 0 0, .slice none 0 0, .slice none 0 0] (wx.alloc (.cells #[.string ⟨#[]⟩, .slice none 0 0, .slice none 0 0, .slice none 0 0, .slice none 0 0] 41))) := Lib.hid ⟨Row.made _ _ _, Nat.le_refl _, hbxx⟩
        replace HA0 : Hid (At s B b wx L 0 (wx.alloc (.cells #[.string ⟨#[]⟩, .slice none 0 0, .slice none 0 0, .slice none 0 0, .slice none 0 0] 41))) := Lib.hid (HA0.out.alloc _)
        have hpz0 : wx.heap.size < (wx.alloc (.cells #[.string ⟨#[]⟩, .slice none 0 0, .slice none 0 0, .slice none 0 0, .slice none 0 0] 41)).heap.size := by simp
        generalize wx.alloc (.cells #[.string ⟨#[]⟩, .slice none 0 0, .slice none 0 0, .slice none 0 0, .slice none 0 0] 41) = v0 at HKb_0 HA0 hpz0 ⊢
        obtain ⟨p, hp⟩ : ∃ p, p = wx.heap.size := ⟨_, rfl⟩
        have hbp : b < p := by omega
        have hpx : wx.heap.size ≤ p := by omega
        have HPP := Lib.hid hp
        rw [← hp] at HKb_0 hpz0 ⊢
        clear hp
        go_upto_region 4 with (first | (go_at_call 99; refine (HM1.out _ HA0.out.st).mono ?_; intro e w1 h2; obtain ⟨v, rfl, hv, g1, g2⟩ := h2.okE rfl; obtain rfl : v = .tuple #[] := hv; have HA1 := Lib.hid (HA0.out.grow g1 g2); have HKb_1 := Lib.hid (HKb_0.out.grow g2); clear g1 g2 h2 HM1) | (go_at_call 100; refine (HN.out _ HA1.out.st).mono ?_; intro e w2 h2; obtain ⟨v, rfl, hv, g1, g2⟩ := h2.okE rfl; obtain rfl : v = .string ⟨nm.toArray⟩ := hv; have hb2 := HKb_1.out.grow g2; have x0 := hb2.row.cell 0; have y0 := hb2.row.free 0; have hpz2 := hb2.row.lt; simp at x0; have HA2 : Hid (At s B b wx L2 0 (w2.setCell ⟨p, 0, none⟩ (.string ⟨nm.toArray⟩))) := Lib.hid ((HA1.out.grow g1 g2).set hpx hBx); have HKb_2 : Hid (Bx b wx p 41 #[.string ⟨nm.toArray⟩, .slice none 0 0, .slice none 0 0, .slice none 0 0, .slice none 0 0] (w2.setCell ⟨p, 0, none⟩ (.string ⟨nm.toArray⟩))) := Lib.hid (by simpa using hb2.set 0 (.string ⟨nm.toArray⟩)); clear g1 g2 h2 hb2 HN))
        clear x0 y0
        generalize w2.setCell ⟨p, 0, none⟩ (.string ⟨nm.toArray⟩) = v2 at HA2 HKb_2 ⊢
        go_wp2_with (go_at_call 99; refine (HM2.out _ HA2.out.st).mono ?_; intro e w3 h2; obtain ⟨rfl, g2⟩ := h2.badE rfl; have HGB := Lib.hid (only_trans HA2.out.grown g2); clear g2 h2 HM2)
        exact ⟨rfl, PRes.badI HR.out (only_trans HGX.out HGB.out) rfl⟩
    · rw [hE2] at hR HN
      have HR : Hid (R = .bad c a) := Lib.hid hR
      clear hR hE1 hE2 h he
      go_enter Tryz.func63, Tryz.ntmps63
      go_upto_region 1 with fail
      rw [← hwx]
      clear hwx
      go_upto_region 2 with fail
      have HKb_0 : Hid (Bx b wx wx.heap.size 41 #[.string ⟨#[]⟩, .slice none 0 0, .slice none 0 0, .slice none 0 0, .slice none 0 0] (wx.alloc (.cells #[.string ⟨#[]⟩, .slice none 0 0, .slice none 0 0, .slice none 0 0, .slice none 0 0] 41))) := Lib.hid ⟨Row.made _ _ _, Nat.le_refl _, hbxx⟩
      replace HA0 : Hid (At s B b wx L 0 (wx.alloc (.cells #[.string ⟨#[]⟩, .slice none 0 0, .slice none 0 0, .slice none 0 0, .slice none 0 0] 41))) := Lib.hid (HA0.out.alloc _)
      have hpz0 : wx.heap.size < (wx.alloc (.cells #[.string ⟨#[]⟩, .slice none 0 0, .slice none 0 0, .slice none 0 0, .slice none 0 0] 41)).heap.size := by simp
      generalize wx.alloc (.cells #[.string ⟨#[]⟩, .slice none 0 0, .slice none 0 0, .slice none 0 0, .slice none 0 0] 41) = v0 at HKb_0 HA0 hpz0 ⊢
      obtain ⟨p, hp⟩ : ∃ p, p = wx.heap.size := ⟨_, rfl⟩
      have hbp : b < p := by omega
      have hpx : wx.heap.size ≤ p := by omega
      have HPP := Lib.hid hp
      rw [← hp] at HKb_0 hpz0 ⊢
      clear hp
      go_wp2_with (first | (go_at_call 99; refine (HM1.out _ HA0.out.st).mono ?_; intro e w1 h2; obtain ⟨v, rfl, hv, g1, g2⟩ := h2.okE rfl; obtain rfl : v = .tuple #[] := hv; have HA1 := Lib.hid (HA0.out.grow g1 g2); have HKb_1 := Lib.hid (HKb_0.out.grow g2); clear g1 g2 h2 HM1) | (go_at_call 100; refine (HN.out _ HA1.out.st).mono ?_; intro e w2 h2; obtain ⟨rfl, g2⟩ := h2.badE rfl; have HGB := Lib.hid (only_trans HA1.out.grown g2); clear g2 h2 HN))
      exact ⟨rfl, PRes.badI HR.out (only_trans HGX.out HGB.out) rfl⟩
  · rw [hE1] at hR HM1
    have HR : Hid (R = .bad c a) := Lib.hid hR
    clear hR hE1 h he
    go_enter Tryz.func63, Tryz.ntmps63
    go_upto_region 1 with fail
    rw [← hwx]
    clear hwx
    go_upto_region 2 with fail
    have HKb_0 : Hid (Bx b wx wx.heap.size 41 #[.string ⟨#[]⟩, .slice none 0 0, .slice none 0 0, .slice none 0 0, .slice none 0 0] (wx.alloc (.cells #[.string ⟨#[]⟩, .slice none 0 0, .slice none 0 0, .slice none 0 0, .slice none 0 0] 41))) := Lib.hid ⟨Row.made _ _ _, Nat.le_refl _, hbxx⟩
    replace HA0 : Hid (At s B b wx L 0 (wx.alloc (.cells #[.string ⟨#[]⟩, .slice none 0 0, .slice none 0 0, .slice none 0 0, .slice none 0 0] 41))) := Lib.hid (HA0.out.alloc _)
    have hpz0 : wx.heap.size < (wx.alloc (.cells #[.string ⟨#[]⟩, .slice none 0 0, .slice none 0 0, .slice none 0 0, .slice none 0 0] 41)).heap.size := by simp
    generalize wx.alloc (.cells #[.string ⟨#[]⟩, .slice none 0 0, .slice none 0 0, .slice none 0 0, .slice none 0 0] 41) = v0 at HKb_0 HA0 hpz0 ⊢
    obtain ⟨p, hp⟩ : ∃ p, p = wx.heap.size := ⟨_, rfl⟩
    have hbp : b < p := by omega
    have hpx : wx.heap.size ≤ p := by omega
    have HPP := Lib.hid hp
    rw [← hp] at HKb_0 hpz0 ⊢
    clear hp
    go_wp2_with (go_at_call 99; refine (HM1.out _ HA0.out.st).mono ?_; intro e w1 h2; obtain ⟨rfl, g2⟩ := h2.badE rfl; have HGB := Lib.hid (only_trans HA0.out.grown g2); clear g2 h2 HM1)
    exact ⟨rfl, PRes.badI HR.out (only_trans HGX.out HGB.out) rfl⟩

end Go.Proofs.YtdabndiaflagpaaGreatDoor
