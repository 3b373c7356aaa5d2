/- DERIVED. The document's Print whole. -/
import Derived.Test.YtfajnflfonechaaDoorRf
import Derived.Test.YtfajnflfonechaaDoorTp
import Derived.Test.YtfajnflfonechaaDoorRi
import Derived.Test.YtfajnflfonechaaDoorPq
namespace Go.Proofs.YtfajnflfonechaaDoor
open Go.RowKit
attribute [local go_sem] Tame.Op Tame.upon

def tyV : Array Value := #[.string ⟨#[58, 32, 105, 110, 116]⟩, .string ⟨#[58, 32, 98, 111, 111, 108]⟩]
def TyR (v : Value) (w : World) : Prop := ∃ g, v = .slice (some ⟨g, 0, none⟩) 2 2 ∧ Row w g 9 tyV
theorem TyR.later {v : Value} {w w' : World} (h : TyR v w) (hl : Tame.Later w w') : TyR v w' := by
  obtain ⟨g, hv, hr⟩ := h
  exact ⟨g, hv, Row.below hr hl hr.lt⟩
def TyP (i : Nat) (v : Value) (w : World) : Prop := ∃ g, v = .pointer (some ⟨g, i, none⟩) ∧ Row w g 9 tyV
theorem TyP.later {i : Nat} {v : Value} {w w' : World} (h : TyP i v w) (hl : Tame.Later w w') : TyP i v w' := by
  obtain ⟨g, hv, hr⟩ := h
  exact ⟨g, hv, Row.below hr hl hr.lt⟩
theorem tyV_at {q : Nat} (h : q < 2) : tyV[q]? = some (.string ⟨([58, 32] ++ typL.getD q [] : T).toArray⟩) := by
  have : q = 0 ∨ q = 1 := by omega
  rcases this with rfl | rfl <;> rfl

set_option maxRecDepth 100000 in
set_option maxHeartbeats 2000000 in
theorem refVarTx_any (l : List Vr) (A : Option Addr) (c : Nat) (w : World) (S : Nat → Prop) (hl : shortV l) (hA : VS w S A l) (hS : ∀ q, S q → q < w.heap.size) :
    Calls Tryd.prog 34 #[.slice A l.length c] w fun e w' => e = .returned (.string ⟨(varsS l).toArray⟩) ∧ Below w.heap.size w w' := by
  have HLN := Lib.hid hl
  have hlen := hl.1
  have HAA := Lib.hid hA
  have HS := Lib.hid hS
  have HVL : Hid (∀ i, (sepS [59, 32] ((l.map varT).take i)).length ≤ 68000) := Lib.hid fun i => by
    rw [← List.map_take]
    exact varsS_len (shortV_take hl i)
  clear hl hA hS
  go_enter Tryd.func34, Tryd.ntmps34
  go_wp2_with fail
  go_loopg [3, 4] l.length (fun g' sv k wr => ∃ i : Nat, i + g' = l.length ∧ k = .int .i64 (i : Int) ∧ sv = .string ⟨(sepS [59, 32] ((l.map varT).take i)).toArray⟩ ∧ Below w.heap.size w wr)
  case atStart => exact ⟨0, by omega, rfl, rfl, Below.refl _ _⟩
  case round =>
    obtain ⟨i, hi, rfl, rfl, hbel⟩ := hrel
    have HBL := Lib.hid hbel
    have hvl := HVL.out i
    obtain ⟨pre, hpre⟩ : ∃ pre, pre = sepS [59, 32] ((l.map varT).take i) := ⟨_, rfl⟩
    have HPRE := Lib.hid hpre
    rw [← hpre] at hvl ⊢
    clear hbel hpre
    by_cases hil : i < l.length
    · obtain ⟨v, hv⟩ : ∃ v, l[i]? = some v := ⟨_, List.getElem?_eq_getElem hil⟩
      obtain ⟨hnl, ht0, ht1⟩ := HLN.out.2 v (List.mem_of_getElem? hv)
      have HSN := Lib.hid (sepS_snoc (sep := [59, 32]) (ts := l.map varT) (i := i) (t := varT v) (by rw [List.getElem?_map, hv]; rfl))
      obtain ⟨q, hq⟩ : ∃ q : Nat, v.type = (q : Int) := ⟨v.type.toNat, by omega⟩
      have hq2 : q < 2 := by omega
      have hqi : (q : Int) < 2 := by omega
      have HTY := Lib.hid (tyV_at hq2)
      have htl := typL_len q
      have HVT : Hid (varT v = v.name ++ ([58, 32] ++ typL.getD q [])) := Lib.hid (by unfold varT; rw [hq]; rfl)
      obtain ⟨b, off, hA, hSb, c0, c1⟩ := Rw.at (HAA.out.move (stay HS.out HBL.out)) hv
      have hbw : b < wr.heap.size := Nat.lt_of_lt_of_le (HS.out b hSb) HBL.out.size
      rw [hq] at c1
      obtain ⟨nm, hnm⟩ : ∃ nm, nm = v.name := ⟨_, rfl⟩
      rw [← hnm] at c0 hnl HVT
      obtain ⟨ty, hty⟩ : ∃ ty : T, ty = [58, 32] ++ typL.getD q [] := ⟨_, rfl⟩
      have htyl : ty.length ≤ 6 := by rw [hty]; simp only [List.length_append, List.length_cons, List.length_nil]; omega
      rw [← hty] at HTY HVT
      have E0 := Lib.hid c0
      have E1 := Lib.hid c1
      subst hA
      clear hv ht0 ht1 hq hnm hty c0 c1 hSb htl
      by_cases hi0 : i = 0
      · subst hi0
        have HNX : Hid (sepS [59, 32] ((l.map varT).take (0 + 1)) = pre ++ (nm ++ ty)) := Lib.hid (by rw [HSN.out, HVT.out, HPRE.out, if_pos rfl]; simp)
        go_upto_region 7 with fail
        refine Tame.wp_region_tame (by kernel_rfl) (by kernel_rfl) Tame.Later.refl Tame.Later.trans ?_
        repeat
          ((first
            | (refine Tame.walk_known (o := ⟨some 20, _, _, _, _, _⟩) (fun _ => rfl) ?_; apply Exists.intro; refine ⟨fun vals w2 hL hd => ?_, ?_⟩; (focus (have hb2 : Below wr.heap.size wr w2 := later_drew' hL (Nat.le_refl _); have e0 := (hb2.cell (p := ⟨b, off + 0 * 2, none⟩) (by show b < _; omega)).trans E0.out; (try simp at e0); clear hd hL hb2; go_simp; exact Tame.Is.mk (Tame.Later.refl _))))
            | (refine Tame.walk_known (o := ⟨some 27, _, _, _, _, _⟩) (fun _ => rfl) ?_; apply Exists.intro; refine ⟨fun vals w2 hL hd => ?_, ?_⟩; (focus (have hb2 : Below wr.heap.size wr w2 := later_drew' hL (Nat.le_refl _); have e0 := (hb2.cell (p := ⟨b, off + 0 * 2 + 1, none⟩) (by show b < _; omega)).trans E1.out; (try simp at e0); clear hd hL hb2; go_simp; exact Tame.Is.mk (Tame.Later.refl _))))
            | (refine Tame.walk_some (o := ⟨some 22, _, _, _, _, _⟩) (TyR) (fun _ => rfl) (fun v w w' hl h => h.later hl) (fun vals w2 hL hd => ?_) ?_; (focus (clear hd hL; go_simp; exact Tame.Has.mk ((Below.refl _ _).alloc (Nat.le_refl _) _) ⟨_, rfl, Row.made w2 _ _⟩)))
            | (refine Tame.walk_some (o := ⟨some 28, _, _, _, _, _⟩) (TyP q) (fun _ => rfl) (fun v w w' hl h => h.later hl) (fun vals w2 hL hd => ?_) ?_; (focus (have hn : TyR (vals 7) w2 := hd ⟨7, .data⟩ (by simp) rfl _ rfl; clear hd hL; obtain ⟨g3, hv, hr⟩ := hn; have HRR := Lib.hid hr; clear hr; go_simp; exact Tame.Has.mk (Tame.Later.refl _) ⟨g3, rfl, HRR.out⟩)))
            | (refine Tame.walk_known (o := ⟨some 29, _, _, _, _, _⟩) (fun _ => rfl) ?_; apply Exists.intro; refine ⟨fun vals w2 hL hd => ?_, ?_⟩; (focus (have hn : TyP q (vals 13) w2 := hd ⟨13, .data⟩ (by simp) rfl _ rfl; clear hd hL; obtain ⟨g3, hv, hr⟩ := hn; have p0 := hr.cell q; rw [HTY.out] at p0; clear hr; go_simp; exact Tame.Is.mk (Tame.Later.refl _))))
            | (refine Tame.walk_known (fun _ => rfl) ?_; apply Exists.intro; refine ⟨fun vals w2 hL hd => ?_, ?_⟩; (focus (go_simp; first | exact Tame.Is.mk (Tame.Later.refl _) | (rw [if_neg]; (focus exact Tame.Is.mk (Tame.Later.refl _)); omega)))))
           simp only [Act.put, List.setIfInBounds_toArray, List.set_cons_zero, List.set_cons_succ, List.nil_append, List.cons_append, List.length_cons, List.length_nil, Nat.zero_add, Nat.reduceAdd])
        refine Tame.walk_end fun vals w2 hL _ => ?_
        have HB2 : Hid (Below wr.heap.size wr w2) := Lib.hid (later_drew' hL (Nat.le_refl _))
        clear hL
        go_wp2_with fail
        go_roundg (l.length - (0 + 1))
        case rel => exact ⟨0 + 1, by omega, by go_num, by rw [str_app2, str_app2, HNX.out, List.append_assoc], HBL.out.trans (HB2.out.mono HBL.out.size)⟩
        case measure => omega
      · have hi1 : (0 : Int) < (i : Int) := by omega
        have HNX : Hid (sepS [59, 32] ((l.map varT).take (i + 1)) = ((pre ++ [59, 32]) ++ nm) ++ ty) := Lib.hid (by rw [HSN.out, HVT.out, HPRE.out, if_neg hi0]; simp)
        clear hi0
        go_upto_region 7 with fail
        refine Tame.wp_region_tame (by kernel_rfl) (by kernel_rfl) Tame.Later.refl Tame.Later.trans ?_
        repeat
          ((first
            | (refine Tame.walk_known (o := ⟨some 20, _, _, _, _, _⟩) (fun _ => rfl) ?_; apply Exists.intro; refine ⟨fun vals w2 hL hd => ?_, ?_⟩; (focus (have hb2 : Below wr.heap.size wr w2 := later_drew' hL (Nat.le_refl _); have e0 := (hb2.cell (p := ⟨b, off + i * 2, none⟩) (by show b < _; omega)).trans E0.out; (try simp at e0); clear hd hL hb2; go_simp; exact Tame.Is.mk (Tame.Later.refl _))))
            | (refine Tame.walk_known (o := ⟨some 27, _, _, _, _, _⟩) (fun _ => rfl) ?_; apply Exists.intro; refine ⟨fun vals w2 hL hd => ?_, ?_⟩; (focus (have hb2 : Below wr.heap.size wr w2 := later_drew' hL (Nat.le_refl _); have e0 := (hb2.cell (p := ⟨b, off + i * 2 + 1, none⟩) (by show b < _; omega)).trans E1.out; (try simp at e0); clear hd hL hb2; go_simp; exact Tame.Is.mk (Tame.Later.refl _))))
            | (refine Tame.walk_some (o := ⟨some 22, _, _, _, _, _⟩) (TyR) (fun _ => rfl) (fun v w w' hl h => h.later hl) (fun vals w2 hL hd => ?_) ?_; (focus (clear hd hL; go_simp; exact Tame.Has.mk ((Below.refl _ _).alloc (Nat.le_refl _) _) ⟨_, rfl, Row.made w2 _ _⟩)))
            | (refine Tame.walk_some (o := ⟨some 28, _, _, _, _, _⟩) (TyP q) (fun _ => rfl) (fun v w w' hl h => h.later hl) (fun vals w2 hL hd => ?_) ?_; (focus (have hn : TyR (vals 7) w2 := hd ⟨7, .data⟩ (by simp) rfl _ rfl; clear hd hL; obtain ⟨g3, hv, hr⟩ := hn; have HRR := Lib.hid hr; clear hr; go_simp; exact Tame.Has.mk (Tame.Later.refl _) ⟨g3, rfl, HRR.out⟩)))
            | (refine Tame.walk_known (o := ⟨some 29, _, _, _, _, _⟩) (fun _ => rfl) ?_; apply Exists.intro; refine ⟨fun vals w2 hL hd => ?_, ?_⟩; (focus (have hn : TyP q (vals 13) w2 := hd ⟨13, .data⟩ (by simp) rfl _ rfl; clear hd hL; obtain ⟨g3, hv, hr⟩ := hn; have p0 := hr.cell q; rw [HTY.out] at p0; clear hr; go_simp; exact Tame.Is.mk (Tame.Later.refl _))))
            | (refine Tame.walk_known (fun _ => rfl) ?_; apply Exists.intro; refine ⟨fun vals w2 hL hd => ?_, ?_⟩; (focus (go_simp; first | exact Tame.Is.mk (Tame.Later.refl _) | (rw [if_neg]; (focus exact Tame.Is.mk (Tame.Later.refl _)); omega)))))
           simp only [Act.put, List.setIfInBounds_toArray, List.set_cons_zero, List.set_cons_succ, List.nil_append, List.cons_append, List.length_cons, List.length_nil, Nat.zero_add, Nat.reduceAdd])
        refine Tame.walk_end fun vals w2 hL _ => ?_
        have HB2 : Hid (Below wr.heap.size wr w2) := Lib.hid (later_drew' hL (Nat.le_refl _))
        clear hL
        go_wp2_with fail
        go_roundg (l.length - (i + 1))
        case rel => exact ⟨i + 1, by omega, by go_num, by rw [HNX.out, ← str_app2, ← str_app2, ← str_app2], HBL.out.trans (HB2.out.mono HBL.out.size)⟩
        case measure => omega
    · obtain rfl : i = l.length := by omega
      have hfull : (l.map varT).take l.length = l.map varT := List.take_of_length_le (by simp)
      go_wp2_with fail
      go_ret
      exact ⟨ret_str (by rw [HPRE.out, hfull]; rfl), HBL.out⟩

end Go.Proofs.YtfajnflfonechaaDoor

namespace Go.Proofs.YtfajnflfonechaaDoor
open Go.RowKit
attribute [local go_sem] Tame.Op Tame.upon

set_option maxRecDepth 100000 in
set_option maxHeartbeats 8000000 in
theorem refPrint_any (l : List Nd) (A : Option Addr) (c : Nat) (w : World) (S : Nat → Prop) (hg : ∀ n ∈ l, goodN n) (hlen : l.length ≤ 12) (hA : NS w S A l) (hS : ∀ b, S b → b < w.heap.size) :
    Calls Tryd.prog 15 #[.agg #[.slice A l.length c]] w fun e w' => e = .returned (.string ⟨(progS l).toArray⟩) ∧ Below w.heap.size w w' := by
  obtain ⟨w0, hw0⟩ : ∃ w0, w0 = w.alloc (.cells #[.slice A l.length c] 43) := ⟨_, rfl⟩
  have hb0 : Below w.heap.size w w0 := by rw [hw0]; exact (Below.refl _ _).alloc (Nat.le_refl _) _
  have HR0 : Hid (Row w0 w.heap.size 43 #[.slice A l.length c]) := Lib.hid (by rw [hw0]; exact Row.made _ _ _)
  have HB0 := Lib.hid hb0
  have HA0 := Lib.hid (hA.move (stay hS hb0))
  have HS0 : Hid (∀ q, S q → q < w0.heap.size) := Lib.hid (stay_lt hS hb0)
  have HG := Lib.hid hg
  clear hA hS hg hb0
  go_enter Tryd.func15, Tryd.ntmps15
  go_upto_region 1 with fail
  rw [← hw0]
  clear hw0
  go_wp2_with fail
  go_loopg [3, 4] l.length (fun g' sv k wr => ∃ i : Nat, i + g' = l.length ∧ k = .int .i64 (i : Int) ∧ sv = .string ⟨(progS (l.take i)).toArray⟩ ∧ Below w0.heap.size w0 wr)
  case atStart => exact ⟨0, by omega, rfl, rfl, Below.refl _ _⟩
  case round =>
    obtain ⟨i, hi, rfl, rfl, hbr⟩ := hrel
    have HBR := Lib.hid hbr
    have r0 := HR0.out.below hbr HR0.out.lt
    have c0 := r0.cell 0
    simp at c0
    have hpl : (progS (l.take i)).length ≤ 60000000 := by
      have := progS_len (l := l.take i) fun q hq => HG.out q (List.mem_of_mem_take hq)
      rw [List.length_take] at this
      omega
    obtain ⟨pre, hpre⟩ : ∃ pre, pre = progS (l.take i) := ⟨_, rfl⟩
    have HPRE := Lib.hid hpre
    rw [← hpre] at hpl ⊢
    clear hbr r0 hpre
    by_cases hil : i < l.length
    · obtain ⟨n, hn⟩ : ∃ n, l[i]? = some n := ⟨_, List.getElem?_eq_getElem hil⟩
      have hgn := HG.out n (List.mem_of_getElem? hn)
      have HSN : Hid (progS (l.take (i + 1)) = pre ++ nodeS n) := Lib.hid (by rw [HPRE.out]; unfold progS; rw [List.take_add_one, hn]; simp)
      have hSr : ∀ q, S q → q < wr.heap.size := stay_lt HS0.out HBR.out
      obtain ⟨b', off, A1, g1, A2, g2, A3, g3, A4, g4, rfl, d0, d1, d2, d3, d4, v1, v2, v3, v4, hbl⟩ := HA0.out.at' HS0.out HBR.out hn
      obtain ⟨wb, hwb⟩ : ∃ wb, wb = wr.alloc (.cells #[.string ⟨n.name.toArray⟩, .slice A1 n.ins.length g1, .slice A2 n.outs.length g2, .slice A3 n.locals.length g3, .slice A4 n.eqs.length g4] 76) := ⟨_, rfl⟩
      obtain ⟨p, hp⟩ : ∃ p, p = wr.heap.size := ⟨_, rfl⟩
      have hbb : Below wr.heap.size wr wb := by rw [hwb]; exact (Below.refl _ _).alloc (Nat.le_refl _) _
      have HRB : Hid (Row wb p 76 #[.string ⟨n.name.toArray⟩, .slice A1 n.ins.length g1, .slice A2 n.outs.length g2, .slice A3 n.locals.length g3, .slice A4 n.eqs.length g4]) := Lib.hid (by rw [hwb, hp]; exact Row.made _ _ _)
      have HCI : Hid (∀ w2, Below wb.heap.size wb w2 → Calls Tryd.prog 34 #[.slice A1 n.ins.length g1] w2 fun e w' => e = .returned (.string ⟨(varsS n.ins).toArray⟩) ∧ Below w2.heap.size w2 w') := Lib.hid fun w2 hb => refVarTx_any n.ins A1 g1 w2 S hgn.ins_ ((v1.move (stay hSr hbb)).move (stay (stay_lt hSr hbb) hb)) (stay_lt (stay_lt hSr hbb) hb)
      have HCO : Hid (∀ w2, Below wb.heap.size wb w2 → Calls Tryd.prog 34 #[.slice A2 n.outs.length g2] w2 fun e w' => e = .returned (.string ⟨(varsS n.outs).toArray⟩) ∧ Below w2.heap.size w2 w') := Lib.hid fun w2 hb => refVarTx_any n.outs A2 g2 w2 S hgn.outs_ ((v2.move (stay hSr hbb)).move (stay (stay_lt hSr hbb) hb)) (stay_lt (stay_lt hSr hbb) hb)
      have HCL : Hid (∀ w2, Below wb.heap.size wb w2 → Calls Tryd.prog 34 #[.slice A3 n.locals.length g3] w2 fun e w' => e = .returned (.string ⟨(varsS n.locals).toArray⟩) ∧ Below w2.heap.size w2 w') := Lib.hid fun w2 hb => refVarTx_any n.locals A3 g3 w2 S hgn.locals_ ((v3.move (stay hSr hbb)).move (stay (stay_lt hSr hbb) hb)) (stay_lt (stay_lt hSr hbb) hb)
      have HQN : Hid (QS wb S A4 n.eqs) := Lib.hid (v4.move (stay hSr hbb))
      have HSB : Hid (∀ q, S q → q < wb.heap.size) := Lib.hid (stay_lt hSr hbb)
      have HBB := Lib.hid hbb
      have HGN := Lib.hid hgn
      have hnl := hgn.name_
      have hvi := varsS_len hgn.ins_
      have hvo := varsS_len hgn.outs_
      have hvl := varsS_len hgn.locals_
      have hhl := headS_len hgn
      have hql := hgn.few_
      obtain ⟨nm, hnm⟩ : ∃ nm, nm = n.name := ⟨_, rfl⟩
      obtain ⟨vi, hvi'⟩ : ∃ vi, vi = varsS n.ins := ⟨_, rfl⟩
      obtain ⟨vo, hvo'⟩ : ∃ vo, vo = varsS n.outs := ⟨_, rfl⟩
      obtain ⟨vl, hvl'⟩ : ∃ vl, vl = varsS n.locals := ⟨_, rfl⟩
      have HHD : Hid (((((((pre ++ [110, 111, 100, 101, 32]) ++ nm) ++ [40]) ++ vi) ++ [41, 32, 114, 101, 116, 117, 114, 110, 115, 32, 40]) ++ vo) ++ [41, 59, 10] = pre ++ headS n) := Lib.hid (by rw [hnm, hvi', hvo']; simp [headS])
      have HLC : Hid (localsS n.locals = if n.locals.length = 0 then [] else [118, 97, 114, 32] ++ (vl ++ [59, 10])) := Lib.hid (by rw [hvl']; rfl)
      rw [← hnm] at HRB hnl d0 hwb
      rw [← hvi'] at HCI hvi
      rw [← hvo'] at HCO hvo
      rw [← hvl'] at HCL hvl
      clear hn hgn v1 v2 v3 v4 hbb hnm hvi' hvo' hvl'
      go_upto_region 6 with fail
      rw [← hwb, ← hp]
      clear c0 d0 d1 d2 d3 d4 hwb hp
      refine Tame.wp_region_tame (by kernel_rfl) (by kernel_rfl) Tame.Later.refl Tame.Later.trans ?_
      repeat
        ((first
          | (refine Tame.walk_known (o := ⟨some 25, _, _, _, _, _⟩) (fun _ => rfl) ?_; apply Exists.intro; refine ⟨fun vals w2 hL hd => ?_, ?_⟩; (focus (have hb2 : Below wb.heap.size wb w2 := later_drew' hL (Nat.le_refl _); have r := HRB.out.below hb2 HRB.out.lt; have e0 := r.cell 0; clear hd hL hb2 r; simp at e0; go_simp; exact Tame.Is.mk (Tame.Later.refl _))))
          | (refine Tame.walk_known (o := ⟨some 29, _, _, _, _, _⟩) (fun _ => rfl) ?_; apply Exists.intro; refine ⟨fun vals w2 hL hd => ?_, ?_⟩; (focus (have hb2 : Below wb.heap.size wb w2 := later_drew' hL (Nat.le_refl _); have r := HRB.out.below hb2 HRB.out.lt; have e1 := r.cell 1; clear hd hL hb2 r; simp at e1; go_simp; exact Tame.Is.mk (Tame.Later.refl _))))
          | (refine Tame.walk_known (o := ⟨some 34, _, _, _, _, _⟩) (fun _ => rfl) ?_; apply Exists.intro; refine ⟨fun vals w2 hL hd => ?_, ?_⟩; (focus (have hb2 : Below wb.heap.size wb w2 := later_drew' hL (Nat.le_refl _); have r := HRB.out.below hb2 HRB.out.lt; have e2 := r.cell 2; clear hd hL hb2 r; simp at e2; go_simp; exact Tame.Is.mk (Tame.Later.refl _))))
          | (refine Tame.walk_known (o := ⟨some 30, _, _, _, _, _⟩) (fun _ => rfl) ?_; apply Exists.intro; refine ⟨fun vals w2 hL hd => ?_, ?_⟩; (focus (have hb2 : Below wb.heap.size wb w2 := later_drew' hL (Nat.le_refl _); have HCC := Lib.hid (HCI.out w2 hb2); clear hd hL hb2; go_simp; exact Tame.known HCC.out)))
          | (refine Tame.walk_known (o := ⟨some 35, _, _, _, _, _⟩) (fun _ => rfl) ?_; apply Exists.intro; refine ⟨fun vals w2 hL hd => ?_, ?_⟩; (focus (have hb2 : Below wb.heap.size wb w2 := later_drew' hL (Nat.le_refl _); have HCC := Lib.hid (HCO.out w2 hb2); clear hd hL hb2; go_simp; exact Tame.known HCC.out)))
          | (refine Tame.walk_known (fun _ => rfl) ?_; apply Exists.intro; refine ⟨fun vals w2 hL hd => ?_, ?_⟩; (focus (go_simp; first | exact Tame.Is.mk (Tame.Later.refl _) | (rw [if_neg]; (focus exact Tame.Is.mk (Tame.Later.refl _)); omega)))))
         simp only [Act.put, List.setIfInBounds_toArray, List.set_cons_zero, List.set_cons_succ, List.nil_append, List.cons_append])
      refine Tame.walk_end fun vals w2 hL _ => ?_
      have HB2 : Hid (Below wb.heap.size wb w2) := Lib.hid (later_drew' hL (Nat.le_refl _))
      clear hL
      have HR2 := Lib.hid (HRB.out.below HB2.out HRB.out.lt)
      have e3 := HR2.out.cell 3
      simp at e3
      obtain ⟨hd, hhd⟩ : ∃ hd, hd = pre ++ headS n := ⟨_, rfl⟩
      have hhdl : hd.length ≤ 60200000 := by rw [hhd, List.length_append]; omega
      have HHH := Lib.hid hhd
      rw [← hhd] at HHD
      simp only [str_app2]
      rw [HHD.out]
      clear hhd
      go_upto_if 41 with fail
      go_cut [3] from 10 to 100 (fun v w3 => v = .string ⟨(hd ++ localsS n.locals).toArray⟩ ∧ Below w2.heap.size w2 w3)
      case first =>
        by_cases hl0 : n.locals.length = 0
        · have i0 : ¬ (0 : Int) < (n.locals.length : Int) := by omega
          have HL0 : Hid (localsS n.locals = []) := Lib.hid (by rw [HLC.out, if_pos hl0])
          clear hl0
          go_wp2_with fail
          go_meet
          case rel => exact ⟨by rw [HL0.out, List.append_nil], Below.refl _ _⟩
        · have i0 : (0 : Int) < (n.locals.length : Int) := by omega
          have HL0 : Hid (((hd ++ [118, 97, 114, 32]) ++ vl) ++ [59, 10] = hd ++ localsS n.locals) := Lib.hid (by rw [HLC.out, if_neg hl0]; simp)
          clear hl0
          go_wp2_with (go_at_call 34; refine (HCL.out w2 HB2.out).mono ?_; rintro e w3 ⟨rfl, g1⟩; have HG1 := Lib.hid g1; clear g1)
          go_meet
          case rel => exact ⟨by simp only [str_app2]; rw [HL0.out], HG1.out⟩
      case rest =>
        obtain ⟨rfl, h4⟩ := hcut
        obtain ⟨s1, hs1⟩ : ∃ s1, s1 = hd ++ localsS n.locals := ⟨_, rfl⟩
        have hs1l : s1.length ≤ 60300000 := by rw [hs1, List.length_append]; have := localsS_len HGN.out; omega
        have HS1 := Lib.hid hs1
        rw [← hs1]
        have HB3 : Hid (Below wb.heap.size wb wc) := Lib.hid (HB2.out.trans (h4.mono HB2.out.size))
        have HR3 := Lib.hid (HR2.out.below h4 HR2.out.lt)
        clear h4 hs1 e3 HCI HCO HCL HLC hvi hvo hvl hnl hhl HHD
        obtain ⟨wo, rfl⟩ : ∃ wo, wo = wr := ⟨wr, rfl⟩
        obtain ⟨w3, rfl⟩ : ∃ w3, w3 = wc := ⟨wc, rfl⟩
        go_wp2_with fail
        go_loopg [3, 6] n.eqs.length (fun g' sv k w5 => ∃ j : Nat, j + g' = n.eqs.length ∧ k = .int .i64 (j : Int) ∧ sv = .string ⟨((s1 ++ [108, 101, 116, 10]) ++ ((n.eqs.take j).map eqS).flatten).toArray⟩ ∧ Below w3.heap.size w3 w5)
        case atStart => exact ⟨0, by omega, rfl, by rw [str_app2]; simp, Below.refl _ _⟩
        case round =>
          obtain ⟨j, hj, rfl, rfl, hb5⟩ := hrel
          have HB5 := Lib.hid hb5
          have hr5 := HR3.out.below hb5 HR3.out.lt
          have e4 := hr5.cell 4
          simp at e4
          have hbn : Below wb.heap.size wb wr := HB3.out.trans (hb5.mono HB3.out.size)
          have HBN := Lib.hid hbn
          have hpl2 : ((n.eqs.take j).map eqS).flatten.length ≤ 4000000 := by
            have := eqsS_len (l := n.eqs.take j) fun q hq => HGN.out.eqs_ q (List.mem_of_mem_take hq)
            rw [List.length_take] at this
            omega
          obtain ⟨lc, hlc⟩ : ∃ lc, lc = (s1 ++ [108, 101, 116, 10]) ++ ((n.eqs.take j).map eqS).flatten := ⟨_, rfl⟩
          have hlcl : lc.length ≤ 65000000 := by rw [hlc]; simp only [List.length_append, List.length_cons, List.length_nil]; omega
          have HLC := Lib.hid hlc
          rw [← hlc]
          clear hb5 hr5 hbn hpl2 hlc
          by_cases hjl : j < n.eqs.length
          · obtain ⟨q, hq⟩ : ∃ q, n.eqs[j]? = some q := ⟨_, List.getElem?_eq_getElem hjl⟩
            have hgq := HGN.out.eqs_ q (List.mem_of_getElem? hq)
            have HSQ : Hid (((n.eqs.take (j + 1)).map eqS).flatten = ((n.eqs.take j).map eqS).flatten ++ eqS q) := Lib.hid (by rw [List.take_add_one, hq]; simp)
            have hSr2 : ∀ q, S q → q < wr.heap.size := stay_lt HSB.out HBN.out
            obtain ⟨bq, offq, B1, k1, B2, k2, rfl, d0, d1, d2, d3, d4, d5, hts, hks, hbl2⟩ := HQN.out.at' HSB.out HBN.out hq
            obtain ⟨we, hwe⟩ : ∃ we, we = wr.alloc (.cells #[.slice B1 q.lhs.length k1, .int .i64 q.rhs.k, .int .i64 q.rhs.o, .int .i64 q.rhs.n, .string ⟨q.rhs.s.toArray⟩, .slice B2 q.rhs.ks.length k2] 78) := ⟨_, rfl⟩
            obtain ⟨pe, hpe⟩ : ∃ pe, pe = wr.heap.size := ⟨_, rfl⟩
            have hbe : Below wr.heap.size wr we := by rw [hwe]; exact (Below.refl _ _).alloc (Nat.le_refl _) _
            have HRE : Hid (Row we pe 78 #[.slice B1 q.lhs.length k1, .int .i64 q.rhs.k, .int .i64 q.rhs.o, .int .i64 q.rhs.n, .string ⟨q.rhs.s.toArray⟩, .slice B2 q.rhs.ks.length k2]) := Lib.hid (by rw [hwe, hpe]; exact Row.made _ _ _)
            have HX : Hid (Calls Tryd.prog 17 #[ev q.rhs B2 k2] we fun e w' => e = .returned (.string ⟨q.rhs.txt.toArray⟩) ∧ Below we.heap.size we w') := Lib.hid (refTx_all q.rhs.size q.rhs (Nat.le_refl _) B2 k2 we S hgq.shape_ (hks.later hSr2 hbe) (stay_lt hSr2 hbe) (by have := hgq.size_; omega))
            have HBE := Lib.hid hbe
            have hlf := hgq.lhs_
            obtain ⟨hlf1, hlf2⟩ := hlf.1
            obtain ⟨t0, ht0⟩ : ∃ t, q.lhs[0]? = some t := ⟨_, List.getElem?_eq_getElem (by omega)⟩
            obtain ⟨b1, off1, rfl, f0, hb1⟩ := hts.at' hSr2 hbe ht0
            rw [Nat.add_zero] at f0
            have hAT : ∀ (m : Nat) t, q.lhs[m]? = some t → we.cell? ⟨b1, off1 + m, none⟩ = some (.string ⟨t.toArray⟩) := fun m t ht => by
              obtain ⟨b2, off2, he, f, _⟩ := hts.at' hSr2 hbe ht
              injection he with he
              injection he with h1 h2
              subst h1 h2
              exact f
            have HAT := Lib.hid hAT
            have HTL : Hid (∀ t ∈ q.lhs, t.length ≤ 60) := Lib.hid hlf.2
            have HT0 := Lib.hid ht0
            have ht0l := hlf.2 t0 (List.mem_of_getElem? ht0)
            have hxl := X.txt_len q.rhs hgq.shape_
            have hxs := hgq.size_
            have hlfl := leftS_len hlf
            have HQS : Hid (eqS q = [32, 32] ++ (leftS q.lhs ++ ([32, 61, 32] ++ (q.rhs.txt ++ [59, 10])))) := Lib.hid rfl
            clear hq hgq hts hks hbe hlf ht0 hAT hSr2
            simp only [ev] at HX
            go_upto_region 14 with fail
            rw [← hwe, ← hpe]
            clear d0 d1 d2 d3 d4 d5 e4 hwe hpe
            have y0 := HRE.out.cell 0
            have y1 := HRE.out.cell 1
            have y2 := HRE.out.cell 2
            have y3 := HRE.out.cell 3
            have y4 := HRE.out.cell 4
            have y5 := HRE.out.cell 5
            simp at y0 y1 y2 y3 y4 y5
            go_upto_if 70 with fail
            go_cut [8] from 51 to 98 (fun v w6 => v = .string ⟨(leftS q.lhs).toArray⟩ ∧ we = w6)
            case first =>
              by_cases h1 : q.lhs.length = 1
              · have i1 : ¬ (1 : Int) < (q.lhs.length : Int) := by omega
                have HL : Hid (leftS q.lhs = t0) := Lib.hid (by unfold leftS; rw [if_pos h1, List.getD_eq_getElem?_getD, HT0.out]; rfl)
                clear h1
                go_wp2_with fail
                go_meet
                case rel => exact ⟨by rw [HL.out], rfl⟩
              · have i1 : (1 : Int) < (q.lhs.length : Int) := by omega
                have HL : Hid (leftS q.lhs = ([40] ++ sepS [44, 32] q.lhs) ++ [41]) := Lib.hid (by unfold leftS; rw [if_neg h1, List.append_assoc])
                clear h1 f0
                go_wp2_with fail
                go_loopg [8, 9] q.lhs.length (fun g' v k w7 => ∃ m : Nat, m + g' = q.lhs.length + 1 ∧ (1 ≤ m ∧ m ≤ q.lhs.length) ∧ k = .int .i64 (m : Int) ∧ v = .string ⟨(sepS [44, 32] (q.lhs.take m)).toArray⟩ ∧ we = w7)
                case atStart => exact ⟨1, by omega, ⟨by omega, by omega⟩, rfl, by rw [sepS_snoc (i := 0) HT0.out]; simp [sepS], rfl⟩
                case round =>
                  obtain ⟨m, hm, ⟨hm1, hm2⟩, rfl, rfl, rfl⟩ := hrel
                  have hsl : (sepS [44, 32] (q.lhs.take m)).length ≤ 68000 := sepT_len ⟨by rw [List.length_take]; omega, fun t ht => by have := HTL.out t (List.mem_of_mem_take ht); omega⟩
                  by_cases hml : m < q.lhs.length
                  · obtain ⟨t, ht⟩ : ∃ t, q.lhs[m]? = some t := ⟨_, List.getElem?_eq_getElem hml⟩
                    have htl := HTL.out t (List.mem_of_getElem? ht)
                    have f1 := HAT.out m t ht
                    have HSN2 : Hid (sepS [44, 32] (q.lhs.take (m + 1)) = (sepS [44, 32] (q.lhs.take m) ++ [44, 32]) ++ t) := Lib.hid (by rw [sepS_snoc ht, if_neg (by omega), List.append_assoc])
                    obtain ⟨sm, hsm⟩ : ∃ sm, sm = sepS [44, 32] (q.lhs.take m) := ⟨_, rfl⟩
                    rw [← hsm] at hsl HSN2 ⊢
                    clear ht hsm
                    go_wp2_with fail
                    go_roundg (q.lhs.length + 1 - (m + 1))
                    case rel => exact ⟨m + 1, by omega, ⟨by omega, by omega⟩, by go_num, by rw [HSN2.out, ← str_app2, ← str_app2], rfl⟩
                    case measure => omega
                  · obtain rfl : m = q.lhs.length := by omega
                    rw [List.take_length] at hsl ⊢
                    obtain ⟨sm, hsm⟩ : ∃ sm, sm = sepS [44, 32] q.lhs := ⟨_, rfl⟩
                    rw [← hsm] at hsl HL ⊢
                    clear hsm
                    go_wp2_with fail
                    go_meet
                    case rel => exact ⟨by rw [HL.out, ← str_app2, ← str_app2], rfl⟩
            case rest =>
              obtain ⟨rfl, rfl⟩ := hcut
              obtain ⟨lf, hlf⟩ : ∃ lf, lf = leftS q.lhs := ⟨_, rfl⟩
              rw [← hlf] at hlfl HQS ⊢
              clear hlf f0 y0
              have HE9 : Hid (((((lc ++ [32, 32]) ++ lf) ++ [32, 61, 32]) ++ q.rhs.txt) ++ [59, 10] = (s1 ++ [108, 101, 116, 10]) ++ ((n.eqs.take (j + 1)).map eqS).flatten) := Lib.hid (by rw [HSQ.out, HQS.out, HLC.out]; simp)
              go_wp2_with (go_at_call 17; refine HX.out.mono ?_; rintro e w7 ⟨rfl, k1⟩; have HK1 := Lib.hid k1; clear k1 y1 y2 y3 y4 y5)
              go_roundg (n.eqs.length - (j + 1))
              case rel => exact ⟨j + 1, by omega, by go_num, by rw [← HE9.out, ← str_app2, ← str_app2, ← str_app2, ← str_app2, ← str_app2], HB5.out.trans ((HBE.out.trans (HK1.out.mono HBE.out.size)).mono HB5.out.size)⟩
              case measure => omega
          · obtain rfl : j = n.eqs.length := by omega
            have HT : Hid (lc ++ [116, 101, 108, 10] = progS (l.take (i + 1))) := Lib.hid (by rw [HLC.out, List.take_length, HSN.out, HS1.out, HHH.out]; simp [nodeS])
            go_wp2_with fail
            go_roundg (l.length - (i + 1))
            case rel => exact ⟨i + 1, by omega, by go_num, by rw [← HT.out, ← str_app2], HBR.out.trans ((HBB.out.trans (HBN.out.mono HBB.out.size)).mono HBR.out.size)⟩
            case measure => omega
    · obtain rfl : i = l.length := by omega
      go_wp2_with fail
      go_ret
      exact ⟨ret_str (by rw [HPRE.out, List.take_length]), HB0.out.trans (HBR.out.mono HB0.out.size)⟩

end Go.Proofs.YtfajnflfonechaaDoor
