/- DERIVED. The printer whole: left sides, variables, Expr, nodes, Print. -/
import Derived.Test.YtfajnflfonechaaDoorShelf
import Derived.Test.YtfajnflfonechaaDoorRe
import Derived.Test.YtfajnflfonechaaDoorTp
import Derived.Test.YtfajnflfonechaaDoorWe
import Derived.Test.YtfajnflfonechaaDoorOwnG
import Derived.Test.YtfajnflfonechaaDoorWx
import Derived.Test.YtfajnflfonechaaDoorRight
import Derived.Test.YtfajnflfonechaaDoorTamg
import Derived.Test.YtfajnflfonechaaDoorPRight
namespace Go.Proofs.YtfajnflfonechaaDoor
open Go.RowKit

def shortT (l : List T) : Prop := (1 ≤ l.length ∧ l.length ≤ 1000) ∧ ∀ t ∈ l, t.length ≤ 60
theorem sepT_len {l : List T} (h : l.length ≤ 1000 ∧ ∀ t ∈ l, t.length ≤ 66) : (sepS [44, 32] l).length ≤ 68000 := by
  have := sepS_len [44, 32] 68 l fun t ht => by have := h.2 t ht; simp only [List.length_cons, List.length_nil]; omega
  have h1 := h.1
  omega
theorem maps_back (l : List T) : ((l.map fun t => (⟨t.toArray⟩ : ByteArray)).map (·.data.toList)) = l := by
  rw [List.map_map]
  exact List.map_id'' (fun _ => rfl) l
/-- A row of texts, joined. -/
theorem join_any (sep : T) (l : List T) (b o c : Nat) (w : World) (h : ∀ (i : Nat) t, l[i]? = some t → w.cell? ⟨b, o + i, none⟩ = some (.string ⟨t.toArray⟩)) (hb : b < w.heap.size) (hl : l.length ≤ 1000) (hc : l.length ≤ c) (hj : (sepS sep l).length ≤ 140737488355328) :
    Calls Tryd.prog 82 #[.slice (some ⟨b, o, none⟩) l.length c, .string ⟨sep.toArray⟩] w fun e w' => e = .returned (.string ⟨(sepS sep l).toArray⟩) ∧ Below w.heap.size w w' := by
  have h1 := Tryd.strings_Join b o c (l.map fun t => (⟨t.toArray⟩ : ByteArray)) ⟨sep.toArray⟩ w (fun j x hx => by
    rw [List.getElem?_map] at hx
    obtain ⟨t, ht, rfl⟩ := Option.map_eq_some_iff.1 hx
    exact h j t ht) hb (by rw [List.length_map]; omega) (by rw [List.length_map]; omega) (by
    rw [maps_back]
    show (Lib.join l sep).length ≤ _
    rw [sepS_join]; exact hj)
  rw [maps_back, List.length_map] at h1
  have e : Lib.join l (⟨sep.toArray⟩ : ByteArray).data.toList = sepS sep l := sepS_join sep l
  rw [e] at h1
  exact h1

set_option maxRecDepth 100000 in
set_option maxHeartbeats 1000000 in
theorem left_any (l : List T) (A : Option Addr) (c : Nat) (w : World) (S : Nat → Prop) (hl : shortT l) (hA : TS w S A l) (hS : ∀ q, S q → q < w.heap.size) (hc : l.length ≤ c) :
    Calls Tryd.prog 55 #[.slice A l.length c] w fun e w' => e = .returned (.string ⟨(leftS l).toArray⟩) ∧ Below w.heap.size w w' := by
  obtain ⟨⟨hl1, hl2⟩, hlt⟩ := hl
  obtain ⟨t0, ht0⟩ : ∃ t, l[0]? = some t := ⟨_, List.getElem?_eq_getElem (by omega)⟩
  obtain ⟨b, off, rfl, c0, hb⟩ := hA.at' hS (Below.refl _ _) ht0
  rw [Nat.add_zero] at c0
  have HL : Hid (l[0]? = some t0) := Lib.hid ht0
  have hJl := sepT_len (l := l) ⟨hl2, fun t ht => by have := hlt t ht; omega⟩
  have HJ := Lib.hid (join_any [44, 32] l b off c w (fun i t ht => by
    obtain ⟨b', off', e, c', _⟩ := hA.at' hS (Below.refl _ _) ht
    injection e with e
    injection e with e1 e2
    subst e1 e2
    exact c') hb hl2 hc (by omega))
  obtain ⟨J, hJ⟩ : ∃ J, J = sepS [44, 32] l := ⟨_, rfl⟩
  have HS : Hid (leftS l = if l.length = 1 then l.getD 0 [] else [40] ++ (J ++ [41])) := Lib.hid (by rw [hJ]; rfl)
  rw [← hJ] at HJ hJl
  clear hJ hlt ht0 hA hS
  go_enter Tryd.func55, Tryd.ntmps55
  by_cases h1 : l.length = 1
  · have i1 : (l.length : Int) = 1 := by omega
    have e0 : leftS l = t0 := by rw [HS.out, if_pos h1, List.getD_eq_getElem?_getD, HL.out]; rfl
    have E0 := Lib.hid e0
    clear e0
    go_wp2_with fail
    go_ret
    exact ⟨ret_str (by rw [E0.out]), Below.refl _ _⟩
  · have i1 : ¬ (l.length : Int) = 1 := by omega
    have e0 : leftS l = [40] ++ (J ++ [41]) := by rw [HS.out, if_neg h1]
    have E0 := Lib.hid e0
    clear e0 c0
    go_wp2_with (go_at_call 82; refine HJ.out.mono ?_; rintro e w1 ⟨rfl, hb1⟩; have HB1 := Lib.hid hb1; clear hb1)
    go_ret
    exact ⟨ret_str (by rw [E0.out]; apply ByteArray.ext; simp), HB1.out⟩

end Go.Proofs.YtfajnflfonechaaDoor

namespace Go.Proofs.YtfajnflfonechaaDoor
open Go.RowKit
attribute [local go_sem] Tame.Op Tame.upon

def RT : Of T := fun _ _ t cs => cs = [.string ⟨t.toArray⟩]
theorem lastsT : Lasts RT 1 := ⟨fun h _ => h, fun h => by rw [show _ = _ from h]; rfl, fun h u hu => by
  rw [show _ = _ from h] at hu
  simp only [List.mem_cons, List.not_mem_nil, or_false] at hu
  subst hu; rfl⟩
/-- An own row of texts, joined. -/
theorem joinOwn (sep : T) (l : List T) (B : Nat) (S : Nat → Prop) (v : Value) (w : World) (h : OwnG RT 9 1 w B S v l) (hl : l.length ≤ 1000) (hj : (sepS sep l).length ≤ 140737488355328) :
    Calls Tryd.prog 82 #[v, .string ⟨sep.toArray⟩] w fun e w' => e = .returned (.string ⟨(sepS sep l).toArray⟩) ∧ Below w.heap.size w w' := by
  obtain ⟨cs, ho, hx⟩ := h
  rcases ho.2 with ⟨rfl, hz⟩ | ⟨g, cap, cur, rfl, hb, hgg, hnc, hcm, hcs, htake⟩
  · obtain rfl := List.eq_nil_of_length_eq_zero hz
    refine (Tryd.strings_Join_none none 0 ⟨sep.toArray⟩ w).mono ?_
    rintro e w' ⟨rfl, rfl⟩
    exact ⟨rfl, Below.refl _ _⟩
  · refine join_any sep l g 0 cap w (fun i t ht => ?_) (Array.getElem?_eq_some_iff.1 hgg).1 hl hnc hj
    obtain ⟨c, hc, hat⟩ := hx.at lastsT ht
    have hc : c = _ := hc
    subst hc
    have h1 := hat 0 _ rfl
    rw [Nat.mul_one, Nat.add_zero] at h1
    have hlt : i < cs.length := by
      rcases Nat.lt_or_ge i cs.length with h' | h'
      · exact h'
      · rw [List.getElem?_eq_none h'] at h1; cases h1
    rw [Nat.zero_add, World.ownsRow.cellAt ho i (by have := ho.1; omega), h1]

theorem txt_info : (Tryd.prog.info? 9).map (fun i => (i.zero, i.size, i.bytes)) = some (some (.string ⟨#[]⟩), 1, 16) := by kernel_rfl
/-- A slice of one text. -/
def NewT (v : Value) (y : T) (u : Value) (w : World) : Prop := ∃ g, u = .slice (some ⟨g, 0, none⟩) 1 1 ∧ Row w g 9 #[.string ⟨y.toArray⟩] ∧ some g ≠ v.ownBlock
theorem NewT.later {v u : Value} {y : T} {w w' : World} (h : NewT v y u w) (hl : Tame.Later w w') : NewT v y u w' := by
  obtain ⟨g, hv, hr, h2⟩ := h
  exact ⟨g, hv, hr.below hl hr.lt, h2⟩
theorem NewT.turn {v u : Value} {y : T} {w w' : World} (h : NewT v y u w) (hs : w.grownBy w' v.ownBlock) : NewT v y u w' := by
  obtain ⟨g, hv, hr, h2⟩ := h
  exact ⟨g, hv, hr.grown hs h2, h2⟩
/-- The row with the new one. -/
def AppT (B : Nat) (xs : List T) (u : Value) (w : World) : Prop := OwnG RT 9 1 w B (Sb B u.ownBlock w) u xs

def ghostsT (H : Nat) (wr : World) (v : Value) (xs : List T) (p : Nat) (cs : Array Value) : List Tame.Ghost := [⟨Below H wr, [10]⟩, ⟨fun w => OwnG RT 9 1 w H (Sb H v.ownBlock w) v xs, []⟩, ⟨fun w => Row w p 114 cs, [10]⟩]
theorem ghostsT_ok {H : Nat} {wr : World} {v : Value} {xs : List T} {p : Nat} {cs : Array Value} (hH : H ≤ wr.heap.size) (h2 : OwnG RT 9 1 wr H (Sb H v.ownBlock wr) v xs) (hr : Row wr p 114 cs) (hp : some p ≠ v.ownBlock) :
    ∀ (i : Nat) (g : Tame.Ghost), (ghostsT H wr v xs p cs)[i]? = some g → g.g wr.drew ∧ (∀ w w', Tame.Later w w' → g.g w → g.g w') ∧
      ∀ j, [10].contains j = true → g.keeps.contains j = true → ∀ w w', w.grownBy w' v.ownBlock → g.g w → g.g w' := by
  intro i g hi
  rcases i with _ | _ | _ | i
  · obtain rfl : (⟨Below H wr, [10]⟩ : Tame.Ghost) = g := by simpa [ghostsT] using hi
    exact ⟨(Below.refl _ _).drew, fun a b hl h => h.trans (Below.mono hl (by have := h.size; omega)), fun j _ _ a b hs h => h.grown hs (by have := h.size; omega) (fun q hq => (h2.lt q hq).1)⟩
  · obtain rfl : (⟨fun w => OwnG RT 9 1 w H (Sb H v.ownBlock w) v xs, []⟩ : Tame.Ghost) = g := by simpa [ghostsT] using hi
    exact ⟨h2.later lastsT ((Below.refl _ _).drew), fun a b hl h => h.later lastsT hl, fun j _ hj => by cases hj⟩
  · obtain rfl : (⟨fun w => Row w p 114 cs, [10]⟩ : Tame.Ghost) = g := by simpa [ghostsT] using hi
    exact ⟨hr, fun a b hl h => h.below hl h.lt, fun j _ _ a b hs h => h.grown hs hp⟩
  · simp [ghostsT] at hi

set_option maxRecDepth 100000 in
set_option maxHeartbeats 4000000 in
theorem pvars_any (l : List Vr) (A : Option Addr) (c : Nat) (w : World) (S : Nat → Prop) (hl : shortV l) (hA : VS w S A l) (hS : ∀ b, S b → b < w.heap.size) (he : PrEnv w.heap.size w) :
    Calls Tryd.prog 54 #[.slice A l.length c] w fun e w' => e = .returned (.string ⟨(varsS l).toArray⟩) ∧ Below w.heap.size w w' := by
  obtain ⟨i0, hi0, hz0, hz1, hz2⟩ := info_parts txt_info
  have HLN := Lib.hid hl
  have hlen := hl.1
  have HAA := Lib.hid hA
  have HE := Lib.hid he
  clear hl hA he
  go_enter Tryd.func54, Tryd.ntmps54
  go_wp2_with fail
  go_loopg [3, 8] l.length (fun g' v k wr => ∃ i : Nat, i + g' = l.length ∧ k = .int .i64 (i : Int) ∧ OwnG RT 9 1 wr w.heap.size (Sb w.heap.size v.ownBlock wr) v ((l.map varT).take i) ∧ Below w.heap.size w wr)
  case atStart => exact ⟨0, by omega, rfl, OwnG.nil _ _ _ _ _ _, Below.refl _ _⟩
  case round =>
    obtain ⟨i, hi, rfl, ho, hbw⟩ := hrel
    obtain ⟨v, rfl⟩ : ∃ v, v = u3 := ⟨u3, rfl⟩
    have hws := hbw.size
    have HBW := Lib.hid hbw
    have HO := Lib.hid ho
    by_cases hil : i < l.length
    · obtain ⟨y, hy⟩ : ∃ y, l[i]? = some y := ⟨_, List.getElem?_eq_getElem hil⟩
      obtain ⟨hnl, ht0, ht1⟩ := HLN.out.2 y (List.mem_of_getElem? hy)
      have HY : Hid ((l.map varT)[i]? = some (varT y)) := Lib.hid (by rw [List.getElem?_map, hy]; rfl)
      obtain ⟨q, hq⟩ : ∃ q : Nat, y.type = (q : Int) := ⟨y.type.toNat, by omega⟩
      have hq2 : q < 2 := by omega
      have hqi : (q : Int) < 2 := by omega
      obtain ⟨b, off, rfl, c0, c1, hbl⟩ := HAA.out.at' hS hbw hy
      obtain ⟨ty, hty⟩ : ∃ ty : T, ty = typL.getD q [] := ⟨_, rfl⟩
      have htyl : ty.length ≤ 4 := by rw [hty]; exact typL_len q
      have htyq : ([[105, 110, 116], [98, 111, 111, 108]] : List T)[q]? = some ty := by
        rw [hty]
        have : q = 0 ∨ q = 1 := by omega
        rcases this with rfl | rfl <;> rfl
      have HTY : Hid (w.cell? ⟨1, q, none⟩ = some (.string ⟨ty.toArray⟩)) := Lib.hid (HE.out.types_ q ty htyq)
      have HGT : Hid (1 < w.heap.size) := Lib.hid HE.out.lt_.2.2.1
      obtain ⟨nm, hnm⟩ : ∃ nm, nm = y.name := ⟨_, rfl⟩
      have HVE : Hid (((⟨nm.toArray⟩ : ByteArray) ++ ⟨([58, 32] : T).toArray⟩) ++ ⟨ty.toArray⟩ = ⟨(varT y).toArray⟩) := Lib.hid (by
        rw [str_app2, str_app2]; unfold varT; rw [hq, ← hnm, hty, List.append_assoc]; rfl)
      rw [← hnm] at c0 hnl
      rw [hq] at c1
      have HV : Hid (∀ q, v.ownBlock = some q → w.heap.size ≤ q ∧ q < wr.heap.size) := Lib.hid ho.lt
      clear ho hbw hy ht0 ht1 hq hnm hty htyq
      go_upto_region 5 with fail
      clear c0 c1
      obtain ⟨wb, hwb⟩ : ∃ wb, wb = wr.alloc (.cells #[.string ⟨nm.toArray⟩, .int .i64 (q : Int)] 114) := ⟨_, rfl⟩
      obtain ⟨p, hp⟩ : ∃ p, p = wr.heap.size := ⟨_, rfl⟩
      rw [← hwb, ← hp]
      have HRB : Hid (Row wb p 114 #[.string ⟨nm.toArray⟩, .int .i64 (q : Int)]) := Lib.hid (by rw [hwb, hp]; exact Row.made _ _ _)
      have HBB : Hid (Below wr.heap.size wr wb) := Lib.hid (by rw [hwb]; exact (Below.refl _ _).alloc (Nat.le_refl _) _)
      have hwbz : w.heap.size ≤ wb.heap.size := Nat.le_trans hws HBB.out.size
      have HPV : Hid (some p ≠ v.ownBlock) := Lib.hid fun e => by have := HV.out _ e.symm; omega
      have HV' : Hid (∀ q, v.ownBlock = some q → w.heap.size ≤ q ∧ q < wb.heap.size) := Lib.hid fun q hq => by have := HV.out q hq; have := HBB.out.size; omega
      have HO' := Lib.hid (HO.out.later lastsT HBB.out)
      have HTW : Hid (wb.cell? ⟨1, q, none⟩ = some (.string ⟨ty.toArray⟩)) := Lib.hid (((HBW.out.trans (HBB.out.mono hws)).cell (p := ⟨1, q, none⟩) HGT.out).trans HTY.out)
      clear HV HO HTY
      have HV := HV'
      clear HV' hwb hp
      refine Tame.wp_region_tamg (L := Tame.Later) (M := fun _ a b => a.grownBy b v.ownBlock) (gs := ghostsT w.heap.size wb v ((l.map varT).take i) p #[.string ⟨nm.toArray⟩, .int .i64 (q : Int)]) [10] (by kernel_rfl) (by kernel_rfl) Tame.Later.refl (fun _ w => World.grownBy.refl w _) (ghostsT_ok hwbz HO'.out HRB.out HPV.out) ?_
      repeat
        ((first
          | (refine Tame.walk3_known (o := ⟨some 14, _, _, _, _, _⟩) (by kernel_rfl) (fun _ => rfl) ?_; apply Exists.intro; refine ⟨fun vals w2 hG hd => ?_, ?_⟩; (focus (have hr2 := (hG 2 _ rfl (by kernel_rfl) : Row w2 p 114 #[.string ⟨nm.toArray⟩, .int .i64 (q : Int)]); have e0 := hr2.cell 0; clear hG hd hr2; simp at e0; go_simp; exact Tame.Is.mk (Tame.Later.refl _))))
          | (refine Tame.walk3_known (o := ⟨some 17, _, _, _, _, _⟩) (by kernel_rfl) (fun _ => rfl) ?_; apply Exists.intro; refine ⟨fun vals w2 hG hd => ?_, ?_⟩; (focus (have hr2 := (hG 2 _ rfl (by kernel_rfl) : Row w2 p 114 #[.string ⟨nm.toArray⟩, .int .i64 (q : Int)]); have e1 := hr2.cell 1; clear hG hd hr2; simp at e1; go_simp; exact Tame.Is.mk (Tame.Later.refl _))))
          | (refine Tame.walk3_known (o := ⟨some 19, _, _, _, _, _⟩) (by kernel_rfl) (fun _ => rfl) ?_; apply Exists.intro; refine ⟨fun vals w2 hG hd => ?_, ?_⟩; (focus (have hb2 := (hG 0 _ rfl (by kernel_rfl) : Below w.heap.size wb w2); have e0 := (hb2.cell (p := ⟨1, q, none⟩) HGT.out).trans HTW.out; clear hG hd hb2; go_simp; exact Tame.Is.mk (Tame.Later.refl _))))
          | (refine Tame.walk3_some (o := ⟨some 21, _, _, _, _, _⟩) (NewT v (varT y)) (none) ([10]) (by kernel_rfl) (fun _ => rfl) (by kernel_rfl) (fun u a c hl h => h.later hl) (fun i _ _ u a c hs h => h.turn hs) (fun vals w2 hG hd => ?_) ?_; (focus (have hb2 := (hG 0 _ rfl (by kernel_rfl) : Below w.heap.size wb w2); have hzz := hb2.size; clear hG hd hb2; go_simp; exact Tame.Has.mk ((Below.refl _ _).alloc (Nat.le_refl _) _) ⟨w2.heap.size, rfl, by rw [← HVE.out]; exact Row.made _ _ _, fun e => by have := HV.out _ e.symm; omega⟩)))
          | (refine Tame.walk3_write (o := ⟨some 22, _, _, _, _, _⟩) (AppT w.heap.size ((l.map varT).take (i + 1))) (none) ([]) (fun _ => rfl) (by kernel_rfl) (by kernel_rfl) (fun u a c hl h => OwnG.later lastsT h hl) (fun i _ hj => by cases hj) (fun vals w2 hG hd => ?_) ?_; (focus (have hb2 := (hG 0 _ rfl (by kernel_rfl) : Below w.heap.size wb w2); have hzz := hb2.size; have h1 := (hd 9 _ rfl (by kernel_rfl) rfl : NewT v (varT y) (vals 9) w2); have h2 := (hG 1 _ rfl (by kernel_rfl) : OwnG RT 9 1 w2 w.heap.size (Sb w.heap.size v.ownBlock w2) v ((l.map varT).take i)); clear hG hd hb2; obtain ⟨g1, hv1, hr1, hg1⟩ := h1; obtain ⟨cs, ho, hx⟩ := h2; exact op_append (.tmp 12) (.tmp 21) _ rfl w.heap.size 9 i0 _ 1 16 Tryd.underlying39 hi0 hz0 hz1 hz2 rfl (by omega) (by omega) v _ cs rfl ho g1 1 9 [.string ⟨(varT y).toArray⟩] hv1 rfl hr1 (lastsT.one (w := w2) (S := fun _ => True) rfl) (by simp; omega) (by omega) (fun v' w' ho' hgr hat => ⟨hgr, OwnG.step lastsT HY.out hx ho' hgr hat rfl⟩))))
          | (refine Tame.walk3_some (o := ⟨some 3, _, _, _, _, _⟩) (AppT w.heap.size ((l.map varT).take (i + 1))) (none) ([]) (by kernel_rfl) (fun _ => rfl) (by kernel_rfl) (fun u a c hl h => OwnG.later lastsT h hl) (fun i _ hj => by cases hj) (fun vals w2 hG hd => ?_) ?_; (focus (have h1 := (hd 10 _ rfl (by kernel_rfl) rfl : AppT w.heap.size ((l.map varT).take (i + 1)) (vals 10) w2); have H1 := Lib.hid h1; clear hG hd h1; go_simp; exact Tame.Has.mk (Tame.Later.refl _) H1.out)))
          | (refine Tame.walk3_known (by kernel_rfl) (fun _ => rfl) ?_; apply Exists.intro; refine ⟨fun vals w2 hG hd => ?_, ?_⟩; (focus (go_simp; first | exact Tame.Is.mk (Tame.Later.refl _) | (rw [if_neg]; (focus exact Tame.Is.mk (Tame.Later.refl _)); omega)))))
         simp only [Act.put, List.setIfInBounds_toArray, List.set_cons_zero, List.set_cons_succ, List.nil_append, List.cons_append, List.length_cons, List.length_nil, Nat.zero_add, Nat.reduceAdd])
      refine Tame.walk3_end fun vals w2 hG hts => ?_
      have f0 : Below w.heap.size wb w2 := hG 0 _ rfl (by kernel_rfl)
      have f1 : AppT w.heap.size ((l.map varT).take (i + 1)) (vals 11) w2 := hts 11 _ rfl rfl
      have F0 := Lib.hid (HBW.out.trans ((HBB.out.mono hws).trans f0))
      have F1 := Lib.hid f1
      clear f0 f1 hts hG
      go_wp2_with fail
      go_roundg (l.length - (i + 1))
      case rel => exact ⟨i + 1, by omega, by go_num, F1.out, F0.out⟩
      case measure => omega
    · obtain rfl : i = l.length := by omega
      have hfull : (l.map varT).take l.length = l.map varT := List.take_of_length_le (by simp)
      rw [hfull] at ho
      have HJ := Lib.hid (joinOwn [59, 32] (l.map varT) _ _ _ wr ho (by rw [List.length_map]; exact hlen) (by have := varsS_len HLN.out; unfold varsS at this; omega))
      clear ho hbw HO
      go_wp2_with (go_at_call 82; refine HJ.out.mono ?_; rintro e w1 ⟨rfl, hb1⟩; have HB1 := Lib.hid hb1; clear hb1)
      go_ret
      exact ⟨rfl, HBW.out.trans (HB1.out.mono hws)⟩

end Go.Proofs.YtfajnflfonechaaDoor

namespace Go.Proofs.YtfajnflfonechaaDoor
open Go.RowKit

theorem PrEnv.up {B B' : Nat} {w : World} (h : PrEnv B w) (hB : B ≤ B') : PrEnv B' w := by
  obtain ⟨g1, g2, g3, g4⟩ := h.lt_
  exact ⟨h.ops_, h.levs_, h.pre_, h.types_, h.tab_, by omega, by omega, by omega, by omega⟩

set_option maxRecDepth 100000 in
set_option maxHeartbeats 2000000 in
theorem pexpr_any (x : X) (A : Option Addr) (c : Nat) (w : World) (S : Nat → Prop) (ht : ShapesAt w) (hok : x.ok) (hsz : x.size ≤ 1000000) (hk : KS w S A x.ks) (hS : ∀ b, S b → b < w.heap.size) (he : PrEnv w.heap.size w) :
    Calls Tryd.prog 18 #[ev x A c] w fun e w' => e = .returned (.string ⟨(if rightB x then x.txt else []).toArray⟩) ∧ Below w.heap.size w w' := by
  obtain ⟨w0, hw0⟩ : ∃ w0, w0 = w.alloc (.cells #[.int .i64 x.k, .int .i64 x.o, .int .i64 x.n, .string ⟨x.s.toArray⟩, .slice A x.ks.length c] 61) := ⟨_, rfl⟩
  have hb0 : Below w.heap.size w w0 := by rw [hw0]; exact (Below.refl _ _).alloc (Nat.le_refl _) _
  have HR0 : Hid (Row w0 w.heap.size 61 #[.int .i64 x.k, .int .i64 x.o, .int .i64 x.n, .string ⟨x.s.toArray⟩, .slice A x.ks.length c]) := Lib.hid (by rw [hw0]; exact Row.made _ _ _)
  have hk0 := hk.later hS hb0
  have hS0 := stay_lt hS hb0
  have HC := Lib.hid (Right_any x A c w0 S (ht.later hb0) hok (by omega) hk0 hS0)
  have HB0 := Lib.hid hb0
  have HK0 := Lib.hid hk0
  have HS := Lib.hid hS
  have HE0 : Hid (PrEnv w.heap.size w0) := Lib.hid (he.later hb0)
  have HX := Lib.hid (expr_all x.size x (Nat.le_refl _))
  have HZ := Lib.hid hsz
  have HRT : Hid (rightB x = true → x.shape = true) := Lib.hid fun h => by
    have : (inB x.depth 200 && x.shape) = true := h
    rw [Bool.and_eq_true] at this
    exact this.2
  clear hk hk0 hS0 hS ht hok hsz hb0 he
  obtain ⟨r, hr⟩ : ∃ r, r = rightB x := ⟨_, rfl⟩
  have HRR := Lib.hid hr
  rw [← hr] at HC HRT ⊢
  clear hr
  go_enter Tryd.func18, Tryd.ntmps18
  simp only [ev]
  simp only [ev] at HC
  go_upto_region 1 with fail
  rw [← hw0]
  clear hw0
  have c0 := HR0.out.cell 0
  have c1 := HR0.out.cell 1
  have c2 := HR0.out.cell 2
  have c3 := HR0.out.cell 3
  have c4 := HR0.out.cell 4
  simp at c0 c1 c2 c3 c4
  cases r with
  | false =>
    go_wp2_with (go_at_call 42; refine HC.out.mono ?_; rintro e w1 ⟨rfl, hb1⟩; have HB1 := Lib.hid hb1; clear hb1 HC)
    go_ret
    exact ⟨rfl, HB0.out.trans (HB1.out.mono HB0.out.size)⟩
  | true =>
    go_upto_region 3 with (go_at_call 42; refine HC.out.mono ?_; rintro e w1 ⟨rfl, hb1⟩; have HB1 := Lib.hid hb1; clear hb1 HC)
    clear c0 c1 c2 c3 c4
    have hbw : Below w.heap.size w w1 := HB0.out.trans (HB1.out.mono HB0.out.size)
    have HBW := Lib.hid hbw
    obtain ⟨w2, hw2⟩ : ∃ w2, w2 = w1.alloc (.cells #[.pointer none, .slice none 0 0] 84) := ⟨_, rfl⟩
    have hb2 : Below w1.heap.size w1 w2 := by rw [hw2]; exact (Below.refl _ _).alloc (Nat.le_refl _) _
    have hr2 := (HR0.out.below HB1.out HR0.out.lt).below hb2 (HR0.out.below HB1.out HR0.out.lt).lt
    have c0 := hr2.cell 0
    have c1 := hr2.cell 1
    have c2 := hr2.cell 2
    have c3 := hr2.cell 3
    have c4 := hr2.cell 4
    simp at c0 c1 c2 c3 c4
    have hws : WS w1.heap.size w1.heap.size [] w2 := by rw [hw2]; exact WS.made w1
    have hk2 : KS w2 S A x.ks := (HK0.out.later (stay_lt HS.out HB0.out) HB1.out).later (fun b hb => stay_lt HS.out hbw b hb) hb2
    have he2 : PrEnv w1.heap.size w2 := ((HE0.out.later (HB1.out.mono HB0.out.size)).up hbw.size).later hb2
    have HX2 := Lib.hid (HX.out w1.heap.size w1.heap.size [] A c w2 S (by first | exact HRT.out rfl | exact HRT.out trivial | exact HRT.out) hk2 (fun q hq => stay_lt HS.out hbw q hq) hws he2 hb2.size (by have := HZ.out; simp; omega))
    have HB2 := Lib.hid hb2
    clear hws hk2 he2 hr2 hbw hb2
    simp only [ev] at HX2
    go_upto_region 4 with fail
    rw [← hw2]
    clear hw2
    have hpz : 1 = 1 := rfl
    go_wp2_with (first | (go_at_call 43; refine HX2.out.mono ?_; rintro e w3 ⟨rfl, h3, h4⟩; have HW3 := Lib.hid h3; have HF3 := Lib.hid h4; clear h3 h4 c0 c1 c2 c3 c4) | (go_at_call 31; refine (wstr_any w1.heap.size w1.heap.size _ w3 HW3.out (Nat.le_trans HB2.out.size HF3.out.below_.size)).mono ?_; rintro e w4 ⟨rfl, h5⟩; have HB4 := Lib.hid h5; clear h5))
    go_ret
    exact ⟨rfl, HBW.out.trans ((HB2.out.trans (HF3.out.below_.trans HB4.out)).mono HBW.out.size)⟩

end Go.Proofs.YtfajnflfonechaaDoor

namespace Go.Proofs.YtfajnflfonechaaDoor
open Go.RowKit
attribute [local go_sem] Tame.Op Tame.upon

def TxR (ts : List T) (u : Value) (w : World) : Prop := ∃ g, u = .slice (some ⟨g, 0, none⟩) ts.length ts.length ∧ Row w g 9 (txs ts)
theorem TxR.later {ts : List T} {u : Value} {w w' : World} (h : TxR ts u w) (hl : Tame.Later w w') : TxR ts u w' := by
  obtain ⟨g, hv, hr⟩ := h
  exact ⟨g, hv, hr.below hl hr.lt⟩
theorem TxR.turn {B : Nat} {ts : List T} {u : Value} {w w' : World} (h : TxR ts u w) (hs : Wrote B w w') : TxR ts u w' := by
  obtain ⟨g, hv, hr⟩ := h
  exact ⟨g, hv, hs.row hr⟩
def ghostsN (B b : Nat) (l : T) (w0 : World) : List Tame.Ghost := [⟨fun w => Wrote B w0 w ∧ B ≤ w.heap.size, [10]⟩, ⟨fun w => WS B b l w, []⟩]
theorem ghostsN_ok {B b : Nat} {l : T} {w0 : World} (hB : B ≤ w0.heap.size) (hw : WS B b l w0) :
    ∀ (i : Nat) (g : Tame.Ghost), (ghostsN B b l w0)[i]? = some g → g.g w0.drew ∧ (∀ w w', Tame.Later w w' → g.g w → g.g w') ∧
      ∀ j, [10].contains j = true → g.keeps.contains j = true → ∀ w w', Wrote B w w' → g.g w → g.g w' := by
  intro i g hi
  rcases i with _ | _ | i
  · obtain rfl : (⟨fun w => Wrote B w0 w ∧ B ≤ w.heap.size, [10]⟩ : Tame.Ghost) = g := by simpa [ghostsN] using hi
    exact ⟨⟨Wrote.later hB ((Below.refl _ _).drew), hB⟩, fun a b hl h => ⟨h.1.trans (Wrote.later h.2 hl), Nat.le_trans h.2 (Below.size hl)⟩, fun j _ _ a b hs h => ⟨h.1.trans hs, Nat.le_trans h.2 hs.below_.size⟩⟩
  · obtain rfl : (⟨fun w => WS B b l w, []⟩ : Tame.Ghost) = g := by simpa [ghostsN] using hi
    exact ⟨hw.later ((Below.refl _ _).drew), fun a b hl h => WS.later h hl, fun j _ hj => by cases hj⟩
  · simp [ghostsN] at hi

/-- A node that is right, and no greater than is asked. -/
structure goodQ (q : Q) : Prop where
  lhs_ : shortT q.lhs
  shape_ : q.rhs.shape = true
  size_ : q.rhs.size ≤ 300
structure goodN (n : Nd) : Prop where
  name_ : n.name.length ≤ 60
  ins_ : shortV n.ins
  outs_ : shortV n.outs
  locals_ : shortV n.locals
  few_ : n.eqs.length ≤ 40
  eqs_ : ∀ q ∈ n.eqs, goodQ q
theorem leftS_len {l : List T} (h : shortT l) : (leftS l).length ≤ 68002 := by
  have h1 := sepT_len (l := l) ⟨h.1.2, fun t ht => by have := h.2 t ht; omega⟩
  unfold leftS
  split
  · rename_i e
    obtain ⟨t, ht⟩ : ∃ t, l[0]? = some t := ⟨_, List.getElem?_eq_getElem (by omega)⟩
    have := h.2 t (List.mem_of_getElem? ht)
    rw [List.getD_eq_getElem?_getD, ht]
    show t.length ≤ _
    omega
  · simp only [List.length_append, List.length_cons, List.length_nil]; omega
theorem eqS_len {q : Q} (h : goodQ q) : (eqS q).length ≤ 100000 := by
  have h1 := leftS_len h.lhs_
  have h2 := X.txt_len q.rhs h.shape_
  have h3 := h.size_
  simp only [eqS, List.length_append, List.length_cons, List.length_nil]
  omega
theorem eqsS_len {l : List Q} (h : ∀ q ∈ l, goodQ q) : ((l.map eqS).flatten).length ≤ 100000 * l.length := by
  induction l with
  | nil => simp
  | cons q l ih =>
    have h1 := eqS_len (h q (List.mem_cons_self ..))
    have h2 := ih fun q hq => h q (List.mem_cons_of_mem _ hq)
    simp only [List.map_cons, List.flatten_cons, List.length_append, List.length_cons]
    omega
theorem headS_len {n : Nd} (h : goodN n) : (headS n).length ≤ 137000 := by
  have h0 := h.name_
  have h1 := varsS_len h.ins_
  have h2 := varsS_len h.outs_
  simp only [headS, List.length_append, List.length_cons, List.length_nil]
  omega
theorem localsS_len {n : Nd} (h : goodN n) : (localsS n.locals).length ≤ 68010 := by
  have h1 := varsS_len h.locals_
  unfold localsS
  split
  · simp
  · simp only [List.length_append, List.length_cons, List.length_nil]; omega
theorem nodeS_len {n : Nd} (h : goodN n) : (nodeS n).length ≤ 5000000 := by
  have h1 := headS_len h
  have h2 := localsS_len h
  have h3 := eqsS_len h.eqs_
  have h4 := h.few_
  simp only [nodeS, List.length_append, List.length_cons, List.length_nil]
  omega
theorem Wrote.vs {B : Nat} {w w' : World} {S : Nat → Prop} {A : Option Addr} {l : List Vr} (h : Wrote B w w') (hk : VS w S A l) (hS : ∀ q, S q → q < B) : VS w' S A l := hk.move fun q hq => ⟨hq, h.below_.block q (hS q hq)⟩
theorem Wrote.qs {B : Nat} {w w' : World} {S : Nat → Prop} {A : Option Addr} {l : List Q} (h : Wrote B w w') (hk : QS w S A l) (hS : ∀ q, S q → q < B) : QS w' S A l := hk.move fun q hq => ⟨hq, h.below_.block q (hS q hq)⟩

set_option maxRecDepth 100000 in
set_option maxHeartbeats 4000000 in
theorem pnode_any (n : Nd) (A1 A2 A3 A4 : Option Addr) (c1 c2 c3 c4 B b : Nat) (l : T) (w : World) (S : Nat → Prop) (hn : goodN n) (h1 : VS w S A1 n.ins) (h2 : VS w S A2 n.outs) (h3 : VS w S A3 n.locals) (h4 : QS w S A4 n.eqs)
    (hS : ∀ q, S q → q < B) (hw : WS B b l w) (he : PrEnv B w) (hB : B ≤ w.heap.size) (hlen : l.length ≤ 900000000) :
    Calls Tryd.prog 30 #[.pointer (some ⟨b, 0, none⟩), .agg #[.string ⟨n.name.toArray⟩, .slice A1 n.ins.length c1, .slice A2 n.outs.length c2, .slice A3 n.locals.length c3, .slice A4 n.eqs.length c4]] w fun e w' => e = .returned (.tuple #[]) ∧ WS B b (l ++ nodeS n) w' ∧ Wrote B w w' := by
  obtain ⟨w0, hw0⟩ : ∃ w0, w0 = w.alloc (.cells #[.string ⟨n.name.toArray⟩, .slice A1 n.ins.length c1, .slice A2 n.outs.length c2, .slice A3 n.locals.length c3, .slice A4 n.eqs.length c4] 88) := ⟨_, rfl⟩
  have hb0 : Below w.heap.size w w0 := by rw [hw0]; exact (Below.refl _ _).alloc (Nat.le_refl _) _
  have HR0 : Hid (Row w0 w.heap.size 88 #[.string ⟨n.name.toArray⟩, .slice A1 n.ins.length c1, .slice A2 n.outs.length c2, .slice A3 n.locals.length c3, .slice A4 n.eqs.length c4]) := Lib.hid (by rw [hw0]; exact Row.made _ _ _)
  have HF0 : Hid (Wrote B w w0) := Lib.hid (Wrote.later hB hb0)
  have HW0 : Hid (WS B b l w0) := Lib.hid (hw.later hb0)
  have hB0 : B ≤ w0.heap.size := Nat.le_trans hB hb0.size
  have HS := Lib.hid hS
  have HE0 : Hid (PrEnv B w0) := Lib.hid (he.later (hb0.mono hB))
  have HV : Hid (∀ w2, Wrote B w0 w2 → VS w2 S A1 n.ins ∧ VS w2 S A2 n.outs ∧ VS w2 S A3 n.locals ∧ QS w2 S A4 n.eqs) := Lib.hid fun w2 hw2 => ⟨(HF0.out.trans hw2).vs h1 hS, (HF0.out.trans hw2).vs h2 hS, (HF0.out.trans hw2).vs h3 hS, (HF0.out.trans hw2).qs h4 hS⟩
  have HN := Lib.hid hn
  have HCI : Hid (∀ w2, Wrote B w0 w2 → B ≤ w2.heap.size → Calls Tryd.prog 54 #[.slice A1 n.ins.length c1] w2 fun e w' => e = .returned (.string ⟨(varsS n.ins).toArray⟩) ∧ Below w2.heap.size w2 w') := Lib.hid fun w2 hf hb => pvars_any n.ins A1 c1 w2 S hn.ins_ (HV.out w2 hf).1 (fun q hq => Nat.lt_of_lt_of_le (hS q hq) hb) ((HE0.out.later hf.below_).up hb)
  have HCO : Hid (∀ w2, Wrote B w0 w2 → B ≤ w2.heap.size → Calls Tryd.prog 54 #[.slice A2 n.outs.length c2] w2 fun e w' => e = .returned (.string ⟨(varsS n.outs).toArray⟩) ∧ Below w2.heap.size w2 w') := Lib.hid fun w2 hf hb => pvars_any n.outs A2 c2 w2 S hn.outs_ (HV.out w2 hf).2.1 (fun q hq => Nat.lt_of_lt_of_le (hS q hq) hb) ((HE0.out.later hf.below_).up hb)
  have HCL : Hid (∀ w2, Wrote B w0 w2 → B ≤ w2.heap.size → Calls Tryd.prog 54 #[.slice A3 n.locals.length c3] w2 fun e w' => e = .returned (.string ⟨(varsS n.locals).toArray⟩) ∧ Below w2.heap.size w2 w') := Lib.hid fun w2 hf hb => pvars_any n.locals A3 c3 w2 S hn.locals_ (HV.out w2 hf).2.2.1 (fun q hq => Nat.lt_of_lt_of_le (hS q hq) hb) ((HE0.out.later hf.below_).up hb)
  have hnl := hn.name_
  have hvi := varsS_len hn.ins_
  have hvo := varsS_len hn.outs_
  have hvl := varsS_len hn.locals_
  have hql := hn.few_
  clear h1 h2 h3 h4 hS hw he hb0 hn
  obtain ⟨nm, hnm⟩ : ∃ nm, nm = n.name := ⟨_, rfl⟩
  obtain ⟨vi, hvi'⟩ : ∃ vi, vi = varsS n.ins := ⟨_, rfl⟩
  obtain ⟨vo, hvo'⟩ : ∃ vo, vo = varsS n.outs := ⟨_, rfl⟩
  obtain ⟨vl, hvl'⟩ : ∃ vl, vl = varsS n.locals := ⟨_, rfl⟩
  have HHD : Hid ([[110, 111, 100, 101, 32], nm, [40], vi, [41, 32, 114, 101, 116, 117, 114, 110, 115, 32, 40], vo, [41, 59, 10]].flatten = headS n) := Lib.hid (by rw [hnm, hvi', hvo']; simp [headS])
  have HLC : Hid (localsS n.locals = if n.locals.length = 0 then [] else [118, 97, 114, 32] ++ (vl ++ [59, 10])) := Lib.hid (by rw [hvl']; rfl)
  have hhl := headS_len HN.out
  rw [← hnm] at HR0 hnl hw0 ⊢
  rw [← hvi'] at HCI hvi
  rw [← hvo'] at HCO hvo
  rw [← hvl'] at HCL hvl
  clear hnm hvi' hvo' hvl'
  go_enter Tryd.func30, Tryd.ntmps30
  go_upto_region 1 with fail
  rw [← hw0]
  clear hw0
  refine Tame.wp_region_tamg (L := Tame.Later) (M := fun _ a b => Wrote B a b) (gs := ghostsN B b l w0) [10] (by kernel_rfl) (by kernel_rfl) Tame.Later.refl (fun _ w => Wrote.refl B w) (ghostsN_ok hB0 HW0.out) ?_
  repeat
    ((first
      | (refine Tame.walk3_known (o := ⟨some 8, _, _, _, _, _⟩) (by kernel_rfl) (fun _ => rfl) ?_; apply Exists.intro; refine ⟨fun vals w2 hG hd => ?_, ?_⟩; (focus (have hg0 := (hG 0 _ rfl (by kernel_rfl) : Wrote B w0 w2 ∧ B ≤ w2.heap.size); have r := hg0.1.row HR0.out; have e0 := r.cell 0; clear hG hd hg0 r; simp at e0; go_simp; exact Tame.Is.mk (Tame.Later.refl _))))
      | (refine Tame.walk3_known (o := ⟨some 10, _, _, _, _, _⟩) (by kernel_rfl) (fun _ => rfl) ?_; apply Exists.intro; refine ⟨fun vals w2 hG hd => ?_, ?_⟩; (focus (have hg0 := (hG 0 _ rfl (by kernel_rfl) : Wrote B w0 w2 ∧ B ≤ w2.heap.size); have r := hg0.1.row HR0.out; have e1 := r.cell 1; clear hG hd hg0 r; simp at e1; go_simp; exact Tame.Is.mk (Tame.Later.refl _))))
      | (refine Tame.walk3_known (o := ⟨some 13, _, _, _, _, _⟩) (by kernel_rfl) (fun _ => rfl) ?_; apply Exists.intro; refine ⟨fun vals w2 hG hd => ?_, ?_⟩; (focus (have hg0 := (hG 0 _ rfl (by kernel_rfl) : Wrote B w0 w2 ∧ B ≤ w2.heap.size); have r := hg0.1.row HR0.out; have e2 := r.cell 2; clear hG hd hg0 r; simp at e2; go_simp; exact Tame.Is.mk (Tame.Later.refl _))))
      | (refine Tame.walk3_known (o := ⟨some 11, _, _, _, _, _⟩) (by kernel_rfl) (fun _ => rfl) ?_; apply Exists.intro; refine ⟨fun vals w2 hG hd => ?_, ?_⟩; (focus (have hg0 := (hG 0 _ rfl (by kernel_rfl) : Wrote B w0 w2 ∧ B ≤ w2.heap.size); have HCC := Lib.hid (HCI.out w2 hg0.1 hg0.2); clear hG hd hg0; go_simp; exact Tame.known HCC.out)))
      | (refine Tame.walk3_known (o := ⟨some 14, _, _, _, _, _⟩) (by kernel_rfl) (fun _ => rfl) ?_; apply Exists.intro; refine ⟨fun vals w2 hG hd => ?_, ?_⟩; (focus (have hg0 := (hG 0 _ rfl (by kernel_rfl) : Wrote B w0 w2 ∧ B ≤ w2.heap.size); have HCC := Lib.hid (HCO.out w2 hg0.1 hg0.2); clear hG hd hg0; go_simp; exact Tame.known HCC.out)))
      | (refine Tame.walk3_some (o := ⟨some 15, _, _, _, _, _⟩) (TxR [[110, 111, 100, 101, 32], nm, [40], vi, [41, 32, 114, 101, 116, 117, 114, 110, 115, 32, 40], vo, [41, 59, 10]]) (none) ([10]) (by kernel_rfl) (fun _ => rfl) (by kernel_rfl) (fun u a c hl h => h.later hl) (fun i _ _ u a c hs h => h.turn hs) (fun vals w2 hG hd => ?_) ?_; (focus (clear hG hd; go_simp; exact Tame.Has.mk ((Below.refl _ _).alloc (Nat.le_refl _) _) ⟨w2.heap.size, rfl, Row.made _ _ _⟩)))
      | (refine Tame.walk3_write (o := ⟨some 16, _, _, _, _, _⟩) (fun _ w' => WS B b (l ++ [[110, 111, 100, 101, 32], nm, [40], vi, [41, 32, 114, 101, 116, 117, 114, 110, 115, 32, 40], vo, [41, 59, 10]].flatten) w') (none) ([]) (fun _ => rfl) (by kernel_rfl) (by kernel_rfl) (fun u a c hl h => WS.later h hl) (fun i _ hj => by cases hj) (fun vals w2 hG hd => ?_) ?_; (focus (have hg0 := (hG 0 _ rfl (by kernel_rfl) : Wrote B w0 w2 ∧ B ≤ w2.heap.size); have h1 := (hd 9 _ rfl (by kernel_rfl) rfl : TxR [[110, 111, 100, 101, 32], nm, [40], vi, [41, 32, 114, 101, 116, 117, 114, 110, 115, 32, 40], vo, [41, 59, 10]] (vals 9) w2); have h2 := (hG 1 _ rfl (by kernel_rfl) : WS B b l w2); clear hG hd; obtain ⟨g, hv, hr⟩ := h1; have HPP : Hid (Calls Tryd.prog 53 #[.pointer (some ⟨b, 0, none⟩), .slice (some ⟨g, 0, none⟩) 7 7] w2 fun e w' => e = .returned (.tuple #[]) ∧ WS B b (l ++ [[110, 111, 100, 101, 32], nm, [40], vi, [41, 32, 114, 101, 116, 117, 114, 110, 115, 32, 40], vo, [41, 59, 10]].flatten) w' ∧ Wrote B w2 w') := Lib.hid (put_any B b l [[110, 111, 100, 101, 32], nm, [40], vi, [41, 32, 114, 101, 116, 117, 114, 110, 115, 32, 40], vo, [41, 59, 10]] g 7 w2 h2 (by simp; omega) (by simp) hg0.2 hr); have hv : vals 9 = .slice (some ⟨g, 0, none⟩) 7 7 := hv; clear h2 hr hg0; go_simp; refine HPP.out.mono ?_; rintro e w' ⟨rfl, g1, g2⟩; exact ⟨_, rfl, Tame.Leaves.mk g2 g1⟩)))
      | (refine Tame.walk3_known (by kernel_rfl) (fun _ => rfl) ?_; apply Exists.intro; refine ⟨fun vals w2 hG hd => ?_, ?_⟩; (focus (go_simp; first | exact Tame.Is.mk (Tame.Later.refl _) | (rw [if_neg]; (focus exact Tame.Is.mk (Tame.Later.refl _)); omega)))))
     simp only [Act.put, List.setIfInBounds_toArray, List.set_cons_zero, List.set_cons_succ, List.nil_append, List.cons_append, List.length_cons, List.length_nil, Nat.zero_add, Nat.reduceAdd])
  refine Tame.walk3_end fun vals w2 hG hts => ?_
  have f0 : Wrote B w0 w2 ∧ B ≤ w2.heap.size := hG 0 _ rfl (by kernel_rfl)
  have f1 : WS B b (l ++ [[110, 111, 100, 101, 32], nm, [40], vi, [41, 32, 114, 101, 116, 117, 114, 110, 115, 32, 40], vo, [41, 59, 10]].flatten) w2 := hts 10 _ rfl rfl
  have HF2 := Lib.hid f0.1
  have hB2 := f0.2
  have HW2 : Hid (WS B b (l ++ headS n) w2) := Lib.hid (by rw [← HHD.out]; exact f1)
  have HR2 := Lib.hid (f0.1.row HR0.out)
  clear f0 f1 hts hG HHD
  have e3 := HR2.out.cell 3
  simp at e3
  go_upto_if 20 with fail
  go_cut [3] from 20 (fun v w3 => v = .pointer (some ⟨w.heap.size, 0, none⟩) ∧ WS B b (l ++ (headS n ++ localsS n.locals)) w3 ∧ Wrote B w2 w3)
  case first =>
    by_cases hl0 : n.locals.length = 0
    · have i0 : ¬ (0 : Int) < (n.locals.length : Int) := by omega
      have HL0 : Hid (localsS n.locals = []) := Lib.hid (by rw [HLC.out, if_pos hl0])
      clear hl0
      go_wp2_with fail
      go_meet
      case rel => exact ⟨rfl, by rw [HL0.out, List.append_nil]; exact HW2.out, Wrote.refl _ _⟩
    · have i0 : (0 : Int) < (n.locals.length : Int) := by omega
      have HL0 : Hid (localsS n.locals = [[118, 97, 114, 32], vl, [59, 10]].flatten) := Lib.hid (by rw [HLC.out, if_neg hl0]; simp)
      clear hl0
      go_wp2_with (first | (go_at_call 54; refine (HCL.out w2 HF2.out hB2).mono ?_; rintro e w3 ⟨rfl, g1⟩; have HG1 := Lib.hid g1; have hB3 : B ≤ w3.heap.size := Nat.le_trans hB2 g1.size; clear g1) | (go_at_call 53; refine (put_lit B b (l ++ headS n) [[118, 97, 114, 32], vl, [59, 10]] 3 3 w3 (HW2.out.later HG1.out) rfl (by simp; omega) (by omega) hB3).mono ?_; rintro e w4 ⟨rfl, g2, g3⟩; have HG2 := Lib.hid g2; have HG3 := Lib.hid g3; clear g2 g3))
      go_meet
      case rel => exact ⟨rfl, by rw [HL0.out, ← List.append_assoc]; exact HG2.out, (Wrote.later hB2 HG1.out).trans HG3.out⟩
  case rest =>
    obtain ⟨rfl, h3, h4⟩ := hcut
    obtain ⟨l1, hl1⟩ : ∃ l1, l1 = l ++ (headS n ++ localsS n.locals) := ⟨_, rfl⟩
    rw [← hl1] at h3
    have hll : l1.length ≤ 901000000 := by rw [hl1]; have := localsS_len HN.out; simp only [List.length_append]; omega
    have HL1 := Lib.hid hl1
    have HW3 := Lib.hid h3
    have HF3 := Lib.hid (HF2.out.trans h4)
    have HR3 := Lib.hid (h4.row HR2.out)
    have hB3 : B ≤ wc.heap.size := Nat.le_trans hB2 h4.below_.size
    clear h3 h4 hl1 HCI HCO HCL HLC hhl hvi hvo hvl hnl e3
    go_upto_region 5 with (go_at_call 53; refine (put_lit B b l1 [[108, 101, 116, 10]] 1 1 wc HW3.out rfl (by simp; omega) (by omega) hB3).mono ?_; rintro e w4 ⟨rfl, g2, g3⟩; have HW4 := Lib.hid g2; have HG3 := Lib.hid g3; clear g2 g3)
    obtain ⟨l2, hl2⟩ : ∃ l2, l2 = l1 ++ [[108, 101, 116, 10]].flatten := ⟨_, rfl⟩
    rw [← hl2] at HW4
    have hll2 : l2.length ≤ 902000000 := by rw [hl2]; simp; omega
    have HL2 := Lib.hid hl2
    have HF4 := Lib.hid (HF3.out.trans HG3.out)
    have HR4 := Lib.hid (HG3.out.row HR3.out)
    have hB4 : B ≤ w4.heap.size := Nat.le_trans hB3 HG3.out.below_.size
    have HE4 : Hid (PrEnv B w4) := Lib.hid (HE0.out.later HF4.out.below_)
    have HQ4 := Lib.hid (HV.out w4 HF4.out).2.2.2
    have e4 := HR4.out.cell 4
    simp at e4
    clear hl2 HG3 HF3 HR3 HW3 hB3 HF2 hB2 HW2 HR2
    go_wp2_with fail
    clear e4
    go_loopg [33] n.eqs.length (fun g' k wr => ∃ i : Nat, i + g' = n.eqs.length ∧ k = .int .i64 (i : Int) ∧ WS B b (l2 ++ ((n.eqs.take i).map eqS).flatten) wr ∧ Wrote B w4 wr)
    case atStart => exact ⟨0, by omega, rfl, by simpa using HW4.out, Wrote.refl _ _⟩
    case round =>
      obtain ⟨i, hi, rfl, hws, hwr⟩ := hrel
      have hBr : B ≤ wr.heap.size := Nat.le_trans hB4 hwr.below_.size
      have hpl : ((n.eqs.take i).map eqS).flatten.length ≤ 4000000 := by
        have := eqsS_len (l := n.eqs.take i) fun q hq => HN.out.eqs_ q (List.mem_of_mem_take hq)
        rw [List.length_take] at this
        omega
      obtain ⟨lc, hlc⟩ : ∃ lc, lc = l2 ++ ((n.eqs.take i).map eqS).flatten := ⟨_, rfl⟩
      rw [← hlc] at hws
      have hlcl : lc.length ≤ 907000000 := by rw [hlc, List.length_append]; omega
      have HLC := Lib.hid hlc
      have HWS := Lib.hid hws
      have HWR := Lib.hid hwr
      clear hlc hws hwr hpl
      by_cases hil : i < n.eqs.length
      · obtain ⟨q, hq⟩ : ∃ q, n.eqs[i]? = some q := ⟨_, List.getElem?_eq_getElem hil⟩
        have hgq := HN.out.eqs_ q (List.mem_of_getElem? hq)
        have HSN : Hid (((n.eqs.take (i + 1)).map eqS).flatten = ((n.eqs.take i).map eqS).flatten ++ eqS q) := Lib.hid (by rw [List.take_add_one, hq]; simp)
        have hSr : ∀ q, S q → q < wr.heap.size := fun q hq => Nat.lt_of_lt_of_le (HS.out q hq) hBr
        obtain ⟨bq, off, B1, g1, B2, g2, hA, d0, d1, d2, d3, d4, d5, hts, hks, hbl, hSq, hroom⟩ := (HWR.out.qs HQ4.out HS.out).at_ hSr (Below.refl _ _) hq
        obtain ⟨wb, hwb⟩ : ∃ wb, wb = wr.alloc (.cells #[.slice B1 q.lhs.length g1, .int .i64 q.rhs.k, .int .i64 q.rhs.o, .int .i64 q.rhs.n, .string ⟨q.rhs.s.toArray⟩, .slice B2 q.rhs.ks.length g2] 93) := ⟨_, rfl⟩
        have hbb : Below wr.heap.size wr wb := by rw [hwb]; exact (Below.refl _ _).alloc (Nat.le_refl _) _
        have hBb : B ≤ wb.heap.size := Nat.le_trans hBr hbb.size
        have HRQ : Hid (Row wb wr.heap.size 93 #[.slice B1 q.lhs.length g1, .int .i64 q.rhs.k, .int .i64 q.rhs.o, .int .i64 q.rhs.n, .string ⟨q.rhs.s.toArray⟩, .slice B2 q.rhs.ks.length g2]) := Lib.hid (by rw [hwb]; exact Row.made _ _ _)
        have HWB := Lib.hid (HWS.out.later hbb)
        have HFB : Hid (Wrote B wr wb) := Lib.hid (Wrote.later hBr hbb)
        have HKB : Hid (KS wb S B2 q.rhs.ks) := Lib.hid (HFB.out.ks hks HS.out)
        have HCF : Hid (Calls Tryd.prog 55 #[.slice B1 q.lhs.length g1] wb fun e w' => e = .returned (.string ⟨(leftS q.lhs).toArray⟩) ∧ Below wb.heap.size wb w') := Lib.hid (left_any q.lhs B1 g1 wb S hgq.lhs_ (hts.move (stay hSr hbb)) (fun q hq => Nat.lt_of_lt_of_le (HS.out q hq) hBb) hroom)
        have hlfl := leftS_len hgq.lhs_
        have HQS : Hid (eqS q = [[32, 32], leftS q.lhs, [32, 61, 32]].flatten ++ (q.rhs.txt ++ [[59, 10]].flatten)) := Lib.hid (by simp [eqS])
        obtain ⟨lf, hlf⟩ : ∃ lf, lf = leftS q.lhs := ⟨_, rfl⟩
        rw [← hlf] at HCF HQS hlfl
        have hxl := X.txt_len q.rhs hgq.shape_
        have hxs := hgq.size_
        have HX := Lib.hid (expr_all q.rhs.size q.rhs (Nat.le_refl _))
        have HSH := Lib.hid hgq.shape_
        have HEB := Lib.hid (HE4.out.later (HWR.out.below_.trans HFB.out.below_))
        subst hA
        clear hq hgq hts hks hroom hSq hlf
        go_upto_region 8 with fail
        rw [← hwb]
        clear d0 d1 d2 d3 d4 d5 hwb hbb
        have y0 := HRQ.out.cell 0
        simp at y0
        go_upto_region 9 with (first | (go_at_call 55; refine HCF.out.mono ?_; rintro e w5 ⟨rfl, k1⟩; have HK1 := Lib.hid k1; have hB5 : B ≤ w5.heap.size := Nat.le_trans hBb k1.size; clear k1) | (go_at_call 53; refine (put_lit B b lc [[32, 32], lf, [32, 61, 32]] 3 3 w5 (HWB.out.later HK1.out) rfl (by simp; omega) (by omega) hB5).mono ?_; rintro e w6 ⟨rfl, k2, k3⟩; have HW6 := Lib.hid k2; have HF6 := Lib.hid ((Wrote.later hBb HK1.out).trans k3); have hB6 : B ≤ w6.heap.size := Nat.le_trans hB5 k3.below_.size; clear k2 k3 y0))
        have r6 := HF6.out.row HRQ.out
        have y1 := r6.cell 1
        have y2 := r6.cell 2
        have y3 := r6.cell 3
        have y4 := r6.cell 4
        have y5 := r6.cell 5
        simp at y1 y2 y3 y4 y5
        have HX6 := Lib.hid (HX.out B b (lc ++ [[32, 32], lf, [32, 61, 32]].flatten) B2 g2 w6 S HSH.out (HF6.out.ks HKB.out HS.out) HS.out HW6.out (HEB.out.later HF6.out.below_) hB6 (by simp; omega))
        clear r6
        simp only [ev] at HX6
        go_wp2_with (first | (go_at_call 43; refine HX6.out.mono ?_; rintro e w7 ⟨rfl, k1, k2⟩; have HW7 := Lib.hid k1; have HF7 := Lib.hid k2; have hB7 : B ≤ w7.heap.size := Nat.le_trans hB6 k2.below_.size; clear k1 k2 y1 y2 y3 y4 y5) | (go_at_call 53; refine (put_lit B b ((lc ++ [[32, 32], lf, [32, 61, 32]].flatten) ++ q.rhs.txt) [[59, 10]] 1 1 w7 HW7.out rfl (by simp; omega) (by omega) hB7).mono ?_; rintro e w8 ⟨rfl, k2, k3⟩; have HW8 := Lib.hid k2; have HF8 := Lib.hid k3; clear k2 k3))
        go_roundg (n.eqs.length - (i + 1))
        case rel => exact ⟨i + 1, by omega, by go_num, by rw [HSN.out, HQS.out, ← List.append_assoc, ← HLC.out]; have := HW8.out; simpa only [List.append_assoc] using this, HWR.out.trans (HFB.out.trans (HF6.out.trans (HF7.out.trans HF8.out)))⟩
        case measure => omega
      · obtain rfl : i = n.eqs.length := by omega
        have HT : Hid (lc ++ [[116, 101, 108, 10]].flatten = l ++ nodeS n) := Lib.hid (by rw [HLC.out, List.take_length, HL2.out, HL1.out]; simp [nodeS])
        go_wp2_with (go_at_call 53; refine (put_lit B b lc [[116, 101, 108, 10]] 1 1 wr HWS.out rfl (by simp; omega) (by omega) hBr).mono ?_; rintro e w8 ⟨rfl, k2, k3⟩; have HW8 := Lib.hid k2; have HF8 := Lib.hid k3; clear k2 k3)
        go_end0
        exact ⟨rfl, by rw [← HT.out]; exact HW8.out, HF0.out.trans (HF4.out.trans (HWR.out.trans HF8.out))⟩

end Go.Proofs.YtfajnflfonechaaDoor

namespace Go.Proofs.YtfajnflfonechaaDoor
open Go.RowKit

structure smallN (n : Nd) : Prop where
  few_ : n.eqs.length ≤ 40
  size_ : ∀ q ∈ n.eqs, q.rhs.size ≤ 300
def smallNs (l : List Nd) : Prop := l.length ≤ 12 ∧ ∀ n ∈ l, smallN n
theorem nameB_len {s : T} (h : nameB s = true) : s.length ≤ 60 := (@of_decide_eq_true _ (Classical.propDecidable _) h).2.2.1
theorem varsB_short {l : List Vr} (h : varsB l = true) : shortV l := by
  unfold varsB at h
  rw [Bool.and_eq_true] at h
  refine ⟨of_decide_eq_true h.2, fun v hv => ?_⟩
  have hv := List.all_eq_true.1 h.1 v hv
  unfold varB at hv
  rw [Bool.and_eq_true] at hv
  exact ⟨nameB_len hv.1, of_decide_eq_true hv.2⟩
theorem good_of {l : List Nd} (h : nodesB l = true) (hs : smallNs l) : ∀ n ∈ l, goodN n := by
  intro n hn
  unfold nodesB at h
  rw [Bool.and_eq_true] at h
  have h1 := List.all_eq_true.1 h.1 n hn
  unfold nodeB at h1
  simp only [Bool.and_eq_true] at h1
  obtain ⟨⟨⟨⟨⟨h2, h3⟩, h4⟩, h5⟩, h6⟩, h7⟩ := h1
  refine ⟨nameB_len h2, varsB_short h3, varsB_short h5, varsB_short h6, (hs.2 n hn).few_, fun q hq => ?_⟩
  unfold eqsB at h7
  rw [Bool.and_eq_true] at h7
  have h8 := List.all_eq_true.1 h7.1 q hq
  unfold eqB namesB at h8
  simp only [Bool.and_eq_true] at h8
  obtain ⟨⟨h9, h10, h11⟩, h12⟩ := h8
  refine ⟨⟨⟨of_decide_eq_true h9, of_decide_eq_true h11⟩, fun t ht => nameB_len (List.all_eq_true.1 h10 t ht)⟩, ?_, (hs.2 n hn).size_ q hq⟩
  have : (inB q.rhs.depth 200 && q.rhs.shape) = true := h12
  rw [Bool.and_eq_true] at this
  exact this.2
theorem progS_len {l : List Nd} (h : ∀ n ∈ l, goodN n) : (progS l).length ≤ 5000000 * l.length := by
  unfold progS
  induction l with
  | nil => simp
  | cons n l ih =>
    have h1 := nodeS_len (h n (List.mem_cons_self ..))
    have h2 := ih fun q hq => h q (List.mem_cons_of_mem _ hq)
    simp only [List.map_cons, List.flatten_cons, List.length_append, List.length_cons]
    omega
theorem Wrote.ns {B : Nat} {w w' : World} {S : Nat → Prop} {A : Option Addr} {l : List Nd} (h : Wrote B w w') (hk : NS w S A l) (hS : ∀ q, S q → q < B) : NS w' S A l := hk.move fun q hq => ⟨hq, h.below_.block q (hS q hq)⟩
/-- What Print answers. -/
noncomputable def printed (l : List Nd) : Ending := if nodesB l = true then .returned (.tuple #[.string ⟨(progS l).toArray⟩, .int .i64 0]) else .returned (.tuple #[.string ⟨#[]⟩, .int .i64 11])

set_option maxRecDepth 100000 in
set_option maxHeartbeats 4000000 in
theorem pprint_any (l : List Nd) (A : Option Addr) (c : Nat) (w : World) (S : Nat → Prop) (hl : okNs l) (hs : smallNs l) (ht : ShapesAt w) (hA : NS w S A l) (hS : ∀ b, S b → b < w.heap.size) (he : PrEnv w.heap.size w) :
    Calls Tryd.prog 12 #[.agg #[.slice A l.length c]] w fun e w' => e = printed l ∧ Below w.heap.size w w' := by
  obtain ⟨w0, hw0⟩ : ∃ w0, w0 = w.alloc (.cells #[.slice A l.length c] 53) := ⟨_, rfl⟩
  have hb0 : Below w.heap.size w w0 := by rw [hw0]; exact (Below.refl _ _).alloc (Nat.le_refl _) _
  have HR0 : Hid (Row w0 w.heap.size 53 #[.slice A l.length c]) := Lib.hid (by rw [hw0]; exact Row.made _ _ _)
  have hA0 := hA.move (stay hS hb0)
  have HC := Lib.hid (PRight_any l A c w0 S hl (ht.later hb0) hA0 (stay_lt hS hb0))
  have HB0 := Lib.hid hb0
  have HA0 := Lib.hid hA0
  have HS := Lib.hid hS
  have HE0 : Hid (PrEnv w.heap.size w0) := Lib.hid (he.later hb0)
  have hl12 := hs.1
  have HG : Hid (nodesB l = true → ∀ n ∈ l, goodN n) := Lib.hid fun h => good_of h hs
  obtain ⟨E, hE⟩ : ∃ E, E = printed l := ⟨_, rfl⟩
  have HE := Lib.hid hE
  rw [← hE]
  clear hA0 hS hl hs ht hb0 he hA hE
  go_enter Tryd.func12, Tryd.ntmps12
  go_upto_region 1 with fail
  rw [← hw0]
  clear hw0
  have c0 := HR0.out.cell 0
  simp at c0
  by_cases hr : nodesB l = true
  · have HG1 := Lib.hid (HG.out hr)
    have HEE : Hid (E = .returned (.tuple #[.string ⟨(progS l).toArray⟩, .int .i64 0])) := Lib.hid (by rw [HE.out]; exact if_pos hr)
    rw [hr] at HC
    clear hr HE HG
    go_upto_region 3 with (go_at_call 29; refine HC.out.mono ?_; rintro e w1 ⟨rfl, hb1⟩; have HB1 := Lib.hid hb1; clear hb1 HC)
    clear c0
    have hbw : Below w.heap.size w w1 := HB0.out.trans (HB1.out.mono HB0.out.size)
    have HBW := Lib.hid hbw
    obtain ⟨w2, hw2⟩ : ∃ w2, w2 = w1.alloc (.cells #[.pointer none, .slice none 0 0] 84) := ⟨_, rfl⟩
    obtain ⟨B, hBB⟩ : ∃ B, B = w1.heap.size := ⟨_, rfl⟩
    have hb2 : Below w1.heap.size w1 w2 := by rw [hw2]; exact (Below.refl _ _).alloc (Nat.le_refl _) _
    have hr2 := (HR0.out.below HB1.out HR0.out.lt).below hb2 (HR0.out.below HB1.out HR0.out.lt).lt
    have c0 := hr2.cell 0
    simp at c0
    have HW2 : Hid (WS B B [] w2) := Lib.hid (by rw [hw2, hBB]; exact WS.made w1)
    have HSB : Hid (∀ q, S q → q < B) := Lib.hid fun q hq => by rw [hBB]; exact stay_lt HS.out hbw q hq
    have HA2 : Hid (NS w2 S A l) := Lib.hid ((HA0.out.move (stay (stay_lt HS.out HB0.out) HB1.out)).move (stay (stay_lt HS.out hbw) hb2))
    have HE2 : Hid (PrEnv B w2) := Lib.hid (by rw [hBB]; exact ((HE0.out.later (HB1.out.mono HB0.out.size)).up hbw.size).later hb2)
    have HB2 : Hid (Below B w1 w2) := Lib.hid (by rw [hBB]; exact hb2)
    have hB2 : B ≤ w2.heap.size := by rw [hBB]; exact hb2.size
    have hwB : w.heap.size ≤ B := by rw [hBB]; exact hbw.size
    clear hr2 hbw hb2
    go_upto_region 4 with fail
    rw [← hw2, ← hBB]
    clear hw2 hBB
    go_wp2_with fail
    clear c0
    go_loopg [13] l.length (fun g' k wr => ∃ i : Nat, i + g' = l.length ∧ k = .int .i64 (i : Int) ∧ WS B B (progS (l.take i)) wr ∧ Wrote B w2 wr)
    case atStart => exact ⟨0, by omega, rfl, by simpa [progS] using HW2.out, Wrote.refl _ _⟩
    case round =>
      obtain ⟨i, hi, rfl, hws, hwr⟩ := hrel
      have hBr : B ≤ wr.heap.size := Nat.le_trans hB2 hwr.below_.size
      have HWS := Lib.hid hws
      have HWR := Lib.hid hwr
      have hpl : (progS (l.take i)).length ≤ 60000000 := by
        have := progS_len (l := l.take i) fun q hq => HG1.out q (List.mem_of_mem_take hq)
        rw [List.length_take] at this
        omega
      clear hws hwr
      by_cases hil : i < l.length
      · obtain ⟨n, hn⟩ : ∃ n, l[i]? = some n := ⟨_, List.getElem?_eq_getElem hil⟩
        have hgn := HG1.out n (List.mem_of_getElem? hn)
        have HSN : Hid (progS (l.take (i + 1)) = progS (l.take i) ++ nodeS n) := Lib.hid (by unfold progS; rw [List.take_add_one, hn]; simp)
        have hSr : ∀ q, S q → q < wr.heap.size := fun q hq => Nat.lt_of_lt_of_le (HSB.out q hq) hBr
        obtain ⟨b', off, A1, g1, A2, g2, A3, g3, A4, g4, rfl, d0, d1, d2, d3, d4, v1, v2, v3, v4, hbl⟩ := (HWR.out.ns HA2.out HSB.out).at' hSr (Below.refl _ _) hn
        obtain ⟨wb, hwb⟩ : ∃ wb, wb = wr.alloc (.cells #[.string ⟨n.name.toArray⟩, .slice A1 n.ins.length g1, .slice A2 n.outs.length g2, .slice A3 n.locals.length g3, .slice A4 n.eqs.length g4] 88) := ⟨_, rfl⟩
        have hbb : Below wr.heap.size wr wb := by rw [hwb]; exact (Below.refl _ _).alloc (Nat.le_refl _) _
        have hrb : Row wb wr.heap.size 88 #[.string ⟨n.name.toArray⟩, .slice A1 n.ins.length g1, .slice A2 n.outs.length g2, .slice A3 n.locals.length g3, .slice A4 n.eqs.length g4] := by rw [hwb]; exact Row.made _ _ _
        have HFB : Hid (Wrote B wr wb) := Lib.hid (Wrote.later hBr hbb)
        have HCN := Lib.hid (pnode_any n A1 A2 A3 A4 g1 g2 g3 g4 B B (progS (l.take i)) wb S hgn (HFB.out.vs v1 HSB.out) (HFB.out.vs v2 HSB.out) (HFB.out.vs v3 HSB.out) (HFB.out.qs v4 HSB.out) HSB.out (HWS.out.later hbb) (HE2.out.later (HWR.out.below_.trans HFB.out.below_)) (Nat.le_trans hBr hbb.size) (by omega))
        have HRB := Lib.hid hrb
        clear hn hgn v1 v2 v3 v4 hbb hrb
        go_upto_region 7 with fail
        rw [← hwb]
        clear d0 d1 d2 d3 d4 hwb
        have y0 := HRB.out.cell 0
        have y1 := HRB.out.cell 1
        have y2 := HRB.out.cell 2
        have y3 := HRB.out.cell 3
        have y4 := HRB.out.cell 4
        simp at y0 y1 y2 y3 y4
        go_wp2_with (go_at_call 30; refine HCN.out.mono ?_; rintro e w6 ⟨rfl, k1, k2⟩; have HW6 := Lib.hid k1; have HF6 := Lib.hid k2; clear k1 k2)
        go_roundg (l.length - (i + 1))
        case rel => exact ⟨i + 1, by omega, by go_num, by rw [HSN.out]; exact HW6.out, HWR.out.trans (HFB.out.trans HF6.out)⟩
        case measure => omega
      · obtain rfl : i = l.length := by omega
        have hst := wstr_any B B (progS (l.take l.length)) wr HWS.out hBr
        rw [List.take_length] at hst
        have HST := Lib.hid hst
        clear hst
        go_wp2_with (go_at_call 31; refine HST.out.mono ?_; rintro e w6 ⟨rfl, k1⟩; have HB6 := Lib.hid k1; clear k1)
        go_ret2
        exact ⟨HEE.out.symm, HBW.out.trans ((HB2.out.trans (HWR.out.below_.trans HB6.out)).mono hwB)⟩
  · have HEE : Hid (E = .returned (.tuple #[.string ⟨#[]⟩, .int .i64 11])) := Lib.hid (by rw [HE.out]; exact if_neg hr)
    have hr' : nodesB l = false := by simpa using hr
    rw [hr'] at HC
    clear hr hr' HE HG
    go_wp2_with (go_at_call 29; refine HC.out.mono ?_; rintro e w1 ⟨rfl, hb1⟩; have HB1 := Lib.hid hb1; clear hb1 HC)
    go_ret2
    exact ⟨HEE.out.symm, HB0.out.trans (HB1.out.mono HB0.out.size)⟩

end Go.Proofs.YtfajnflfonechaaDoor
