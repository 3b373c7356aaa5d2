/- DERIVED. The law's own copies of variables. -/
import Derived.Test.YtfajnflfonechaaDoorOwnG
namespace Go.Proofs.YtfajnflfonechaaDoor
open Go.RowKit
attribute [local go_sem] Tame.Op Tame.upon

/-- Variables lead nowhere. -/
theorem OwnG.bare {w : World} {B : Nat} {S : Nat → Prop} {v : Value} {xs : List Vr} (h : OwnG RV 114 2 w B S v xs) : OwnG RV 114 2 w B (fun _ => False) v xs := by
  obtain ⟨cs, ho, hx⟩ := h
  refine ⟨cs, ho, ?_⟩
  clear ho
  induction xs generalizing cs with
  | nil => exact hx
  | cons x xs ih =>
    obtain ⟨c, rest, hc, hk, hr⟩ := hx
    exact ⟨c, rest, hc, hk, ih rest hr⟩

theorem var_info : (Tryd.prog.info? 114).map (fun i => (i.zero, i.size, i.bytes)) = some (some (.agg #[.string ⟨#[]⟩, .int .i64 0]), 2, 24) := by kernel_rfl
/-- What it hands back. -/
def VarsMade (w : World) (l : List Vr) (e : Ending) (w' : World) : Prop := ∃ A c, e = .returned (.slice A l.length c) ∧ VS w' (Sty 114 w.heap.size w') A l ∧ Below w.heap.size w w'
/-- A slice of one copy of y. -/
def NewV (v : Value) (y : Vr) (u : Value) (w : World) : Prop := ∃ g, u = .slice (some ⟨g, 0, none⟩) 1 1 ∧ Row w g 114 #[.string ⟨y.name.toArray⟩, .int .i64 y.type] ∧ some g ≠ v.ownBlock
theorem NewV.later {v u : Value} {y : Vr} {w w' : World} (h : NewV v y u w) (hl : Tame.Later w w') : NewV v y u w' := by
  obtain ⟨g, hv, hr, h2⟩ := h
  exact ⟨g, hv, hr.below hl hr.lt, h2⟩
theorem NewV.turn {v u : Value} {y : Vr} {w w' : World} (h : NewV v y u w) (hs : w.grownBy w' v.ownBlock) : NewV v y u w' := by
  obtain ⟨g, hv, hr, h2⟩ := h
  exact ⟨g, hv, hr.grown hs h2, h2⟩
/-- The row with the new one. -/
def AppV (B : Nat) (xs : List Vr) (u : Value) (w : World) : Prop := OwnG RV 114 2 w B (Sb B u.ownBlock w) u xs

def ghostsV (H : Nat) (wr : World) (v : Value) (xs : List Vr) : List Tame.Ghost := [⟨Below H wr, [13]⟩, ⟨fun w => OwnG RV 114 2 w H (Sb H v.ownBlock w) v xs, []⟩]
theorem ghostsV_ok {H : Nat} {wr : World} {v : Value} {xs : List Vr} (hH : H ≤ wr.heap.size) (h2 : OwnG RV 114 2 wr H (Sb H v.ownBlock wr) v xs) :
    ∀ (i : Nat) (g : Tame.Ghost), (ghostsV H wr v xs)[i]? = some g → g.g wr.drew ∧ (∀ w w', Tame.Later w w' → g.g w → g.g w') ∧
      ∀ j, [13].contains j = true → g.keeps.contains j = true → ∀ w w', w.grownBy w' v.ownBlock → g.g w → g.g w' := by
  intro i g hi
  rcases i with _ | _ | i
  · obtain rfl : (⟨Below H wr, [13]⟩ : Tame.Ghost) = g := by simpa [ghostsV] using hi
    exact ⟨(Below.refl _ _).drew, fun a b hl h => h.trans (Below.mono hl (by have := h.size; omega)), fun j _ _ a b hs h => h.grown hs (by have := h.size; omega) (fun q hq => (h2.lt q hq).1)⟩
  · obtain rfl : (⟨fun w => OwnG RV 114 2 w H (Sb H v.ownBlock w) v xs, []⟩ : Tame.Ghost) = g := by simpa [ghostsV] using hi
    exact ⟨h2.later lastsV ((Below.refl _ _).drew), fun a b hl h => h.later lastsV hl, fun j _ hj => by cases hj⟩
  · simp [ghostsV] at hi

set_option maxRecDepth 100000 in
set_option maxHeartbeats 4000000 in
theorem ownVars_any (l : List Vr) (A : Option Addr) (c : Nat) (w : World) (S : Nat → Prop) (hlen : l.length ≤ 1099511627776) (hA : VS w S A l) (hS : ∀ b, S b → b < w.heap.size) :
    Calls Tryd.prog 32 #[.slice A l.length c] w (VarsMade w l) := by
  obtain ⟨i0, hi0, hz0, hz1, hz2⟩ := info_parts var_info
  have HA := Lib.hid hA
  clear hA
  go_enter Tryd.func32, Tryd.ntmps32
  go_wp2_with fail
  go_loopw [3, 4] (fun v i wr => ∃ j : Nat, j ≤ l.length ∧ i = .int .i64 j ∧ OwnG RV 114 2 wr w.heap.size (Sb w.heap.size v.ownBlock wr) v (l.take j) ∧ Below w.heap.size w wr) (fun _ i _ => l.length - (intOf i).toNat)
  case atStart => exact ⟨0, by omega, rfl, OwnG.nil _ _ _ _ _ _, Below.refl _ _⟩
  case round =>
    obtain ⟨j, hj, rfl, ho, hbw⟩ := hrel
    obtain ⟨v, rfl⟩ : ∃ v, v = u3 := ⟨u3, rfl⟩
    by_cases hlt : j < l.length
    · obtain ⟨y, hy⟩ : ∃ y, l[j]? = some y := ⟨_, List.getElem?_eq_getElem hlt⟩
      obtain ⟨b, off, rfl, d0, d1, hbl⟩ := HA.out.at' hS hbw hy
      have hws := hbw.size
      have HO := Lib.hid ho
      have HBW := Lib.hid hbw
      have HY := Lib.hid hy
      have D0 := Lib.hid d0
      have D1 := Lib.hid d1
      have HV : Hid (∀ q, v.ownBlock = some q → w.heap.size ≤ q ∧ q < wr.heap.size) := ho.lt
      clear ho hbw hy d0 d1
      go_wp2_with fail
      refine Tame.wp_region_tamg (L := Tame.Later) (M := fun _ a b => a.grownBy b v.ownBlock) (gs := ghostsV w.heap.size wr v (l.take j)) [13] (by kernel_rfl) (by kernel_rfl) Tame.Later.refl (fun _ w => World.grownBy.refl w _) (ghostsV_ok hws HO.out) ?_
      repeat
        ((first
          | (refine Tame.walk3_known (o := ⟨some 16, _, _, _, _, _⟩) (by kernel_rfl) (fun _ => rfl) ?_; apply Exists.intro; refine ⟨fun vals w2 hG hd => ?_, ?_⟩; (focus (have hb2 := (hG 0 _ rfl (by kernel_rfl) : Below w.heap.size wr w2); have f0 := (hb2.cell (p := ⟨b, off + j * 2, none⟩) hbl).trans D0.out; clear hG hd hb2; go_simp; exact Tame.Is.mk (Tame.Later.refl _))))
          | (refine Tame.walk3_known (o := ⟨some 21, _, _, _, _, _⟩) (by kernel_rfl) (fun _ => rfl) ?_; apply Exists.intro; refine ⟨fun vals w2 hG hd => ?_, ?_⟩; (focus (have hb2 := (hG 0 _ rfl (by kernel_rfl) : Below w.heap.size wr w2); have f0 := (hb2.cell (p := ⟨b, off + j * 2 + 1, none⟩) hbl).trans D1.out; clear hG hd hb2; go_simp; exact Tame.Is.mk (Tame.Later.refl _))))
          | (refine Tame.walk3_some (o := ⟨some 23, _, _, _, _, _⟩) (NewV v y) (none) ([13]) (by kernel_rfl) (fun _ => rfl) (by kernel_rfl) (fun u a c hl h => h.later hl) (fun i _ _ u a c hs h => h.turn hs) (fun vals w2 hG hd => ?_) ?_; (focus (have hb2 := (hG 0 _ rfl (by kernel_rfl) : Below w.heap.size wr w2); have hzz := hb2.size; clear hG hd hb2; go_simp; exact Tame.Has.mk ((Below.refl _ _).alloc (Nat.le_refl _) _) ⟨w2.heap.size, rfl, Row.made _ _ _, fun e => by have := HV.out _ e.symm; omega⟩)))
          | (refine Tame.walk3_write (o := ⟨some 24, _, _, _, _, _⟩) (AppV w.heap.size (l.take (j + 1))) (none) ([]) (fun _ => rfl) (by kernel_rfl) (by kernel_rfl) (fun u a c hl h => OwnG.later lastsV h hl) (fun i _ hj => by cases hj) (fun vals w2 hG hd => ?_) ?_; (focus (have hb2 := (hG 0 _ rfl (by kernel_rfl) : Below w.heap.size wr w2); have hzz := hb2.size; have h1 := (hd 12 _ rfl (by kernel_rfl) rfl : NewV v y (vals 12) w2); have h2 := (hG 1 _ rfl (by kernel_rfl) : OwnG RV 114 2 w2 w.heap.size (Sb w.heap.size v.ownBlock w2) v (l.take j)); clear hG hd hb2; obtain ⟨g1, hv1, hr1, hg1⟩ := h1; obtain ⟨cs, ho, hx⟩ := h2; exact op_append (.tmp 11) (.tmp 23) _ rfl w.heap.size 114 i0 _ 2 24 Tryd.underlying85 hi0 hz0 hz1 hz2 rfl (by omega) (by omega) v _ cs rfl ho g1 1 114 [.string ⟨y.name.toArray⟩, .int .i64 y.type] hv1 rfl hr1 (lastsV.one (w := w2) (S := fun _ => True) rfl) (by simp; omega) (by omega) (fun v' w' ho' hgr hat => ⟨hgr, OwnG.step lastsV HY.out hx ho' hgr hat rfl⟩))))
          | (refine Tame.walk3_some (o := ⟨some 3, _, _, _, _, _⟩) (AppV w.heap.size (l.take (j + 1))) (none) ([]) (by kernel_rfl) (fun _ => rfl) (by kernel_rfl) (fun u a c hl h => OwnG.later lastsV h hl) (fun i _ hj => by cases hj) (fun vals w2 hG hd => ?_) ?_; (focus (have h1 := (hd 13 _ rfl (by kernel_rfl) rfl : AppV w.heap.size (l.take (j + 1)) (vals 13) w2); have H1 := Lib.hid h1; clear hG hd h1; go_simp; exact Tame.Has.mk (Tame.Later.refl _) H1.out)))
          | (refine Tame.walk3_known (by kernel_rfl) (fun _ => rfl) ?_; apply Exists.intro; refine ⟨fun vals w2 hG hd => ?_, ?_⟩; (focus (go_simp; first | exact Tame.Is.mk (Tame.Later.refl _) | (rw [if_neg]; (focus exact Tame.Is.mk (Tame.Later.refl _)); omega)))))
         simp only [Act.put, List.setIfInBounds_toArray, List.set_cons_zero, List.set_cons_succ, List.nil_append, List.cons_append, List.length_cons, List.length_nil, Nat.zero_add, Nat.reduceAdd])
      refine Tame.walk3_end fun vals w2 hG hts => ?_
      have f0 : Below w.heap.size wr w2 := hG 0 _ rfl (by kernel_rfl)
      have f1 : AppV w.heap.size (l.take (j + 1)) (vals 14) w2 := hts 14 _ rfl rfl
      have F0 := Lib.hid f0
      have F1 := Lib.hid f1
      clear f0 f1 hts hG
      go_wp2_with fail
      go_roundw
      case rel => exact ⟨j + 1, by omega, by go_num, F1.out, HBW.out.trans F0.out⟩
      case measure => simp [intOf]; omega
    · obtain rfl : j = l.length := by omega
      rw [List.take_length] at ho
      obtain ⟨A2, c2, rfl, hr⟩ := (show OwnG RV 114 2 wr w.heap.size (fun _ => False) v l from ho.bare).form lastsV (S' := Sty 114 w.heap.size wr) (fun b hb => hb.elim) (fun q cs hq hr => ⟨(ho.lt q hq).1, (ho.lt q hq).2, cs, hr⟩)
      have HR := Lib.hid (rv_vs hr)
      have HBW := Lib.hid hbw
      clear ho hr hbw
      go_wp2_with fail
      go_ret
      exact ⟨A2, c2, rfl, HR.out, HBW.out⟩

end Go.Proofs.YtfajnflfonechaaDoor
