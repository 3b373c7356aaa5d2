/- DERIVED. Lists of names, of variables: the code's Equal, the document's alike. -/
import Derived.Test.YtmbdnifehgdjeaaDoorPgm
import Derived.Test.YtmbdnifehgdjeaaDoorTamg
import Derived.Test.YtmbdnifehgdjeaaDoorRight
namespace Go.Proofs.YtmbdnifehgdjeaaDoor
open Go.RowKit
attribute [local go_sem] Tame.Op Tame.upon

set_option maxRecDepth 100000 in
set_option maxHeartbeats 1000000 in
theorem equalT_any (xs ys : List T) (A B : Option Addr) (c d : Nat) (w : World) (S : Nat → Prop) (hx : xs.length ≤ 1099511627776) (hA : TS w S A xs) (hB : TS w S B ys) (hS : ∀ b, S b → b < w.heap.size) :
    Calls Tryd.prog 98 #[.slice A xs.length c, .slice B ys.length d] w fun e w' => e = .returned (.bool (sm sameT xs ys)) ∧ Below w.heap.size w w' := by
  have HA := Lib.hid hA
  have HB := Lib.hid hB
  clear hA hB
  by_cases hl : xs.length = ys.length
  · have HL := Lib.hid hl
    rw [← hl]
    clear hl
    go_enter Tryd.func98, Tryd.ntmps98
    go_wp2_with fail
    go_loopw [4, 13] (fun r i wr => r = .bool false ∧ ∃ j : Nat, j ≤ xs.length ∧ i = .int .i64 j ∧ (∀ (q : Nat) x y, q < j → xs[q]? = some x → ys[q]? = some y → sameT x y = true) ∧ Below w.heap.size w wr) (fun _ i _ => xs.length - (intOf i).toNat)
    case atStart => exact ⟨rfl, 0, by omega, rfl, fun q x y h => by omega, Below.refl _ _⟩
    case round =>
      obtain ⟨rfl, j, hj, rfl, hs, hbw⟩ := hrel
      have HSM := Lib.hid hs
      have HBW := Lib.hid hbw
      have hws := hbw.size
      clear hs
      by_cases hlt : j < xs.length
      · obtain ⟨x, hx1⟩ : ∃ x, xs[j]? = some x := ⟨_, List.getElem?_eq_getElem hlt⟩
        obtain ⟨y, hy1⟩ : ∃ y, ys[j]? = some y := ⟨_, List.getElem?_eq_getElem (by have := HL.out; omega)⟩
        obtain ⟨b, off, rfl, d0, hbl⟩ := HA.out.at' hS hbw hx1
        obtain ⟨b2, off2, rfl, e0, hbl2⟩ := HB.out.at' hS hbw hy1
        have hbl' : b < wr.heap.size := by omega
        have hbl2' : b2 < wr.heap.size := by omega
        have HX := Lib.hid hx1
        have HY := Lib.hid hy1
        have D0 := Lib.hid d0
        have E0 := Lib.hid e0
        clear hx1 hy1 hbw d0 e0
        by_cases he : x = y
        · have HE : Hid (sameT x y = true) := Lib.hid (by simp [sameT, he])
          have q1 : (x == y) = true := by simpa using he
          have q2 : (x != y) = false := by simpa using he
          clear he
          go_wp2_with fail
          refine Tame.wp_region_tame (by kernel_rfl) (by kernel_rfl) Tame.Later.refl Tame.Later.trans ?_
          repeat
            ((first
              | (refine Tame.walk_known (o := ⟨some 19, _, _, _, _, _⟩) (fun _ => rfl) ?_; apply Exists.intro; refine ⟨fun vals w2 hL hd => ?_, ?_⟩; (focus (have hb2 : Below wr.heap.size wr w2 := later_drew hL (Nat.le_refl _); have x0 := (hb2.cell (p := ⟨b, off + j, none⟩) (by show b < _; omega)).trans D0.out; clear hd hL hb2; go_simp; exact Tame.Is.mk (Tame.Later.refl _))))
              | (refine Tame.walk_known (o := ⟨some 23, _, _, _, _, _⟩) (fun _ => rfl) ?_; apply Exists.intro; refine ⟨fun vals w2 hL hd => ?_, ?_⟩; (focus (have hb2 : Below wr.heap.size wr w2 := later_drew hL (Nat.le_refl _); have x0 := (hb2.cell (p := ⟨b2, off2 + j, none⟩) (by show b2 < _; omega)).trans E0.out; clear hd hL hb2; go_simp; exact Tame.Is.mk (Tame.Later.refl _))))
              | (refine Tame.walk_known (o := ⟨some 24, _, _, _, _, _⟩) (fun _ => rfl) ?_; apply Exists.intro; refine ⟨fun vals w2 hL hd => ?_, ?_⟩; (focus (clear hd hL; go_simp; first | exact Tame.Is.mk (Tame.Later.refl _) | (simp only [q1, q2]; exact Tame.Is.mk (Tame.Later.refl _)))))
              | (refine Tame.walk_known (fun _ => rfl) ?_; apply Exists.intro; refine ⟨fun vals w2 hL hd => ?_, ?_⟩; (focus (go_simp; first | exact Tame.Is.mk (Tame.Later.refl _) | (rw [if_neg]; (focus exact Tame.Is.mk (Tame.Later.refl _)); omega)))))
             simp only [Act.put, List.setIfInBounds_toArray, List.set_cons_zero, List.set_cons_succ, List.nil_append, List.cons_append])
          refine Tame.walk_end fun vals w2 hL _ => ?_
          have HB2 : Hid (Below wr.heap.size wr w2) := later_drew hL (Nat.le_refl _)
          clear hL
          go_wp2_with fail
          go_roundw
          case rel => exact ⟨rfl, j + 1, by omega, by go_num, fun q u v hq hu hv => by
            by_cases e : q = j
            · subst e; rw [HX.out] at hu; rw [HY.out] at hv; injection hu with hu; injection hv with hv; rw [← hu, ← hv]; exact HE.out
            · exact HSM.out q u v (by omega) hu hv, HBW.out.trans (HB2.out.mono hws)⟩
          case measure => simp [intOf]; omega
        · have HE : Hid (sameT x y = false) := Lib.hid (by simp [sameT, he])
          have q1 : (x == y) = false := by simpa using he
          have q2 : (x != y) = true := by simpa using he
          clear he
          go_wp2_with fail
          refine Tame.wp_region_tame (by kernel_rfl) (by kernel_rfl) Tame.Later.refl Tame.Later.trans ?_
          repeat
            ((first
              | (refine Tame.walk_known (o := ⟨some 19, _, _, _, _, _⟩) (fun _ => rfl) ?_; apply Exists.intro; refine ⟨fun vals w2 hL hd => ?_, ?_⟩; (focus (have hb2 : Below wr.heap.size wr w2 := later_drew hL (Nat.le_refl _); have x0 := (hb2.cell (p := ⟨b, off + j, none⟩) (by show b < _; omega)).trans D0.out; clear hd hL hb2; go_simp; exact Tame.Is.mk (Tame.Later.refl _))))
              | (refine Tame.walk_known (o := ⟨some 23, _, _, _, _, _⟩) (fun _ => rfl) ?_; apply Exists.intro; refine ⟨fun vals w2 hL hd => ?_, ?_⟩; (focus (have hb2 : Below wr.heap.size wr w2 := later_drew hL (Nat.le_refl _); have x0 := (hb2.cell (p := ⟨b2, off2 + j, none⟩) (by show b2 < _; omega)).trans E0.out; clear hd hL hb2; go_simp; exact Tame.Is.mk (Tame.Later.refl _))))
              | (refine Tame.walk_known (o := ⟨some 24, _, _, _, _, _⟩) (fun _ => rfl) ?_; apply Exists.intro; refine ⟨fun vals w2 hL hd => ?_, ?_⟩; (focus (clear hd hL; go_simp; first | exact Tame.Is.mk (Tame.Later.refl _) | (simp only [q1, q2]; exact Tame.Is.mk (Tame.Later.refl _)))))
              | (refine Tame.walk_known (fun _ => rfl) ?_; apply Exists.intro; refine ⟨fun vals w2 hL hd => ?_, ?_⟩; (focus (go_simp; first | exact Tame.Is.mk (Tame.Later.refl _) | (rw [if_neg]; (focus exact Tame.Is.mk (Tame.Later.refl _)); omega)))))
             simp only [Act.put, List.setIfInBounds_toArray, List.set_cons_zero, List.set_cons_succ, List.nil_append, List.cons_append])
          refine Tame.walk_end fun vals w2 hL _ => ?_
          have HB2 : Hid (Below wr.heap.size wr w2) := later_drew hL (Nat.le_refl _)
          clear hL
          go_wp2_with fail
          go_ret
          exact ⟨ret_d (sm_stop HX.out HY.out HE.out).symm, HBW.out.trans (HB2.out.mono hws)⟩
      · have HE : Hid (sm sameT xs ys = true) := sm_all HL.out fun q x y hx hy => HSM.out q x y (by
          rcases Nat.lt_or_ge q xs.length with h' | h'
          · omega
          · rw [List.getElem?_eq_none h'] at hx; cases hx) hx hy
        clear hbw
        go_wp2_with fail
        go_ret
        exact ⟨ret_d HE.out.symm, HBW.out⟩
  · have HE : Hid (sm sameT xs ys = false) := sm_length hl
    have l1 : ((xs.length : Int) == (ys.length : Int)) = false := beq_eq_false_iff_ne.2 (by omega)
    have l2 : ((xs.length : Int) != (ys.length : Int)) = true := bne_iff_ne.2 (by omega)
    have l3 : (xs.length == ys.length) = false := by simpa using hl
    have l4 : (xs.length != ys.length) = true := by simpa using hl
    clear hl
    go_enter Tryd.func98, Tryd.ntmps98
    go_wp2_with fail
    go_ret
    exact ⟨ret_d HE.out.symm, Below.refl _ _⟩

set_option maxRecDepth 100000 in
set_option maxHeartbeats 1000000 in
theorem equalV_any (xs ys : List Vr) (A B : Option Addr) (c d : Nat) (w : World) (S : Nat → Prop) (hx : xs.length ≤ 1099511627776) (hA : VS w S A xs) (hB : VS w S B ys) (hS : ∀ b, S b → b < w.heap.size) :
    Calls Tryd.prog 77 #[.slice A xs.length c, .slice B ys.length d] w fun e w' => e = .returned (.bool (sm sameV xs ys)) ∧ Below w.heap.size w w' := by
  have HA := Lib.hid hA
  have HB := Lib.hid hB
  clear hA hB
  by_cases hl : xs.length = ys.length
  · have HL := Lib.hid hl
    rw [← hl]
    clear hl
    go_enter Tryd.func77, Tryd.ntmps77
    go_wp2_with fail
    go_loopw [4, 13] (fun r i wr => r = .bool false ∧ ∃ j : Nat, j ≤ xs.length ∧ i = .int .i64 j ∧ (∀ (q : Nat) x y, q < j → xs[q]? = some x → ys[q]? = some y → sameV x y = true) ∧ Below w.heap.size w wr) (fun _ i _ => xs.length - (intOf i).toNat)
    case atStart => exact ⟨rfl, 0, by omega, rfl, fun q x y h => by omega, Below.refl _ _⟩
    case round =>
      obtain ⟨rfl, j, hj, rfl, hs, hbw⟩ := hrel
      have HSM := Lib.hid hs
      have HBW := Lib.hid hbw
      have hws := hbw.size
      clear hs
      by_cases hlt : j < xs.length
      · obtain ⟨x, hx1⟩ : ∃ x, xs[j]? = some x := ⟨_, List.getElem?_eq_getElem hlt⟩
        obtain ⟨y, hy1⟩ : ∃ y, ys[j]? = some y := ⟨_, List.getElem?_eq_getElem (by have := HL.out; omega)⟩
        obtain ⟨b, off, rfl, d0, d1, hbl⟩ := HA.out.at' hS hbw hx1
        obtain ⟨b2, off2, rfl, e0, e1, hbl2⟩ := HB.out.at' hS hbw hy1
        have hbl' : b < wr.heap.size := by omega
        have hbl2' : b2 < wr.heap.size := by omega
        have HX := Lib.hid hx1
        have HY := Lib.hid hy1
        have D0 := Lib.hid d0
        have E0 := Lib.hid e0
        have D1 := Lib.hid d1
        have E1 := Lib.hid e1
        clear hx1 hy1 hbw d0 e0 d1 e1
        obtain ⟨xn, xt⟩ := x
        obtain ⟨yn, yt⟩ := y
        by_cases he : xn = yn
        · have q1 : (xn == yn) = true := by simpa using he
          have q2 : (xn != yn) = false := by simpa using he
          by_cases ht : xt = yt
          · have HE : Hid (sameV ⟨xn, xt⟩ ⟨yn, yt⟩ = true) := Lib.hid (by simp [sameV, he, ht])
            have q3 : (xt == yt) = true := by simpa using ht
            have q4 : (xt != yt) = false := by simpa using ht
            clear he ht
            go_wp2_with fail
            refine Tame.wp_region_tame (by kernel_rfl) (by kernel_rfl) Tame.Later.refl Tame.Later.trans ?_
            repeat
              ((first
                | (refine Tame.walk_known (o := ⟨some 19, _, _, _, _, _⟩) (fun _ => rfl) ?_; apply Exists.intro; refine ⟨fun vals w2 hL hd => ?_, ?_⟩; (focus (have hb2 : Below wr.heap.size wr w2 := later_drew hL (Nat.le_refl _); have x0 := (hb2.cell (p := ⟨b, off + j * 2, none⟩) (by show b < _; omega)).trans D0.out; have x1 := (hb2.cell (p := ⟨b, off + j * 2 + 1, none⟩) (by show b < _; omega)).trans D1.out; clear hd hL hb2; go_simp; exact Tame.Is.mk (Tame.Later.refl _))))
                | (refine Tame.walk_known (o := ⟨some 23, _, _, _, _, _⟩) (fun _ => rfl) ?_; apply Exists.intro; refine ⟨fun vals w2 hL hd => ?_, ?_⟩; (focus (have hb2 : Below wr.heap.size wr w2 := later_drew hL (Nat.le_refl _); have x0 := (hb2.cell (p := ⟨b2, off2 + j * 2, none⟩) (by show b2 < _; omega)).trans E0.out; have x1 := (hb2.cell (p := ⟨b2, off2 + j * 2 + 1, none⟩) (by show b2 < _; omega)).trans E1.out; clear hd hL hb2; go_simp; exact Tame.Is.mk (Tame.Later.refl _))))
                | (refine Tame.walk_known (o := ⟨some 24, _, _, _, _, _⟩) (fun _ => rfl) ?_; apply Exists.intro; refine ⟨fun vals w2 hL hd => ?_, ?_⟩; (focus (clear hd hL; go_simp; first | exact Tame.Is.mk (Tame.Later.refl _) | (simp only [q1, q2, q3, q4]; exact Tame.Is.mk (Tame.Later.refl _)))))
                | (refine Tame.walk_known (fun _ => rfl) ?_; apply Exists.intro; refine ⟨fun vals w2 hL hd => ?_, ?_⟩; (focus (go_simp; first | exact Tame.Is.mk (Tame.Later.refl _) | (rw [if_neg]; (focus exact Tame.Is.mk (Tame.Later.refl _)); omega)))))
               simp only [Act.put, List.setIfInBounds_toArray, List.set_cons_zero, List.set_cons_succ, List.nil_append, List.cons_append])
            refine Tame.walk_end fun vals w2 hL _ => ?_
            have HB2 : Hid (Below wr.heap.size wr w2) := later_drew hL (Nat.le_refl _)
            clear hL
            go_wp2_with fail
            go_roundw
            case rel => exact ⟨rfl, j + 1, by omega, by go_num, fun q u v hq hu hv => by
              by_cases e : q = j
              · subst e; rw [HX.out] at hu; rw [HY.out] at hv; injection hu with hu; injection hv with hv; rw [← hu, ← hv]; exact HE.out
              · exact HSM.out q u v (by omega) hu hv, HBW.out.trans (HB2.out.mono hws)⟩
            case measure => simp [intOf]; omega
          · have HE : Hid (sameV ⟨xn, xt⟩ ⟨yn, yt⟩ = false) := Lib.hid (by simp [sameV, ht])
            have q3 : (xt == yt) = false := by simpa using ht
            have q4 : (xt != yt) = true := by simpa using ht
            clear he ht
            go_wp2_with fail
            refine Tame.wp_region_tame (by kernel_rfl) (by kernel_rfl) Tame.Later.refl Tame.Later.trans ?_
            repeat
              ((first
                | (refine Tame.walk_known (o := ⟨some 19, _, _, _, _, _⟩) (fun _ => rfl) ?_; apply Exists.intro; refine ⟨fun vals w2 hL hd => ?_, ?_⟩; (focus (have hb2 : Below wr.heap.size wr w2 := later_drew hL (Nat.le_refl _); have x0 := (hb2.cell (p := ⟨b, off + j * 2, none⟩) (by show b < _; omega)).trans D0.out; have x1 := (hb2.cell (p := ⟨b, off + j * 2 + 1, none⟩) (by show b < _; omega)).trans D1.out; clear hd hL hb2; go_simp; exact Tame.Is.mk (Tame.Later.refl _))))
                | (refine Tame.walk_known (o := ⟨some 23, _, _, _, _, _⟩) (fun _ => rfl) ?_; apply Exists.intro; refine ⟨fun vals w2 hL hd => ?_, ?_⟩; (focus (have hb2 : Below wr.heap.size wr w2 := later_drew hL (Nat.le_refl _); have x0 := (hb2.cell (p := ⟨b2, off2 + j * 2, none⟩) (by show b2 < _; omega)).trans E0.out; have x1 := (hb2.cell (p := ⟨b2, off2 + j * 2 + 1, none⟩) (by show b2 < _; omega)).trans E1.out; clear hd hL hb2; go_simp; exact Tame.Is.mk (Tame.Later.refl _))))
                | (refine Tame.walk_known (o := ⟨some 24, _, _, _, _, _⟩) (fun _ => rfl) ?_; apply Exists.intro; refine ⟨fun vals w2 hL hd => ?_, ?_⟩; (focus (clear hd hL; go_simp; first | exact Tame.Is.mk (Tame.Later.refl _) | (simp only [q1, q2, q3, q4]; exact Tame.Is.mk (Tame.Later.refl _)))))
                | (refine Tame.walk_known (fun _ => rfl) ?_; apply Exists.intro; refine ⟨fun vals w2 hL hd => ?_, ?_⟩; (focus (go_simp; first | exact Tame.Is.mk (Tame.Later.refl _) | (rw [if_neg]; (focus exact Tame.Is.mk (Tame.Later.refl _)); omega)))))
               simp only [Act.put, List.setIfInBounds_toArray, List.set_cons_zero, List.set_cons_succ, List.nil_append, List.cons_append])
            refine Tame.walk_end fun vals w2 hL _ => ?_
            have HB2 : Hid (Below wr.heap.size wr w2) := later_drew hL (Nat.le_refl _)
            clear hL
            go_wp2_with fail
            go_ret
            exact ⟨ret_d (sm_stop HX.out HY.out HE.out).symm, HBW.out.trans (HB2.out.mono hws)⟩
        · have HE : Hid (sameV ⟨xn, xt⟩ ⟨yn, yt⟩ = false) := Lib.hid (by simp [sameV, he])
          have q1 : (xn == yn) = false := by simpa using he
          have q2 : (xn != yn) = true := by simpa using he
          clear he
          go_wp2_with fail
          refine Tame.wp_region_tame (by kernel_rfl) (by kernel_rfl) Tame.Later.refl Tame.Later.trans ?_
          repeat
            ((first
              | (refine Tame.walk_known (o := ⟨some 19, _, _, _, _, _⟩) (fun _ => rfl) ?_; apply Exists.intro; refine ⟨fun vals w2 hL hd => ?_, ?_⟩; (focus (have hb2 : Below wr.heap.size wr w2 := later_drew hL (Nat.le_refl _); have x0 := (hb2.cell (p := ⟨b, off + j * 2, none⟩) (by show b < _; omega)).trans D0.out; have x1 := (hb2.cell (p := ⟨b, off + j * 2 + 1, none⟩) (by show b < _; omega)).trans D1.out; clear hd hL hb2; go_simp; exact Tame.Is.mk (Tame.Later.refl _))))
              | (refine Tame.walk_known (o := ⟨some 23, _, _, _, _, _⟩) (fun _ => rfl) ?_; apply Exists.intro; refine ⟨fun vals w2 hL hd => ?_, ?_⟩; (focus (have hb2 : Below wr.heap.size wr w2 := later_drew hL (Nat.le_refl _); have x0 := (hb2.cell (p := ⟨b2, off2 + j * 2, none⟩) (by show b2 < _; omega)).trans E0.out; have x1 := (hb2.cell (p := ⟨b2, off2 + j * 2 + 1, none⟩) (by show b2 < _; omega)).trans E1.out; clear hd hL hb2; go_simp; exact Tame.Is.mk (Tame.Later.refl _))))
              | (refine Tame.walk_known (o := ⟨some 24, _, _, _, _, _⟩) (fun _ => rfl) ?_; apply Exists.intro; refine ⟨fun vals w2 hL hd => ?_, ?_⟩; (focus (clear hd hL; go_simp; first | exact Tame.Is.mk (Tame.Later.refl _) | (simp only [q1, q2]; exact Tame.Is.mk (Tame.Later.refl _)))))
              | (refine Tame.walk_known (fun _ => rfl) ?_; apply Exists.intro; refine ⟨fun vals w2 hL hd => ?_, ?_⟩; (focus (go_simp; first | exact Tame.Is.mk (Tame.Later.refl _) | (rw [if_neg]; (focus exact Tame.Is.mk (Tame.Later.refl _)); omega)))))
             simp only [Act.put, List.setIfInBounds_toArray, List.set_cons_zero, List.set_cons_succ, List.nil_append, List.cons_append])
          refine Tame.walk_end fun vals w2 hL _ => ?_
          have HB2 : Hid (Below wr.heap.size wr w2) := later_drew hL (Nat.le_refl _)
          clear hL
          go_wp2_with fail
          go_ret
          exact ⟨ret_d (sm_stop HX.out HY.out HE.out).symm, HBW.out.trans (HB2.out.mono hws)⟩
      · have HE : Hid (sm sameV xs ys = true) := sm_all HL.out fun q x y hx hy => HSM.out q x y (by
          rcases Nat.lt_or_ge q xs.length with h' | h'
          · omega
          · rw [List.getElem?_eq_none h'] at hx; cases hx) hx hy
        clear hbw
        go_wp2_with fail
        go_ret
        exact ⟨ret_d HE.out.symm, HBW.out⟩
  · have HE : Hid (sm sameV xs ys = false) := sm_length hl
    have l1 : ((xs.length : Int) == (ys.length : Int)) = false := beq_eq_false_iff_ne.2 (by omega)
    have l2 : ((xs.length : Int) != (ys.length : Int)) = true := bne_iff_ne.2 (by omega)
    have l3 : (xs.length == ys.length) = false := by simpa using hl
    have l4 : (xs.length != ys.length) = true := by simpa using hl
    clear hl
    go_enter Tryd.func77, Tryd.ntmps77
    go_wp2_with fail
    go_ret
    exact ⟨ret_d HE.out.symm, Below.refl _ _⟩

set_option maxRecDepth 100000 in
set_option maxHeartbeats 1000000 in
theorem alike_any (xs ys : List Vr) (A B : Option Addr) (c d : Nat) (w : World) (S : Nat → Prop) (hx : xs.length ≤ 1099511627776) (hA : VS w S A xs) (hB : VS w S B ys) (hS : ∀ b, S b → b < w.heap.size) :
    Calls Tryd.prog 50 #[.slice A xs.length c, .slice B ys.length d] w fun e w' => e = .returned (.bool (sm sameV xs ys)) ∧ Below w.heap.size w w' := by
  have HA := Lib.hid hA
  have HB := Lib.hid hB
  clear hA hB
  by_cases hl : xs.length = ys.length
  · have HL := Lib.hid hl
    rw [← hl]
    clear hl
    go_enter Tryd.func50, Tryd.ntmps50
    go_wp2_with fail
    go_loopw [4, 5] (fun r i wr => r = .bool false ∧ ∃ j : Nat, j ≤ xs.length ∧ i = .int .i64 j ∧ (∀ (q : Nat) x y, q < j → xs[q]? = some x → ys[q]? = some y → sameV x y = true) ∧ Below w.heap.size w wr) (fun _ i _ => xs.length - (intOf i).toNat)
    case atStart => exact ⟨rfl, 0, by omega, rfl, fun q x y h => by omega, Below.refl _ _⟩
    case round =>
      obtain ⟨rfl, j, hj, rfl, hs, hbw⟩ := hrel
      have HSM := Lib.hid hs
      have HBW := Lib.hid hbw
      have hws := hbw.size
      clear hs
      by_cases hlt : j < xs.length
      · obtain ⟨x, hx1⟩ : ∃ x, xs[j]? = some x := ⟨_, List.getElem?_eq_getElem hlt⟩
        obtain ⟨y, hy1⟩ : ∃ y, ys[j]? = some y := ⟨_, List.getElem?_eq_getElem (by have := HL.out; omega)⟩
        obtain ⟨b, off, rfl, d0, d1, hbl⟩ := HA.out.at' hS hbw hx1
        obtain ⟨b2, off2, rfl, e0, e1, hbl2⟩ := HB.out.at' hS hbw hy1
        have hbl' : b < wr.heap.size := by omega
        have hbl2' : b2 < wr.heap.size := by omega
        have HX := Lib.hid hx1
        have HY := Lib.hid hy1
        have D0 := Lib.hid d0
        have E0 := Lib.hid e0
        have D1 := Lib.hid d1
        have E1 := Lib.hid e1
        clear hx1 hy1 hbw d0 e0 d1 e1
        obtain ⟨xn, xt⟩ := x
        obtain ⟨yn, yt⟩ := y
        by_cases he : xn = yn
        · have q1 : (xn == yn) = true := by simpa using he
          have q2 : (xn != yn) = false := by simpa using he
          by_cases ht : xt = yt
          · have HE : Hid (sameV ⟨xn, xt⟩ ⟨yn, yt⟩ = true) := Lib.hid (by simp [sameV, he, ht])
            have q3 : (xt == yt) = true := by simpa using ht
            have q4 : (xt != yt) = false := by simpa using ht
            clear he ht
            go_wp2_with fail
            refine Tame.wp_region_tame (by kernel_rfl) (by kernel_rfl) Tame.Later.refl Tame.Later.trans ?_
            repeat
              ((first
                | (refine Tame.walk_known (o := ⟨some 20, _, _, _, _, _⟩) (fun _ => rfl) ?_; apply Exists.intro; refine ⟨fun vals w2 hL hd => ?_, ?_⟩; (focus (have hb2 : Below wr.heap.size wr w2 := later_drew hL (Nat.le_refl _); have x0 := (hb2.cell (p := ⟨b, off + j * 2, none⟩) (by show b < _; omega)).trans D0.out; have x1 := (hb2.cell (p := ⟨b, off + j * 2 + 1, none⟩) (by show b < _; omega)).trans D1.out; clear hd hL hb2; go_simp; exact Tame.Is.mk (Tame.Later.refl _))))
                | (refine Tame.walk_known (o := ⟨some 24, _, _, _, _, _⟩) (fun _ => rfl) ?_; apply Exists.intro; refine ⟨fun vals w2 hL hd => ?_, ?_⟩; (focus (have hb2 : Below wr.heap.size wr w2 := later_drew hL (Nat.le_refl _); have x0 := (hb2.cell (p := ⟨b2, off2 + j * 2, none⟩) (by show b2 < _; omega)).trans E0.out; have x1 := (hb2.cell (p := ⟨b2, off2 + j * 2 + 1, none⟩) (by show b2 < _; omega)).trans E1.out; clear hd hL hb2; go_simp; exact Tame.Is.mk (Tame.Later.refl _))))
                | (refine Tame.walk_known (o := ⟨some 25, _, _, _, _, _⟩) (fun _ => rfl) ?_; apply Exists.intro; refine ⟨fun vals w2 hL hd => ?_, ?_⟩; (focus (clear hd hL; go_simp; first | exact Tame.Is.mk (Tame.Later.refl _) | (simp only [q1, q2, q3, q4]; exact Tame.Is.mk (Tame.Later.refl _)))))
                | (refine Tame.walk_known (fun _ => rfl) ?_; apply Exists.intro; refine ⟨fun vals w2 hL hd => ?_, ?_⟩; (focus (go_simp; first | exact Tame.Is.mk (Tame.Later.refl _) | (rw [if_neg]; (focus exact Tame.Is.mk (Tame.Later.refl _)); omega)))))
               simp only [Act.put, List.setIfInBounds_toArray, List.set_cons_zero, List.set_cons_succ, List.nil_append, List.cons_append])
            refine Tame.walk_end fun vals w2 hL _ => ?_
            have HB2 : Hid (Below wr.heap.size wr w2) := later_drew hL (Nat.le_refl _)
            clear hL
            go_wp2_with fail
            go_roundw
            case rel => exact ⟨rfl, j + 1, by omega, by go_num, fun q u v hq hu hv => by
              by_cases e : q = j
              · subst e; rw [HX.out] at hu; rw [HY.out] at hv; injection hu with hu; injection hv with hv; rw [← hu, ← hv]; exact HE.out
              · exact HSM.out q u v (by omega) hu hv, HBW.out.trans (HB2.out.mono hws)⟩
            case measure => simp [intOf]; omega
          · have HE : Hid (sameV ⟨xn, xt⟩ ⟨yn, yt⟩ = false) := Lib.hid (by simp [sameV, ht])
            have q3 : (xt == yt) = false := by simpa using ht
            have q4 : (xt != yt) = true := by simpa using ht
            clear he ht
            go_wp2_with fail
            refine Tame.wp_region_tame (by kernel_rfl) (by kernel_rfl) Tame.Later.refl Tame.Later.trans ?_
            repeat
              ((first
                | (refine Tame.walk_known (o := ⟨some 20, _, _, _, _, _⟩) (fun _ => rfl) ?_; apply Exists.intro; refine ⟨fun vals w2 hL hd => ?_, ?_⟩; (focus (have hb2 : Below wr.heap.size wr w2 := later_drew hL (Nat.le_refl _); have x0 := (hb2.cell (p := ⟨b, off + j * 2, none⟩) (by show b < _; omega)).trans D0.out; have x1 := (hb2.cell (p := ⟨b, off + j * 2 + 1, none⟩) (by show b < _; omega)).trans D1.out; clear hd hL hb2; go_simp; exact Tame.Is.mk (Tame.Later.refl _))))
                | (refine Tame.walk_known (o := ⟨some 24, _, _, _, _, _⟩) (fun _ => rfl) ?_; apply Exists.intro; refine ⟨fun vals w2 hL hd => ?_, ?_⟩; (focus (have hb2 : Below wr.heap.size wr w2 := later_drew hL (Nat.le_refl _); have x0 := (hb2.cell (p := ⟨b2, off2 + j * 2, none⟩) (by show b2 < _; omega)).trans E0.out; have x1 := (hb2.cell (p := ⟨b2, off2 + j * 2 + 1, none⟩) (by show b2 < _; omega)).trans E1.out; clear hd hL hb2; go_simp; exact Tame.Is.mk (Tame.Later.refl _))))
                | (refine Tame.walk_known (o := ⟨some 25, _, _, _, _, _⟩) (fun _ => rfl) ?_; apply Exists.intro; refine ⟨fun vals w2 hL hd => ?_, ?_⟩; (focus (clear hd hL; go_simp; first | exact Tame.Is.mk (Tame.Later.refl _) | (simp only [q1, q2, q3, q4]; exact Tame.Is.mk (Tame.Later.refl _)))))
                | (refine Tame.walk_known (fun _ => rfl) ?_; apply Exists.intro; refine ⟨fun vals w2 hL hd => ?_, ?_⟩; (focus (go_simp; first | exact Tame.Is.mk (Tame.Later.refl _) | (rw [if_neg]; (focus exact Tame.Is.mk (Tame.Later.refl _)); omega)))))
               simp only [Act.put, List.setIfInBounds_toArray, List.set_cons_zero, List.set_cons_succ, List.nil_append, List.cons_append])
            refine Tame.walk_end fun vals w2 hL _ => ?_
            have HB2 : Hid (Below wr.heap.size wr w2) := later_drew hL (Nat.le_refl _)
            clear hL
            go_wp2_with fail
            go_ret
            exact ⟨ret_d (sm_stop HX.out HY.out HE.out).symm, HBW.out.trans (HB2.out.mono hws)⟩
        · have HE : Hid (sameV ⟨xn, xt⟩ ⟨yn, yt⟩ = false) := Lib.hid (by simp [sameV, he])
          have q1 : (xn == yn) = false := by simpa using he
          have q2 : (xn != yn) = true := by simpa using he
          clear he
          go_wp2_with fail
          refine Tame.wp_region_tame (by kernel_rfl) (by kernel_rfl) Tame.Later.refl Tame.Later.trans ?_
          repeat
            ((first
              | (refine Tame.walk_known (o := ⟨some 20, _, _, _, _, _⟩) (fun _ => rfl) ?_; apply Exists.intro; refine ⟨fun vals w2 hL hd => ?_, ?_⟩; (focus (have hb2 : Below wr.heap.size wr w2 := later_drew hL (Nat.le_refl _); have x0 := (hb2.cell (p := ⟨b, off + j * 2, none⟩) (by show b < _; omega)).trans D0.out; have x1 := (hb2.cell (p := ⟨b, off + j * 2 + 1, none⟩) (by show b < _; omega)).trans D1.out; clear hd hL hb2; go_simp; exact Tame.Is.mk (Tame.Later.refl _))))
              | (refine Tame.walk_known (o := ⟨some 24, _, _, _, _, _⟩) (fun _ => rfl) ?_; apply Exists.intro; refine ⟨fun vals w2 hL hd => ?_, ?_⟩; (focus (have hb2 : Below wr.heap.size wr w2 := later_drew hL (Nat.le_refl _); have x0 := (hb2.cell (p := ⟨b2, off2 + j * 2, none⟩) (by show b2 < _; omega)).trans E0.out; have x1 := (hb2.cell (p := ⟨b2, off2 + j * 2 + 1, none⟩) (by show b2 < _; omega)).trans E1.out; clear hd hL hb2; go_simp; exact Tame.Is.mk (Tame.Later.refl _))))
              | (refine Tame.walk_known (o := ⟨some 25, _, _, _, _, _⟩) (fun _ => rfl) ?_; apply Exists.intro; refine ⟨fun vals w2 hL hd => ?_, ?_⟩; (focus (clear hd hL; go_simp; first | exact Tame.Is.mk (Tame.Later.refl _) | (simp only [q1, q2]; exact Tame.Is.mk (Tame.Later.refl _)))))
              | (refine Tame.walk_known (fun _ => rfl) ?_; apply Exists.intro; refine ⟨fun vals w2 hL hd => ?_, ?_⟩; (focus (go_simp; first | exact Tame.Is.mk (Tame.Later.refl _) | (rw [if_neg]; (focus exact Tame.Is.mk (Tame.Later.refl _)); omega)))))
             simp only [Act.put, List.setIfInBounds_toArray, List.set_cons_zero, List.set_cons_succ, List.nil_append, List.cons_append])
          refine Tame.walk_end fun vals w2 hL _ => ?_
          have HB2 : Hid (Below wr.heap.size wr w2) := later_drew hL (Nat.le_refl _)
          clear hL
          go_wp2_with fail
          go_ret
          exact ⟨ret_d (sm_stop HX.out HY.out HE.out).symm, HBW.out.trans (HB2.out.mono hws)⟩
      · have HE : Hid (sm sameV xs ys = true) := sm_all HL.out fun q x y hx hy => HSM.out q x y (by
          rcases Nat.lt_or_ge q xs.length with h' | h'
          · omega
          · rw [List.getElem?_eq_none h'] at hx; cases hx) hx hy
        clear hbw
        go_wp2_with fail
        go_ret
        exact ⟨ret_d HE.out.symm, HBW.out⟩
  · have HE : Hid (sm sameV xs ys = false) := sm_length hl
    have l1 : ((xs.length : Int) == (ys.length : Int)) = false := beq_eq_false_iff_ne.2 (by omega)
    have l2 : ((xs.length : Int) != (ys.length : Int)) = true := bne_iff_ne.2 (by omega)
    have l3 : (xs.length == ys.length) = false := by simpa using hl
    have l4 : (xs.length != ys.length) = true := by simpa using hl
    clear hl
    go_enter Tryd.func50, Tryd.ntmps50
    go_wp2_with fail
    go_ret
    exact ⟨ret_d HE.out.symm, Below.refl _ _⟩

end Go.Proofs.YtmbdnifehgdjeaaDoor
