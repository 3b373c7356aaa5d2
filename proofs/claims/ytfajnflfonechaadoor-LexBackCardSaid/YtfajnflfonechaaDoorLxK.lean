/- DERIVED. The kind of letters and digits: the map is asked, then layer 3. -/
import Derived.Test.YtfajnflfonechaaDoorLxT
import Derived.WalkSpells
import Derived.Handy
import Derived.Test.YtfajnflfonechaaDoorGreat
namespace Go.Proofs.YtfajnflfonechaaDoor
open Go.RowKit

theorem LxAt.later {s : T} {W0 W1 w w' : World} {B : Nat} {b mb mc : Nat} {tv : Value} {l : T} {a : Nat} {acc : List Tk} (h : LxAt s W0 W1 B w b mb mc tv l a acc) (hb : Below w.heap.size w w') : LxAt s W0 W1 B w' b mb mc tv l a acc :=
  ⟨Row.below h.row_ hb (Row.lt h.row_), OwnG.later (lastsT s) h.own_ hb, h.map_.move (hb.block mb h.map_.lt), h.env_, h.mb_, h.old_, h.below_.trans (hb.mono h.below_.size), h.rest_, h.few_, h.le_, h.short_, h.base_, Nat.le_trans h.room_ hb.size, fun q h1 h2 h3 => (hb.block q (Nat.lt_of_lt_of_le h1 h.room_)).trans (h.keep_ q h1 h2 h3)⟩
theorem LxAt.mapped {s : T} {W0 W1 w w' : World} {B : Nat} {b mb mc mc' : Nat} {tv : Value} {l : T} {a : Nat} {acc : List Tk} (h : LxAt s W0 W1 B w b mb mc tv l a acc) (hg : w.grownBy w' (some mb)) (hm : KM w' mb mc') : LxAt s W0 W1 B w' b mb mc' tv l a acc :=
  ⟨Row.grown h.row_ hg (by intro e; injection e with e; have := h.mb_; omega), OwnG.far (lastsT s) h.own_ (by have := h.mb_; have := h.base_; omega) hg, hm, h.env_, h.mb_, h.old_, h.below_.grown hg h.below_.size (fun k e => by injection e with e; have := h.old_; omega), h.rest_, h.few_, h.le_, h.short_, h.base_, Nat.le_trans h.room_ hg.size, fun q h1 h2 h3 => (hg.block q (Nat.lt_of_lt_of_le h1 h.room_) (by intro e; injection e with e; exact h3 e)).trans (h.keep_ q h1 h2 h3)⟩
theorem LxAt.more {s : T} {W0 W1 w : World} {B : Nat} {b mb mc mc' : Nat} {tv : Value} {l : T} {a : Nat} {acc : List Tk} (h : LxAt s W0 W1 B w b mb mc tv l a acc) (hm : mc ≤ mc') : LxAt s W0 W1 B w b mb mc' tv l a acc := by
  obtain ⟨n, D, hn, h3⟩ := h.map_
  exact ⟨h.row_, h.own_, ⟨n, D, by omega, h3⟩, h.env_, h.mb_, h.old_, h.below_, h.rest_, h.few_, h.le_, h.short_, h.base_, h.room_, h.keep_⟩
def KindP (x : T) (k : Int) : Prop := (nameB x = true ∧ k = 1) ∨ (nameB x = false ∧ wordB x = true ∧ k = 2)
def KAll (D : DataW Unit) : Prop := ∀ s, Maps.has D (.string s) = true → ∃ k : Int, (∀ z, D.atKey (.string s) z = .lit (.int .i64 k)) ∧ ((nameB s = true ∧ k = 1) ∨ (nameB s = false ∧ wordB s = true ∧ k = 2))
theorem kall_put {D : DataW Unit} {x : T} {k : Int} (hm : Maps.IsMap D) (h : KAll D) (hk : KindP x k) : KAll (D.put (.string x) (.lit (.int .i64 k))) := by
  intro s hs
  by_cases e : s = x
  · subst e
    exact ⟨k, fun z => Maps.atKey_put_same hm (show WideAt.IsKeyLit (.string s) from trivial) _ z, hk⟩
  · have hne : Lit.string s ≠ Lit.string x := fun h => e (by injection h)
    rw [Maps.has_put_other hne] at hs
    obtain ⟨k', h1, h2⟩ := h s hs
    exact ⟨k', fun z => by rw [Maps.atKey_put_other hne]; exact h1 z, h2⟩

theorem zeroIntD (w : World) : (zeroValue 3).run Tryd.prog w = .ok (.int .i64 0) w := by kernel_rfl

noncomputable def kindV (x : T) : Value := if nameB x = true then .tuple #[.int .i64 1, .bool true] else if wordB x = true then .tuple #[.int .i64 2, .bool true] else .tuple #[.int .i64 0, .bool false]

set_option maxRecDepth 100000 in
set_option maxHeartbeats 2000000 in
theorem kind_any (s : T) (W0 W1 : World) (B : Nat) (w : World) (b mb mc : Nat) (tv : Value) (l : T) (a : Nat) (acc : List Tk) (x : T) (hx : x.length ≤ 1000000) (hmc : mc ≤ 1000000) (h : LxAt s W0 W1 B w b mb mc tv l a acc) :
    Calls Tryd.prog 71 #[.pointer (some ⟨b, 0, none⟩), .string ⟨x.toArray⟩] w fun e w' => e = .returned (kindV x) ∧ LxAt s W0 W1 B w' b mb (mc + 1) tv l a acc := by
  have hrow := (show Row w b 69 _ from h.row_)
  have c4 := hrow.cell 4
  simp at c4
  obtain ⟨n, D, hn, hm, hmap, hall⟩ := h.map_
  have HM := Lib.hid hm
  have HK : Hid (keyOf Tryd.prog 9 (.string ⟨x.toArray⟩) = some (.string x)) := Lib.hid (key_of x (by unfold maxLen; omega))
  have HAT := Lib.hid h
  have HMAP := Lib.hid hmap
  have HALL := Lib.hid hall
  clear hrow hm hmap hall h
  by_cases hh : Maps.has D (.string x) = true
  · obtain ⟨k, hk, hkk⟩ := HALL.out x hh
    have HKV : Hid (kindV x = .tuple #[.int .i64 k, .bool true]) := Lib.hid (by
      unfold kindV
      rcases hkk with ⟨h1, rfl⟩ | ⟨h1, h2, rfl⟩
      · rw [if_pos h1]
      · rw [if_neg (by rw [h1]; decide), if_pos h2])
    have HKK := Lib.hid hk
    clear hk hkk
    go_enter Tryd.func71, Tryd.ntmps71
    go_wp2_with (at_lookup; refine wpList_lookup_own_ok_int _ rfl _ _ _ rfl 9 3 .i64 strKeyed Tryd.underlying67 Tryd.underlying3 (zeroIntD _) mb n D rfl HM.out _ _ rfl HK.out ?_; intro c hat hwc; have HC := Lib.hid hat; clear hat; rw [hh])
    go_ret2
    have e1 := (HKK.out _).symm.trans HC.out
    injection e1 with e1
    injection e1 with _ e1
    exact ⟨by rw [HKV.out, e1]; rfl, HAT.out.more (by omega)⟩
  · have hh' : Maps.has D (.string x) = false := (Bool.not_eq_true _).mp hh
    have hN := Name_any x w (by omega)
    by_cases h1 : nameB x = true
    · have HKV : Hid (kindV x = .tuple #[.int .i64 1, .bool true]) := Lib.hid (by unfold kindV; rw [if_pos h1])
      have HE : Hid (KindP x 1) := .inl ⟨h1, rfl⟩
      rw [h1] at hN
      have HN := Lib.hid hN
      clear hN h1 hh
      go_enter Tryd.func71, Tryd.ntmps71
      go_wp2_with (first
        | (at_lookup; refine wpList_lookup_own_ok_int _ rfl _ _ _ rfl 9 3 .i64 strKeyed Tryd.underlying67 Tryd.underlying3 (zeroIntD _) mb n D rfl HM.out _ _ rfl HK.out ?_; intro c hat hwc; clear hat; rw [hh'])
        | (go_at_call 94; refine HN.out.mono ?_; rintro e w1 ⟨rfl, hb1⟩; have HA1 := Lib.hid (HAT.out.later hb1); have HM1 := Lib.hid (HM.out.kept (only_below hb1 (row := none)) (by simp)); have d4 := (show Row w1 b 69 _ from HA1.out.row_).cell 4; simp at d4; clear hb1 HN)
        | (at_mapUpdate; refine wpList_mapUpdate_own _ rfl _ _ _ 67 rfl 9 3 strKeyed Tryd.underlying67 _ mb n D rfl HM1.out (by unfold maxLen; omega) _ _ _ rfl rfl HK.out _ [] (plainElem_int Tryd.underlying3 (WalkArith.wf_i64 (by omega))) ?_; intro w9 hM9 hG9; have HM9 := Lib.hid hM9; have HG9 := Lib.hid hG9; clear hM9 hG9))
      go_ret2
      exact ⟨by rw [HKV.out]; rfl, HA1.out.mapped HG9.out ⟨n + 1, _, by omega, HM9.out, HMAP.out.put _ _, kall_put HMAP.out HALL.out HE.out⟩⟩
    · have h1' : nameB x = false := (Bool.not_eq_true _).mp h1
      rw [h1'] at hN
      have HN := Lib.hid hN
      by_cases h2 : wordB x = true
      · have HKV : Hid (kindV x = .tuple #[.int .i64 2, .bool true]) := Lib.hid (by unfold kindV; rw [if_neg h1, if_pos h2])
        have HE : Hid (KindP x 2) := .inr ⟨h1', h2, rfl⟩
        have HW : Hid (∀ w2, Calls Tryd.prog 95 #[.string ⟨x.toArray⟩] w2 fun e w' => e = .returned (.bool true) ∧ Below w2.heap.size w2 w') := fun w2 => by have := aWord_any x w2 (by omega); rw [h2] at this; exact this
        clear hN h1 h1' hh h2
        go_enter Tryd.func71, Tryd.ntmps71
        go_wp2_with (first
          | (at_lookup; refine wpList_lookup_own_ok_int _ rfl _ _ _ rfl 9 3 .i64 strKeyed Tryd.underlying67 Tryd.underlying3 (zeroIntD _) mb n D rfl HM.out _ _ rfl HK.out ?_; intro c hat hwc; clear hat; rw [hh'])
          | (go_at_call 94; refine HN.out.mono ?_; rintro e w1 ⟨rfl, hb1⟩; have HA1 := Lib.hid (HAT.out.later hb1); have HM1 := Lib.hid (HM.out.kept (only_below hb1 (row := none)) (by simp)); have d4 := (show Row w1 b 69 _ from HA1.out.row_).cell 4; simp at d4; clear hb1 HN)
          | (go_at_call 95; refine (HW.out w1).mono ?_; rintro e w2 ⟨rfl, hb2⟩; have HA2 := Lib.hid (HA1.out.later hb2); have HM2 := Lib.hid (HM1.out.kept (only_below hb2 (row := none)) (by simp)); have d5 := (show Row w2 b 69 _ from HA2.out.row_).cell 4; simp at d5; clear hb2 HW)
          | (at_mapUpdate; refine wpList_mapUpdate_own _ rfl _ _ _ 67 rfl 9 3 strKeyed Tryd.underlying67 _ mb n D rfl HM2.out (by unfold maxLen; omega) _ _ _ rfl rfl HK.out _ [] (plainElem_int Tryd.underlying3 (WalkArith.wf_i64 (by omega))) ?_; intro w9 hM9 hG9; have HM9 := Lib.hid hM9; have HG9 := Lib.hid hG9; clear hM9 hG9))
        go_ret2
        exact ⟨by rw [HKV.out]; rfl, HA2.out.mapped HG9.out ⟨n + 1, _, by omega, HM9.out, HMAP.out.put _ _, kall_put HMAP.out HALL.out HE.out⟩⟩
      · have h2' : wordB x = false := (Bool.not_eq_true _).mp h2
        have HKV : Hid (kindV x = .tuple #[.int .i64 0, .bool false]) := Lib.hid (by unfold kindV; rw [if_neg h1, if_neg h2])
        have HW : Hid (∀ w2, Calls Tryd.prog 95 #[.string ⟨x.toArray⟩] w2 fun e w' => e = .returned (.bool false) ∧ Below w2.heap.size w2 w') := fun w2 => by have := aWord_any x w2 (by omega); rw [h2'] at this; exact this
        clear hN h1 h1' hh h2 h2'
        go_enter Tryd.func71, Tryd.ntmps71
        go_wp2_with (first
          | (at_lookup; refine wpList_lookup_own_ok_int _ rfl _ _ _ rfl 9 3 .i64 strKeyed Tryd.underlying67 Tryd.underlying3 (zeroIntD _) mb n D rfl HM.out _ _ rfl HK.out ?_; intro c hat hwc; clear hat; rw [hh'])
          | (go_at_call 94; refine HN.out.mono ?_; rintro e w1 ⟨rfl, hb1⟩; have HA1 := Lib.hid (HAT.out.later hb1); have HM1 := Lib.hid (HM.out.kept (only_below hb1 (row := none)) (by simp)); have d4 := (show Row w1 b 69 _ from HA1.out.row_).cell 4; simp at d4; clear hb1 HN)
          | (go_at_call 95; refine (HW.out w1).mono ?_; rintro e w2 ⟨rfl, hb2⟩; have HA2 := Lib.hid (HA1.out.later hb2); have HM2 := Lib.hid (HM1.out.kept (only_below hb2 (row := none)) (by simp)); have d5 := (show Row w2 b 69 _ from HA2.out.row_).cell 4; simp at d5; clear hb2 HW))
        go_ret2
        exact ⟨by rw [HKV.out]; rfl, HA2.out.more (by omega)⟩

end Go.Proofs.YtfajnflfonechaaDoor
