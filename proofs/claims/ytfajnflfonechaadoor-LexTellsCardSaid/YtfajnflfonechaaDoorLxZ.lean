/- DERIVED. The law of tokens: the walk. -/
import Derived.Test.YtfajnflfonechaaDoorLxW
namespace Go.Proofs.YtfajnflfonechaaDoor
open Go.RowKit

set_option maxRecDepth 100000 in
set_option maxHeartbeats 4000000 in
theorem tells_ok (s : T) (ts : List Tk) (w : World) (he : LexEnv w) (hs : s.length ≤ 2000) (hR : lexA s 0 [] = (ts, 0, 0)) : Calls Tryd.prog 3 #[.string ⟨s.toArray⟩] w fun e w' => e = .returned (.bool true) ∧ Below w.heap.size w w' := by
  have hne := lexA_ends hR
  have HE := Lib.hid hne.2
  have hlen : ts.length ≤ 2001 := by
    obtain ⟨us, h1, _, _, h4⟩ := lexF_runs _ s 0 [] ts 0 (Nat.lt_succ_self _) hR
    rw [List.nil_append] at h1
    rw [h1]; omega
  have HCL : Hid (Calls Tryd.prog 6 #[.string ⟨s.toArray⟩] w (LexOk s ts w)) := lex_ok hR w (by omega) he
  have HRL : Hid (∀ w2, Calls Tryd.prog 7 #[.string ⟨s.toArray⟩] w2 (RefOk ts w2)) := fun w2 => ref_ok hR w2 (by omega)
  have HAW : Hid (∀ w2, Below w.heap.size w w2 → Calls Tryd.prog 9 #[] w2 fun e w' => e = .returned (.bool true) ∧ Below w2.heap.size w2 w') := fun w2 hb => awake4_any w2 (he.later hb)
  have hs2 : ¬ (2000 : Int) < (s.length : Int) := by omega
  clear he hR hne
  go_enter Tryd.func3, Tryd.ntmps3
  go_upto_region 4 with (go_at_call 6; refine HCL.out.mono ?_; rintro e w1 ⟨g, c, rfl, hg, hgs, hrow, hb⟩; have HROW := Lib.hid hrow; have HB := Lib.hid hb; have HG := Lib.hid hg; have HGS := Lib.hid hgs; clear hrow hb hg hgs HCL)
  have HB1 : Hid (Below w.heap.size w (w1.alloc (.cells #[.int .i64 0, .int .i64 0] 24))) := Lib.hid ((HB.out).alloc HB.out.size _)
  have HX1 : Hid (Below w1.heap.size w1 (w1.alloc (.cells #[.int .i64 0, .int .i64 0] 24))) := Lib.hid ((Below.refl _ _).alloc (Nat.le_refl _) _)
  have HP1 : Hid (Row (w1.alloc (.cells #[.int .i64 0, .int .i64 0] 24)) w1.heap.size 24 #[.int .i64 0, .int .i64 0]) := Lib.hid (Row.made _ _ _)
  generalize w1.alloc (.cells #[.int .i64 0, .int .i64 0] 24) = wa at HB1 HX1 HP1 ⊢
  obtain ⟨p1, hp1⟩ : ∃ p1, p1 = w1.heap.size := ⟨_, rfl⟩
  rw [← hp1] at HP1 ⊢
  have HPP1 := Lib.hid hp1
  clear hp1
  go_upto_region 8 with (go_at_call 7; refine (HRL.out _).mono ?_; rintro e w2 ⟨g2, c2, rfl, hg2, hgs2, hrow2, hb2⟩; have HROW2 := Lib.hid hrow2; have HB2 := Lib.hid hb2; have HGS2 := Lib.hid hgs2; clear hrow2 hb2 hg2 hgs2 HRL)
  have HB3 : Hid (Below w.heap.size w (w2.alloc (.cells #[.int .i64 0, .int .i64 0] 24))) := Lib.hid ((HB1.out.trans (HB2.out.mono HB1.out.size)).alloc (Nat.le_trans HB1.out.size HB2.out.size) _)
  have HX3 : Hid (Below w1.heap.size w1 (w2.alloc (.cells #[.int .i64 0, .int .i64 0] 24))) := Lib.hid ((HX1.out.trans (HB2.out.mono HX1.out.size)).alloc (Nat.le_trans HX1.out.size HB2.out.size) _)
  have HX2 : Hid (Below w2.heap.size w2 (w2.alloc (.cells #[.int .i64 0, .int .i64 0] 24))) := Lib.hid ((Below.refl _ _).alloc (Nat.le_refl _) _)
  have HP3 : Hid (Row (w2.alloc (.cells #[.int .i64 0, .int .i64 0] 24)) p1 24 #[.int .i64 0, .int .i64 0]) := Lib.hid ((Row.below HP1.out HB2.out HP1.out.lt).alloc _)
  have HP4 : Hid (Row (w2.alloc (.cells #[.int .i64 0, .int .i64 0] 24)) w2.heap.size 24 #[.int .i64 0, .int .i64 0]) := Lib.hid (Row.made _ _ _)
  generalize w2.alloc (.cells #[.int .i64 0, .int .i64 0] 24) = wb at HB3 HX3 HX2 HP3 HP4 ⊢
  obtain ⟨p2, hp2⟩ : ∃ p2, p2 = w2.heap.size := ⟨_, rfl⟩
  rw [← hp2] at HP4 ⊢
  have HPP2 := Lib.hid hp2
  clear hp2
  have y0 := HP3.out.cell 0
  have y1 := HP3.out.cell 1
  have y2 := HP4.out.cell 0
  have y3 := HP4.out.cell 1
  simp at y0 y1 y2 y3
  go_upto_region 12 with fail
  go_wp2_with fail
  have HTR : Hid (TkRow s wb g ts) := Lib.hid ((HROW.out).later HX3.out HGS.out)
  have HRR : Hid (RkRow wb g2 ts) := Lib.hid ((HROW2.out).later HX2.out HGS2.out)
  have hgb : g < wb.heap.size := Nat.lt_of_lt_of_le HGS.out HX3.out.size
  have hgb2 : g2 < wb.heap.size := Nat.lt_of_lt_of_le HGS2.out HX2.out.size
  have HGB := Lib.hid hgb
  have HGB2 := Lib.hid hgb2
  clear y0 y1 y2 y3 hgb hgb2
  go_loopg [10] ts.length (fun g' k wr => ∃ i : Nat, i + g' = ts.length ∧ k = .int .i64 (i : Int) ∧ Below wb.heap.size wb wr)
  case atStart => exact ⟨0, by omega, rfl, Below.refl _ _⟩
  case round =>
    obtain ⟨i, hi, rfl, hbel⟩ := hrel
    have HBL := Lib.hid hbel
    clear hbel
    by_cases hit : i < ts.length
    · obtain ⟨t, ht⟩ : ∃ t, ts[i]? = some t := ⟨_, List.getElem?_eq_getElem hit⟩
      have hfs : t.from_ ≤ s.length := HE.out t (List.mem_of_getElem? ht)
      obtain ⟨c0, c1, c2, c3, c4⟩ := ((HTR.out).later HBL.out HGB.out) i t ht
      obtain ⟨r0, r1, r2, r3⟩ := ((HRR.out).later HBL.out HGB2.out) i t ht
      have HPL := Lib.hid (place_any s t.from_ wr (by omega) hfs)
      obtain ⟨z1, hz1⟩ : ∃ z, z = (plAt s t.from_).1 := ⟨_, rfl⟩
      obtain ⟨z2, hz2⟩ : ∃ z, z = (plAt s t.from_).2 := ⟨_, rfl⟩
      rw [← hz1] at c3 HPL
      rw [← hz2] at c4 HPL
      obtain ⟨k, hk⟩ : ∃ k, k = t.kind := ⟨_, rfl⟩
      obtain ⟨x, hx⟩ : ∃ x, x = t.text := ⟨_, rfl⟩
      obtain ⟨n, hn⟩ : ∃ n, n = t.n := ⟨_, rfl⟩
      obtain ⟨f, hf⟩ : ∃ f, f = t.from_ := ⟨_, rfl⟩
      rw [← hk] at c0 r0
      rw [← hx] at c1 r1
      rw [← hn] at c2 r2
      rw [← hf] at r3 HPL hfs
      clear hz1 hz2 hk hx hn hf ht
      go_upto_region 16 with (go_at_call 8; refine HPL.out.mono ?_; rintro e w9 ⟨rfl, rfl⟩)
      go_region
      all_goals go_wp2_with fail
      go_roundg (ts.length - (i + 1))
      case rel => exact ⟨i + 1, by omega, by go_num, HBL.out.drew⟩
      case measure => omega
    · obtain rfl : i = ts.length := by omega
      go_wp2_with (go_at_call 9; refine (HAW.out _ (HB3.out.trans (HBL.out.mono HB3.out.size))).mono ?_; rintro e w9 ⟨rfl, hb9⟩; have HB9 := Lib.hid hb9; clear hb9)
      go_ret
      exact ⟨rfl, (HB3.out.trans (HBL.out.mono HB3.out.size)).trans (HB9.out.mono (Nat.le_trans HB3.out.size HBL.out.size))⟩

set_option maxRecDepth 100000 in
set_option maxHeartbeats 4000000 in
theorem tells_no (s : T) (a : Nat) (code : Int) (w : World) (he : LexEnv w) (hs : s.length ≤ 2000) (hc0 : code ≠ 0) (hR : lexA s 0 [] = ([], a, code)) : Calls Tryd.prog 3 #[.string ⟨s.toArray⟩] w fun e w' => e = .returned (.bool true) ∧ Below w.heap.size w w' := by
  have ha := lexA_bad_at hc0 hR
  have HCL : Hid (Calls Tryd.prog 6 #[.string ⟨s.toArray⟩] w (LexNo s a code w)) := lex_no hc0 hR w (by omega) he
  have HRL : Hid (∀ w2, Calls Tryd.prog 7 #[.string ⟨s.toArray⟩] w2 (RefNo a code w2)) := fun w2 => ref_no hc0 hR w2 (by omega)
  have HAW : Hid (∀ w2, Below w.heap.size w w2 → Calls Tryd.prog 9 #[] w2 fun e w' => e = .returned (.bool true) ∧ Below w2.heap.size w2 w') := fun w2 hb => awake4_any w2 (he.later hb)
  have HPL : Hid (∀ w2, Calls Tryd.prog 8 #[.string ⟨s.toArray⟩, .int .i64 (a : Int)] w2 fun e w' => e = .returned (.tuple #[.int .i64 (plAt s a).1, .int .i64 (plAt s a).2]) ∧ w2 = w') := fun w2 => place_any s a w2 (by omega) ha
  have hs2 : ¬ (2000 : Int) < (s.length : Int) := by omega
  have hc1 : ¬ code = 0 := hc0
  obtain ⟨z1, hz1⟩ : ∃ z, z = (plAt s a).1 := ⟨_, rfl⟩
  obtain ⟨z2, hz2⟩ : ∃ z, z = (plAt s a).2 := ⟨_, rfl⟩
  unfold LexNo at HCL
  rw [← hz1, ← hz2] at HCL HPL
  clear he hR hc0 hz1 hz2
  go_enter Tryd.func3, Tryd.ntmps3
  go_upto_region 4 with (go_at_call 6; refine HCL.out.mono ?_; rintro e w1 ⟨rfl, hb⟩; have HB := Lib.hid hb; clear hb HCL)
  have HB1 : Hid (Below w.heap.size w (w1.alloc (.cells #[.int .i64 z1, .int .i64 z2] 24))) := Lib.hid ((HB.out).alloc HB.out.size _)
  have HP1 : Hid (Row (w1.alloc (.cells #[.int .i64 z1, .int .i64 z2] 24)) w1.heap.size 24 #[.int .i64 z1, .int .i64 z2]) := Lib.hid (Row.made _ _ _)
  generalize w1.alloc (.cells #[.int .i64 z1, .int .i64 z2] 24) = wa at HB1 HP1 ⊢
  obtain ⟨p1, hp1⟩ : ∃ p1, p1 = w1.heap.size := ⟨_, rfl⟩
  rw [← hp1] at HP1 ⊢
  clear hp1
  go_upto_region 8 with (go_at_call 7; refine (HRL.out _).mono ?_; rintro e w2 ⟨rfl, hb2⟩; have HB2 := Lib.hid hb2; clear hb2 HRL)
  have HB3 : Hid (Below w.heap.size w (w2.alloc (.cells #[.int .i64 0, .int .i64 0] 24))) := Lib.hid ((HB1.out.trans (HB2.out.mono HB1.out.size)).alloc (Nat.le_trans HB1.out.size HB2.out.size) _)
  have HP3 : Hid (Row (w2.alloc (.cells #[.int .i64 0, .int .i64 0] 24)) p1 24 #[.int .i64 z1, .int .i64 z2]) := Lib.hid ((Row.below HP1.out HB2.out HP1.out.lt).alloc _)
  have HP4 : Hid (Row (w2.alloc (.cells #[.int .i64 0, .int .i64 0] 24)) w2.heap.size 24 #[.int .i64 0, .int .i64 0]) := Lib.hid (Row.made _ _ _)
  have hne : p1 ≠ w2.heap.size := by have := HP1.out.lt; have := HB2.out.size; omega
  have hww : w.heap.size ≤ w2.heap.size := Nat.le_trans HB1.out.size HB2.out.size
  generalize w2.alloc (.cells #[.int .i64 0, .int .i64 0] 24) = wb at HB3 HP3 HP4 ⊢
  obtain ⟨p2, hp2⟩ : ∃ p2, p2 = w2.heap.size := ⟨_, rfl⟩
  rw [← hp2] at HP4 hne hww ⊢
  clear hp2
  have HNE := Lib.hid hne
  have y2 := HP4.out.cell 0
  have y3 := HP4.out.cell 1
  have f2 := HP4.out.free 0
  have f3 := HP4.out.free 1
  simp at y2 y3
  clear hne
  go_upto_region 10 with (go_at_call 8; refine (HPL.out _).mono ?_; rintro e w9 ⟨rfl, rfl⟩)
  have HB5 : Hid (Below w.heap.size w ((wb.setCell ⟨p2, 0, none⟩ (.int .i64 z1)).setCell ⟨p2, 1, none⟩ (.int .i64 z2))) := Lib.hid ((HB3.out.setCell (p := ⟨p2, 0, none⟩) hww _).setCell (p := ⟨p2, 1, none⟩) hww _)
  have HP5 : Hid (Row ((wb.setCell ⟨p2, 0, none⟩ (.int .i64 z1)).setCell ⟨p2, 1, none⟩ (.int .i64 z2)) p2 24 #[.int .i64 z1, .int .i64 z2]) := Lib.hid (by have := (HP4.out.set 0 (.int .i64 z1)).set 1 (.int .i64 z2); simpa using this)
  have HP6 : Hid (Row ((wb.setCell ⟨p2, 0, none⟩ (.int .i64 z1)).setCell ⟨p2, 1, none⟩ (.int .i64 z2)) p1 24 #[.int .i64 z1, .int .i64 z2]) := Lib.hid ((HP3.out.far (p := ⟨p2, 0, none⟩) HNE.out _).far (p := ⟨p2, 1, none⟩) HNE.out _)
  generalize (wb.setCell ⟨p2, 0, none⟩ (.int .i64 z1)).setCell ⟨p2, 1, none⟩ (.int .i64 z2) = wc at HB5 HP5 HP6 ⊢
  clear y2 y3 f2 f3
  have y0 := HP5.out.cell 0
  have y1 := HP5.out.cell 1
  have y2 := HP6.out.cell 0
  have y3 := HP6.out.cell 1
  simp at y0 y1 y2 y3
  go_wp2_with fail
  go_loopg [10] 0 (fun g' k wr => k = .int .i64 0 ∧ wc = wr)
  case atStart => exact ⟨rfl, rfl⟩
  case round =>
    obtain ⟨rfl, rfl⟩ := hrel
    go_wp2_with (go_at_call 9; refine (HAW.out _ HB5.out).mono ?_; rintro e w9 ⟨rfl, hb9⟩; have HB9 := Lib.hid hb9; clear hb9)
    go_ret
    exact ⟨rfl, HB5.out.trans (HB9.out.mono HB5.out.size)⟩

set_option maxRecDepth 100000 in
set_option maxHeartbeats 4000000 in
theorem lexTells_any (s : T) (w : World) (he : LexEnv w) : Calls Tryd.prog 3 #[.string ⟨s.toArray⟩] w fun e w' => e = .returned (.bool true) ∧ Below w.heap.size w w' := by
  by_cases h2000 : (2000 : Int) < (s.length : Int)
  · clear he
    go_enter Tryd.func3, Tryd.ntmps3
    go_wp2_with fail
    go_ret
    exact ⟨rfl, Below.refl _ _⟩
  · rcases lexA_cases s with ⟨ts, hR⟩ | ⟨a, code, hR, hc0⟩
    · exact tells_ok s ts w he (by omega) hR
    · exact tells_no s a code w he (by omega) hc0 hR

end Go.Proofs.YtfajnflfonechaaDoor
