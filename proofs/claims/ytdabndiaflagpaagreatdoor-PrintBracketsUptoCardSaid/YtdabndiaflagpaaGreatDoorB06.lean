/- Parts: PsE5, PsE6. -/
import Derived.Test.YtdabndiaflagpaaGreatDoorB05
set_option maxRecDepth 100000
set_option maxHeartbeats 4000000
set_option linter.unusedVariables false
namespace Go.Proofs.YtdabndiaflagpaaGreatDoor
open Go.RowKit

/-- A box of the call's own, of any type. -/
structure Bx (b : Nat) (wx : World) (p : Nat) (t : TypeId) (cs : Array Value) (wi : World) : Prop where
  row : Row wi p t cs
  lo : wx.heap.size ≤ p
  hb : b < wx.heap.size
theorem Bx.grow {b p : Nat} {wx wi wj : World} {t : TypeId} {cs : Array Value} (h : Bx b wx p t cs wi) (g2 : wi.grownBy wj (some b)) : Bx b wx p t cs wj :=
  ⟨h.row.grown g2 (fun e => by injection e with e; have := h.lo; have := h.hb; omega), h.lo, h.hb⟩
theorem Bx.below {b p : Nat} {wx wi wj : World} {t : TypeId} {cs : Array Value} (h : Bx b wx p t cs wi) (g1 : Below wi.heap.size wi wj) : Bx b wx p t cs wj := h.grow (only_below' g1 b)

set_option maxRecDepth 100000 in
set_option maxHeartbeats 1000000 in
theorem pAtom (s : T) (B b f o : Nat) (L : List Tk) (w : World) (ih : PE s B b f) (hf : 16 * L.length + 4 ≤ f + 1) (h : StT s B w b L o) (he : PaEnv b w) :
    Calls Tryz.prog 195 #[.pointer (some ⟨b, 0, none⟩)] w (PRes s b B w o (TrV w.heap.size) (atomP (f + 1) L o)) := by
  obtain ⟨R, hR⟩ : ∃ R, R = atomP (f + 1) L o := ⟨_, rfl⟩
  rw [← hR]
  have hbB := h.base_
  have hBw := h.room_
  obtain ⟨wx, hwx⟩ : ∃ wx, wx = w.alloc (.cells #[.int .i64 0, .int .i64 0, .int .i64 0, .string ⟨#[]⟩, .slice none 0 0, .int .i64 0] 198) := ⟨_, rfl⟩
  have hbx : Below w.heap.size w wx := by rw [hwx]; exact (Below.refl _ _).alloc (Nat.le_refl _) _
  have hxz : wx.heap.size = w.heap.size + 1 := by rw [hwx]; simp
  have HXZ := Lib.hid hxz
  have HPX : Hid (Row wx w.heap.size 198 z6) := Lib.hid (by rw [hwx]; exact Row.made _ _ _)
  have hbxx : b < wx.heap.size := by omega
  have hpb : w.heap.size ≠ b := by omega
  have HGX := Lib.hid (only_below' hbx b)
  have HA0 : Hid (At s B b wx L o wx) := Lib.hid (At.refl (h.later hbx) (he.grown (only_below hbx none) (by omega) (fun _ e => by cases e)))
  clear hbx hxz
  rw [atomP] at hR
  have HWF := Lib.hid h.wf_
  obtain ⟨t, r, rfl⟩ := h.hd
  have HN : Hid (∀ w1, StT s B w1 b (t :: r) o → _) := Lib.hid fun w1 h1 => pNext s B b o t r w1 h1
  have HM1 : Hid (∀ w1, StT s B w1 b (t :: r) o → _) := Lib.hid fun w1 h1 => pMay s B b o wFalse (t :: r) w1 h1 (by decide)
  have HM2 : Hid (∀ w1, StT s B w1 b (t :: r) o → _) := Lib.hid fun w1 h1 => pMay s B b o wTrue (t :: r) w1 h1 (by decide)
  obtain ⟨k, hk⟩ : ∃ k, k = t.kind := ⟨_, rfl⟩
  obtain ⟨x, hx⟩ : ∃ x, x = t.text := ⟨_, rfl⟩
  obtain ⟨n, hn⟩ : ∃ n, n = t.n := ⟨_, rfl⟩
  obtain ⟨z1, hz1⟩ : ∃ z, z = (plAt s t.from_).1 := ⟨_, rfl⟩
  obtain ⟨z2, hz2⟩ : ∃ z, z = (plAt s t.from_).2 := ⟨_, rfl⟩
  rw [← hk, ← hx, ← hn, ← hz1, ← hz2] at HN
  have hkk : hdK (t :: r) = k := hk.symm
  have hnn : hdN (t :: r) = n := hn.symm
  have htl : (t :: r).tail = r := rfl
  rw [hnn, htl] at hR
  rw [htl] at HM1 HM2
  clear hk hx hn hz1 hz2 hnn htl
  by_cases hk3 : hdK (t :: r) = 3
  · have ht := (kind_sh h.wf_ hk3 (by decide)).1
    rw [if_pos hk3] at hR
    rw [hkk] at hk3
    subst hk3
    have HR := Lib.hid hR
    have HPS : Hid (∀ w1, StT s B w1 b (t :: r) o → _) := Lib.hid fun w1 h1 => pPass s B b o (t :: r) w1 h1 ht
    clear hR h he ht hkk
    go_enter Tryz.func195, Tryz.ntmps195
    go_upto_region 1 with fail
    rw [← hwx]
    clear hwx
    go_upto_region 2 with (go_at_call 64; refine (HN.out _ HA0.out.st).mono ?_; rintro e w1 ⟨rfl, g1⟩; have HA1 : Hid (At s B b wx (t :: r) o (w1.alloc (.cells #[.int .i64 3, .string ⟨x.toArray⟩, .int .i64 n, .int .i64 z1, .int .i64 z2] 141))) := Lib.hid ((HA0.out.below g1).alloc _); have HKt_1 : Hid (Bx b wx w1.heap.size 141 #[.int .i64 3, .string ⟨x.toArray⟩, .int .i64 n, .int .i64 z1, .int .i64 z2] (w1.alloc (.cells #[.int .i64 3, .string ⟨x.toArray⟩, .int .i64 n, .int .i64 z1, .int .i64 z2] 141))) := Lib.hid ⟨Row.made _ _ _, (HA0.out.below g1).size, hbxx⟩; clear g1 HN)
    generalize w1.alloc (.cells #[.int .i64 3, .string ⟨x.toArray⟩, .int .i64 n, .int .i64 z1, .int .i64 z2] 141) = v1 at HA1 HKt_1 ⊢
    have y0 := HKt_1.out.row.cell 0
    have hpz := HKt_1.out.row.lt
    simp at y0
    go_wp2_with (first | (go_at_call 132; refine (HPS.out _ HA1.out.st).mono ?_; rintro e w2 ⟨rfl, g1, g2⟩; have HA2 := Lib.hid (HA1.out.grow g1 g2); have HKt_2 := Lib.hid (HKt_1.out.grow g2); clear g1 g2 HPS; have y2 := HKt_2.out.row.cell 2; have hpz2 := HKt_2.out.row.lt; simp at y2) | (go_at_call 179; refine (overLeaf 0 0 n [] _).mono ?_; rintro e w3 ⟨A9, c9, rfl, hk, hb⟩; have HA3 := Lib.hid (HA2.out.below hb); have HK9 := Lib.hid (hk wx.heap.size); have HROW := HA3.out.row HPX.out hpb; clear hk hb) | (refine wpList_store_row (o := ⟨none, Op.store _ _ _, _, _, _, _⟩) rfl _ _ _ rfl w.heap.size (t6 (X.mk 0 0 n [] []) A9 c9) rfl rfl _ _ HROW (t6_size _ _ _) rfl (t6_one _ _ _) ?_))
    obtain ⟨t1, t2, t3, t4⟩ := tree_back (x := X.mk 0 0 n [] []) (A := A9) (c := c9) (only_trans HGX.out HA3.out.grown) HROW (by rw [← HXZ.out]; exact HK9.out) HA3.out.st hBw
    exact bodyPost_ret (results_cell_row rfl _ _ w.heap.size _ _ _ _ rfl t4 Tryz.underlying198 rfl tree_size) rfl (PRes.okI HR.out t1 rfl ⟨A9, c9, rfl, t2⟩ t3)
  · rw [if_neg hk3] at hR
    rw [hkk] at hk3
    have hk3b : (k == 3) = false := beq_eq_false_iff_ne.2 hk3
    by_cases hf1 : isP wFalse (t :: r) = true
    · rw [if_pos hf1] at hR HM1
      rw [hf1] at HM1
      have HR := Lib.hid hR
      clear hR h he hkk hk3 hf1 HM2
      go_enter Tryz.func195, Tryz.ntmps195
      go_upto_region 1 with fail
      rw [← hwx]
      clear hwx
      go_upto_region 2 with (go_at_call 64; refine (HN.out _ HA0.out.st).mono ?_; rintro e w1 ⟨rfl, g1⟩; have HA1 : Hid (At s B b wx (t :: r) o (w1.alloc (.cells #[.int .i64 k, .string ⟨x.toArray⟩, .int .i64 n, .int .i64 z1, .int .i64 z2] 141))) := Lib.hid ((HA0.out.below g1).alloc _); have HKt_1 : Hid (Bx b wx w1.heap.size 141 #[.int .i64 k, .string ⟨x.toArray⟩, .int .i64 n, .int .i64 z1, .int .i64 z2] (w1.alloc (.cells #[.int .i64 k, .string ⟨x.toArray⟩, .int .i64 n, .int .i64 z1, .int .i64 z2] 141))) := Lib.hid ⟨Row.made _ _ _, (HA0.out.below g1).size, hbxx⟩; clear g1 HN)
      generalize w1.alloc (.cells #[.int .i64 k, .string ⟨x.toArray⟩, .int .i64 n, .int .i64 z1, .int .i64 z2] 141) = v1 at HA1 HKt_1 ⊢
      have y0 := HKt_1.out.row.cell 0
      have hpz := HKt_1.out.row.lt
      simp at y0
      go_wp2_with (first | (go_at_call 102; refine (HM1.out _ HA1.out.st).mono ?_; rintro e w2 ⟨rfl, g1, g2⟩; have HA2 := Lib.hid (HA1.out.grow g1 g2); clear g1 g2 HM1) | (go_at_call 179; refine (overLeaf 1 0 0 [] _).mono ?_; rintro e w3 ⟨A9, c9, rfl, hk, hb⟩; have HA3 := Lib.hid (HA2.out.below hb); have HK9 := Lib.hid (hk wx.heap.size); have HROW := HA3.out.row HPX.out hpb; clear hk hb) | (refine wpList_store_row (o := ⟨none, Op.store _ _ _, _, _, _, _⟩) rfl _ _ _ rfl w.heap.size (t6 (X.mk 1 0 0 [] []) A9 c9) rfl rfl _ _ HROW (t6_size _ _ _) rfl (t6_one _ _ _) ?_))
      obtain ⟨t1, t2, t3, t4⟩ := tree_back (x := X.mk 1 0 0 [] []) (A := A9) (c := c9) (only_trans HGX.out HA3.out.grown) HROW (by rw [← HXZ.out]; exact HK9.out) HA3.out.st hBw
      exact bodyPost_ret (results_cell_row rfl _ _ w.heap.size _ _ _ _ rfl t4 Tryz.underlying198 rfl tree_size) rfl (PRes.okI HR.out t1 rfl ⟨A9, c9, rfl, t2⟩ t3)
    · rw [if_neg hf1] at hR HM1
      have hf1b : isP wFalse (t :: r) = false := by simpa using hf1
      rw [hf1b] at HM1
      by_cases ht1 : isP wTrue (t :: r) = true
      · rw [if_pos ht1] at hR HM2
        rw [ht1] at HM2
        have HR := Lib.hid hR
        clear hR h he hkk hk3 hf1 hf1b ht1
        go_enter Tryz.func195, Tryz.ntmps195
        go_upto_region 1 with fail
        rw [← hwx]
        clear hwx
        go_upto_region 2 with (go_at_call 64; refine (HN.out _ HA0.out.st).mono ?_; rintro e w1 ⟨rfl, g1⟩; have HA1 : Hid (At s B b wx (t :: r) o (w1.alloc (.cells #[.int .i64 k, .string ⟨x.toArray⟩, .int .i64 n, .int .i64 z1, .int .i64 z2] 141))) := Lib.hid ((HA0.out.below g1).alloc _); have HKt_1 : Hid (Bx b wx w1.heap.size 141 #[.int .i64 k, .string ⟨x.toArray⟩, .int .i64 n, .int .i64 z1, .int .i64 z2] (w1.alloc (.cells #[.int .i64 k, .string ⟨x.toArray⟩, .int .i64 n, .int .i64 z1, .int .i64 z2] 141))) := Lib.hid ⟨Row.made _ _ _, (HA0.out.below g1).size, hbxx⟩; clear g1 HN)
        generalize w1.alloc (.cells #[.int .i64 k, .string ⟨x.toArray⟩, .int .i64 n, .int .i64 z1, .int .i64 z2] 141) = v1 at HA1 HKt_1 ⊢
        have y0 := HKt_1.out.row.cell 0
        have hpz := HKt_1.out.row.lt
        simp at y0
        go_wp2_with (first | (go_at_call 102; refine (HM1.out _ HA1.out.st).mono ?_; rintro e w2 ⟨rfl, g1, g2⟩; have HA2 := Lib.hid (HA1.out.grow g1 g2); clear g1 g2 HM1) | (go_at_call 102; refine (HM2.out _ HA2.out.st).mono ?_; rintro e w3 ⟨rfl, g1, g2⟩; have HA3 := Lib.hid (HA2.out.grow g1 g2); clear g1 g2 HM2) | (go_at_call 179; refine (overLeaf 1 0 1 [] _).mono ?_; rintro e w4 ⟨A9, c9, rfl, hk, hb⟩; have HA4 := Lib.hid (HA3.out.below hb); have HK9 := Lib.hid (hk wx.heap.size); have HROW := HA4.out.row HPX.out hpb; clear hk hb) | (refine wpList_store_row (o := ⟨none, Op.store _ _ _, _, _, _, _⟩) rfl _ _ _ rfl w.heap.size (t6 (X.mk 1 0 1 [] []) A9 c9) rfl rfl _ _ HROW (t6_size _ _ _) rfl (t6_one _ _ _) ?_))
        obtain ⟨t1, t2, t3, t4⟩ := tree_back (x := X.mk 1 0 1 [] []) (A := A9) (c := c9) (only_trans HGX.out HA4.out.grown) HROW (by rw [← HXZ.out]; exact HK9.out) HA4.out.st hBw
        exact bodyPost_ret (results_cell_row rfl _ _ w.heap.size _ _ _ _ rfl t4 Tryz.underlying198 rfl tree_size) rfl (PRes.okI HR.out t1 rfl ⟨A9, c9, rfl, t2⟩ t3)
      · rw [if_neg ht1] at hR HM2
        have ht1b : isP wTrue (t :: r) = false := by simpa using ht1
        rw [ht1b] at HM2
        by_cases hk1 : hdK (t :: r) = 1
        · rw [if_pos hk1] at hR
          have HC : Hid (∀ w1, StT s B w1 b (t :: r) o → PaEnv b w1 → _) := Lib.hid fun w1 h1 h2 => pVarCall s B b f o (t :: r) w1 ih (by omega) hk1 h1 h2
          have htl : (t :: r).tail = r := rfl
          rw [htl] at HC
          rw [hkk] at hk1
          subst hk1
          obtain ⟨SP, hSP⟩ : ∃ SP, SP = (if isP [40] r = true then (operandsP f r o).bind fun ks L' => .ok (X.mk 6 0 0 (hdT (t :: r)) ks) L' else .ok (X.mk 2 0 0 (hdT (t :: r)) []) r : Pr X) := ⟨_, rfl⟩
          rw [← hSP] at HC hR
          rcases SP.cases with ⟨y, L1, hE⟩ | ⟨c, a, hE⟩
          · rw [hE] at hR HC
            have HR := Lib.hid hR
            clear hR h he hkk hk3 hf1 hf1b ht1 ht1b hE hSP
            go_enter Tryz.func195, Tryz.ntmps195
            go_upto_region 1 with fail
            rw [← hwx]
            clear hwx
            go_upto_region 2 with (go_at_call 64; refine (HN.out _ HA0.out.st).mono ?_; rintro e w1 ⟨rfl, g1⟩; have HA1 : Hid (At s B b wx (t :: r) o (w1.alloc (.cells #[.int .i64 1, .string ⟨x.toArray⟩, .int .i64 n, .int .i64 z1, .int .i64 z2] 141))) := Lib.hid ((HA0.out.below g1).alloc _); have HKt_1 : Hid (Bx b wx w1.heap.size 141 #[.int .i64 1, .string ⟨x.toArray⟩, .int .i64 n, .int .i64 z1, .int .i64 z2] (w1.alloc (.cells #[.int .i64 1, .string ⟨x.toArray⟩, .int .i64 n, .int .i64 z1, .int .i64 z2] 141))) := Lib.hid ⟨Row.made _ _ _, (HA0.out.below g1).size, hbxx⟩; clear g1 HN)
            generalize w1.alloc (.cells #[.int .i64 1, .string ⟨x.toArray⟩, .int .i64 n, .int .i64 z1, .int .i64 z2] 141) = v1 at HA1 HKt_1 ⊢
            have y0 := HKt_1.out.row.cell 0
            have hpz := HKt_1.out.row.lt
            simp at y0
            go_wp2_with (first | (go_at_call 102; refine (HM1.out _ HA1.out.st).mono ?_; rintro e w2 ⟨rfl, g1, g2⟩; have HA2 := Lib.hid (HA1.out.grow g1 g2); have HKt_2 := Lib.hid (HKt_1.out.grow g2); clear g1 g2 HM1) | (go_at_call 102; refine (HM2.out _ HA2.out.st).mono ?_; rintro e w3 ⟨rfl, g1, g2⟩; have HA3 := Lib.hid (HA2.out.grow g1 g2); have HKt_3 := Lib.hid (HKt_2.out.grow g2); clear g1 g2 HM2; have y3 := HKt_3.out.row.cell 0; have hpz3 := HKt_3.out.row.lt; simp at y3) | (go_at_call 198; refine (HC.out _ HA3.out.st HA3.out.env).mono ?_; intro e w4 h2; obtain ⟨v, rfl, ⟨A9, c9, rfl, hk⟩, g1, g2⟩ := h2.okE rfl; have HA4 := Lib.hid (HA3.out.grow g1 g2); have HK9 : Hid (KS w4 (Bt wx.heap.size w4.heap.size) A9 (y).ks) := Lib.hid (hk.widen fun q hq => ⟨Nat.le_trans HA3.out.size hq.1, hq.2⟩); have HROW := HA4.out.row HPX.out hpb; clear g1 g2 h2 hk HC) | (refine wpList_store_row (o := ⟨none, Op.store _ _ _, _, _, _, _⟩) rfl _ _ _ rfl w.heap.size (t6 (y) A9 c9) rfl rfl _ _ HROW (t6_size _ _ _) rfl (t6_one _ _ _) ?_))
            obtain ⟨t1, t2, t3, t4⟩ := tree_back (x := y) (A := A9) (c := c9) (only_trans HGX.out HA4.out.grown) HROW (by rw [← HXZ.out]; exact HK9.out) HA4.out.st hBw
            exact bodyPost_ret (results_cell_row rfl _ _ w.heap.size _ _ _ _ rfl t4 Tryz.underlying198 rfl tree_size) rfl (PRes.okI HR.out t1 rfl ⟨A9, c9, rfl, t2⟩ t3)
          · rw [hE] at hR HC
            have HR := Lib.hid hR
            clear hR h he hkk hk3 hf1 hf1b ht1 ht1b hE hSP
            go_enter Tryz.func195, Tryz.ntmps195
            go_upto_region 1 with fail
            rw [← hwx]
            clear hwx
            go_upto_region 2 with (go_at_call 64; refine (HN.out _ HA0.out.st).mono ?_; rintro e w1 ⟨rfl, g1⟩; have HA1 : Hid (At s B b wx (t :: r) o (w1.alloc (.cells #[.int .i64 1, .string ⟨x.toArray⟩, .int .i64 n, .int .i64 z1, .int .i64 z2] 141))) := Lib.hid ((HA0.out.below g1).alloc _); have HKt_1 : Hid (Bx b wx w1.heap.size 141 #[.int .i64 1, .string ⟨x.toArray⟩, .int .i64 n, .int .i64 z1, .int .i64 z2] (w1.alloc (.cells #[.int .i64 1, .string ⟨x.toArray⟩, .int .i64 n, .int .i64 z1, .int .i64 z2] 141))) := Lib.hid ⟨Row.made _ _ _, (HA0.out.below g1).size, hbxx⟩; clear g1 HN)
            generalize w1.alloc (.cells #[.int .i64 1, .string ⟨x.toArray⟩, .int .i64 n, .int .i64 z1, .int .i64 z2] 141) = v1 at HA1 HKt_1 ⊢
            have y0 := HKt_1.out.row.cell 0
            have hpz := HKt_1.out.row.lt
            simp at y0
            go_wp2_with (first | (go_at_call 102; refine (HM1.out _ HA1.out.st).mono ?_; rintro e w2 ⟨rfl, g1, g2⟩; have HA2 := Lib.hid (HA1.out.grow g1 g2); have HKt_2 := Lib.hid (HKt_1.out.grow g2); clear g1 g2 HM1) | (go_at_call 102; refine (HM2.out _ HA2.out.st).mono ?_; rintro e w3 ⟨rfl, g1, g2⟩; have HA3 := Lib.hid (HA2.out.grow g1 g2); have HKt_3 := Lib.hid (HKt_2.out.grow g2); clear g1 g2 HM2; have y3 := HKt_3.out.row.cell 0; have hpz3 := HKt_3.out.row.lt; simp at y3) | (go_at_call 198; refine (HC.out _ HA3.out.st HA3.out.env).mono ?_; intro e w4 h2; obtain ⟨rfl, g2⟩ := h2.badE rfl; have HGB := Lib.hid (only_trans HA3.out.grown g2); clear g2 h2 HC))
            exact ⟨rfl, PRes.badI HR.out (only_trans HGX.out HGB.out) rfl⟩
        · rw [if_neg hk1] at hR
          rw [hkk] at hk1
          have hk1b : (k == 1) = false := beq_eq_false_iff_ne.2 hk1
          have HC : Hid (∀ w1, StT s B w1 b (t :: r) o → PaEnv b w1 → _) := Lib.hid fun w1 h1 h2 => ih.bracket o (t :: r) w1 (by omega) h1 h2
          rcases (bracketP f (t :: r) o).cases with ⟨y, L1, hE⟩ | ⟨c, a, hE⟩
          · rw [hE] at hR HC
            have HR := Lib.hid hR
            clear hR h he hkk hk3 hf1 hf1b ht1 ht1b hE hk1
            go_enter Tryz.func195, Tryz.ntmps195
            go_upto_region 1 with fail
            rw [← hwx]
            clear hwx
            go_upto_region 2 with (go_at_call 64; refine (HN.out _ HA0.out.st).mono ?_; rintro e w1 ⟨rfl, g1⟩; have HA1 : Hid (At s B b wx (t :: r) o (w1.alloc (.cells #[.int .i64 k, .string ⟨x.toArray⟩, .int .i64 n, .int .i64 z1, .int .i64 z2] 141))) := Lib.hid ((HA0.out.below g1).alloc _); have HKt_1 : Hid (Bx b wx w1.heap.size 141 #[.int .i64 k, .string ⟨x.toArray⟩, .int .i64 n, .int .i64 z1, .int .i64 z2] (w1.alloc (.cells #[.int .i64 k, .string ⟨x.toArray⟩, .int .i64 n, .int .i64 z1, .int .i64 z2] 141))) := Lib.hid ⟨Row.made _ _ _, (HA0.out.below g1).size, hbxx⟩; clear g1 HN)
            generalize w1.alloc (.cells #[.int .i64 k, .string ⟨x.toArray⟩, .int .i64 n, .int .i64 z1, .int .i64 z2] 141) = v1 at HA1 HKt_1 ⊢
            have y0 := HKt_1.out.row.cell 0
            have hpz := HKt_1.out.row.lt
            simp at y0
            go_wp2_with (first | (go_at_call 102; refine (HM1.out _ HA1.out.st).mono ?_; rintro e w2 ⟨rfl, g1, g2⟩; have HA2 := Lib.hid (HA1.out.grow g1 g2); have HKt_2 := Lib.hid (HKt_1.out.grow g2); clear g1 g2 HM1) | (go_at_call 102; refine (HM2.out _ HA2.out.st).mono ?_; rintro e w3 ⟨rfl, g1, g2⟩; have HA3 := Lib.hid (HA2.out.grow g1 g2); have HKt_3 := Lib.hid (HKt_2.out.grow g2); clear g1 g2 HM2; have y3 := HKt_3.out.row.cell 0; have hpz3 := HKt_3.out.row.lt; simp at y3) | (go_at_call 199; refine (HC.out _ HA3.out.st HA3.out.env).mono ?_; intro e w4 h2; obtain ⟨v, rfl, ⟨A9, c9, rfl, hk⟩, g1, g2⟩ := h2.okE rfl; have HA4 := Lib.hid (HA3.out.grow g1 g2); have HK9 : Hid (KS w4 (Bt wx.heap.size w4.heap.size) A9 (y).ks) := Lib.hid (hk.widen fun q hq => ⟨Nat.le_trans HA3.out.size hq.1, hq.2⟩); have HROW := HA4.out.row HPX.out hpb; clear g1 g2 h2 hk HC) | (refine wpList_store_row (o := ⟨none, Op.store _ _ _, _, _, _, _⟩) rfl _ _ _ rfl w.heap.size (t6 (y) A9 c9) rfl rfl _ _ HROW (t6_size _ _ _) rfl (t6_one _ _ _) ?_))
            obtain ⟨t1, t2, t3, t4⟩ := tree_back (x := y) (A := A9) (c := c9) (only_trans HGX.out HA4.out.grown) HROW (by rw [← HXZ.out]; exact HK9.out) HA4.out.st hBw
            exact bodyPost_ret (results_cell_row rfl _ _ w.heap.size _ _ _ _ rfl t4 Tryz.underlying198 rfl tree_size) rfl (PRes.okI HR.out t1 rfl ⟨A9, c9, rfl, t2⟩ t3)
          · rw [hE] at hR HC
            have HR := Lib.hid hR
            clear hR h he hkk hk3 hf1 hf1b ht1 ht1b hE hk1
            go_enter Tryz.func195, Tryz.ntmps195
            go_upto_region 1 with fail
            rw [← hwx]
            clear hwx
            go_upto_region 2 with (go_at_call 64; refine (HN.out _ HA0.out.st).mono ?_; rintro e w1 ⟨rfl, g1⟩; have HA1 : Hid (At s B b wx (t :: r) o (w1.alloc (.cells #[.int .i64 k, .string ⟨x.toArray⟩, .int .i64 n, .int .i64 z1, .int .i64 z2] 141))) := Lib.hid ((HA0.out.below g1).alloc _); have HKt_1 : Hid (Bx b wx w1.heap.size 141 #[.int .i64 k, .string ⟨x.toArray⟩, .int .i64 n, .int .i64 z1, .int .i64 z2] (w1.alloc (.cells #[.int .i64 k, .string ⟨x.toArray⟩, .int .i64 n, .int .i64 z1, .int .i64 z2] 141))) := Lib.hid ⟨Row.made _ _ _, (HA0.out.below g1).size, hbxx⟩; clear g1 HN)
            generalize w1.alloc (.cells #[.int .i64 k, .string ⟨x.toArray⟩, .int .i64 n, .int .i64 z1, .int .i64 z2] 141) = v1 at HA1 HKt_1 ⊢
            have y0 := HKt_1.out.row.cell 0
            have hpz := HKt_1.out.row.lt
            simp at y0
            go_wp2_with (first | (go_at_call 102; refine (HM1.out _ HA1.out.st).mono ?_; rintro e w2 ⟨rfl, g1, g2⟩; have HA2 := Lib.hid (HA1.out.grow g1 g2); have HKt_2 := Lib.hid (HKt_1.out.grow g2); clear g1 g2 HM1) | (go_at_call 102; refine (HM2.out _ HA2.out.st).mono ?_; rintro e w3 ⟨rfl, g1, g2⟩; have HA3 := Lib.hid (HA2.out.grow g1 g2); have HKt_3 := Lib.hid (HKt_2.out.grow g2); clear g1 g2 HM2; have y3 := HKt_3.out.row.cell 0; have hpz3 := HKt_3.out.row.lt; simp at y3) | (go_at_call 199; refine (HC.out _ HA3.out.st HA3.out.env).mono ?_; intro e w4 h2; obtain ⟨rfl, g2⟩ := h2.badE rfl; have HGB := Lib.hid (only_trans HA3.out.grown g2); clear g2 h2 HC))
            exact ⟨rfl, PRes.badI HR.out (only_trans HGX.out HGB.out) rfl⟩

end Go.Proofs.YtdabndiaflagpaaGreatDoor
namespace Go.Proofs.YtdabndiaflagpaaGreatDoor
open Go.RowKit

def RT6 : Of X := fun w S x cs => ∃ A c, cs = [.int .i64 x.k, .int .i64 x.o, .int .i64 x.n, .string ⟨x.s.toArray⟩, .slice A x.ks.length c, .int .i64 (x.depth : Int)] ∧ KS w S A x.ks
theorem lastsT6 : Lasts RT6 6 := ⟨fun ⟨A, c, h, hk⟩ hm => ⟨A, c, h, hk.move hm⟩, fun ⟨A, c, h, _⟩ => by rw [h]; rfl, fun ⟨A, c, h, _⟩ u hu => by
  rw [h] at hu
  simp only [List.mem_cons, List.not_mem_nil, or_false] at hu
  rcases hu with rfl | rfl | rfl | rfl | rfl | rfl <;> rfl⟩
/-- Trees in a row of the call's own. -/
def OwnT (B : Nat) (ts : List X) (v : Value) (w : World) : Prop := OwnG RT6 198 6 w B (Sb B v.ownBlock w) v ts
theorem OwnT.grow {B b : Nat} {ts : List X} {v : Value} {w w' : World} (h : OwnT B ts v w) (hb : b < B) (g : w.grownBy w' (some b)) : OwnT B ts v w' := OwnG.far lastsT6 h hb g
theorem tree_info : (Tryz.prog.info? 198).map (fun i => (i.zero, i.size, i.bytes)) = some (some (.agg #[.int .i64 0, .int .i64 0, .int .i64 0, .string ⟨#[]⟩, .slice none 0 0, .int .i64 0]), 6, 72) := by kernel_rfl
theorem OwnT.trs {B : Nat} {ts : List X} {v : Value} {w : World} (h : OwnT B ts v w) : ∃ A c, v = .slice A ts.length c ∧ TR w (Bt B w.heap.size) A ts := by
  have hlt := h.lt
  obtain ⟨A, c, hv, hr⟩ := OwnG.form lastsT6 h (S' := Bt B w.heap.size) (fun q hq => ⟨hq.1, hq.2.1⟩) (fun q cs hq _ => hlt q hq)
  exact ⟨A, c, hv, Rw.imp hr fun x b off ⟨hb, cs, ⟨A2, c2, hc, hk⟩, hat⟩ => by
    subst hc
    exact ⟨EC.mk' hb (hat 0 _ rfl) (hat 1 _ rfl) (hat 2 _ rfl) (hat 3 _ rfl) (hat 4 _ rfl) hk, hat 5 _ rfl⟩⟩
theorem OwnT.snoc {B : Nat} {acc : List X} {y : X} {v v' : Value} {w w' : World} {cs : List Value} {A : Option Addr} {c : Nat} (hx : CG RT6 w (Sb B v.ownBlock w) acc cs) (ho' : w'.ownsRow B 198 6 v' (acc.length + 1) (cs ++ [.int .i64 y.k, .int .i64 y.o, .int .i64 y.n, .string ⟨y.s.toArray⟩, .slice A y.ks.length c, .int .i64 (y.depth : Int)]))
    (hgr : w.grownBy w' v.ownBlock) (hat : v'.ownBlock = v.ownBlock ∨ v'.ownBlock = some w.heap.size) (hk : KS w (Sb B v.ownBlock w) A y.ks) : OwnT B (acc ++ [y]) v' w' := by
  have h1 : (acc ++ [y])[acc.length]? = some y := by simp
  have h2 : (acc ++ [y]).take acc.length = acc := by simp
  have h3 : (acc ++ [y]).take (acc.length + 1) = acc ++ [y] := List.take_of_length_le (by simp)
  have := OwnG.step (R := RT6) (e := 198) (xs := acc ++ [y]) (j := acc.length) (c := [.int .i64 y.k, .int .i64 y.o, .int .i64 y.n, .string ⟨y.s.toArray⟩, .slice A y.ks.length c, .int .i64 (y.depth : Int)]) lastsT6 h1 (by rw [h2]; exact hx) (by rw [h2]; exact ho') hgr hat ⟨A, c, rfl, hk⟩
  rw [h3] at this
  exact this
theorem t6_list (y : X) (A : Option Addr) (c : Nat) : ∀ u ∈ [Value.int .i64 y.k, .int .i64 y.o, .int .i64 y.n, .string ⟨y.s.toArray⟩, .slice A y.ks.length c, .int .i64 (y.depth : Int)], u.oneCell' = true := by
  intro u hu
  simp only [List.mem_cons, List.not_mem_nil, or_false] at hu
  rcases hu with rfl | rfl | rfl | rfl | rfl | rfl <;> rfl
/-- What comes behind a call's operands. -/
def tailR (r : Pr (List X)) : Pr (List X) := r.bind fun ks L => (mustP [41] L).bind fun _ L => .ok ks L

/-- What an append of a tree asks. -/
structure AppP (w w3 : World) (acc : List X) (v : Value) (y : X) (A : Option Addr) (c : Nat) (ds : List Value) : Prop where
  row : (w3.alloc (.cells #[.int .i64 y.k, .int .i64 y.o, .int .i64 y.n, .string ⟨y.s.toArray⟩, .slice A y.ks.length c, .int .i64 (y.depth : Int)] 198)).ownsRow w.heap.size 198 6 v acc.length ds
  cells : ∀ (i : Nat) u, ([.int .i64 y.k, .int .i64 y.o, .int .i64 y.n, .string ⟨y.s.toArray⟩, .slice A y.ks.length c, .int .i64 (y.depth : Int)] : List Value)[i]? = some u → (w3.alloc (.cells #[.int .i64 y.k, .int .i64 y.o, .int .i64 y.n, .string ⟨y.s.toArray⟩, .slice A y.ks.length c, .int .i64 (y.depth : Int)] 198)).cell? ((⟨w3.heap.size, 0, none⟩ : Addr).add i) = some u
  cg : CG RT6 (w3.alloc (.cells #[.int .i64 y.k, .int .i64 y.o, .int .i64 y.n, .string ⟨y.s.toArray⟩, .slice A y.ks.length c, .int .i64 (y.depth : Int)] 198)) (Sb w.heap.size v.ownBlock (w3.alloc (.cells #[.int .i64 y.k, .int .i64 y.o, .int .i64 y.n, .string ⟨y.s.toArray⟩, .slice A y.ks.length c, .int .i64 (y.depth : Int)] 198))) acc ds
  ks : KS (w3.alloc (.cells #[.int .i64 y.k, .int .i64 y.o, .int .i64 y.n, .string ⟨y.s.toArray⟩, .slice A y.ks.length c, .int .i64 (y.depth : Int)] 198)) (Sb w.heap.size v.ownBlock (w3.alloc (.cells #[.int .i64 y.k, .int .i64 y.o, .int .i64 y.n, .string ⟨y.s.toArray⟩, .slice A y.ks.length c, .int .i64 (y.depth : Int)] 198))) A y.ks
  size : w.heap.size ≤ (w3.alloc (.cells #[.int .i64 y.k, .int .i64 y.o, .int .i64 y.n, .string ⟨y.s.toArray⟩, .slice A y.ks.length c, .int .i64 (y.depth : Int)] 198)).heap.size
  own : ∀ q, v.ownBlock = some q → w.heap.size ≤ q
theorem app_prep {s : T} {B b : Nat} {w w2 w3 : World} {L : List Tk} {o : Nat} {acc : List X} {v : Value} {y : X} {A : Option Addr} {c : Nat} (ha : At s B b w L o w2) (ho : OwnT w.heap.size acc v w2) (hb : b < w.heap.size) (g2 : w2.grownBy w3 (some b)) (hk : KS w3 (Bt w2.heap.size w3.heap.size) A y.ks) :
    ∃ ds, AppP w w3 acc v y A c ds := by
  have hlt := own_lt ho
  have h1 := ha.size
  have h2 := g2.size
  have hal : Tame.Later w3 (w3.alloc (.cells #[.int .i64 y.k, .int .i64 y.o, .int .i64 y.n, .string ⟨y.s.toArray⟩, .slice A y.ks.length c, .int .i64 (y.depth : Int)] 198)) := (Below.refl _ _).alloc (Nat.le_refl _) _
  obtain ⟨ds, hrow, hcg⟩ := ho.grow hb g2
  refine ⟨ds, hrow.alloc _, fun i u hu => ?_, hcg.move lastsT6 fun q hq => later_keep hal q hq, ?_, by simp; omega, fun q hq => (hlt q hq).1⟩
  · rw [addr_add, Nat.zero_add, (Row.made _ _ _).cell i, ← hu]; simp
  · exact hk.move fun q hq => ⟨⟨by have := hq.1; omega, by have := hq.2; simp; omega, fun e => by have := (hlt q e.symm).2; have := hq.1; omega⟩, Below.heap_alloc _ _ _ hq.2⟩
theorem At.own {s : T} {B b : Nat} {wx wi wj : World} {L : List Tk} {o : Nat} {r : Option Nat} (h : At s B b wx L o wi) (g : wi.grownBy wj r) (hr : ∀ q, r = some q → wx.heap.size ≤ q) (hB : B ≤ wx.heap.size := by assumption) : At s B b wx L o wj :=
  ⟨h.st.grown g (fun q hq => by have := hr q hq; omega), h.env.grown g (by have := h.st.base_; have := h.st.room_; omega) (fun q hq => by have := hr q hq; have := h.st.base_; omega), only_far h.grown g hr⟩

set_option maxRecDepth 100000 in
set_option maxHeartbeats 1000000 in
theorem pOperands (s : T) (B b f o : Nat) (L : List Tk) (w : World) (ih : ∀ f', f' ≤ f → PE s B b f') (hf : 16 * L.length + 3 ≤ f + 1) (hb : isP [40] L = true) (h : StT s B w b L o) (he : PaEnv b w) :
    Calls Tryz.prog 204 #[.pointer (some ⟨b, 0, none⟩)] w (PRes s b B w o (fun ts v w' => TrsV w.heap.size ts v w' ∧ ts.length ≤ 1000) (operandsP (f + 1) L o)) := by
  obtain ⟨R, hR⟩ : ∃ R, R = operandsP (f + 1) L o := ⟨_, rfl⟩
  rw [← hR]
  have hbB := h.base_
  have hBw := h.room_
  obtain ⟨wx, hwx⟩ : ∃ wx, wx = w := ⟨_, rfl⟩
  have hbxx : b < w.heap.size := by omega
  have HA0 : Hid (At s B b w L o w) := Lib.hid (At.refl h he)
  clear hwx wx
  obtain ⟨i0, hi0, hz0, hz1, hz2⟩ := info_parts tree_info
  rw [operandsP] at hR
  have ht := is_sh h.wf_ hb (by decide)
  have HBG : Hid (∀ w1, StT s B w1 b L o → _) := Lib.hid fun w1 h1 => pBegin s B b o L w1 h1 ht.1
  have HCOM : Hid (∀ Li w1, StT s B w1 b Li (o + 1) → _) := Lib.hid fun Li w1 h1 => pMay s B b (o + 1) [44] Li w1 h1 (by decide)
  have HROOM : Hid (∀ m Li w1, m ≤ 1000 → StT s B w1 b Li (o + 1) → _) := Lib.hid fun m Li w1 hm h1 => pRoom s B b (o + 1) m Li w1 h1 hm
  have HMUST : Hid (∀ Li w1, StT s B w1 b Li (o + 1) → _) := Lib.hid fun Li w1 h1 => pMust1 s B b (o + 1) [41] Li w1 h1 (by decide)
  have HEND : Hid (∀ Li w1, StT s B w1 b Li (o + 1) → _) := Lib.hid fun Li w1 h1 => pEnd s B b o Li w1 h1
  have HIH := Lib.hid ih
  by_cases ho : 400 ≤ o
  · have hO : (openP o L fun L => .ok () L : Pr Unit) = .bad 5 (hdF L) := if_pos ho
    rw [hO] at HBG
    replace hR : R = .bad 5 (hdF L) := by rw [hR]; exact if_pos ho
    have HR := Lib.hid hR
    clear hR hO ho hb ht h he
    go_enter Tryz.func204, Tryz.ntmps204
    go_wp2_with (go_at_call 177; refine (HBG.out _ HA0.out.st).mono ?_; intro e w1 h2; obtain ⟨rfl, g2⟩ := h2.badE rfl; have HGB := Lib.hid (only_trans HA0.out.grown g2); clear g2 h2 HBG)
    exact ⟨rfl, PRes.badI HR.out (HGB.out) rfl⟩
  · have hO : (openP o L fun L => .ok () L : Pr Unit) = .ok () L.tail := if_neg ho
    rw [hO] at HBG
    replace hR : R = tailR (if isP [41] L.tail = true then moreP f [] L.tail (o + 1) else (exprP f L.tail (o + 1)).bind fun x L => moreP f [x] L (o + 1)) := by rw [hR]; exact if_neg ho
    have HI : Hid (∀ w1, StT s B w1 b L.tail (o + 1) → _) := Lib.hid fun w1 h1 => pIs s B b (o + 1) [41] L.tail w1 h1
    have hl1 : L.tail.length + 1 ≤ L.length := ht.2
    have HWT := Lib.hid ht.1
    clear h he hb
    by_cases hcl : isP [41] L.tail = true
    · rw [if_pos hcl] at hR
      rw [hcl] at HI
      have HRS := Lib.hid hR
      clear hR hcl hO ho ht
      go_enter Tryz.func204, Tryz.ntmps204
      go_wp2_with (first | (go_at_call 177; refine (HBG.out _ HA0.out.st).mono ?_; intro e w1 h2; obtain ⟨v, rfl, hv, g1, g2⟩ := h2.okE rfl; obtain rfl : v = .tuple #[] := hv; have HA1 := Lib.hid (HA0.out.grow g1 g2); clear g1 g2 h2 HBG) | (go_at_call 61; refine (HI.out _ HA1.out.st).mono ?_; rintro e w2 ⟨rfl, g1⟩; have HA2 := Lib.hid (HA1.out.below g1); clear g1 HI))
      go_loopg [3] f (fun g' v wr => ∃ (acc : List X) (Li : List Tk), R = tailR (moreP g' acc Li (o + 1)) ∧ 16 * Li.length + 3 ≤ g' ∧ g' ≤ f ∧ At s B b w Li (o + 1) wr ∧ OwnT w.heap.size acc v wr ∧ acc.length ≤ 1000)
      case atStart => exact ⟨[], L.tail, HRS.out, by omega, Nat.le_refl _, HA2.out, OwnG.nil _ _ _ _ _ _, by simp⟩
      case round =>
        obtain ⟨acc, Li, hRi, hfu, hff, hat, hown, hna⟩ := hrel
        obtain ⟨fl, rfl⟩ : ∃ fl, gk = fl + 1 := ⟨gk - 1, by omega⟩
        obtain ⟨Av, cv, rfl, _⟩ := own_slice hown
        replace HA0 := Lib.hid hat
        have HO0 := Lib.hid hown
        have HWF := Lib.hid hat.st.wf_
        rw [moreP] at hRi
        have HM1 := Lib.hid (HCOM.out Li)
        clear hat hown
        by_cases hcm : isP [44] Li = true
        · have htt := is_sh HWF.out hcm (by decide)
          rw [if_pos hcm] at hRi
          rw [hcm, if_pos rfl] at HM1
          have HRO := Lib.hid (HROOM.out acc.length Li.tail)
          by_cases hfull : 1000 ≤ acc.length
          · rw [if_pos hfull] at hRi HRO
            have HR : Hid (R = .bad 4 (hdF Li.tail)) := Lib.hid hRi
            clear hRi hcm hfull htt
            go_wp2_with (first | (go_at_call 102; refine (HM1.out _ HA0.out.st).mono ?_; rintro e w1 ⟨rfl, g1, g2⟩; have HA1 := Lib.hid (HA0.out.grow g1 g2); have HO1 := Lib.hid (HO0.out.grow hbxx g2); clear g1 g2 HM1) | (go_at_call 62; refine (HRO.out _ hna HA1.out.st).mono ?_; intro e w2 h2; obtain ⟨rfl, g2⟩ := h2.badE rfl; have HGB := Lib.hid (only_trans HA1.out.grown g2); clear g2 h2 HRO))
            exact ⟨rfl, PRes.badI HR.out (HGB.out) rfl⟩
          · rw [if_neg hfull] at hRi HRO
            have HX : Hid (∀ w1, StT s B w1 b Li.tail (o + 1) → PaEnv b w1 → _) := Lib.hid fun w1 h1 h2 => (HIH.out fl (by omega)).expr (o + 1) Li.tail w1 (by omega) h1 h2
            rcases (exprP fl Li.tail (o + 1)).cases with ⟨y, L2, hE⟩ | ⟨c, a, hE⟩
            · have hsh := (passes fl).expr _ _ htt.1 _ _ hE
              have hz5 := hsh.2
              have hz6 := htt.2
              rw [hE] at hRi HX
              have HRI : Hid (R = tailR (moreP fl (acc ++ [y]) L2 (o + 1))) := Lib.hid hRi
              clear hRi hcm htt hE hsh
              go_wp2_with (first | (go_at_call 102; refine (HM1.out _ HA0.out.st).mono ?_; rintro e w1 ⟨rfl, g1, g2⟩; have HA1 := Lib.hid (HA0.out.grow g1 g2); have HO1 := Lib.hid (HO0.out.grow hbxx g2); clear g1 g2 HM1) | (go_at_call 62; refine (HRO.out _ hna HA1.out.st).mono ?_; intro e w2 h2; obtain ⟨v, rfl, hv, g1, g2⟩ := h2.okE rfl; obtain rfl : v = .tuple #[] := hv; have HA2 := Lib.hid (HA1.out.grow g1 g2); have HO2 := Lib.hid (HO1.out.grow hbxx g2); clear g1 g2 h2 HRO) | (go_at_call 135; refine (HX.out _ HA2.out.st HA2.out.env).mono ?_; intro e w3 h2; obtain ⟨v9, rfl, ⟨Ay, cy, rfl, hk⟩, g1, g2⟩ := h2.okE rfl; obtain ⟨ds, hap⟩ := app_prep (c := cy) HA2.out HO2.out hbxx g2 hk; have HAP := Lib.hid hap; have HA3 := Lib.hid (HA2.out.grow g1 g2); clear g1 g2 h2 hk hap HX) | (at_builtin; go_must (refine wpList_append_own_at _ rfl (.tmp 20) (.tmp 23) 246 rfl w.heap.size 198 i0 _ 6 72 Tryz.underlying246 hi0 hz0 hz1 hz2 rfl (by omega) (.slice Av acc.length cv) acc.length ds rfl HAP.out.row ⟨w3.heap.size, 0, none⟩ 1 1 [.int .i64 y.k, .int .i64 y.o, .int .i64 y.n, .string ⟨y.s.toArray⟩, .slice Ay y.ks.length cy, .int .i64 (y.depth : Int)] rfl rfl HAP.out.cells (t6_list _ _ _) (by unfold maxLen; omega) (by omega) HAP.out.size ?_); intro v' w4 ho' hgr' _ hat; have HON := Lib.hid (OwnT.snoc HAP.out.cg ho' hgr' hat HAP.out.ks); have HAN := Lib.hid (HA3.out.own (grown_of_alloc hgr') HAP.out.own); clear ho' hgr' hat))
              go_roundg fl
              case rel => exact ⟨acc ++ [y], L2, HRI.out, by omega, by omega, HAN.out, HON.out, by simp; omega⟩
              case measure => omega
            · rw [hE] at hRi HX
              have HR : Hid (R = .bad c a) := Lib.hid hRi
              clear hRi hcm htt hE
              go_wp2_with (first | (go_at_call 102; refine (HM1.out _ HA0.out.st).mono ?_; rintro e w1 ⟨rfl, g1, g2⟩; have HA1 := Lib.hid (HA0.out.grow g1 g2); have HO1 := Lib.hid (HO0.out.grow hbxx g2); clear g1 g2 HM1) | (go_at_call 62; refine (HRO.out _ hna HA1.out.st).mono ?_; intro e w2 h2; obtain ⟨v, rfl, hv, g1, g2⟩ := h2.okE rfl; obtain rfl : v = .tuple #[] := hv; have HA2 := Lib.hid (HA1.out.grow g1 g2); have HO2 := Lib.hid (HO1.out.grow hbxx g2); clear g1 g2 h2 HRO) | (go_at_call 135; refine (HX.out _ HA2.out.st HA2.out.env).mono ?_; intro e w3 h2; obtain ⟨rfl, g2⟩ := h2.badE rfl; have HGB := Lib.hid (only_trans HA2.out.grown g2); clear g2 h2 HX))
              exact ⟨rfl, PRes.badI HR.out (HGB.out) rfl⟩
        · have hcm2 : isP [44] Li = false := by simpa using hcm
          rw [if_neg hcm] at hRi
          rw [hcm2, if_neg (by decide)] at HM1
          have HMU := Lib.hid (HMUST.out Li)
          rcases (mustP [41] Li).cases with ⟨u, L2, hE⟩ | ⟨c, a, hE⟩
          · replace hRi : R = (mustP [41] Li).bind fun _ L => .ok acc L := hRi
            rw [hE] at hRi HMU
            have HR : Hid (R = .ok acc L2) := Lib.hid hRi
            have HEN := Lib.hid (HEND.out L2)
            clear hRi hcm hcm2 hE
            go_wp2_with (first | (go_at_call 102; refine (HM1.out _ HA0.out.st).mono ?_; rintro e w1 ⟨rfl, g1, g2⟩; have HA1 := Lib.hid (HA0.out.grow g1 g2); have HO1 := Lib.hid (HO0.out.grow hbxx g2); clear g1 g2 HM1) | (go_at_call 99; refine (HMU.out _ HA1.out.st).mono ?_; intro e w2 h2; obtain ⟨v, rfl, hv, g1, g2⟩ := h2.okE rfl; obtain rfl : v = .tuple #[] := hv; have HA2 := Lib.hid (HA1.out.grow g1 g2); have HO2 := Lib.hid (HO1.out.grow hbxx g2); clear g1 g2 h2 HMU) | (go_at_call 178; refine (HEN.out _ HA2.out.st).mono ?_; rintro e w3 ⟨rfl, g1, g2⟩; have HA3 := Lib.hid (HA2.out.grow g1 g2); have HO3 := Lib.hid (HO2.out.grow hbxx g2); clear g1 g2 HEN))
            go_ret
            obtain ⟨A9, c9, hv9, ht9⟩ := HO3.out.trs
            exact PRes.okI HR.out HA3.out.grown rfl ⟨⟨A9, c9, hv9, ht9⟩, hna⟩ HA3.out.st
          · replace hRi : R = (mustP [41] Li).bind fun _ L => .ok acc L := hRi
            rw [hE] at hRi HMU
            have HR : Hid (R = .bad c a) := Lib.hid hRi
            clear hRi hcm hcm2 hE
            go_wp2_with (first | (go_at_call 102; refine (HM1.out _ HA0.out.st).mono ?_; rintro e w1 ⟨rfl, g1, g2⟩; have HA1 := Lib.hid (HA0.out.grow g1 g2); have HO1 := Lib.hid (HO0.out.grow hbxx g2); clear g1 g2 HM1) | (go_at_call 99; refine (HMU.out _ HA1.out.st).mono ?_; intro e w2 h2; obtain ⟨rfl, g2⟩ := h2.badE rfl; have HGB := Lib.hid (only_trans HA1.out.grown g2); clear g2 h2 HMU))
            exact ⟨rfl, PRes.badI HR.out (HGB.out) rfl⟩
    · rw [if_neg hcl] at hR
      have hcl2 : isP [41] L.tail = false := by simpa using hcl
      rw [hcl2] at HI
      have HX : Hid (∀ w1, StT s B w1 b L.tail (o + 1) → PaEnv b w1 → _) := Lib.hid fun w1 h1 h2 => (ih f (Nat.le_refl _)).expr (o + 1) L.tail w1 (by omega) h1 h2
      rcases (exprP f L.tail (o + 1)).cases with ⟨x, L1, hE⟩ | ⟨c, a, hE⟩
      · have hsh := (passes f).expr _ _ ht.1 _ _ hE
        have hz5 := hsh.2
        rw [hE] at hR HX
        have HRS : Hid (R = tailR (moreP f [x] L1 (o + 1))) := Lib.hid hR
        clear hR hcl hcl2 hO ho ht hE hsh
        have HO0 : Hid (∀ wz, OwnT w.heap.size [] (.slice none 0 0) wz) := Lib.hid fun wz => OwnG.nil _ _ _ _ _ _
        go_enter Tryz.func204, Tryz.ntmps204
        go_wp2_with (first | (go_at_call 177; refine (HBG.out _ HA0.out.st).mono ?_; intro e w1 h2; obtain ⟨v, rfl, hv, g1, g2⟩ := h2.okE rfl; obtain rfl : v = .tuple #[] := hv; have HA1 := Lib.hid (HA0.out.grow g1 g2); clear g1 g2 h2 HBG) | (go_at_call 61; refine (HI.out _ HA1.out.st).mono ?_; rintro e w2 ⟨rfl, g1⟩; have HA2 := Lib.hid (HA1.out.below g1); clear g1 HI; have HO2 := Lib.hid (HO0.out w2)) | (go_at_call 135; refine (HX.out _ HA2.out.st HA2.out.env).mono ?_; intro e w3 h2; obtain ⟨v9, rfl, ⟨Ax, cx, rfl, hk⟩, g1, g2⟩ := h2.okE rfl; obtain ⟨ds, hap⟩ := app_prep (c := cx) HA2.out HO2.out hbxx g2 hk; have HAP := Lib.hid hap; have HA3 := Lib.hid (HA2.out.grow g1 g2); clear g1 g2 h2 hk hap HX) | (at_builtin; go_must (refine wpList_append_own_at _ rfl (.tmp 9) (.tmp 12) 246 rfl w.heap.size 198 i0 _ 6 72 Tryz.underlying246 hi0 hz0 hz1 hz2 rfl (by omega) (.slice none 0 0) 0 ds rfl HAP.out.row ⟨w3.heap.size, 0, none⟩ 1 1 [.int .i64 x.k, .int .i64 x.o, .int .i64 x.n, .string ⟨x.s.toArray⟩, .slice Ax x.ks.length cx, .int .i64 (x.depth : Int)] rfl rfl HAP.out.cells (t6_list _ _ _) (by unfold maxLen; omega) (by omega) HAP.out.size ?_); intro v' w4 ho' hgr' _ hat; have HON := Lib.hid (OwnT.snoc HAP.out.cg ho' hgr' hat HAP.out.ks); have HAN := Lib.hid (HA3.out.own (grown_of_alloc hgr') HAP.out.own); clear ho' hgr' hat))
        go_loopg [3] f (fun g' v wr => ∃ (acc : List X) (Li : List Tk), R = tailR (moreP g' acc Li (o + 1)) ∧ 16 * Li.length + 3 ≤ g' ∧ g' ≤ f ∧ At s B b w Li (o + 1) wr ∧ OwnT w.heap.size acc v wr ∧ acc.length ≤ 1000)
        case atStart => exact ⟨[x], L1, HRS.out, by omega, Nat.le_refl _, HAN.out, HON.out, by simp⟩
        case round =>
          obtain ⟨acc, Li, hRi, hfu, hff, hat, hown, hna⟩ := hrel
          obtain ⟨fl, rfl⟩ : ∃ fl, gk = fl + 1 := ⟨gk - 1, by omega⟩
          obtain ⟨Av, cv, rfl, _⟩ := own_slice hown
          replace HA0 := Lib.hid hat
          have HO0 := Lib.hid hown
          have HWF := Lib.hid hat.st.wf_
          rw [moreP] at hRi
          have HM1 := Lib.hid (HCOM.out Li)
          clear hat hown
          by_cases hcm : isP [44] Li = true
          · have htt := is_sh HWF.out hcm (by decide)
            rw [if_pos hcm] at hRi
            rw [hcm, if_pos rfl] at HM1
            have HRO := Lib.hid (HROOM.out acc.length Li.tail)
            by_cases hfull : 1000 ≤ acc.length
            · rw [if_pos hfull] at hRi HRO
              have HR : Hid (R = .bad 4 (hdF Li.tail)) := Lib.hid hRi
              clear hRi hcm hfull htt
              go_wp2_with (first | (go_at_call 102; refine (HM1.out _ HA0.out.st).mono ?_; rintro e w1 ⟨rfl, g1, g2⟩; have HA1 := Lib.hid (HA0.out.grow g1 g2); have HO1 := Lib.hid (HO0.out.grow hbxx g2); clear g1 g2 HM1) | (go_at_call 62; refine (HRO.out _ hna HA1.out.st).mono ?_; intro e w2 h2; obtain ⟨rfl, g2⟩ := h2.badE rfl; have HGB := Lib.hid (only_trans HA1.out.grown g2); clear g2 h2 HRO))
              exact ⟨rfl, PRes.badI HR.out (HGB.out) rfl⟩
            · rw [if_neg hfull] at hRi HRO
              have HX : Hid (∀ w1, StT s B w1 b Li.tail (o + 1) → PaEnv b w1 → _) := Lib.hid fun w1 h1 h2 => (HIH.out fl (by omega)).expr (o + 1) Li.tail w1 (by omega) h1 h2
              rcases (exprP fl Li.tail (o + 1)).cases with ⟨y, L2, hE⟩ | ⟨c, a, hE⟩
              · have hsh := (passes fl).expr _ _ htt.1 _ _ hE
                have hz5 := hsh.2
                have hz6 := htt.2
                rw [hE] at hRi HX
                have HRI : Hid (R = tailR (moreP fl (acc ++ [y]) L2 (o + 1))) := Lib.hid hRi
                clear hRi hcm htt hE hsh
                go_wp2_with (first | (go_at_call 102; refine (HM1.out _ HA0.out.st).mono ?_; rintro e w1 ⟨rfl, g1, g2⟩; have HA1 := Lib.hid (HA0.out.grow g1 g2); have HO1 := Lib.hid (HO0.out.grow hbxx g2); clear g1 g2 HM1) | (go_at_call 62; refine (HRO.out _ hna HA1.out.st).mono ?_; intro e w2 h2; obtain ⟨v, rfl, hv, g1, g2⟩ := h2.okE rfl; obtain rfl : v = .tuple #[] := hv; have HA2 := Lib.hid (HA1.out.grow g1 g2); have HO2 := Lib.hid (HO1.out.grow hbxx g2); clear g1 g2 h2 HRO) | (go_at_call 135; refine (HX.out _ HA2.out.st HA2.out.env).mono ?_; intro e w3 h2; obtain ⟨v9, rfl, ⟨Ay, cy, rfl, hk⟩, g1, g2⟩ := h2.okE rfl; obtain ⟨ds, hap⟩ := app_prep (c := cy) HA2.out HO2.out hbxx g2 hk; have HAP := Lib.hid hap; have HA3 := Lib.hid (HA2.out.grow g1 g2); clear g1 g2 h2 hk hap HX) | (at_builtin; go_must (refine wpList_append_own_at _ rfl (.tmp 20) (.tmp 23) 246 rfl w.heap.size 198 i0 _ 6 72 Tryz.underlying246 hi0 hz0 hz1 hz2 rfl (by omega) (.slice Av acc.length cv) acc.length ds rfl HAP.out.row ⟨w3.heap.size, 0, none⟩ 1 1 [.int .i64 y.k, .int .i64 y.o, .int .i64 y.n, .string ⟨y.s.toArray⟩, .slice Ay y.ks.length cy, .int .i64 (y.depth : Int)] rfl rfl HAP.out.cells (t6_list _ _ _) (by unfold maxLen; omega) (by omega) HAP.out.size ?_); intro v' w4 ho' hgr' _ hat; have HON := Lib.hid (OwnT.snoc HAP.out.cg ho' hgr' hat HAP.out.ks); have HAN := Lib.hid (HA3.out.own (grown_of_alloc hgr') HAP.out.own); clear ho' hgr' hat))
                go_roundg fl
                case rel => exact ⟨acc ++ [y], L2, HRI.out, by omega, by omega, HAN.out, HON.out, by simp; omega⟩
                case measure => omega
              · rw [hE] at hRi HX
                have HR : Hid (R = .bad c a) := Lib.hid hRi
                clear hRi hcm htt hE
                go_wp2_with (first | (go_at_call 102; refine (HM1.out _ HA0.out.st).mono ?_; rintro e w1 ⟨rfl, g1, g2⟩; have HA1 := Lib.hid (HA0.out.grow g1 g2); have HO1 := Lib.hid (HO0.out.grow hbxx g2); clear g1 g2 HM1) | (go_at_call 62; refine (HRO.out _ hna HA1.out.st).mono ?_; intro e w2 h2; obtain ⟨v, rfl, hv, g1, g2⟩ := h2.okE rfl; obtain rfl : v = .tuple #[] := hv; have HA2 := Lib.hid (HA1.out.grow g1 g2); have HO2 := Lib.hid (HO1.out.grow hbxx g2); clear g1 g2 h2 HRO) | (go_at_call 135; refine (HX.out _ HA2.out.st HA2.out.env).mono ?_; intro e w3 h2; obtain ⟨rfl, g2⟩ := h2.badE rfl; have HGB := Lib.hid (only_trans HA2.out.grown g2); clear g2 h2 HX))
                exact ⟨rfl, PRes.badI HR.out (HGB.out) rfl⟩
          · have hcm2 : isP [44] Li = false := by simpa using hcm
            rw [if_neg hcm] at hRi
            rw [hcm2, if_neg (by decide)] at HM1
            have HMU := Lib.hid (HMUST.out Li)
            rcases (mustP [41] Li).cases with ⟨u, L2, hE⟩ | ⟨c, a, hE⟩
            · replace hRi : R = (mustP [41] Li).bind fun _ L => .ok acc L := hRi
              rw [hE] at hRi HMU
              have HR : Hid (R = .ok acc L2) := Lib.hid hRi
              have HEN := Lib.hid (HEND.out L2)
              clear hRi hcm hcm2 hE
              go_wp2_with (first | (go_at_call 102; refine (HM1.out _ HA0.out.st).mono ?_; rintro e w1 ⟨rfl, g1, g2⟩; have HA1 := Lib.hid (HA0.out.grow g1 g2); have HO1 := Lib.hid (HO0.out.grow hbxx g2); clear g1 g2 HM1) | (go_at_call 99; refine (HMU.out _ HA1.out.st).mono ?_; intro e w2 h2; obtain ⟨v, rfl, hv, g1, g2⟩ := h2.okE rfl; obtain rfl : v = .tuple #[] := hv; have HA2 := Lib.hid (HA1.out.grow g1 g2); have HO2 := Lib.hid (HO1.out.grow hbxx g2); clear g1 g2 h2 HMU) | (go_at_call 178; refine (HEN.out _ HA2.out.st).mono ?_; rintro e w3 ⟨rfl, g1, g2⟩; have HA3 := Lib.hid (HA2.out.grow g1 g2); have HO3 := Lib.hid (HO2.out.grow hbxx g2); clear g1 g2 HEN))
              go_ret
              obtain ⟨A9, c9, hv9, ht9⟩ := HO3.out.trs
              exact PRes.okI HR.out HA3.out.grown rfl ⟨⟨A9, c9, hv9, ht9⟩, hna⟩ HA3.out.st
            · replace hRi : R = (mustP [41] Li).bind fun _ L => .ok acc L := hRi
              rw [hE] at hRi HMU
              have HR : Hid (R = .bad c a) := Lib.hid hRi
              clear hRi hcm hcm2 hE
              go_wp2_with (first | (go_at_call 102; refine (HM1.out _ HA0.out.st).mono ?_; rintro e w1 ⟨rfl, g1, g2⟩; have HA1 := Lib.hid (HA0.out.grow g1 g2); have HO1 := Lib.hid (HO0.out.grow hbxx g2); clear g1 g2 HM1) | (go_at_call 99; refine (HMU.out _ HA1.out.st).mono ?_; intro e w2 h2; obtain ⟨rfl, g2⟩ := h2.badE rfl; have HGB := Lib.hid (only_trans HA1.out.grown g2); clear g2 h2 HMU))
              exact ⟨rfl, PRes.badI HR.out (HGB.out) rfl⟩
      · rw [hE] at hR HX
        have HR : Hid (R = .bad c a) := Lib.hid hR
        clear hR hcl hcl2 hO ho ht hE
        go_enter Tryz.func204, Tryz.ntmps204
        go_wp2_with (first | (go_at_call 177; refine (HBG.out _ HA0.out.st).mono ?_; intro e w1 h2; obtain ⟨v, rfl, hv, g1, g2⟩ := h2.okE rfl; obtain rfl : v = .tuple #[] := hv; have HA1 := Lib.hid (HA0.out.grow g1 g2); clear g1 g2 h2 HBG) | (go_at_call 61; refine (HI.out _ HA1.out.st).mono ?_; rintro e w2 ⟨rfl, g1⟩; have HA2 := Lib.hid (HA1.out.below g1); clear g1 HI) | (go_at_call 135; refine (HX.out _ HA2.out.st HA2.out.env).mono ?_; intro e w3 h2; obtain ⟨rfl, g2⟩ := h2.badE rfl; have HGB := Lib.hid (only_trans HA2.out.grown g2); clear g2 h2 HX))
        exact ⟨rfl, PRes.badI HR.out (HGB.out) rfl⟩

end Go.Proofs.YtdabndiaflagpaaGreatDoor
