/- DERIVED. The walks of Read: of the table, of the document's list. -/
import Derived.Test.YtclgblmhicabnaaTab3
import Derived.Test.YtclgblmhicabnaaReader3
import Derived.Test.YtclgblmhicabnaaRefR3
namespace Go.Proofs.Ytclgblmhicabnaa
open Go.RowKit Crc Nums Rd

/-- The next text, and the reader's state behind it and behind the look whether it is there. -/
def nextT (s : St) : T := (textS 65535 s).1
def nextS (s : St) (xs : List T) : St := if nextT s ∈ xs then fail 2 (textS 65535 s).2 else (textS 65535 s).2
/-- So many texts more. -/
def rdTab : Nat → St → List T → List T × St
  | 0, s, xs => (xs, s)
  | n + 1, s, xs => if (nextS s xs).2 ≠ 0 then ([], nextS s xs) else rdTab n (nextS s xs) (xs ++ [nextT s])
def readTab (s : St) : List T × St := if (varS 16777215 s).2.2 ≠ 0 then ([], (varS 16777215 s).2) else rdTab (varS 16777215 s).1 (varS 16777215 s).2 []

theorem nextT_length (s : St) : (nextT s).length ≤ 65535 := by
  have h1 := varS_le 65535 s
  have h2 := take_length (varS 65535 s).1 (varS 65535 s).2
  unfold nextT textS
  omega
theorem nextS_zero {s : St} {xs : List T} (h : (nextS s xs).2 = 0) : nextT s ∉ xs := by
  intro hm
  unfold nextS at h
  rw [if_pos hm] at h
  unfold fail at h
  split at h
  · cases h
  · rename_i hf
    exact hf ⟨h, by omega⟩
theorem nextS_ref (s : St) (xs : List T) (h : (textS 65535 s).2.2 ≠ 0) : nextS s xs = (textS 65535 s).2 := by
  unfold nextS
  split
  · exact fail_id (.inl h)
  · rfl

theorem varS_stop (most : Nat) (s : St) (hv : s.2 ≠ 0 → s.1 = []) (h : (varS most s).2.2 ≠ 0) : (varS most s).1 = 0 := by
  by_cases h0 : s.2 = 0
  · unfold varS at h ⊢
    split
    · rfl
    · split
      · rfl
      · split
        · rfl
        · rename_i h1 h2 h3
          rw [if_neg h1, if_neg h2, if_neg h3] at h
          exact absurd h0 h
  · have := hv h0
    unfold varS
    rw [this]
    rw [if_pos (by simp [varGo])]

theorem readTab_eq (s : St) (hv : s.2 ≠ 0 → s.1 = []) : readTab s = rdTab (varS 16777215 s).1 (varS 16777215 s).2 [] := by
  unfold readTab
  split
  · rename_i h
    rw [varS_stop _ s hv h]
    rfl
  · rfl

theorem only_past {a b c : World} {p : Nat} (h : a.grownBy b (some p)) (k : Below a.heap.size b c) : a.grownBy c (some p) :=
  ⟨k.os.trans h.os, k.tape.trans h.tape, k.output.trans h.output, Nat.le_trans h.size k.size, fun i hi hne => (k.block i hi).trans (h.block i hi hne)⟩

/-- What Read hands back and leaves. -/
def Tabled (w : World) (pr : Nat) (r : List T × St) (en : Ending) (w' : World) : Prop :=
  ∃ p, en = .returned (.pointer (some ⟨p, 0, none⟩)) ∧ TB w' w.heap.size p r.1 ∧ RD w' pr r.2 ∧ w.grownBy w' (some pr) ∧ ∀ x ∈ r.1, x.length ≤ 65535

set_option maxRecDepth 100000 in
set_option maxHeartbeats 2000000 in
theorem TabRead_any (pr : Nat) (s : St) (w : World) (h : RD w pr s) :
    Calls Try.prog 42 #[.pointer (some ⟨pr, 0, none⟩)] w (Tabled w pr (readTab s)) := by
  have hp := h.lt
  have HE := Lib.hid (readTab_eq s h.valid)
  obtain ⟨R, hR⟩ : ∃ R, R = readTab s := ⟨_, rfl⟩
  rw [← hR] at HE ⊢
  have HR0 := Lib.hid h
  have hvl := varS_le 16777215 s
  obtain ⟨n, hn⟩ : ∃ n, n = (varS 16777215 s).1 := ⟨_, rfl⟩
  obtain ⟨s0, hs0⟩ : ∃ s0, s0 = (varS 16777215 s).2 := ⟨_, rfl⟩
  have HV : Hid (∀ W, RD W pr s → Calls Try.prog 30 #[.pointer (some ⟨pr, 0, none⟩), .int .u64 16777215] W (Numbered W pr .u64 n s0)) := fun W h => by rw [hn, hs0]; exact Var_any pr 16777215 s W h
  have HE2 : Hid (R = rdTab n s0 []) := by rw [hn, hs0]; exact HE.out
  rw [← hn] at hvl
  clear h HE hR hn hs0
  go_enter Try.func42, Try.ntmps42
  go_wp2_with (first
    | (go_at_call 32; refine (New_any w).mono ?_; rintro e w1 ⟨p, rfl, hT, hB1⟩; have HT1 := Lib.hid hT; have HB1 := Lib.hid hB1; clear hT hB1)
    | (go_at_call 30; refine (HV.out _ (HR0.out.below HB1.out hp)).mono ?_; rintro e w2 ⟨rfl, hR2, hG2⟩; have HR2 := Lib.hid hR2; have HT2 := Lib.hid (HT1.out.other hG2 hp); have HG2 := Lib.hid (only_trans (only_below HB1.out (some pr)) hG2); clear hR2 hG2))
  go_loopw [10] (fun k wr => ∃ (i : Nat) (t : St) (xs : List T), i ≤ n ∧ k = .int .u64 i ∧ xs.length ≤ i ∧ rdTab (n - i) t xs = R ∧ TB wr w.heap.size p xs ∧ RD wr pr t ∧ w.grownBy wr (some pr) ∧ ∀ x ∈ xs, x.length ≤ 65535) (fun k _ => n - (intOf k).toNat)
  case atStart => exact ⟨0, s0, [], by omega, rfl, by simp, HE2.out.symm, HT2.out, HR2.out, HG2.out, by simp⟩
  case round =>
    obtain ⟨i, t, xs, hi, rfl, hx, hrd, hT, hRD, hG, hs⟩ := hrel
    have hnl := nextT_length t
    have HRD := Lib.hid hRD
    have HT := Lib.hid hT
    have HG := Lib.hid hG
    have HS := Lib.hid hs
    have HX := Lib.hid hrd
    have hsz := hG.size
    clear hRD hT hG hs hrd
    by_cases hlt : i < n
    · have HTX : Hid (Calls Try.prog 31 #[.pointer (some ⟨pr, 0, none⟩), .int .u64 65535] wr (Read_ wr pr (nextT t) (textS 65535 t).2)) := Text_any pr 65535 t wr HRD.out (by omega)
      have HXS : Hid (rdTab (n - i) t xs = if (nextS t xs).2 ≠ 0 then ([], nextS t xs) else rdTab (n - (i + 1)) (nextS t xs) (xs ++ [nextT t])) := by
        show rdTab (n - i) t xs = _
        rw [show n - i = (n - (i + 1)) + 1 by omega]
        rfl
      obtain ⟨u, hu⟩ : ∃ u, u = (textS 65535 t).2 := ⟨_, rfl⟩
      obtain ⟨l, hl⟩ : ∃ l, l = nextT t := ⟨_, rfl⟩
      obtain ⟨v, hv⟩ : ∃ v, v = nextS t xs := ⟨_, rfl⟩
      have hv2 : v = if l ∈ xs then fail 2 u else u := by rw [hv, hl, hu]; rfl
      have hz : v.2 = 0 → l ∉ xs := by rw [hv, hl]; exact nextS_zero
      rw [← hu, ← hl] at HTX
      rw [← hv, ← hl] at HXS
      rw [← hl] at hnl
      clear hu hl hv
      have HZ := Lib.hid hz
      by_cases hm : l ∈ xs
      case' pos =>
        have HFV : Hid (FoundV xs l = .tuple #[.int .i64 ((xs.idxOf l : Nat) : Int), .bool true]) := by show FoundV xs l = _; unfold FoundV; simp [hm]
        have HV2 : Hid (v = fail 2 u) := by rw [hv2, if_pos hm]; exact rfl
        clear hm hv2 hz
        go_wp2_with (first
          | (go_at_call 31; refine HTX.out.mono ?_; rintro e w3 ⟨rfl, hR3, hG3⟩; have HR3 := Lib.hid hR3; have HT3 := Lib.hid (HT.out.other hG3 hp); have HG3 := Lib.hid (only_trans HG.out hG3); clear hR3 hG3)
          | (go_at_call 37; refine (Find_any _ p xs l _ HT3.out (by unfold maxLen; omega)).mono ?_; rintro e w4 ⟨rfl, rfl⟩; rw [HFV.out])
          | (go_at_call 51; refine (Fail_any pr 2 u _ HR3.out).mono ?_; rintro e w5 ⟨rfl, hR5, hG5⟩; have HT5 := Lib.hid (HT3.out.other hG5 hp); have HG5 := Lib.hid (only_trans HG3.out hG5); rw [← HV2.out] at hR5; have HR5 := Lib.hid hR5; clear hR5 hG5))
      case' neg =>
        have HFV : Hid (FoundV xs l = .tuple #[.int .i64 0, .bool false]) := by show FoundV xs l = _; unfold FoundV; simp [hm]
        have HV2 : Hid (v = u) := by rw [hv2, if_neg hm]; exact rfl
        clear hm hv2 hz
        go_wp2_with (first
          | (go_at_call 31; refine HTX.out.mono ?_; rintro e w5 ⟨rfl, hR5, hG5⟩; rw [← HV2.out] at hR5; have HR5 := Lib.hid hR5; have HT5 := Lib.hid (HT.out.other hG5 hp); have HG5 := Lib.hid (only_trans HG.out hG5); clear hR5 hG5)
          | (go_at_call 37; refine (Find_any _ p xs l _ HT5.out (by unfold maxLen; omega)).mono ?_; rintro e w4 ⟨rfl, rfl⟩; rw [HFV.out]))
      all_goals
        refine (Err_any pr v _ HR5.out).mono ?_
        rintro e w6 ⟨rfl, rfl⟩
        by_cases hv0 : v.2 = 0
        · have t0 : (v.2 != 0) = false := by rw [hv0]; rfl
          have HNI := Lib.hid (HZ.out hv0)
          have HXN : Hid (rdTab (n - (i + 1)) v (xs ++ [l]) = R) := by
            have := HXS.out.symm.trans HX.out
            rw [if_neg (by simp [hv0])] at this
            exact this
          clear hv0
          go_wp2_with (go_at_call 56; refine (keep_any _ p xs l _ HT5.out (by unfold maxLen; omega) HNI.out (by omega)).mono ?_; rintro e w7 ⟨rfl, hT7, hB7⟩; have HT7 := Lib.hid hT7; have HB7 := Lib.hid hB7; clear hT7 hB7)
          refine ⟨⟨i + 1, v, xs ++ [l], by omega, by go_num, by simp; omega, HXN.out, HT7.out, HR5.out.below HB7.out hp, only_past HG5.out HB7.out, ?_⟩, by simp [intOf]; omega⟩
          intro x hx'
          rw [List.mem_append] at hx'
          rcases hx' with h' | h'
          · exact HS.out x h'
          · simp at h'; subst h'; exact hnl
        · have t0 : (v.2 != 0) = true := bne_iff_ne.2 hv0
          have HXN : Hid (([], v) = R) := by
            have := HXS.out.symm.trans HX.out
            rw [if_pos hv0] at this
            exact this
          clear hv0
          go_wp2_with (go_at_call 32; refine (New_any _).mono ?_; rintro e w7 ⟨p7, rfl, hT7, hB7⟩; have HT7 := Lib.hid hT7; have HB7 := Lib.hid hB7; clear hT7 hB7)
          go_ret
          rw [← HXN.out]
          have hsz5 := HG5.out.size
          exact ⟨p7, rfl, HT7.out.base hsz5, HR5.out.below HB7.out HR5.out.lt, only_more HG5.out HB7.out, by simp⟩
    · have hin : n - i = 0 := by omega
      have HXE : Hid ((xs, t) = R) := by have := HX.out; rw [hin] at this; exact this
      go_wp2_with fail
      go_ret
      rw [← HXE.out]
      exact ⟨p, rfl, HT.out, HRD.out, HG.out, HS.out⟩

/-- What the document's Read hands back and leaves. -/
def RTabled (w : World) (pr : Nat) (r : List T × St) (en : Ending) (w' : World) : Prop :=
  ∃ A c, en = .returned (.slice A r.1.length c) ∧ Lies w' w'.heap.size A (txts r.1) ∧ RF w' pr r.2 ∧ w.grownBy w' (some pr)

theorem rf_err {w : World} {p : Nat} {s : St} (h : RF w p s) : w.cell? ⟨p, 1, none⟩ = some (.int .i64 s.2) := by rw [h.1.cell]; rfl

set_option maxRecDepth 100000 in
set_option maxHeartbeats 2000000 in
theorem refTabRead_any (pr : Nat) (s : St) (w : World) (h : RF w pr s) :
    Calls Try.prog 43 #[.pointer (some ⟨pr, 0, none⟩)] w (RTabled w pr (readTab s)) := by
  obtain ⟨i0, hi0, hz0, hz1, hz2⟩ := info_parts str_info
  have hp := h.lt
  have HE := Lib.hid (readTab_eq s h.2.2)
  obtain ⟨R, hR⟩ : ∃ R, R = readTab s := ⟨_, rfl⟩
  rw [← hR] at HE ⊢
  have HR0 := Lib.hid h
  have hvl := varS_le 16777215 s
  have hst := varS_stop 16777215 s h.2.2
  obtain ⟨n, hn⟩ : ∃ n, n = (varS 16777215 s).1 := ⟨_, rfl⟩
  obtain ⟨s0, hs0⟩ : ∃ s0, s0 = (varS 16777215 s).2 := ⟨_, rfl⟩
  have HV : Hid (Calls Try.prog 48 #[.pointer (some ⟨pr, 0, none⟩), .int .u64 16777215] w (Counted w pr n s0)) := by rw [hn, hs0]; exact refVar_any pr 16777215 s w h
  have HE2 : Hid (R = rdTab n s0 []) := by rw [hn, hs0]; exact HE.out
  rw [← hn] at hvl
  rw [← hn, ← hs0] at hst
  have HST := Lib.hid hst
  clear h HE hR hn hs0 hst
  go_enter Try.func43, Try.ntmps43
  go_wp2_with (go_at_call 48; refine HV.out.mono ?_; rintro e w2 ⟨rfl, hR2, hG2⟩; have HR2 := Lib.hid hR2; have HG2 := Lib.hid hG2; clear hR2 hG2)
  go_loopw [4, 5] (fun v k wr => ∃ (i : Nat) (t : St) (xs : List T), i ≤ n ∧ k = .int .u64 i ∧ xs.length ≤ i ∧ ((t.2 = 0 → rdTab (n - i) t xs = R) ∧ (t.2 ≠ 0 → R = ([], t))) ∧ Owns wr w.heap.size 9 v (txts xs) ∧ RF wr pr t ∧ w.grownBy wr (some pr)) (fun _ k _ => n - (intOf k).toNat)
  case atStart =>
    refine ⟨0, s0, [], by omega, rfl, by simp, ⟨fun _ => HE2.out.symm, fun h => ?_⟩, Owns.nil _ _ _, HR2.out, HG2.out⟩
    have := HST.out h
    rw [HE2.out, this]
    rfl
  case round =>
    obtain ⟨i, t, xs, hi, rfl, hx, hrd, hO, hRF, hG⟩ := hrel
    have hnl := nextT_length t
    have HRF := Lib.hid hRF
    have HO := Lib.hid hO
    have HG := Lib.hid hG
    have HX := Lib.hid hrd
    have hsz := hG.size
    have hc1 := rf_err hRF
    obtain ⟨A, c, rfl, hl0⟩ := hO.form
    rw [txts_length] at HO ⊢
    have HL0 := Lib.hid hl0
    clear hRF hO hG hrd hl0
    by_cases ht : t.2 = 0
    · have t0 : (t.2 == 0) = true := by rw [ht]; rfl
      by_cases hlt : i < n
      · have HTX : Hid (Calls Try.prog 49 #[.pointer (some ⟨pr, 0, none⟩), .int .u64 65535] wr (Got_ wr pr (nextT t) (textS 65535 t).2)) := refText_any pr 65535 t wr HRF.out (by omega)
        have HXS : Hid (rdTab (n - i) t xs = if (nextS t xs).2 ≠ 0 then ([], nextS t xs) else rdTab (n - (i + 1)) (nextS t xs) (xs ++ [nextT t])) := by
          show rdTab (n - i) t xs = _
          rw [show n - i = (n - (i + 1)) + 1 by omega]
          rfl
        have hrf := nextS_ref t xs
        obtain ⟨u, hu⟩ : ∃ u, u = (textS 65535 t).2 := ⟨_, rfl⟩
        obtain ⟨l, hl⟩ : ∃ l, l = nextT t := ⟨_, rfl⟩
        obtain ⟨v, hv⟩ : ∃ v, v = nextS t xs := ⟨_, rfl⟩
        have hv2 : v = if l ∈ xs then fail 2 u else u := by rw [hv, hl, hu]; rfl
        rw [← hu, ← hl] at HTX
        rw [← hv, ← hl] at HXS
        rw [← hv, ← hu] at hrf
        rw [← hl] at hnl
        clear hu hl hv
        have HXR : Hid ((v.2 = 0 → rdTab (n - (i + 1)) v (xs ++ [l]) = R) ∧ (v.2 ≠ 0 → R = ([], v))) := by
          have h1 := (HX.out.1 ht).symm.trans HXS.out
          refine ⟨fun h => ?_, fun h => ?_⟩
          · rw [if_neg (by simp [h])] at h1; exact h1.symm
          · rw [if_pos h] at h1; exact h1
        clear ht
        by_cases hu0 : u.2 = 0
        case' neg =>
          have t1 : (u.2 == 0) = false := beq_eq_false_iff_ne.2 hu0
          have HV2 : Hid (v = u) := hrf hu0
          clear hu0 hrf hv2
          go_wp2_with (first
            | (go_at_call 49; refine HTX.out.mono ?_; rintro e w5 ⟨rfl, hR5, hG5⟩; have hc3 := rf_err hR5; have HO5 := Lib.hid (HO.out.grown hG5 hp); have HG5 := Lib.hid (only_trans HG.out hG5); rw [← HV2.out] at hR5; have HR5 := Lib.hid hR5; clear hR5 hG5)
            | (at_builtin; go_must (refine wpList_app _ rfl (.tmp 36) (.tmp 38) _ rfl w.heap.size 9 i0 _ 16 Try.underlying55 hi0 hz0 hz1 hz2 rfl (by omega) _ rfl _ (HO5.out.alloc _) _ _ _ rfl [txt l] (lies_new _ _ _) rfl ?_ ?_ ?_ ?_; rotate_left; (focus (intro u hu; simp at hu; subst hu; rfl)); (focus (simp [txts_length]; omega)); (focus (have := HG5.out.size; simp; omega)); intro v9 w9 hO9 hB9; have HO9 := Lib.hid hO9; have HB9 := Lib.hid hB9; clear hO9 hB9)))
        case' pos =>
          have t1 : (u.2 == 0) = true := by rw [hu0]; rfl
          have hu5 : fail 2 u = ([], 2) := fail_do hu0 (by omega)
          clear hu0
          by_cases hm : l ∈ xs
          case' pos =>
            have HFV : Hid (num_ xs l = ((xs.idxOf l : Nat) : Int)) := num_in hm
            have HV2 : Hid (v = fail 2 u) := by rw [hv2, if_pos hm]; exact rfl
            clear hm hv2 hu5 hrf
            go_wp2_with (first
              | (go_at_call 49; refine HTX.out.mono ?_; rintro e w3 ⟨rfl, hR3, hG3⟩; have hc3 := rf_err hR3; have HR3 := Lib.hid hR3; have HO3 := Lib.hid (HO.out.grown hG3 hp); have HG3 := Lib.hid (only_trans HG.out hG3); clear hR3 hG3)
              | (go_at_call 38; refine (refFind_any _ _ xs l _ HO3.out.lies (by omega)).mono ?_; rintro e w4 ⟨rfl, rfl⟩; rw [HFV.out])
              | (go_at_call 52; refine (refFail_any pr 2 u _ HR3.out).mono ?_; rintro e w5 ⟨rfl, hR5, hG5⟩; have HO5 := Lib.hid (HO3.out.grown hG5 hp); have HG5 := Lib.hid (only_trans HG3.out hG5); rw [← HV2.out] at hR5; have HR5 := Lib.hid hR5; clear hR5 hG5)
              | (at_builtin; go_must (refine wpList_app _ rfl (.tmp 36) (.tmp 38) _ rfl w.heap.size 9 i0 _ 16 Try.underlying55 hi0 hz0 hz1 hz2 rfl (by omega) _ rfl _ (HO5.out.alloc _) _ _ _ rfl [txt l] (lies_new _ _ _) rfl ?_ ?_ ?_ ?_; rotate_left; (focus (intro u hu; simp at hu; subst hu; rfl)); (focus (simp [txts_length]; omega)); (focus (have := HG5.out.size; simp; omega)); intro v9 w9 hO9 hB9; have HO9 := Lib.hid hO9; have HB9 := Lib.hid hB9; clear hO9 hB9)))
          case' neg =>
            have HFV : Hid (num_ xs l = -1) := num_out hm
            have HV2 : Hid (v = u) := by rw [hv2, if_neg hm]; exact rfl
            clear hm hv2 hu5 hrf
            go_wp2_with (first
              | (go_at_call 49; refine HTX.out.mono ?_; rintro e w5 ⟨rfl, hR5, hG5⟩; have hc3 := rf_err hR5; have HO5 := Lib.hid (HO.out.grown hG5 hp); have HG5 := Lib.hid (only_trans HG.out hG5); rw [← HV2.out] at hR5; have HR5 := Lib.hid hR5; clear hR5 hG5)
              | (go_at_call 38; refine (refFind_any _ _ xs l _ HO5.out.lies (by omega)).mono ?_; rintro e w4 ⟨rfl, rfl⟩; rw [HFV.out])
              | (at_builtin; go_must (refine wpList_app _ rfl (.tmp 36) (.tmp 38) _ rfl w.heap.size 9 i0 _ 16 Try.underlying55 hi0 hz0 hz1 hz2 rfl (by omega) _ rfl _ (HO5.out.alloc _) _ _ _ rfl [txt l] (lies_new _ _ _) rfl ?_ ?_ ?_ ?_; rotate_left; (focus (intro u hu; simp at hu; subst hu; rfl)); (focus (simp [txts_length]; omega)); (focus (have := HG5.out.size; simp; omega)); intro v9 w9 hO9 hB9; have HO9 := Lib.hid hO9; have HB9 := Lib.hid hB9; clear hO9 hB9)))
        all_goals
          refine ⟨⟨i + 1, v, xs ++ [l], by omega, by go_num, by simp; omega, HXR.out, ?_, ?_, ?_⟩, by simp [intOf]; omega⟩
          · have := HO9.out
            rw [show txts xs ++ [txt l] = txts (xs ++ [l]) by simp [txts]] at this
            exact this
          · exact (HR5.out.below ((Below.refl _ _).alloc (Nat.le_refl _) _) HR5.out.lt).below HB9.out hp
          · exact only_past (only_alloc HG5.out _) HB9.out
      · have hin : n - i = 0 := by omega
        have t2 : (t.2 != 0) = false := by rw [ht]; rfl
        have HXE : Hid ((xs, t) = R) := by have := HX.out.1 ht; rw [hin] at this; exact this
        clear ht
        go_wp2_with fail
        go_ret
        rw [← HXE.out]
        exact ⟨A, c, rfl, HL0.out, HRF.out, HG.out⟩
    · have t0 : (t.2 == 0) = false := beq_eq_false_iff_ne.2 ht
      have t2 : (t.2 != 0) = true := bne_iff_ne.2 ht
      have HXE : Hid (R = ([], t)) := HX.out.2 ht
      clear ht
      by_cases hlt : i < n
      all_goals
        go_wp2_with fail
        go_ret
        rw [HXE.out]
        exact ⟨none, 0, rfl, Lies.none_, HRF.out, HG.out⟩

end Go.Proofs.Ytclgblmhicabnaa
