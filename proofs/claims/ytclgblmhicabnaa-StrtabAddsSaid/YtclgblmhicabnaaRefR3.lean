/- DERIVED. The walks of the document's own reader: Text, Section. -/
import Derived.Test.YtclgblmhicabnaaRefR2
import Derived.Test.YtclgblmhicabnaaSum2
namespace Go.Proofs.Ytclgblmhicabnaa
open Go.RowKit Crc Nums Rd

set_option maxRecDepth 100000 in
set_option maxHeartbeats 1000000 in
theorem refText_any (p most : Nat) (s : St) (w : World) (h : RF w p s) (hm : most < 18446744073709551616) :
    Calls Try.prog 49 #[.pointer (some ⟨p, 0, none⟩), .int .u64 most] w (Got_ w p (textS most s).1 (textS most s).2) := by
  have HV := Lib.hid (refVar_any p most s w h)
  have hle := varS_le most s
  clear h
  go_enter Try.func49, Try.ntmps49
  go_wp2_with fail
  refine HV.out.mono ?_
  rintro e w1 ⟨rfl, hR1, hG1⟩
  have HT := Lib.hid (refRaw_any p (varS most s).1 (varS most s).2 w1 hR1 (by omega))
  have HG1 := Lib.hid hG1
  clear hR1 hG1
  go_wp2_with fail
  refine HT.out.mono ?_
  rintro e w2 ⟨rfl, hR2, hG2⟩
  have HR2 := Lib.hid hR2
  have HG2 := Lib.hid (only_trans HG1.out hG2)
  clear hR2 hG2
  go_wp2_with fail
  go_ret
  exact ⟨rfl, HR2.out, HG2.out⟩

/-- What Section hands back and leaves. -/
def RSect (w : World) (p : Nat) (n s : St) (en : Ending) (w' : World) : Prop :=
  ∃ q, en = .returned (.pointer (some ⟨q, 0, none⟩)) ∧ w.heap.size ≤ q ∧ RF w' q n ∧ RF w' p s ∧ w.grownBy w' (some p)

theorem rsect_mk {w w5 : World} {p : Nat} {n s : St} (hg : w.grownBy w5 (some p)) (hF : RF w5 p s) (hn : n.1.length ≤ 1099511627776) (hv : n.2 ≠ 0 → n.1 = []) :
    RSect w p n s (.returned (.pointer (some ⟨w5.heap.size, 0, none⟩))) (w5.alloc (.cells #[.string ⟨n.1.toArray⟩, .int .i64 n.2] 44)) :=
  ⟨w5.heap.size, rfl, hg.size, ⟨Row.made w5 _ _, hn, hv⟩, hF.below ((Below.refl w5.heap.size w5).alloc (Nat.le_refl _) _) hF.lt, only_alloc hg _⟩

set_option maxRecDepth 100000 in
set_option maxHeartbeats 4000000 in
theorem refSection_any (p : Nat) (id : UInt8) (s : St) (w : World) (h : RF w p s) :
    Calls Try.prog 50 #[.pointer (some ⟨p, 0, none⟩), .int .u8 id.toNat] w (RSect w p (secS id.toNat s) (sec3 id.toNat s)) := by
  have HB := Lib.hid (refNum_any p 1 s w h (by omega))
  have hid := id.toNat_lt
  have hx := num1_lt s
  clear h
  obtain ⟨s1, hs1⟩ : ∃ s1, s1 = sec1 id.toNat s := ⟨_, rfl⟩
  obtain ⟨n, hn⟩ : ∃ n, n = Rd.num 1 s := ⟨_, rfl⟩
  obtain ⟨b, hb⟩ : ∃ b, b = Rd.num 4 s1 := ⟨_, rfl⟩
  obtain ⟨t, ht⟩ : ∃ t, t = take_ b.1 b.2 := ⟨_, rfl⟩
  obtain ⟨d, hd⟩ : ∃ d, d = Rd.num 4 t.2 := ⟨_, rfl⟩
  have hbl : b.1 < 4294967296 := by rw [hb]; exact num4_lt s1
  have hdl : d.1 < 4294967296 := by rw [hd]; exact num4_lt t.2
  have htl : t.1.length ≤ 4294967296 := by rw [ht]; exact Nat.le_trans (take_length b.1 b.2) (by omega)
  have HB1 : Hid (∀ W, RF W p s1 → Calls Try.prog 47 #[.pointer (some ⟨p, 0, none⟩), .int .u64 4] W (Counted W p b.1 b.2)) := fun W h => by rw [hb]; exact refNum_any p 4 s1 W h (by omega)
  have HT1 : Hid (∀ W, RF W p b.2 → Calls Try.prog 59 #[.pointer (some ⟨p, 0, none⟩), .int .u64 b.1] W (Got_ W p t.1 t.2)) := fun W h => by rw [ht]; exact refRaw_any p b.1 b.2 W h (by omega)
  have HD1 : Hid (∀ W, RF W p t.2 → Calls Try.prog 47 #[.pointer (some ⟨p, 0, none⟩), .int .u64 4] W (Counted W p d.1 d.2)) := fun W h => by rw [hd]; exact refNum_any p 4 t.2 W h (by omega)
  have HSum : Hid (∀ W, Calls Try.prog 19 #[.string ⟨t.1.toArray⟩] W fun e w' => e = .returned (.int .u32 (crc t.1 : Nat)) ∧ W = w') := fun W => refSum_any ⟨t.1.toArray⟩ W (by simp [ByteArray.size]; omega)
  have hcl := crc_lt t.1
  have e3 : sec3 id.toNat s = if d.1 = crc t.1 then d.2 else fail 3 d.2 := by rw [hd, ht, hb, hs1]; rfl
  have eS : secS id.toNat s = fail (sec3 id.toNat s).2 (t.1, 0) := by rw [ht, hb, hs1]; rfl
  obtain ⟨s3, hs3⟩ : ∃ s3, s3 = sec3 id.toNat s := ⟨_, rfl⟩
  rw [eS, ← hs3]
  rw [← hs3] at e3
  rw [← hn] at HB hx
  have E1 : Hid (s1 = if n.1 = id.toNat then n.2 else fail 2 n.2) := by rw [hs1, hn]; exact rfl
  have E3 := Lib.hid e3
  clear hb ht hd e3 eS hs3 hs1 hn
  have HR1 : Hid (∀ W (t : St), RF W p t → W.cell? ⟨p, 1, none⟩ = some (.int .i64 t.2)) := fun W t hr => by have := hr.1.cell 1; simpa using this
  by_cases hz : n.2.2 = 0
  · have t1 : (n.2.2 == 0) = true := by rw [hz]; rfl
    by_cases hne : n.1 = id.toNat
    · have e1 : ((n.1 : Int) != (id.toNat : Int)) = false := by rw [hne]; simp
      have H1 : Hid (s1 = n.2) := Lib.hid (by have h := E1.out; rw [if_pos hne] at h; exact h)
      clear hne hz
      go_enter Try.func50, Try.ntmps50
      go_wp2_with fail
      refine HB.out.mono ?_
      rintro e w1 ⟨rfl, hR1, hG1⟩
      have k1 := HR1.out _ _ hR1
      rw [← H1.out] at hR1
      have HG1 := Lib.hid hG1
      have HW1 := Lib.hid hR1
      clear hR1 hG1
      go_wp2_with fail
      clear k1

      refine (HB1.out _ HW1.out).mono ?_
      rintro e w2 ⟨rfl, hR2, hG2⟩
      have HG2 := Lib.hid (only_trans HG1.out hG2)
      have HW2 := Lib.hid hR2
      clear hR2 hG2
      go_wp2_with fail
      refine (HT1.out _ HW2.out).mono ?_
      rintro e w3 ⟨rfl, hR3, hG3⟩
      have HG3 := Lib.hid (only_trans HG2.out hG3)
      have HW3 := Lib.hid hR3
      clear hR3 hG3
      go_wp2_with fail
      refine (HD1.out _ HW3.out).mono ?_
      rintro e w4 ⟨rfl, hR4, hG4⟩
      have k4 := HR1.out _ _ hR4
      have HG4 := Lib.hid (only_trans HG3.out hG4)
      have HW4 := Lib.hid hR4
      clear hR4 hG4
      by_cases hz4 : d.2.2 = 0
      · have t4 : (d.2.2 == 0) = true := by rw [hz4]; rfl
        go_wp2_with fail
        refine (HSum.out _).mono ?_
        rintro e w5 ⟨rfl, rfl⟩
        by_cases hs : d.1 = crc t.1
        · have e2 : (((d.1 : Nat) : Int) != ((crc t.1 : Nat) : Int)) = false := by rw [hs]; simp
          have H3 : Hid (s3 = d.2) := Lib.hid (by have h := E3.out; rw [if_pos hs] at h; exact h)
          have HW6 : Hid (RF w4 p s3) := Lib.hid (by rw [H3.out]; exact HW4.out)
          have HG6 := HG4
          have k6 := HR1.out _ _ HW6.out
          clear hs hz4 k4
          by_cases hq : s3.2 = 0
          · have tq : (s3.2 != 0) = false := by rw [hq]; rfl
            have HQ : Hid (fail s3.2 (t.1, 0) = (t.1, 0)) := Lib.hid (fail_id (.inr hq))
            clear hq
            go_wp2_with fail
            go_ret
            rw [HQ.out]
            exact rsect_mk (n := (t.1, 0)) HG6.out HW6.out (by show t.1.length ≤ _; omega) (fun h => absurd rfl h)
          · have tq : (s3.2 != 0) = true := bne_iff_ne.2 hq
            have HQ : Hid (fail s3.2 (t.1, 0) = ([], s3.2)) := Lib.hid (fail_do rfl hq)
            clear hq
            go_wp2_with fail
            go_ret
            rw [HQ.out]
            exact rsect_mk (n := ([], s3.2)) HG6.out HW6.out (by simp) (fun _ => rfl)
        · have e2 : (((d.1 : Nat) : Int) != ((crc t.1 : Nat) : Int)) = true := bne_iff_ne.2 (by omega)
          have H3 : Hid (s3 = fail 3 d.2) := Lib.hid (by have h := E3.out; rw [if_neg hs] at h; exact h)
          have HF := Lib.hid (refFail_any p 3 _ w4 HW4.out)
          rw [← H3.out] at HF
          clear hs hz4
          go_wp2_with fail
          refine HF.out.mono ?_
          rintro e w6 ⟨rfl, hR6, hG6⟩
          have HW6 := Lib.hid hR6
          have HG6 := Lib.hid (only_trans HG4.out hG6)
          have k6 := HR1.out _ _ hR6
          clear hR6 hG6 k4
          by_cases hq : s3.2 = 0
          · have tq : (s3.2 != 0) = false := by rw [hq]; rfl
            have HQ : Hid (fail s3.2 (t.1, 0) = (t.1, 0)) := Lib.hid (fail_id (.inr hq))
            clear hq
            go_wp2_with fail
            go_ret
            rw [HQ.out]
            exact rsect_mk (n := (t.1, 0)) HG6.out HW6.out (by show t.1.length ≤ _; omega) (fun h => absurd rfl h)
          · have tq : (s3.2 != 0) = true := bne_iff_ne.2 hq
            have HQ : Hid (fail s3.2 (t.1, 0) = ([], s3.2)) := Lib.hid (fail_do rfl hq)
            clear hq
            go_wp2_with fail
            go_ret
            rw [HQ.out]
            exact rsect_mk (n := ([], s3.2)) HG6.out HW6.out (by simp) (fun _ => rfl)
      · have t4 : (d.2.2 == 0) = false := beq_eq_false_iff_ne.2 hz4
        have H3 : Hid (s3 = d.2) := Lib.hid (by
          have h := E3.out
          by_cases hs : d.1 = crc t.1
          · rw [if_pos hs] at h; exact h
          · rw [if_neg hs, fail_keep hz4] at h; exact h)
        have HW6 : Hid (RF w4 p s3) := Lib.hid (by rw [H3.out]; exact HW4.out)
        have HG6 := HG4
        have k6 : w4.cell? ⟨p, 1, none⟩ = some (.int .i64 s3.2) := HR1.out _ _ HW6.out
        have e6 : d.2.2 = s3.2 := by rw [H3.out]
        have hq : s3.2 ≠ 0 := by rw [← e6]; exact hz4
        have tq : (s3.2 == 0) = false := beq_eq_false_iff_ne.2 hq
        have tq2 : (s3.2 != 0) = true := bne_iff_ne.2 hq
        have HQ : Hid (fail s3.2 (t.1, 0) = ([], s3.2)) := Lib.hid (fail_do rfl hq)
        clear hz4 e6 k4 hq t4
        go_wp2_with fail
        go_ret
        rw [HQ.out]
        exact rsect_mk (n := ([], s3.2)) HG6.out HW6.out (by simp) (fun _ => rfl)
    · have e1 : ((n.1 : Int) != (id.toNat : Int)) = true := bne_iff_ne.2 (by omega)
      have H1 : Hid (s1 = fail 2 n.2) := Lib.hid (by have h := E1.out; rw [if_neg hne] at h; exact h)
      clear hne hz
      go_enter Try.func50, Try.ntmps50
      go_wp2_with fail
      refine HB.out.mono ?_
      rintro e w0 ⟨rfl, hR0, hG0⟩
      have k1 := HR1.out _ _ hR0
      have HF := Lib.hid (refFail_any p 2 _ w0 hR0)
      have HG0 := Lib.hid hG0
      clear hR0 hG0
      go_wp2_with fail
      clear k1
      refine HF.out.mono ?_
      rintro e w1 ⟨rfl, hR1, hG1⟩
      rw [← H1.out] at hR1
      have HG1 := Lib.hid (only_trans HG0.out hG1)
      have HW1 := Lib.hid hR1
      clear hR1 hG1 HF
      go_wp2_with fail

      refine (HB1.out _ HW1.out).mono ?_
      rintro e w2 ⟨rfl, hR2, hG2⟩
      have HG2 := Lib.hid (only_trans HG1.out hG2)
      have HW2 := Lib.hid hR2
      clear hR2 hG2
      go_wp2_with fail
      refine (HT1.out _ HW2.out).mono ?_
      rintro e w3 ⟨rfl, hR3, hG3⟩
      have HG3 := Lib.hid (only_trans HG2.out hG3)
      have HW3 := Lib.hid hR3
      clear hR3 hG3
      go_wp2_with fail
      refine (HD1.out _ HW3.out).mono ?_
      rintro e w4 ⟨rfl, hR4, hG4⟩
      have k4 := HR1.out _ _ hR4
      have HG4 := Lib.hid (only_trans HG3.out hG4)
      have HW4 := Lib.hid hR4
      clear hR4 hG4
      by_cases hz4 : d.2.2 = 0
      · have t4 : (d.2.2 == 0) = true := by rw [hz4]; rfl
        go_wp2_with fail
        refine (HSum.out _).mono ?_
        rintro e w5 ⟨rfl, rfl⟩
        by_cases hs : d.1 = crc t.1
        · have e2 : (((d.1 : Nat) : Int) != ((crc t.1 : Nat) : Int)) = false := by rw [hs]; simp
          have H3 : Hid (s3 = d.2) := Lib.hid (by have h := E3.out; rw [if_pos hs] at h; exact h)
          have HW6 : Hid (RF w4 p s3) := Lib.hid (by rw [H3.out]; exact HW4.out)
          have HG6 := HG4
          have k6 := HR1.out _ _ HW6.out
          clear hs hz4 k4
          by_cases hq : s3.2 = 0
          · have tq : (s3.2 != 0) = false := by rw [hq]; rfl
            have HQ : Hid (fail s3.2 (t.1, 0) = (t.1, 0)) := Lib.hid (fail_id (.inr hq))
            clear hq
            go_wp2_with fail
            go_ret
            rw [HQ.out]
            exact rsect_mk (n := (t.1, 0)) HG6.out HW6.out (by show t.1.length ≤ _; omega) (fun h => absurd rfl h)
          · have tq : (s3.2 != 0) = true := bne_iff_ne.2 hq
            have HQ : Hid (fail s3.2 (t.1, 0) = ([], s3.2)) := Lib.hid (fail_do rfl hq)
            clear hq
            go_wp2_with fail
            go_ret
            rw [HQ.out]
            exact rsect_mk (n := ([], s3.2)) HG6.out HW6.out (by simp) (fun _ => rfl)
        · have e2 : (((d.1 : Nat) : Int) != ((crc t.1 : Nat) : Int)) = true := bne_iff_ne.2 (by omega)
          have H3 : Hid (s3 = fail 3 d.2) := Lib.hid (by have h := E3.out; rw [if_neg hs] at h; exact h)
          have HF := Lib.hid (refFail_any p 3 _ w4 HW4.out)
          rw [← H3.out] at HF
          clear hs hz4
          go_wp2_with fail
          refine HF.out.mono ?_
          rintro e w6 ⟨rfl, hR6, hG6⟩
          have HW6 := Lib.hid hR6
          have HG6 := Lib.hid (only_trans HG4.out hG6)
          have k6 := HR1.out _ _ hR6
          clear hR6 hG6 k4
          by_cases hq : s3.2 = 0
          · have tq : (s3.2 != 0) = false := by rw [hq]; rfl
            have HQ : Hid (fail s3.2 (t.1, 0) = (t.1, 0)) := Lib.hid (fail_id (.inr hq))
            clear hq
            go_wp2_with fail
            go_ret
            rw [HQ.out]
            exact rsect_mk (n := (t.1, 0)) HG6.out HW6.out (by show t.1.length ≤ _; omega) (fun h => absurd rfl h)
          · have tq : (s3.2 != 0) = true := bne_iff_ne.2 hq
            have HQ : Hid (fail s3.2 (t.1, 0) = ([], s3.2)) := Lib.hid (fail_do rfl hq)
            clear hq
            go_wp2_with fail
            go_ret
            rw [HQ.out]
            exact rsect_mk (n := ([], s3.2)) HG6.out HW6.out (by simp) (fun _ => rfl)
      · have t4 : (d.2.2 == 0) = false := beq_eq_false_iff_ne.2 hz4
        have H3 : Hid (s3 = d.2) := Lib.hid (by
          have h := E3.out
          by_cases hs : d.1 = crc t.1
          · rw [if_pos hs] at h; exact h
          · rw [if_neg hs, fail_keep hz4] at h; exact h)
        have HW6 : Hid (RF w4 p s3) := Lib.hid (by rw [H3.out]; exact HW4.out)
        have HG6 := HG4
        have k6 : w4.cell? ⟨p, 1, none⟩ = some (.int .i64 s3.2) := HR1.out _ _ HW6.out
        have e6 : d.2.2 = s3.2 := by rw [H3.out]
        have hq : s3.2 ≠ 0 := by rw [← e6]; exact hz4
        have tq : (s3.2 == 0) = false := beq_eq_false_iff_ne.2 hq
        have tq2 : (s3.2 != 0) = true := bne_iff_ne.2 hq
        have HQ : Hid (fail s3.2 (t.1, 0) = ([], s3.2)) := Lib.hid (fail_do rfl hq)
        clear hz4 e6 k4 hq t4
        go_wp2_with fail
        go_ret
        rw [HQ.out]
        exact rsect_mk (n := ([], s3.2)) HG6.out HW6.out (by simp) (fun _ => rfl)
  · have t1 : (n.2.2 == 0) = false := beq_eq_false_iff_ne.2 hz
    have H1 : Hid (s1 = n.2) := Lib.hid (by
      have h := E1.out
      by_cases hne : n.1 = id.toNat
      · rw [if_pos hne] at h; exact h
      · rw [if_neg hne, fail_keep hz] at h; exact h)
    clear hz
    go_enter Try.func50, Try.ntmps50
    go_wp2_with fail
    refine HB.out.mono ?_
    rintro e w1 ⟨rfl, hR1, hG1⟩
    have k1 := HR1.out _ _ hR1
    rw [← H1.out] at hR1
    have HG1 := Lib.hid hG1
    have HW1 := Lib.hid hR1
    clear hR1 hG1
    go_wp2_with fail
    clear k1

    refine (HB1.out _ HW1.out).mono ?_
    rintro e w2 ⟨rfl, hR2, hG2⟩
    have HG2 := Lib.hid (only_trans HG1.out hG2)
    have HW2 := Lib.hid hR2
    clear hR2 hG2
    go_wp2_with fail
    refine (HT1.out _ HW2.out).mono ?_
    rintro e w3 ⟨rfl, hR3, hG3⟩
    have HG3 := Lib.hid (only_trans HG2.out hG3)
    have HW3 := Lib.hid hR3
    clear hR3 hG3
    go_wp2_with fail
    refine (HD1.out _ HW3.out).mono ?_
    rintro e w4 ⟨rfl, hR4, hG4⟩
    have k4 := HR1.out _ _ hR4
    have HG4 := Lib.hid (only_trans HG3.out hG4)
    have HW4 := Lib.hid hR4
    clear hR4 hG4
    by_cases hz4 : d.2.2 = 0
    · have t4 : (d.2.2 == 0) = true := by rw [hz4]; rfl
      go_wp2_with fail
      refine (HSum.out _).mono ?_
      rintro e w5 ⟨rfl, rfl⟩
      by_cases hs : d.1 = crc t.1
      · have e2 : (((d.1 : Nat) : Int) != ((crc t.1 : Nat) : Int)) = false := by rw [hs]; simp
        have H3 : Hid (s3 = d.2) := Lib.hid (by have h := E3.out; rw [if_pos hs] at h; exact h)
        have HW6 : Hid (RF w4 p s3) := Lib.hid (by rw [H3.out]; exact HW4.out)
        have HG6 := HG4
        have k6 := HR1.out _ _ HW6.out
        clear hs hz4 k4
        by_cases hq : s3.2 = 0
        · have tq : (s3.2 != 0) = false := by rw [hq]; rfl
          have HQ : Hid (fail s3.2 (t.1, 0) = (t.1, 0)) := Lib.hid (fail_id (.inr hq))
          clear hq
          go_wp2_with fail
          go_ret
          rw [HQ.out]
          exact rsect_mk (n := (t.1, 0)) HG6.out HW6.out (by show t.1.length ≤ _; omega) (fun h => absurd rfl h)
        · have tq : (s3.2 != 0) = true := bne_iff_ne.2 hq
          have HQ : Hid (fail s3.2 (t.1, 0) = ([], s3.2)) := Lib.hid (fail_do rfl hq)
          clear hq
          go_wp2_with fail
          go_ret
          rw [HQ.out]
          exact rsect_mk (n := ([], s3.2)) HG6.out HW6.out (by simp) (fun _ => rfl)
      · have e2 : (((d.1 : Nat) : Int) != ((crc t.1 : Nat) : Int)) = true := bne_iff_ne.2 (by omega)
        have H3 : Hid (s3 = fail 3 d.2) := Lib.hid (by have h := E3.out; rw [if_neg hs] at h; exact h)
        have HF := Lib.hid (refFail_any p 3 _ w4 HW4.out)
        rw [← H3.out] at HF
        clear hs hz4
        go_wp2_with fail
        refine HF.out.mono ?_
        rintro e w6 ⟨rfl, hR6, hG6⟩
        have HW6 := Lib.hid hR6
        have HG6 := Lib.hid (only_trans HG4.out hG6)
        have k6 := HR1.out _ _ hR6
        clear hR6 hG6 k4
        by_cases hq : s3.2 = 0
        · have tq : (s3.2 != 0) = false := by rw [hq]; rfl
          have HQ : Hid (fail s3.2 (t.1, 0) = (t.1, 0)) := Lib.hid (fail_id (.inr hq))
          clear hq
          go_wp2_with fail
          go_ret
          rw [HQ.out]
          exact rsect_mk (n := (t.1, 0)) HG6.out HW6.out (by show t.1.length ≤ _; omega) (fun h => absurd rfl h)
        · have tq : (s3.2 != 0) = true := bne_iff_ne.2 hq
          have HQ : Hid (fail s3.2 (t.1, 0) = ([], s3.2)) := Lib.hid (fail_do rfl hq)
          clear hq
          go_wp2_with fail
          go_ret
          rw [HQ.out]
          exact rsect_mk (n := ([], s3.2)) HG6.out HW6.out (by simp) (fun _ => rfl)
    · have t4 : (d.2.2 == 0) = false := beq_eq_false_iff_ne.2 hz4
      have H3 : Hid (s3 = d.2) := Lib.hid (by
        have h := E3.out
        by_cases hs : d.1 = crc t.1
        · rw [if_pos hs] at h; exact h
        · rw [if_neg hs, fail_keep hz4] at h; exact h)
      have HW6 : Hid (RF w4 p s3) := Lib.hid (by rw [H3.out]; exact HW4.out)
      have HG6 := HG4
      have k6 : w4.cell? ⟨p, 1, none⟩ = some (.int .i64 s3.2) := HR1.out _ _ HW6.out
      have e6 : d.2.2 = s3.2 := by rw [H3.out]
      have hq : s3.2 ≠ 0 := by rw [← e6]; exact hz4
      have tq : (s3.2 == 0) = false := beq_eq_false_iff_ne.2 hq
      have tq2 : (s3.2 != 0) = true := bne_iff_ne.2 hq
      have HQ : Hid (fail s3.2 (t.1, 0) = ([], s3.2)) := Lib.hid (fail_do rfl hq)
      clear hz4 e6 k4 hq t4
      go_wp2_with fail
      go_ret
      rw [HQ.out]
      exact rsect_mk (n := ([], s3.2)) HG6.out HW6.out (by simp) (fun _ => rfl)

end Go.Proofs.Ytclgblmhicabnaa
