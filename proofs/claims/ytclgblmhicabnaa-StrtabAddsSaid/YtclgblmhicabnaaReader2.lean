/- DERIVED. The walks of the reader: Var, Text, Section, Read. -/
import Derived.Test.YtclgblmhicabnaaReader1
namespace Go.Proofs.Ytclgblmhicabnaa
open Go.RowKit Crc Nums Rd

theorem or_u64 (v d k : Nat) (hv : v < 18446744073709551616) : bits BinOp.or IntKind.u64 (v : Int) (IntKind.u64.wrap (((d : Nat) : Int) % 128 * 2 ^ (7 * k))) = ((v ||| (d % 128 * 2 ^ (7 * k) % 18446744073709551616) : Nat) : Int) := by
  rw [IntKind.wrap_u64]
  have h3 : (((2 ^ (7 * k) : Nat) : Int)) = (2 : Int) ^ (7 * k) := Int.natCast_pow 2 _
  have e1 : ((d : Int) % 128 * 2 ^ (7 * k) % 18446744073709551616) = ((d % 128 * 2 ^ (7 * k) % 18446744073709551616 : Nat) : Int) := by
    rw [← h3, Int.natCast_emod, Int.natCast_mul, Int.natCast_emod]; rfl
  rw [e1]
  exact u64_or_nat v _ hv (Nat.mod_lt _ (by omega))

set_option maxRecDepth 100000 in
set_option maxHeartbeats 2000000 in
theorem Var_any (p most : Nat) (s : St) (w : World) (h : RD w p s) :
    Calls Try.prog 30 #[.pointer (some ⟨p, 0, none⟩), .int .u64 most] w (Numbered w p .u64 (varS most s).1 (varS most s).2) := by
  have HV := Lib.hid h.valid
  have HH := Lib.hid h
  clear h
  go_enter Try.func30, Try.ntmps30
  go_wp2_with fail
  go_loopw [5, 6, 7] (fun v d k wr => ∃ (kk dd vv : Nat) (s' : St), k = .int .i64 kk ∧ d = .int .u8 dd ∧ v = .int .u64 vv ∧ Phase s kk dd vv s' ∧ RD wr p s' ∧ w.grownBy wr (some p)) (fun _ _ k _ => 10 - (intOf k).toNat)
  case atStart => exact ⟨0, 128, 0, s, rfl, rfl, rfl, Phase.start s, HH.out, only_refl _ _⟩
  case round =>
    obtain ⟨k, d, v, s', rfl, rfl, rfl, hP, hR, hG⟩ := hrel
    have hb := hP.bounds
    obtain ⟨hk10, hd256, hv64⟩ := hb
    have HP := Lib.hid hP
    have HR := Lib.hid hR
    have HG := Lib.hid hG
    clear hP hR hG
    by_cases hgo : 128 ≤ d ∧ k < 10
    · obtain ⟨hd, hk⟩ := hgo
      have hnl := num1_lt s'
      have HB := Lib.hid (Byte_any p s' wr HR.out)
      have HS := Lib.hid (HP.out.step HV.out hd hk)
      obtain ⟨b, hbd⟩ : ∃ b, b = (num 1 s').1 := ⟨_, rfl⟩
      obtain ⟨t, htd⟩ : ∃ t, t = (num 1 s').2 := ⟨_, rfl⟩
      have HB2 : Hid (Calls Try.prog 46 #[.pointer (some ⟨p, 0, none⟩)] wr (Numbered wr p .u8 b t)) := by rw [hbd, htd]; exact HB.out
      have HS2 : Hid (Phase s (k + 1) b (v ||| (b % 128 * 2 ^ (7 * k) % 18446744073709551616)) t) := by rw [hbd, htd]; exact HS.out
      rw [← hbd] at hnl
      clear hbd htd HB HS
      have hor := or_u64 v b k hv64
      go_wp2_with (go_at_call 46; refine HB2.out.mono ?_; rintro e w2 ⟨rfl, hR2, hG2⟩; have HR2 := Lib.hid hR2; have HG2 := Lib.hid (only_trans HG.out hG2); clear hR2 hG2)
      refine ⟨⟨k + 1, b, _, t, by go_num, rfl, rfl, HS2.out, HR2.out, HG2.out⟩, by simp [intOf]; omega⟩
    · obtain ⟨t1, t2, t3, t4⟩ := var_tail (most := most) HP.out hgo
      have T1 := Lib.hid t1
      have T2 := Lib.hid t2
      have T3 := Lib.hid t3
      have T4 := Lib.hid t4
      clear t1 t2 t3 t4
      have F := fun e => Lib.hid (Fail_any p e s' wr HR.out)
      have hr1 : ∀ W t, RD W p t → W.cell? ⟨p, 1, none⟩ = some (.int .i64 t.2) := fun W t ⟨A, c, hr, _⟩ => by have := hr.cell 1; simpa using this
      have HR1 := Lib.hid hr1
      clear hr1
      by_cases hb1 : 1 < k ∧ d = 0
      · have hx : ¬ (128 ≤ d ∧ k < 10) := hgo
        have e1 : ((d : Int) == 0) = true := by rw [hb1.2]; rfl
        have k1 : 1 < k := hb1.1
        have d1 : d < 128 := by omega
        have HT := Lib.hid (T1.out (.inl hb1))
        clear hb1 hgo hx
        go_wp2_with fail
        refine (F 2).out.mono ?_
        rintro e w2 ⟨rfl, hR2, hG2⟩
        have c1 := HR1.out _ _ hR2
        have n0 : ((fail 2 s').2 != 0) = true := bne_iff_ne.2 (fail_ne (by omega))
        have HR2 := Lib.hid hR2
        have HG2 := Lib.hid (only_trans HG.out hG2)
        clear hR2 hG2
        go_wp2_with fail
        go_ret
        rw [HT.out]
        exact ⟨rfl, HR2.out, HG2.out⟩
      · by_cases hb2 : k = 10 ∧ 1 < d
        · have e1 : ((d : Int) == 0) = false := beq_eq_false_iff_ne.2 (by omega)
          have e2 : ((k : Int) == 10) = true := by rw [hb2.1]; rfl
          have k1 : 1 < k := by omega
          have k2 : ¬ k < 10 := by omega
          have d1 : 1 < d := hb2.2
          have HT := Lib.hid (T1.out (.inr hb2))
          clear hb1 hb2 hgo
          by_cases hd : d < 128
          all_goals
            go_wp2_with fail
            refine (F 2).out.mono ?_
            rintro e w2 ⟨rfl, hR2, hG2⟩
            have c1 := HR1.out _ _ hR2
            have n0 : ((fail 2 s').2 != 0) = true := bne_iff_ne.2 (fail_ne (by omega))
            have HR2 := Lib.hid hR2
            have HG2 := Lib.hid (only_trans HG.out hG2)
            clear hR2 hG2
            go_wp2_with fail
            go_ret
            rw [HT.out]
            exact ⟨rfl, HR2.out, HG2.out⟩
        · have hnb : ¬ Bad k d := by unfold Bad; omega
          have dk : d < 128 := by
            rcases Nat.lt_or_ge d 128 with h | h
            · exact h
            · omega
          have HB1 : Hid (1 < k → ((d : Int) == 0) = false) := fun hk => beq_eq_false_iff_ne.2 (by omega)
          have HB2 : Hid (k = 10 → ¬ 1 < d) := fun hk => by omega
          have HGo := Lib.hid hgo
          have h1 := hb1
          have h2 := hb2
          clear hb1 hb2 hgo
          by_cases hmv : most < v
          · have HT := Lib.hid (T2.out hnb hmv)
            have H1 := Lib.hid h1
            have H2 := Lib.hid h2
            have HN := Lib.hid hnb
            clear h1 h2 hnb
            by_cases k1 : 1 < k
            · have e1 := HB1.out k1
              by_cases k2 : k = 10
              · have d1 := HB2.out k2
                have e2 : ((k : Int) == 10) = true := by rw [k2]; rfl
                clear k2
                go_wp2_with fail
                refine (F 4).out.mono ?_
                rintro e w2 ⟨rfl, hR2, hG2⟩
                have c1 := HR1.out _ _ hR2
                have n0 : ((fail 4 s').2 != 0) = true := bne_iff_ne.2 (fail_ne (by omega))
                have HR2 := Lib.hid hR2
                have HG2 := Lib.hid (only_trans HG.out hG2)
                clear hR2 hG2
                go_wp2_with fail
                go_ret
                rw [HT.out]
                exact ⟨rfl, HR2.out, HG2.out⟩
              · have e2 : ((k : Int) == 10) = false := beq_eq_false_iff_ne.2 (by omega)
                clear k2
                go_wp2_with fail
                refine (F 4).out.mono ?_
                rintro e w2 ⟨rfl, hR2, hG2⟩
                have c1 := HR1.out _ _ hR2
                have n0 : ((fail 4 s').2 != 0) = true := bne_iff_ne.2 (fail_ne (by omega))
                have HR2 := Lib.hid hR2
                have HG2 := Lib.hid (only_trans HG.out hG2)
                clear hR2 hG2
                go_wp2_with fail
                go_ret
                rw [HT.out]
                exact ⟨rfl, HR2.out, HG2.out⟩
            · have e2 : ((k : Int) == 10) = false := beq_eq_false_iff_ne.2 (by omega)
              go_wp2_with fail
              refine (F 4).out.mono ?_
              rintro e w2 ⟨rfl, hR2, hG2⟩
              have c1 := HR1.out _ _ hR2
              have n0 : ((fail 4 s').2 != 0) = true := bne_iff_ne.2 (fail_ne (by omega))
              have HR2 := Lib.hid hR2
              have HG2 := Lib.hid (only_trans HG.out hG2)
              clear hR2 hG2
              go_wp2_with fail
              go_ret
              rw [HT.out]
              exact ⟨rfl, HR2.out, HG2.out⟩
          · have c1 := HR1.out _ _ HR.out
            by_cases hz : s'.2 = 0
            · have HT := Lib.hid (T4.out hnb hmv hz)
              have n0 : (s'.2 != 0) = false := by rw [hz]; rfl
              have HZ := Lib.hid hz
              have H1 := Lib.hid h1
              have H2 := Lib.hid h2
              have HN := Lib.hid hnb
              clear h1 h2 hnb hz
              by_cases k1 : 1 < k
              · have e1 := HB1.out k1
                by_cases k2 : k = 10
                · have d1 := HB2.out k2
                  have e2 : ((k : Int) == 10) = true := by rw [k2]; rfl
                  clear k2
                  go_wp2_with fail
                  go_ret
                  rw [HT.out]
                  exact ⟨rfl, HR.out, HG.out⟩
                · have e2 : ((k : Int) == 10) = false := beq_eq_false_iff_ne.2 (by omega)
                  clear k2
                  go_wp2_with fail
                  go_ret
                  rw [HT.out]
                  exact ⟨rfl, HR.out, HG.out⟩
              · have e2 : ((k : Int) == 10) = false := beq_eq_false_iff_ne.2 (by omega)
                go_wp2_with fail
                go_ret
                rw [HT.out]
                exact ⟨rfl, HR.out, HG.out⟩
            · have HT := Lib.hid (T3.out hnb hmv hz)
              have n0 : (s'.2 != 0) = true := bne_iff_ne.2 hz
              have HZ := Lib.hid hz
              have H1 := Lib.hid h1
              have H2 := Lib.hid h2
              have HN := Lib.hid hnb
              clear h1 h2 hnb hz
              by_cases k1 : 1 < k
              · have e1 := HB1.out k1
                by_cases k2 : k = 10
                · have d1 := HB2.out k2
                  have e2 : ((k : Int) == 10) = true := by rw [k2]; rfl
                  clear k2
                  go_wp2_with fail
                  go_ret
                  rw [HT.out]
                  exact ⟨rfl, HR.out, HG.out⟩
                · have e2 : ((k : Int) == 10) = false := beq_eq_false_iff_ne.2 (by omega)
                  clear k2
                  go_wp2_with fail
                  go_ret
                  rw [HT.out]
                  exact ⟨rfl, HR.out, HG.out⟩
              · have e2 : ((k : Int) == 10) = false := beq_eq_false_iff_ne.2 (by omega)
                go_wp2_with fail
                go_ret
                rw [HT.out]
                exact ⟨rfl, HR.out, HG.out⟩

end Go.Proofs.Ytclgblmhicabnaa
