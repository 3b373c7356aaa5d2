/- DERIVED. The walks of the document's own reader: Var, Text. -/
import Derived.Test.YtclgblmhicabnaaRefR
namespace Go.Proofs.Ytclgblmhicabnaa
open Go.RowKit Crc Nums Rd

/-- Digits, the lowest first. -/
def dig : List UInt8 → Nat
  | [] => 0
  | b :: l => b.toNat % 128 + 128 * dig l

theorem dig_lt (l : List UInt8) : dig l < 128 ^ l.length := by
  induction l with
  | nil => simp [dig]
  | cons b l ih => rw [dig, List.length_cons, Nat.pow_succ]; omega
theorem dig_append (l m : List UInt8) : dig (l ++ m) = dig l + 128 ^ l.length * dig m := by
  induction l with
  | nil => simp [dig]
  | cons c l ih =>
    rw [List.cons_append, dig, ih, dig, List.length_cons, Nat.pow_succ, Nat.mul_add, Nat.mul_comm (128 ^ l.length) 128, Nat.mul_assoc]
    omega
theorem dig_drop (l : List UInt8) (j : Nat) (h : j < l.length) : dig (l.drop j) = (l[j]).toNat % 128 + 128 * dig (l.drop (j + 1)) := by
  rw [List.drop_eq_getElem_cons h, dig]
theorem dig_drop_le (l : List UInt8) : ∀ j : Nat, dig (l.drop j) ≤ dig l := by
  induction l with
  | nil => intro j; simp
  | cons b l ih =>
    intro j
    cases j with
    | zero => simp
    | succ j => have := ih j; rw [List.drop_succ_cons, dig]; omega

theorem varGo_skip (r : List UInt8) : ∀ (m : List UInt8) (f n v : Nat), (∀ b ∈ m, 128 ≤ b.toNat) → varGo (f + m.length) n v (m ++ r) = varGo f (n + m.length) (v + dig m * 128 ^ n) r := by
  intro m
  induction m with
  | nil => intro f n v _; simp [dig]
  | cons b m ih =>
    intro f n v h
    have hb := h b (by simp)
    have st : ∀ g n v t, varGo (g + 1) n v (b :: t) = varGo g (n + 1) (v + b.toNat % 128 * 128 ^ n) t := fun g n v t => by
      show (if 128 ≤ b.toNat then _ else _) = _
      rw [if_pos hb]
    show varGo (f + m.length + 1) n v (b :: (m ++ r)) = _
    rw [st, ih f (n + 1) _ fun c hc => h c (by simp [hc])]
    rw [dig, List.length_cons, Nat.pow_succ, show n + 1 + m.length = n + (m.length + 1) by omega]
    congr 1
    rw [Nat.add_mul, Nat.add_assoc, Nat.mul_comm (128 ^ n) 128, ← Nat.mul_assoc, Nat.mul_comm 128 (dig m)]

/-- What the first k bytes tell, all of which go on. -/
theorem varGo_short (l : List UInt8) (h : ∀ b ∈ l, 128 ≤ b.toNat) (hl : l.length < 10) : varGo 10 0 0 l = (1, 0, []) := by
  have := varGo_skip [] l (10 - l.length) 0 0 h
  rw [show 10 - l.length + l.length = 10 by omega, List.append_nil] at this
  rw [this, show 10 - l.length = (9 - l.length) + 1 by omega]
  rfl
theorem varGo_long (l : List UInt8) (h : ∀ b ∈ l.take 10, 128 ≤ b.toNat) (hl : 10 ≤ l.length) : varGo 10 0 0 l = (2, 0, []) := by
  have := varGo_skip (l.drop 10) (l.take 10) 0 0 0 h
  rw [List.take_append_drop] at this
  have e : (l.take 10).length = 10 := by rw [List.length_take]; omega
  rw [e] at this
  rw [show (0 : Nat) + 10 = 10 from rfl] at this
  rw [this]
  rfl
theorem varGo_stop (l : List UInt8) (k : Nat) (h : ∀ b ∈ l.take k, 128 ≤ b.toNat) (hk : k < l.length) (hk9 : k < 10) (hb : (l[k]).toNat < 128) :
    varGo 10 0 0 l = if (0 < k ∧ (l[k]).toNat = 0) ∨ (k = 9 ∧ 1 < (l[k]).toNat) then (2, 0, []) else (0, dig (l.take (k + 1)), l.drop (k + 1)) := by
  have := varGo_skip (l.drop k) (l.take k) (10 - k) 0 0 h
  rw [List.take_append_drop] at this
  have e : (l.take k).length = k := by rw [List.length_take]; omega
  rw [e, show 10 - k + k = 10 by omega, show 10 - k = (9 - k) + 1 by omega, List.drop_eq_getElem_cons hk] at this
  rw [this]
  unfold varGo
  rw [if_neg (by omega), Nat.zero_add]
  have e2 : dig (l.take (k + 1)) = dig (l.take k) + (l[k]).toNat * 128 ^ k := by
    rw [List.take_succ_eq_append_getElem hk, dig_append, e]
    simp only [dig]
    rw [Nat.mod_eq_of_lt hb, Nat.mul_comm]
    simp
  simp [e2]

theorem dig_small (l : List UInt8) (k : Nat) (hk : k < l.length) (hk9 : k < 10) (h9 : k = 9 → (l[k]).toNat ≤ 1) : dig (l.take (k + 1)) < 18446744073709551616 := by
  have e : (l.take k).length = k := by rw [List.length_take]; omega
  have e2 : dig (l.take (k + 1)) = dig (l.take k) + 128 ^ k * ((l[k]).toNat % 128) := by
    rw [List.take_succ_eq_append_getElem hk, dig_append, e]
    simp [dig]
  have h1 := dig_lt (l.take k)
  rw [e] at h1
  rw [e2]
  by_cases h : k = 9
  · subst h
    have := h9 rfl
    have h2 : 128 ^ 9 * ((l[9]).toNat % 128) ≤ 128 ^ 9 * 1 := Nat.mul_le_mul_left _ (by omega)
    omega
  · have h2 : (128 : Nat) ^ k ≤ 128 ^ 8 := Nat.pow_le_pow_right (by omega) (by omega)
    have h3 : 128 ^ k * ((l[k]).toNat % 128) ≤ 128 ^ 8 * 127 := Nat.mul_le_mul h2 (by omega)
    omega

theorem RF.cut {w : World} {p : Nat} {s : St} (h : RF w p s) (n : Nat) (S : ByteArray) (hS : S = ⟨s.1.toArray⟩) : RF (w.setCell ⟨p, 0, none⟩ (.string (S.extract n S.size))) p (s.1.drop n, s.2) := by
  have hl : S.size = s.1.length := by rw [hS]; simp [ByteArray.size]
  have e2 : S.extract n S.size = ⟨(s.1.drop n).toArray⟩ := by
    rw [hl, hS]
    refine (Str.extract_mk' s.1 n s.1.length).trans ?_
    rw [List.take_of_length_le (by simp)]
  rw [e2]
  refine ⟨h.1.set 0 _, ?_, fun hz => by rw [h.2.2 hz]; simp⟩
  have := h.2.1
  simp only [List.length_drop]
  omega

set_option maxRecDepth 100000 in
set_option maxHeartbeats 4000000 in
theorem refVar_any (p most : Nat) (s : St) (w : World) (h : RF w p s) :
    Calls Try.prog 48 #[.pointer (some ⟨p, 0, none⟩), .int .u64 most] w (Counted w p (varS most s).1 (varS most s).2) := by
  have HH := Lib.hid h
  obtain ⟨hr, hl, hv⟩ := h
  have c0 := hr.cell 0
  have c1 := hr.cell 1
  have f0 := hr.free 0
  have f1 := hr.free 1
  simp at c0 c1
  obtain ⟨S, hS⟩ : ∃ S : ByteArray, S = ⟨s.1.toArray⟩ := ⟨_, rfl⟩
  have hlen : S.size = s.1.length := by rw [hS]; simp [ByteArray.size]
  have hget : ∀ (j : Nat) (h1 : j < S.size) (h2 : j < s.1.length), (S[j]).toNat = (s.1[j]).toNat := by subst hS; intro j _ _; rfl
  rw [← hS] at c0
  have hs4 : S.size ≤ 1099511627776 := by omega
  have HS := Lib.hid hS
  have HV := Lib.hid hv
  have HL := Lib.hid hlen
  have HGet := Lib.hid hget
  clear hr hv hS hl hlen hget
  go_enter Try.func48, Try.ntmps48
  go_wp2_with fail
  go_loop [5] (fun k => ∃ n : Nat, n ≤ 10 ∧ n ≤ S.size ∧ (∀ b ∈ s.1.take n, 128 ≤ b.toNat) ∧ k = .int .i64 (n : Nat)) (fun k => 10 - (intOf k).toNat)
  case atStart => exact ⟨0, by omega, by omega, by simp, rfl⟩
  case round =>
    obtain ⟨n, hn10, hnS, hall, rfl⟩ := hrel
    have HA := Lib.hid hall
    clear hall
    by_cases hgo : n < S.size ∧ n < 10
    · obtain ⟨h1, h2⟩ := hgo
      have hnl : n < s.1.length := by have := HL.out; omega
      have HN := Lib.hid (HGet.out n h1 hnl)
      by_cases hb : 128 ≤ (S[n]).toNat
      · go_wp2_with fail
        go_round
        case rel =>
          refine ⟨n + 1, by omega, by omega, fun b hb2 => ?_, by go_num⟩
          rw [List.take_succ_eq_append_getElem hnl] at hb2
          rcases List.mem_append.1 hb2 with h | h
          · exact HA.out b h
          · have := List.mem_singleton.1 h
            subst this
            rw [← HN.out]
            exact hb
        case measure => simp [intOf]; omega
      · have hne : s.1 ≠ [] := by
          intro h
          rw [h] at hnl
          simp at hnl
        have he : s.2 = 0 := by
          apply Classical.byContradiction
          intro h
          exact hne (HV.out h)
        have t0 : (s.2 != 0) = false := by rw [he]; rfl
        have HZ := Lib.hid he
        clear hne he
        have HST := Lib.hid (varGo_stop s.1 n HA.out hnl h2 (by rw [← HN.out]; omega))
        by_cases hbad : (0 < n ∧ (S[n]).toNat = 0) ∨ (n = 9 ∧ 1 < (S[n]).toNat)
        · have HF := Lib.hid (refFail_any p 2 s w HH.out)
          have HVS : Hid (varS most s = (0, fail 2 s)) := Lib.hid (by
            have hst := HST.out
            rw [if_pos (by rw [← HN.out]; exact hbad)] at hst
            unfold varS
            rw [hst]
            rfl)
          rcases hbad with ⟨a1, a2⟩ | ⟨a1, a2⟩
          · have t1 : (((S[n]).toNat : Int) == 0) = true := by rw [a2]; rfl
            by_cases h9 : n = 9
            · subst h9
              go_wp2_with fail
              refine HF.out.mono ?_
              rintro e w1 ⟨rfl, hR1, hG1⟩
              have HR1 := Lib.hid hR1
              have HG1 := Lib.hid hG1
              clear hR1 hG1
              go_wp2_with fail
              go_ret
              rw [HVS.out]
              exact ⟨rfl, HR1.out, HG1.out⟩
            · have t2 : ((n : Int) == 9) = false := beq_eq_false_iff_ne.2 (by omega)
              go_wp2_with fail
              refine HF.out.mono ?_
              rintro e w1 ⟨rfl, hR1, hG1⟩
              have HR1 := Lib.hid hR1
              have HG1 := Lib.hid hG1
              clear hR1 hG1
              go_wp2_with fail
              go_ret
              rw [HVS.out]
              exact ⟨rfl, HR1.out, HG1.out⟩
          · subst a1
            go_wp2_with fail
            refine HF.out.mono ?_
            rintro e w1 ⟨rfl, hR1, hG1⟩
            have HR1 := Lib.hid hR1
            have HG1 := Lib.hid hG1
            clear hR1 hG1
            go_wp2_with fail
            go_ret
            rw [HVS.out]
            exact ⟨rfl, HR1.out, HG1.out⟩
        · have q1 : n = 9 → (S[n]).toNat ≤ 1 := by omega
          have q0 : 0 < n → (S[n]).toNat ≠ 0 := by omega
          have hml : (s.1.take (n + 1)).length = n + 1 := by rw [List.length_take]; omega
          have hMl : ∀ j (h1 : j < (s.1.take (n + 1)).length) (h2 : j < S.size), ((s.1.take (n + 1))[j]).toNat = (S[j]).toNat := fun j h1 h2 => by
            rw [List.getElem_take]
            exact (HGet.out j h2 (by rw [List.length_take] at h1; omega)).symm
          have hV := dig_small s.1 n hnl h2 (by rw [← HN.out]; exact q1)
          have HVS : Hid (varS most s = if most < dig (s.1.take (n + 1)) then (0, fail 4 (s.1.drop (n + 1), s.2)) else (dig (s.1.take (n + 1)), (s.1.drop (n + 1), s.2))) := Lib.hid (by
            have hst := HST.out
            rw [if_neg (by rw [← HN.out]; exact hbad)] at hst
            unfold varS
            rw [hst]
            rfl)
          have HCut := Lib.hid (HH.out.cut (n + 1) S HS.out)
          obtain ⟨M, hM⟩ : ∃ M, M = s.1.take (n + 1) := ⟨_, rfl⟩
          rw [← hM] at hml hMl HVS
          have hV2 : dig M < 18446744073709551616 := by rw [hM]; exact hV
          have HMl := Lib.hid hMl
          have Hml := Lib.hid hml
          clear hM hMl hV hml hbad HST
          have hcase : n = 9 ∨ n = 0 ∨ (0 < n ∧ n < 9) := by omega
          have HQ0 := Lib.hid q0
          rcases hcase with h9 | h9 | ⟨h9, h9'⟩
          · have r1 := q1 h9
            subst h9
            have t1 : (((S[9]).toNat : Int) == 0) = false := beq_eq_false_iff_ne.2 (by have := HQ0.out (by omega); omega)
            clear q0 q1
            go_wp2_with fail
            go_loop [6, 7] (fun v k => ∃ j : Nat, j ≤ 9 + 1 ∧ k = .int .i64 ((j : Int) - 1) ∧ v = .int .u64 (dig (M.drop j) : Nat)) (fun _ k => (intOf k + 1).toNat)
            case atStart => exact ⟨9 + 1, by omega, by congr 1, by rw [List.drop_of_length_le (by have := Hml.out; omega)]; rfl⟩
            case round =>
              obtain ⟨j, hj, rfl, rfl⟩ := hrel
              cases j with
              | zero =>
                rw [List.drop_zero]
                by_cases hm : most < dig M
                · have HF := Lib.hid (refFail_any p 4 _ _ HCut.out)
                  obtain ⟨V, hVd⟩ : ∃ V, V = dig M := ⟨_, rfl⟩
                  rw [← hVd] at hV2 hm HVS ⊢
                  have HVS2 : Hid (varS most s = (0, fail 4 (s.1.drop (9 + 1), s.2))) := Lib.hid (by
                    have h := HVS.out
                    rw [if_pos hm] at h
                    exact h)
                  clear hVd
                  go_wp2_with fail
                  refine HF.out.mono ?_
                  rintro e w1 ⟨rfl, hR1, hG1⟩
                  have HR1 := Lib.hid hR1
                  have HG1 := Lib.hid hG1
                  clear hR1 hG1
                  go_wp2_with fail
                  go_ret
                  rw [HVS2.out]
                  exact ⟨rfl, HR1.out, only_trans (only_set (only_refl _ _) _ _) HG1.out⟩
                · obtain ⟨V, hVd⟩ : ∃ V, V = dig M := ⟨_, rfl⟩
                  rw [← hVd] at hV2 hm HVS ⊢
                  have HVS2 : Hid (varS most s = (V, (s.1.drop (9 + 1), s.2))) := Lib.hid (by
                    have h := HVS.out
                    rw [if_neg hm] at h
                    exact h)
                  clear hVd
                  go_wp2_with fail
                  go_ret
                  rw [HVS2.out]
                  exact ⟨rfl, HCut.out, only_set (only_refl _ _) _ _⟩
              | succ j =>
                have hjM : j < M.length := by have := Hml.out; omega
                have hjS : j < S.size := by omega
                have hd := dig_drop M j hjM
                have hle := dig_drop_le M j
                rw [HMl.out j hjM hjS] at hd
                obtain ⟨x, hx⟩ : ∃ x, x = dig (M.drop (j + 1)) := ⟨_, rfl⟩
                obtain ⟨y, hy⟩ : ∃ y, y = dig (M.drop j) := ⟨_, rfl⟩
                rw [← hx] at hd ⊢
                rw [← hy] at hd hle
                have hy64 : y < 18446744073709551616 := by omega
                have HY := Lib.hid hy
                have e1 : (((j + 1 : Nat) : Int) - 1) = (j : Int) := by omega
                rw [e1]
                have hc := (S[j]).toNat_lt
                clear hx hy e1 hle
                go_wp2_with fail
                go_round
                case rel => exact ⟨j, by omega, by go_num, by rw [← HY.out]; exact congrArg _ (by omega)⟩
                case measure => simp [intOf]
          · have h9' : n ≤ 0 := by omega
            have t2 : ((n : Int) == 9) = false := beq_eq_false_iff_ne.2 (by omega)
            clear q0 q1 h9
            go_wp2_with fail
            go_loop [6, 7] (fun v k => ∃ j : Nat, j ≤ n + 1 ∧ k = .int .i64 ((j : Int) - 1) ∧ v = .int .u64 (dig (M.drop j) : Nat)) (fun _ k => (intOf k + 1).toNat)
            case atStart => exact ⟨n + 1, by omega, by congr 1; omega, by rw [List.drop_of_length_le (by have := Hml.out; omega)]; rfl⟩
            case round =>
              obtain ⟨j, hj, rfl, rfl⟩ := hrel
              cases j with
              | zero =>
                rw [List.drop_zero]
                by_cases hm : most < dig M
                · have HF := Lib.hid (refFail_any p 4 _ _ HCut.out)
                  obtain ⟨V, hVd⟩ : ∃ V, V = dig M := ⟨_, rfl⟩
                  rw [← hVd] at hV2 hm HVS ⊢
                  have HVS2 : Hid (varS most s = (0, fail 4 (s.1.drop (n + 1), s.2))) := Lib.hid (by
                    have h := HVS.out
                    rw [if_pos hm] at h
                    exact h)
                  clear hVd
                  go_wp2_with fail
                  refine HF.out.mono ?_
                  rintro e w1 ⟨rfl, hR1, hG1⟩
                  have HR1 := Lib.hid hR1
                  have HG1 := Lib.hid hG1
                  clear hR1 hG1
                  go_wp2_with fail
                  go_ret
                  rw [HVS2.out]
                  exact ⟨rfl, HR1.out, only_trans (only_set (only_refl _ _) _ _) HG1.out⟩
                · obtain ⟨V, hVd⟩ : ∃ V, V = dig M := ⟨_, rfl⟩
                  rw [← hVd] at hV2 hm HVS ⊢
                  have HVS2 : Hid (varS most s = (V, (s.1.drop (n + 1), s.2))) := Lib.hid (by
                    have h := HVS.out
                    rw [if_neg hm] at h
                    exact h)
                  clear hVd
                  go_wp2_with fail
                  go_ret
                  rw [HVS2.out]
                  exact ⟨rfl, HCut.out, only_set (only_refl _ _) _ _⟩
              | succ j =>
                have hjM : j < M.length := by have := Hml.out; omega
                have hjS : j < S.size := by omega
                have hd := dig_drop M j hjM
                have hle := dig_drop_le M j
                rw [HMl.out j hjM hjS] at hd
                obtain ⟨x, hx⟩ : ∃ x, x = dig (M.drop (j + 1)) := ⟨_, rfl⟩
                obtain ⟨y, hy⟩ : ∃ y, y = dig (M.drop j) := ⟨_, rfl⟩
                rw [← hx] at hd ⊢
                rw [← hy] at hd hle
                have hy64 : y < 18446744073709551616 := by omega
                have HY := Lib.hid hy
                have e1 : (((j + 1 : Nat) : Int) - 1) = (j : Int) := by omega
                rw [e1]
                have hc := (S[j]).toNat_lt
                clear hx hy e1 hle
                go_wp2_with fail
                go_round
                case rel => exact ⟨j, by omega, by go_num, by rw [← HY.out]; exact congrArg _ (by omega)⟩
                case measure => simp [intOf]
          · have t1 : (((S[n]).toNat : Int) == 0) = false := beq_eq_false_iff_ne.2 (by have := q0 h9; omega)
            have t2 : ((n : Int) == 9) = false := beq_eq_false_iff_ne.2 (by omega)
            clear q0 q1
            go_wp2_with fail
            go_loop [6, 7] (fun v k => ∃ j : Nat, j ≤ n + 1 ∧ k = .int .i64 ((j : Int) - 1) ∧ v = .int .u64 (dig (M.drop j) : Nat)) (fun _ k => (intOf k + 1).toNat)
            case atStart => exact ⟨n + 1, by omega, by congr 1; omega, by rw [List.drop_of_length_le (by have := Hml.out; omega)]; rfl⟩
            case round =>
              obtain ⟨j, hj, rfl, rfl⟩ := hrel
              cases j with
              | zero =>
                rw [List.drop_zero]
                by_cases hm : most < dig M
                · have HF := Lib.hid (refFail_any p 4 _ _ HCut.out)
                  obtain ⟨V, hVd⟩ : ∃ V, V = dig M := ⟨_, rfl⟩
                  rw [← hVd] at hV2 hm HVS ⊢
                  have HVS2 : Hid (varS most s = (0, fail 4 (s.1.drop (n + 1), s.2))) := Lib.hid (by
                    have h := HVS.out
                    rw [if_pos hm] at h
                    exact h)
                  clear hVd
                  go_wp2_with fail
                  refine HF.out.mono ?_
                  rintro e w1 ⟨rfl, hR1, hG1⟩
                  have HR1 := Lib.hid hR1
                  have HG1 := Lib.hid hG1
                  clear hR1 hG1
                  go_wp2_with fail
                  go_ret
                  rw [HVS2.out]
                  exact ⟨rfl, HR1.out, only_trans (only_set (only_refl _ _) _ _) HG1.out⟩
                · obtain ⟨V, hVd⟩ : ∃ V, V = dig M := ⟨_, rfl⟩
                  rw [← hVd] at hV2 hm HVS ⊢
                  have HVS2 : Hid (varS most s = (V, (s.1.drop (n + 1), s.2))) := Lib.hid (by
                    have h := HVS.out
                    rw [if_neg hm] at h
                    exact h)
                  clear hVd
                  go_wp2_with fail
                  go_ret
                  rw [HVS2.out]
                  exact ⟨rfl, HCut.out, only_set (only_refl _ _) _ _⟩
              | succ j =>
                have hjM : j < M.length := by have := Hml.out; omega
                have hjS : j < S.size := by omega
                have hd := dig_drop M j hjM
                have hle := dig_drop_le M j
                rw [HMl.out j hjM hjS] at hd
                obtain ⟨x, hx⟩ : ∃ x, x = dig (M.drop (j + 1)) := ⟨_, rfl⟩
                obtain ⟨y, hy⟩ : ∃ y, y = dig (M.drop j) := ⟨_, rfl⟩
                rw [← hx] at hd ⊢
                rw [← hy] at hd hle
                have hy64 : y < 18446744073709551616 := by omega
                have HY := Lib.hid hy
                have e1 : (((j + 1 : Nat) : Int) - 1) = (j : Int) := by omega
                rw [e1]
                have hc := (S[j]).toNat_lt
                clear hx hy e1 hle
                go_wp2_with fail
                go_round
                case rel => exact ⟨j, by omega, by go_num, by rw [← HY.out]; exact congrArg _ (by omega)⟩
                case measure => simp [intOf]
    · by_cases h10 : n = 10
      · subst h10
        have hne : s.1 ≠ [] := by
          intro h
          have h2 : s.1.length = 0 := by rw [h]; rfl
          have := HL.out
          omega
        have he : s.2 = 0 := by
          apply Classical.byContradiction
          intro h
          exact hne (HV.out h)
        have t0 : (s.2 != 0) = false := by rw [he]; rfl
        have HF := Lib.hid (refFail_any p 2 s w HH.out)
        have HVS : Hid (varS most s = (0, fail 2 s)) := Lib.hid (by
          have hle := HL.out
          have := varGo_long s.1 HA.out (by omega)
          unfold varS
          rw [this]
          rfl)
        clear hne he
        by_cases hS10 : 10 < S.size
        all_goals
          go_wp2_with fail
          refine HF.out.mono ?_
          rintro e w1 ⟨rfl, hR1, hG1⟩
          have HR1 := Lib.hid hR1
          have HG1 := Lib.hid hG1
          clear hR1 hG1
          go_wp2_with fail
          go_ret
          rw [HVS.out]
          exact ⟨rfl, HR1.out, HG1.out⟩
      · have HF := Lib.hid (refFail_any p 1 s w HH.out)
        have HVS : Hid (varS most s = (0, fail 1 s)) := Lib.hid (by
          have hle := HL.out
          have := varGo_short s.1 (by have := HA.out; rw [List.take_of_length_le (by omega)] at this; exact this) (by omega)
          unfold varS
          rw [this]
          rfl)
        have hne : (fail 1 s).2 ≠ 0 := fail_ne (by omega)
        obtain ⟨u, hu⟩ : ∃ u, u = fail 1 s := ⟨_, rfl⟩
        rw [← hu] at HF HVS hne
        have t0 : (u.2 != 0) = true := bne_iff_ne.2 hne
        clear hne hu
        go_wp2_with fail
        refine HF.out.mono ?_
        rintro e w1 ⟨rfl, hR1, hG1⟩
        have d1 := hR1.1.cell 1
        simp at d1
        have HR1 := Lib.hid hR1
        have HG1 := Lib.hid hG1
        clear hR1 hG1
        go_wp2_with fail
        go_ret
        rw [HVS.out]
        exact ⟨rfl, HR1.out, HG1.out⟩

end Go.Proofs.Ytclgblmhicabnaa
