/- Parts: Brw. -/
import Derived.Deep.CutRange
import Derived.Test.YtdabndiaflagpaaGreatDoorB27
set_option maxRecDepth 100000
set_option maxHeartbeats 4000000
set_option linter.unusedVariables false
namespace Go.Proofs.YtdabndiaflagpaaGreatDoor
open Go.RowKit
attribute [local go_sem] Tame.Op Tame.upon

def TrueC (f : FuncId) (args : Array Value) (w : World) : Prop := Calls Tryz.prog f args w fun e w' => e = .returned (.bool true) ∧ Below w.heap.size w w'
/-- The places of brackets, as a row of numbers. -/
def nums (ps : List Nat) : List Value := ps.map fun (q : Nat) => Value.int .i64 (q : Int)
theorem nums_snoc (ps : List Nat) (i : Nat) : nums ps ++ [.int .i64 (i : Int)] = nums (ps ++ [i]) := by simp [nums]
theorem nums_len (ps : List Nat) : (nums ps).length = ps.length := by simp [nums]
theorem int_info : (Tryz.prog.info? 3).map (fun i => (i.zero, i.size, i.bytes)) = some (some (.int .i64 0), 1, 8) := by kernel_rfl

theorem cut_1 (s : T) (f : Nat) (h : f ≤ s.length) (w : World) : (Instr.slice 9 (.string ⟨s.toArray⟩) none (some (.int .i64 (f : Int))) none).run Tryz.prog w = .ok (.string ⟨(s.take f).toArray⟩) w := by
  rw [Go.run_slice_string_h w _ _ Tryz.underlying9 .i64 (f : Int) (by omega) (by simp [ByteArray.size]; omega), Int.toNat_natCast]
  have := str_mid s 0 f
  rw [Nat.zero_add, List.drop_zero] at this
  rw [this]
theorem cut_2 (s : T) (f t : Nat) (h : f < t) (ht : t ≤ s.length) (w : World) : (Instr.slice 9 (.string ⟨s.toArray⟩) (some (.int .i64 ((f : Int) + 1))) (some (.int .i64 (t : Int))) none).run Tryz.prog w = .ok (.string ⟨((s.take t).drop (f + 1)).toArray⟩) w := by
  obtain ⟨n, rfl⟩ : ∃ n, t = f + 1 + n := ⟨t - (f + 1), by omega⟩
  have := run_mid s (f + 1) n ((f + 1 + n : Nat) : Int) rfl ht w
  rw [List.drop_take, show f + 1 + n - (f + 1) = n by omega]
  exact this
theorem cut_3 (s : T) (t : Nat) (h : t < s.length) (w : World) : (Instr.slice 9 (.string ⟨s.toArray⟩) (some (.int .i64 ((t : Int) + 1))) none none).run Tryz.prog w = .ok (.string ⟨(s.drop (t + 1)).toArray⟩) w := by
  rw [Go.run_slice_string_l w _ _ Tryz.underlying9 .i64 ((t : Int) + 1) (by omega) (by simp [ByteArray.size]; omega), show ((t : Int) + 1).toNat = t + 1 by omega]
  have := str_mid s (t + 1) (s.length - (t + 1))
  rw [show t + 1 + (s.length - (t + 1)) = s.length by omega, List.take_of_length_le (by rw [List.length_drop]; omega)] at this
  rw [show (⟨s.toArray⟩ : ByteArray).size = s.length by simp [ByteArray.size], this]

set_option maxRecDepth 100000 in
set_option maxHeartbeats 8000000 in
theorem brackets_any (x : X) (A : Option Addr) (c : Nat) (which : Int) (w : World) (h0 : 0 ≤ which) (h255 : which ≤ 255) (hok : x.ok) (hsz : x.size ≤ 1099511627775) (hk : KS w (Old w) A x.ks) (he : LexEnv w) (hpe : PaEnv w.heap.size w) (ht : ShapesAt w) (hpr : PrEnv w.heap.size w)
    (HAW : Hid (∀ w2, Below w.heap.size w w2 → TrueC 17 #[] w2)) :
    TrueC 6 #[ev x A c, .int .u8 which] w := by
  unfold TrueC at *
  have hold : ∀ {w2}, Below w.heap.size w w2 → KS w2 (Old w2) A x.ks := fun hb => hk.move fun b hb' => ⟨Nat.lt_of_lt_of_le hb' hb.size, hb.block b hb'⟩
  have HSZ : Hid (∀ w2, Below w.heap.size w w2 → Calls Tryz.prog 18 #[.agg #[.int .i64 x.k, .int .i64 x.o, .int .i64 x.n, .string ⟨x.s.toArray⟩, .slice A x.ks.length c]] w2 fun e w' => e = .returned (.int .i64 (x.size : Nat)) ∧ Below w2.heap.size w2 w') := fun w2 hb => refSize_any x.size x A c w2 (Old w2) (Nat.le_refl _) (by omega) (hold hb) (fun _ h => h)
  have HRX : Hid (∀ w2, Below w.heap.size w w2 → Calls Tryz.prog 19 #[.agg #[.int .i64 x.k, .int .i64 x.o, .int .i64 x.n, .string ⟨x.s.toArray⟩, .slice A x.ks.length c]] w2 fun e w' => e = .returned (.bool (rightB x)) ∧ Below w2.heap.size w2 w') := fun w2 hb => RightExpr_any x A c w2 (Old w2) hok hsz (hold hb) (fun _ h => h)
  have HOW : Hid (∀ w2, Below w.heap.size w w2 → Calls Tryz.prog 12 #[.agg #[.int .i64 x.k, .int .i64 x.o, .int .i64 x.n, .string ⟨x.s.toArray⟩, .slice A x.ks.length c]] w2 (OwnMade w2 x)) := fun w2 hb => Own_any x.size x A c w2 (Old w2) (Nat.le_refl _) hsz (hold hb) (fun _ h => h)
  have HE := Lib.hid he
  have HPE := Lib.hid hpe
  have HPR := Lib.hid hpr
  have HT := Lib.hid ht
  have HOK := Lib.hid hok
  have HK := Lib.hid hk
  clear he hpe hpr ht hok hold hk
  obtain ⟨wa, hwa⟩ : ∃ v, v = w.alloc (.cells #[.int .i64 x.k, .int .i64 x.o, .int .i64 x.n, .string ⟨x.s.toArray⟩, .slice A x.ks.length c] 52) := ⟨_, rfl⟩
  have HBA : Hid (Below w.heap.size w wa) := Lib.hid (by rw [hwa]; exact (Below.refl _ _).alloc (Nat.le_refl _) _)
  have HRA : Hid (Row wa w.heap.size 52 #[.int .i64 x.k, .int .i64 x.o, .int .i64 x.n, .string ⟨x.s.toArray⟩, .slice A x.ks.length c]) := Lib.hid (by rw [hwa]; exact Row.made _ _ _)
  by_cases h60 : 60 < x.size
  · have h60' : (60 : Int) < ((x.size : Nat) : Int) := by omega
    go_enter Tryz.func6, Tryz.ntmps6
    simp only [ev]
    go_upto_region 1 with fail
    rw [← hwa]
    clear hwa
    have c0 := HRA.out.cell 0
    have c1 := HRA.out.cell 1
    have c2 := HRA.out.cell 2
    have c3 := HRA.out.cell 3
    have c4 := HRA.out.cell 4
    simp at c0 c1 c2 c3 c4
    go_wp2_with (go_at_call 18; refine (HSZ.out _ HBA.out).mono ?_; rintro e w1 ⟨rfl, hb1⟩; have HB1 := Lib.hid (HBA.out.trans (hb1.mono HBA.out.size)); clear hb1)
    go_ret
    exact ⟨rfl, HB1.out⟩
  have h60' : ¬ (60 : Int) < ((x.size : Nat) : Int) := by omega
  cases hrt : rightB x with
  | false =>
    rw [hrt] at HRX
    clear hrt
    go_enter Tryz.func6, Tryz.ntmps6
    simp only [ev]
    go_upto_region 1 with fail
    rw [← hwa]
    clear hwa
    have c0 := HRA.out.cell 0
    have c1 := HRA.out.cell 1
    have c2 := HRA.out.cell 2
    have c3 := HRA.out.cell 3
    have c4 := HRA.out.cell 4
    simp at c0 c1 c2 c3 c4
    go_wp2_with (first
      | (go_at_call 18; refine (HSZ.out _ HBA.out).mono ?_; rintro e w1 ⟨rfl, hb1⟩; have HB1 := Lib.hid (HBA.out.trans (hb1.mono HBA.out.size)); have r1 := HRA.out.below hb1 HRA.out.lt; have d0 := r1.cell 0; have d1 := r1.cell 1; have d2 := r1.cell 2; have d3 := r1.cell 3; have d4 := r1.cell 4; simp at d0 d1 d2 d3 d4; clear hb1 r1)
      | (go_at_call 19; refine (HRX.out _ HB1.out).mono ?_; rintro e w2 ⟨rfl, hb2⟩; have HB2 := Lib.hid (HB1.out.trans (hb2.mono HB1.out.size)); clear hb2))
    go_ret
    exact ⟨rfl, HB2.out⟩
  | true =>
    rw [hrt] at HRX
    have hshape : x.shape = true := by
      have : (inB x.depth 200 && x.shape) = true := hrt
      rw [Bool.and_eq_true] at this
      exact this.2
    have hlen := X.txt_len x hshape
    obtain ⟨s, hs⟩ : ∃ s, s = x.txt := ⟨_, rfl⟩
    have HDK : Hid (Dk s) := Lib.hid (by rw [hs]; exact txt_dk _ x (Nat.le_refl _) hshape)
    have HSL : Hid (s.length ≤ 6000) := Lib.hid (by rw [hs]; omega)
    have HPX : Hid (∀ w2 A2 c2, Below w.heap.size w w2 → KS w2 (Old w2) A2 x.ks → Calls Tryz.prog 20 #[.agg #[.int .i64 x.k, .int .i64 x.o, .int .i64 x.n, .string ⟨x.s.toArray⟩, .slice A2 x.ks.length c2]] w2 fun e w' => e = .returned (.string ⟨s.toArray⟩) ∧ Below w2.heap.size w2 w') := fun w2 A2 c2 hb hk2 => by
      have := pexpr_any x A2 c2 w2 (Old w2) (HT.out.later hb) HOK.out (by omega) hk2 (fun _ h => h) ((HPR.out.later hb).up hb.size)
      rw [hrt, if_pos rfl, ← hs] at this
      exact this
    have HPC : Hid (∀ t w2, Below w.heap.size w w2 → cO s = cO t + 1 → t.length ≤ 100000 → BrBad t w2 ∨ BrOk x t w2) := fun t w2 hb hc hl => brP_any x s t w2 hc hs hl (HE.out.later hb) (HPE.out.rise hb hb.size)
    have HSM : Hid (∀ (y : X) w2 B d A2 c2, y.size ≤ 1099511627775 → KS w2 (Old w2) B y.ks → KS w2 (Old w2) A2 x.ks → Calls Tryz.prog 21 #[ev y B d, ev x A2 c2] w2 fun e w' => e = .returned (.bool (y.same x)) ∧ Below w2.heap.size w2 w') := fun y w2 B d A2 c2 hy hB hA => Same_all 1099511627775 (by omega) y x B A2 d c2 w2 (Old w2) hy hB (by omega) hA (fun _ h => h)
    clear hrt hshape hs hlen hsz
    go_enter Tryz.func6, Tryz.ntmps6
    simp only [ev]
    go_upto_region 1 with fail
    rw [← hwa]
    clear hwa
    have c0 := HRA.out.cell 0
    have c1 := HRA.out.cell 1
    have c2 := HRA.out.cell 2
    have c3 := HRA.out.cell 3
    have c4 := HRA.out.cell 4
    simp at c0 c1 c2 c3 c4
    go_upto_region 3 with (first
      | (go_at_call 18; refine (HSZ.out _ HBA.out).mono ?_; rintro e w1 ⟨rfl, hb1⟩; have HB1 := Lib.hid (HBA.out.trans (hb1.mono HBA.out.size)); have r1 := HRA.out.below hb1 HRA.out.lt; have HR1 := Lib.hid r1; have d0 := r1.cell 0; have d1 := r1.cell 1; have d2 := r1.cell 2; have d3 := r1.cell 3; have d4 := r1.cell 4; simp at d0 d1 d2 d3 d4; clear hb1 r1)
      | (go_at_call 19; refine (HRX.out _ HB1.out).mono ?_; rintro e w2 ⟨rfl, hb2⟩; have HB2 := Lib.hid (HB1.out.trans (hb2.mono HB1.out.size)); have r2 := HR1.out.below hb2 HR1.out.lt; have e0 := r2.cell 0; have e1 := r2.cell 1; have e2 := r2.cell 2; have e3 := r2.cell 3; have e4 := r2.cell 4; simp at e0 e1 e2 e3 e4; clear hb2 r2))
    clear c0 c1 c2 c3 c4 d0 d1 d2 d3 d4
    go_upto_region 4 with (go_at_call 12; refine (HOW.out _ HB2.out).mono ?_; rintro e w3 ⟨A2, c2, rfl, hk2, hb3⟩; simp only [ev]; have HK2 := Lib.hid hk2; have HB3 := Lib.hid (HB2.out.trans (hb3.mono HB2.out.size)); clear hb3 hk2)
    clear e0 e1 e2 e3 e4
    obtain ⟨wb, hwb⟩ : ∃ v, v = w3.alloc (.cells #[.int .i64 x.k, .int .i64 x.o, .int .i64 x.n, .string ⟨x.s.toArray⟩, .slice A2 x.ks.length c2] 46) := ⟨_, rfl⟩
    rw [← hwb]
    have HX3 : Hid (Below w3.heap.size w3 wb) := Lib.hid (by rw [hwb]; exact (Below.refl _ _).alloc (Nat.le_refl _) _)
    have HB4 : Hid (Below w.heap.size w wb) := Lib.hid (HB3.out.trans (HX3.out.mono HB3.out.size))
    have HRX4 : Hid (Row wb w3.heap.size 46 #[.int .i64 x.k, .int .i64 x.o, .int .i64 x.n, .string ⟨x.s.toArray⟩, .slice A2 x.ks.length c2]) := Lib.hid (by rw [hwb]; exact Row.made _ _ _)
    have HK4 : Hid (KS wb (Old wb) A2 x.ks) := Lib.hid (HK2.out.move fun b hb => ⟨Nat.lt_of_lt_of_le hb.2 HX3.out.size, HX3.out.block b hb.2⟩)
    clear hwb
    obtain ⟨p, hp⟩ : ∃ p, p = w3.heap.size := ⟨_, rfl⟩
    rw [← hp] at HRX4 ⊢
    clear hp
    have c0 := HRX4.out.cell 0
    have c1 := HRX4.out.cell 1
    have c2' := HRX4.out.cell 2
    have c3 := HRX4.out.cell 3
    have c4 := HRX4.out.cell 4
    simp at c0 c1 c2' c3 c4
    go_upto_region 5 with (go_at_call 20; refine (HPX.out _ A2 c2 HB4.out HK4.out).mono ?_; rintro e w5 ⟨rfl, hb5⟩; have HX5 := Lib.hid hb5; have HB5 := Lib.hid (HB4.out.trans (hb5.mono HB4.out.size)); clear hb5)
    clear c0 c1 c2' c3 c4
    have HR5 : Hid (Row w5 p 46 #[.int .i64 x.k, .int .i64 x.o, .int .i64 x.n, .string ⟨x.s.toArray⟩, .slice A2 x.ks.length c2]) := Lib.hid (HRX4.out.below HX5.out HRX4.out.lt)
    have HK5 : Hid (KS w5 (Old w5) A2 x.ks) := Lib.hid (HK4.out.move fun b hb => ⟨Nat.lt_of_lt_of_le hb HX5.out.size, HX5.out.block b hb⟩)
    have hsl := HSL.out
    go_wp2_with fail
    obtain ⟨i0, hi0, hz0, hz1, hz2⟩ := info_parts int_info
    go_loopg [7, 8] s.length (fun g v k wr => ∃ (i : Nat) (ps : List Nat), i + g = s.length ∧ k = .int .i64 (i : Int) ∧ Owns wr w5.heap.size 3 v (nums ps) ∧ ps.length ≤ i ∧ (∀ q ∈ ps, s[q]? = some 40) ∧ Below w5.heap.size w5 wr)
    case atStart => exact ⟨0, [], by omega, rfl, Owns.nil _ _ _, by simp, by simp, Below.refl _ _⟩
    case round =>
      obtain ⟨i, ps, hi, rfl, hO, hpi, hps, hbel⟩ := hrel
      have HO := Lib.hid hO
      have HPS := Lib.hid hps
      have HBL := Lib.hid hbel
      obtain ⟨A7, c7, rfl, hlies⟩ := hO.form
      have HLI := Lib.hid hlies
      have hws := hbel.size
      clear hO hps hbel hlies
      by_cases hit : i < s.length
      · obtain ⟨b, h', hb, hbb⟩ := byte_at hit
        by_cases h40 : (b.toNat : Int) = 40
        · have HC : Hid (s[i]? = some 40) := Lib.hid (by rw [hb]; congr 1; apply UInt8.toNat_inj.1; exact Int.ofNat.inj h40)
          clear hb
          by_cases hi0' : i = 0
          · subst hi0'
            go_wp2_with (at_builtin; refine wpList_app _ rfl (.tmp 64) (.tmp 66) _ rfl w5.heap.size 3 i0 _ 8 Tryz.underlying66 hi0 hz0 hz1 hz2 rfl (by omega) _ rfl _ (HO.out.alloc _) _ _ _ rfl _ (lies_new _ _ _) rfl ?_ ?_ ?_ ?_; rotate_left; (focus (intro u hu; simp at hu; subst hu; rfl)); (focus (simp [nums_len]; omega)); (focus (simp; omega)); intro v2 w2 hO2 hB2; have HO2 := Lib.hid hO2; have HB2' := Lib.hid hB2; clear hO2 hB2)
            go_roundg (s.length - (0 + 1))
            case rel => exact ⟨0 + 1, ps ++ [0], by omega, by go_num, by have := HO2.out; exact (nums_snoc ps (0)) ▸ this, by rw [List.length_append]; simp only [List.length_cons, List.length_nil]; omega, fun q hq => by
              rcases List.mem_append.1 hq with hq | hq
              · exact HPS.out q hq
              · rw [List.mem_singleton.1 hq]; exact HC.out, (HBL.out.alloc hws _).trans HB2'.out⟩
            case measure => omega
          · obtain ⟨j, rfl⟩ : ∃ j, i = j + 1 := ⟨i - 1, by omega⟩
            obtain ⟨d, h'', hd, hdd⟩ := byte_at (show j < s.length by omega)
            clear hd
            have q0 : ((j : Int) + 1 == 0) = false := beq_eq_false_iff_ne.2 (by omega)
            by_cases d1 : (d.toNat : Int) = 32
            · go_wp2_with (at_builtin; refine wpList_app _ rfl (.tmp 64) (.tmp 66) _ rfl w5.heap.size 3 i0 _ 8 Tryz.underlying66 hi0 hz0 hz1 hz2 rfl (by omega) _ rfl _ (HO.out.alloc _) _ _ _ rfl _ (lies_new _ _ _) rfl ?_ ?_ ?_ ?_; rotate_left; (focus (intro u hu; simp at hu; subst hu; rfl)); (focus (simp [nums_len]; omega)); (focus (simp; omega)); intro v2 w2 hO2 hB2; have HO2 := Lib.hid hO2; have HB2' := Lib.hid hB2; clear hO2 hB2)
              go_roundg (s.length - (j + 1 + 1))
              case rel => exact ⟨j + 1 + 1, ps ++ [j + 1], by omega, by go_num, by have := HO2.out; exact (nums_snoc ps (j + 1)) ▸ this, by rw [List.length_append]; simp only [List.length_cons, List.length_nil]; omega, fun q hq => by
                rcases List.mem_append.1 hq with hq | hq
                · exact HPS.out q hq
                · rw [List.mem_singleton.1 hq]; exact HC.out, (HBL.out.alloc hws _).trans HB2'.out⟩
              case measure => omega
            · have q1 : ((d.toNat : Int) == 32) = false := beq_eq_false_iff_ne.2 d1
              by_cases d2 : (d.toNat : Int) = 40
              · go_wp2_with (at_builtin; refine wpList_app _ rfl (.tmp 64) (.tmp 66) _ rfl w5.heap.size 3 i0 _ 8 Tryz.underlying66 hi0 hz0 hz1 hz2 rfl (by omega) _ rfl _ (HO.out.alloc _) _ _ _ rfl _ (lies_new _ _ _) rfl ?_ ?_ ?_ ?_; rotate_left; (focus (intro u hu; simp at hu; subst hu; rfl)); (focus (simp [nums_len]; omega)); (focus (simp; omega)); intro v2 w2 hO2 hB2; have HO2 := Lib.hid hO2; have HB2' := Lib.hid hB2; clear hO2 hB2)
                go_roundg (s.length - (j + 1 + 1))
                case rel => exact ⟨j + 1 + 1, ps ++ [j + 1], by omega, by go_num, by have := HO2.out; exact (nums_snoc ps (j + 1)) ▸ this, by rw [List.length_append]; simp only [List.length_cons, List.length_nil]; omega, fun q hq => by
                  rcases List.mem_append.1 hq with hq | hq
                  · exact HPS.out q hq
                  · rw [List.mem_singleton.1 hq]; exact HC.out, (HBL.out.alloc hws _).trans HB2'.out⟩
                case measure => omega
              · have q2 : ((d.toNat : Int) == 40) = false := beq_eq_false_iff_ne.2 d2
                by_cases d3 : (d.toNat : Int) = 45
                · go_wp2_with (at_builtin; refine wpList_app _ rfl (.tmp 64) (.tmp 66) _ rfl w5.heap.size 3 i0 _ 8 Tryz.underlying66 hi0 hz0 hz1 hz2 rfl (by omega) _ rfl _ (HO.out.alloc _) _ _ _ rfl _ (lies_new _ _ _) rfl ?_ ?_ ?_ ?_; rotate_left; (focus (intro u hu; simp at hu; subst hu; rfl)); (focus (simp [nums_len]; omega)); (focus (simp; omega)); intro v2 w2 hO2 hB2; have HO2 := Lib.hid hO2; have HB2' := Lib.hid hB2; clear hO2 hB2)
                  go_roundg (s.length - (j + 1 + 1))
                  case rel => exact ⟨j + 1 + 1, ps ++ [j + 1], by omega, by go_num, by have := HO2.out; exact (nums_snoc ps (j + 1)) ▸ this, by rw [List.length_append]; simp only [List.length_cons, List.length_nil]; omega, fun q hq => by
                    rcases List.mem_append.1 hq with hq | hq
                    · exact HPS.out q hq
                    · rw [List.mem_singleton.1 hq]; exact HC.out, (HBL.out.alloc hws _).trans HB2'.out⟩
                  case measure => omega
                · have q3 : ((d.toNat : Int) == 45) = false := beq_eq_false_iff_ne.2 d3
                  go_wp2_with fail
                  go_roundg (s.length - (j + 1 + 1))
                  case rel => exact ⟨j + 1 + 1, ps, by omega, by go_num, HO.out, by omega, HPS.out, HBL.out⟩
                  case measure => omega
        · have q4 : ((b.toNat : Int) == 40) = false := beq_eq_false_iff_ne.2 h40
          clear hb
          go_wp2_with fail
          go_roundg (s.length - (i + 1))
          case rel => exact ⟨i + 1, ps, by omega, by go_num, HO.out, by omega, HPS.out, HBL.out⟩
          case measure => omega
      · obtain rfl : i = s.length := by omega
        rw [nums_len]
        by_cases hp0 : ps = []
        · subst hp0
          have hn0 : ([] : List Nat).length = 0 := rfl
          go_wp2_with (go_at_call 17; refine (HAW.out _ (HB5.out.trans (HBL.out.mono HB5.out.size))).mono ?_; rintro e w9 ⟨rfl, hb9⟩; have HB9 := Lib.hid hb9; clear hb9)
          go_ret
          exact ⟨rfl, (HB5.out.trans (HBL.out.mono HB5.out.size)).trans (HB9.out.mono (Nat.le_trans HB5.out.size HBL.out.size))⟩
        · have hpos := List.length_pos_iff.2 hp0
          obtain ⟨n, hn⟩ : ∃ n, n = ps.length := ⟨_, rfl⟩
          have hbnd : 0 ≤ which % (n : Int) ∧ which % (n : Int) < n := ⟨Int.emod_nonneg _ (by omega), Int.emod_lt_of_pos _ (by omega)⟩
          obtain ⟨r, hr⟩ : ∃ r : Nat, which % (n : Int) = (r : Int) := ⟨(which % (n : Int)).toNat, by omega⟩
          have hrm : Int.tmod which (n : Int) = (r : Int) := by rw [Int.tmod_eq_emod_of_nonneg h0]; exact hr
          have hrn : r < n := by omega
          obtain ⟨f, hf⟩ : ∃ f, ps[r]? = some f := ⟨_, List.getElem?_eq_getElem (by omega)⟩
          have hsf := HPS.out f (List.mem_of_getElem? hf)
          obtain ⟨q, off, rfl, _, hcell⟩ := HLI.out (by intro e; apply hp0; have := congrArg List.length e; rw [nums_len] at this; exact List.eq_nil_of_length_eq_zero this)
          have hc := hcell r (.int .i64 (f : Int)) (by simp [nums, hf])
          have hfl : f < s.length := (List.getElem?_eq_some_iff.1 hsf).1
          have HSF := Lib.hid hsf
          rw [← hn]
          have hn1 : ((n : Int) == 0) = false := beq_eq_false_iff_ne.2 (by omega)
          clear hcell hf hbnd hp0 hsf hpos hn
          go_upto_region 14 with fail
          obtain ⟨e, hbe⟩ := brk_from HDK.out f
          have HBE := Lib.hid hbe
          clear hbe hc
          go_wp2_with fail
          go_loopg [10, 11] (s.length - f) (fun g tv dv w2 => ∃ (t D : Nat), f ≤ t ∧ t + g = s.length ∧ tv = .int .i64 (t : Int) ∧ dv = .int .i64 (D : Int) ∧ D ≤ t ∧ brk (e + D) (s.drop t) = some 0 ∧ (1 ≤ D ∨ (D = 0 ∧ t = f)) ∧ w2 = wr)
          case atStart => exact ⟨f, 0, by omega, by omega, rfl, rfl, by omega, HBE.out, .inr ⟨rfl, rfl⟩, rfl⟩
          case round =>
            obtain ⟨t, D, hft, htg, rfl, rfl, hDt, hbr, hD, rfl⟩ := hrel
            have htl : t < s.length := by
              rcases Nat.lt_or_ge t s.length with h | h
              · exact h
              · have := brk_end h hbr; omega
            obtain ⟨b, h', hb, hbb⟩ := byte_at htl
            obtain ⟨k1, k2, k3⟩ := brk_step hb hbr
            have HKA := Lib.hid k1
            have HKB := Lib.hid k2
            have HKC := Lib.hid k3
            have HB := Lib.hid hb
            clear k1 k2 k3 hb hbr
            by_cases h40 : (b.toNat : Int) = 40
            · have hbe : b = 40 := by apply UInt8.toNat_inj.1; exact Int.ofNat.inj h40
              have q1 : ((D : Int) + 1 == 0) = false := beq_eq_false_iff_ne.2 (by omega)
              have HK := Lib.hid (HKA.out hbe)
              clear hbe
              go_wp2_with fail
              go_roundg (s.length - (t + 1))
              case rel => exact ⟨t + 1, D + 1, by omega, by omega, by go_num, by go_num, by omega, HK.out, .inl (by omega), rfl⟩
              case measure => omega
            · have hD1 : 1 ≤ D := by
                rcases hD with h | ⟨_, rfl⟩
                · exact h
                · have := HB.out; rw [HSF.out] at this; injection this with this; subst this; exact absurd rfl h40
              have q1 : ((b.toNat : Int) == 40) = false := beq_eq_false_iff_ne.2 h40
              by_cases h41 : (b.toNat : Int) = 41
              · have hbe : b = 41 := by apply UInt8.toNat_inj.1; exact Int.ofNat.inj h41
                obtain ⟨D2, rfl⟩ : ∃ D2, D = D2 + 1 := ⟨D - 1, by omega⟩
                have HK := Lib.hid (HKB.out hbe D2 rfl)
                have HBT : Hid (s[t]? = some 41) := Lib.hid (by rw [HB.out, hbe])
                clear hbe hD
                by_cases hz : D2 = 0
                · subst hz
                  have hfl2 : f < t := by
                    rcases Nat.lt_or_ge f t with h | h
                    · exact h
                    · have : t = f := by omega
                      subst this; have := HBT.out; rw [HSF.out] at this; cases this
                  go_upto_region 24 with fail
                  have hr1 := cut_1 s f (by omega)
                  have hr2 := cut_2 s f t (by omega) (by omega)
                  have hr3 := cut_3 s t (by omega)
                  go_region
                  rw [str_app6, str_app6]
                  obtain ⟨ct', hct⟩ : ∃ y, y = cutT s f t := ⟨_, rfl⟩
                  have hassoc : s.take f ++ (s.take t).drop (f + 1) ++ s.drop (t + 1) = ct' := by rw [hct, List.append_assoc]; rfl
                  rw [hassoc]
                  have hcO : cO s = cO ct' + 1 := by rw [hct]; exact cut_cO HSF.out HBT.out hfl2
                  have hcl : ct'.length ≤ 100000 := by
                    rw [hct]; unfold cutT
                    simp only [List.length_append, List.length_take, List.length_drop]
                    omega
                  have HBD : Hid (Below w.heap.size w wr.drew) := Lib.hid (HB5.out.trans (HBL.out.mono HB5.out.size)).drew
                  have hpc := HPC.out ct' wr.drew HBD.out hcO hcl
                  have HRD : Hid (Row wr.drew p 46 #[.int .i64 x.k, .int .i64 x.o, .int .i64 x.n, .string ⟨x.s.toArray⟩, .slice A2 x.ks.length c2]) := Lib.hid (HR5.out.below HBL.out HR5.out.lt).drew
                  have HKD : Hid (KS wr.drew (Old wr.drew) A2 x.ks) := Lib.hid (HK5.out.move fun b hb => ⟨Nat.lt_of_lt_of_le hb HBL.out.drew.size, HBL.out.drew.block b hb⟩)
                  have harg := br_arg ct'
                  clear hr1 hr2 hr3 hassoc hct hcO
                  rcases hpc with ⟨z1, z2, k, hk, hcall⟩ | ⟨n8, q8, ns8, r8, hq8, hs8, hok8, hcall⟩
                  · have HCALL := Lib.hid hcall
                    have hk1 : (k == 0) = false := beq_eq_false_iff_ne.2 hk
                    have hk2 : (k != 0) = true := by simpa using hk
                    clear hcall hk
                    go_wp2_with (go_at_call 15; refine HCALL.out.mono ?_; rintro e w6 ⟨rfl, hb6⟩; have HB6 := Lib.hid (HBD.out.trans (hb6.mono HBD.out.size)); clear hb6)
                    obtain ⟨w7, hw7⟩ : ∃ v, v = (w6.alloc (.cells #[.slice none 0 0] 36)).alloc (.cells #[.int .i64 z1, .int .i64 z2] 58) := ⟨_, rfl⟩
                    rw [← hw7]
                    have HX6 : Hid (Below w6.heap.size w6 w7) := Lib.hid (by rw [hw7]; exact ((Below.refl _ _).alloc (Nat.le_refl _) _).alloc (by simp) _)
                    have HB7 : Hid (Below w.heap.size w w7) := Lib.hid (HB6.out.trans (HX6.out.mono HB6.out.size))
                    have HP7 : Hid (Row w7 w6.heap.size 36 #[.slice none 0 0]) := Lib.hid (by rw [hw7]; exact (Row.made _ _ _).alloc _)
                    clear hw7
                    refine Tame.wp_region_tame (by kernel_rfl) (by kernel_rfl) Tame.Later.refl Tame.Later.trans ?_
                    repeat
                      ((first
                        | (refine Tame.walk_off (fun _ => rfl) ?_)
                        | (refine Tame.walk_known (o := ⟨some 144, _, _, _, _, _⟩) (fun _ => rfl) ?_; apply Exists.intro; refine ⟨fun vals w8 hL hd => ?_, ?_⟩; (focus (have b := later_drew (B := w7.heap.size) hL (Nat.le_refl _); have HC := Lib.hid (HAW.out w8 (HB7.out.trans (b.mono HB7.out.size))); clear hd hL b; go_simp; exact Tame.known HC.out)))
                        | (refine Tame.walk_known (fun _ => rfl) ?_; apply Exists.intro; refine ⟨fun vals w8 hL hd => ?_, ?_⟩; (focus (go_simp; first | exact Tame.Is.mk (Tame.Later.refl _) | (rw [if_neg]; (focus exact Tame.Is.mk (Tame.Later.refl _)); omega)))))
                       simp only [Act.put, List.setIfInBounds_toArray, List.set_cons_zero, List.set_cons_succ, List.nil_append, List.cons_append])
                    refine Tame.walk_end fun vals w8 hL _ => ?_
                    have HB8 : Hid (Below w7.heap.size w7 w8) := later_drew hL (Nat.le_refl _)
                    clear hL
                    go_wp2_with fail
                    go_ret
                    exact ⟨rfl, HB7.out.trans (HB8.out.mono HB7.out.size)⟩
                  · obtain ⟨m8, hm8⟩ : ∃ m, m = ns8.length + 1 := ⟨_, rfl⟩
                    rw [← hm8] at hcall
                    have HCALL := Lib.hid hcall
                    have hm0 : 0 < m8 := by omega
                    clear hcall hm8
                    go_wp2_with (go_at_call 15; refine HCALL.out.mono ?_; rintro e w6 ⟨A8, c8, rfl, hn6, hb6⟩; have HN6 := Lib.hid hn6; have HX6' := Lib.hid hb6; have HB6 := Lib.hid (HBD.out.trans (hb6.mono HBD.out.size)); clear hb6 hn6)
                    obtain ⟨w7, hw7⟩ : ∃ v, v = (w6.alloc (.cells #[.slice A8 m8 c8] 36)).alloc (.cells #[.int .i64 0, .int .i64 0] 58) := ⟨_, rfl⟩
                    rw [← hw7]
                    have HX6 : Hid (Below w6.heap.size w6 w7) := Lib.hid (by rw [hw7]; exact ((Below.refl _ _).alloc (Nat.le_refl _) _).alloc (by simp) _)
                    have HB7 : Hid (Below w.heap.size w w7) := Lib.hid (HB6.out.trans (HX6.out.mono HB6.out.size))
                    have HP7 : Hid (Row w7 w6.heap.size 36 #[.slice A8 m8 c8]) := Lib.hid (by rw [hw7]; exact (Row.made _ _ _).alloc _)
                    clear hw7
                    have HX7 : Hid (Row w7 p 46 #[.int .i64 x.k, .int .i64 x.o, .int .i64 x.n, .string ⟨x.s.toArray⟩, .slice A2 x.ks.length c2]) := Lib.hid ((HRD.out.below HX6'.out HRD.out.lt).below HX6.out (HRD.out.below HX6'.out HRD.out.lt).lt)
                    have HKX : Hid (KS w7 (Old w7) A2 x.ks) := Lib.hid (HKD.out.move fun b hb => ⟨Nat.lt_of_lt_of_le (Nat.lt_of_lt_of_le hb HX6'.out.size) HX6.out.size, (HX6.out.block b (Nat.lt_of_lt_of_le hb HX6'.out.size)).trans (HX6'.out.block b hb)⟩)
                    obtain ⟨b1, off1, B1, d1, B2, d2, B3, d3, B4, d4, hA8, _, _, _, _, n4, _, _, _, hqs, hb1⟩ := NS.at' HN6.out (fun b hb => hb) HX6.out (i := 0) rfl
                    rw [hq8] at hqs n4
                    obtain ⟨b2, off2, C1, e1, C2, e2, hB4, _, q1, q2, q3, q4, q5, _, hks, hb2⟩ := QS.at' hqs (fun b hb => Nat.lt_of_lt_of_le hb HX6.out.size) (Below.refl _ _) (i := 0) rfl
                    subst hA8 hB4
                    simp only [Nat.zero_mul, Nat.add_zero] at n4 q1 q2 q3 q4 q5
                    have HN4 := Lib.hid n4
                    have HQ1 := Lib.hid q1
                    have HQ2 := Lib.hid q2
                    have HQ3 := Lib.hid q3
                    have HQ4 := Lib.hid q4
                    have HQ5 := Lib.hid q5
                    have HL1 : Hid (b1 < w7.heap.size) := Lib.hid (Nat.lt_of_lt_of_le hb1 HX6.out.size)
                    have HL2 : Hid (b2 < w7.heap.size) := Lib.hid hb2
                    have HSC : Hid (∀ w8, Below w7.heap.size w7 w8 → Calls Tryz.prog 21 #[.agg #[.int .i64 q8.rhs.k, .int .i64 q8.rhs.o, .int .i64 q8.rhs.n, .string ⟨q8.rhs.s.toArray⟩, .slice C2 q8.rhs.ks.length e2], .agg #[.int .i64 x.k, .int .i64 x.o, .int .i64 x.n, .string ⟨x.s.toArray⟩, .slice A2 x.ks.length c2]] w8 fun e w' => e = .returned (.bool false) ∧ Below w8.heap.size w8 w') := fun w8 hb => by
                      have := HSM.out q8.rhs w8 C2 e2 A2 c2 hok8.2.2 (hks.move fun b hb' => ⟨Nat.lt_of_lt_of_le hb' (Nat.le_trans HX6.out.size hb.size), hb.block b (Nat.lt_of_lt_of_le hb' HX6.out.size)⟩) (HKX.out.move fun b hb' => ⟨Nat.lt_of_lt_of_le hb' hb.size, hb.block b hb'⟩)
                      rw [hs8] at this
                      exact this
                    clear n4 q1 q2 q3 q4 q5 hks hqs hb1 hb2 hs8 hq8 hok8
                    refine Tame.wp_region_tame (by kernel_rfl) (by kernel_rfl) Tame.Later.refl Tame.Later.trans ?_
                    repeat
                      ((first
                        | (refine Tame.walk_off (fun _ => rfl) ?_)
                        | (refine Tame.walk_known (o := ⟨some 132, _, _, _, _, _⟩) (fun _ => rfl) ?_; apply Exists.intro; refine ⟨fun vals w8 hL hd => ?_, ?_⟩; (focus (have b := later_drew (B := w7.heap.size) hL (Nat.le_refl _); have r := HP7.out.below b HP7.out.lt; have u0 := r.cell 0; clear r; simp at u0; clear hd hL b; go_simp; exact Tame.Is.mk (Tame.Later.refl _))))
                        | (refine Tame.walk_known (o := ⟨some 135, _, _, _, _, _⟩) (fun _ => rfl) ?_; apply Exists.intro; refine ⟨fun vals w8 hL hd => ?_, ?_⟩; (focus (have b := later_drew (B := w7.heap.size) hL (Nat.le_refl _); have u0 := (b.cell (p := ⟨b1, off1 + 4, none⟩) HL1.out).trans HN4.out; clear hd hL b; go_simp; exact Tame.Is.mk (Tame.Later.refl _))))
                        | (refine Tame.walk_known (o := ⟨some 138, _, _, _, _, _⟩) (fun _ => rfl) ?_; apply Exists.intro; refine ⟨fun vals w8 hL hd => ?_, ?_⟩; (focus (have b := later_drew (B := w7.heap.size) hL (Nat.le_refl _); have u0 := (b.cell (p := ⟨b2, off2 + 1, none⟩) HL2.out).trans HQ1.out; have u1 := (b.cell (p := ⟨b2, off2 + 2, none⟩) HL2.out).trans HQ2.out; have u2 := (b.cell (p := ⟨b2, off2 + 3, none⟩) HL2.out).trans HQ3.out; have u3 := (b.cell (p := ⟨b2, off2 + 4, none⟩) HL2.out).trans HQ4.out; have u4 := (b.cell (p := ⟨b2, off2 + 5, none⟩) HL2.out).trans HQ5.out; clear hd hL b; go_simp; exact Tame.Is.mk (Tame.Later.refl _))))
                        | (refine Tame.walk_known (o := ⟨some 139, _, _, _, _, _⟩) (fun _ => rfl) ?_; apply Exists.intro; refine ⟨fun vals w8 hL hd => ?_, ?_⟩; (focus (have b := later_drew (B := w7.heap.size) hL (Nat.le_refl _); have r := HX7.out.below b HX7.out.lt; have u0 := r.cell 0; have u1 := r.cell 1; have u2 := r.cell 2; have u3 := r.cell 3; have u4 := r.cell 4; clear r; simp at u0 u1 u2 u3 u4; clear hd hL b; go_simp; exact Tame.Is.mk (Tame.Later.refl _))))
                        | (refine Tame.walk_known (o := ⟨some 140, _, _, _, _, _⟩) (fun _ => rfl) ?_; apply Exists.intro; refine ⟨fun vals w8 hL hd => ?_, ?_⟩; (focus (have b := later_drew (B := w7.heap.size) hL (Nat.le_refl _); have HC := Lib.hid (HSC.out w8 b); clear hd hL b; go_simp; exact Tame.known HC.out)))
                        | (refine Tame.walk_known (o := ⟨some 144, _, _, _, _, _⟩) (fun _ => rfl) ?_; apply Exists.intro; refine ⟨fun vals w8 hL hd => ?_, ?_⟩; (focus (have b := later_drew (B := w7.heap.size) hL (Nat.le_refl _); have HC := Lib.hid (HAW.out w8 (HB7.out.trans (b.mono HB7.out.size))); clear hd hL b; go_simp; exact Tame.known HC.out)))
                        | (refine Tame.walk_known (fun _ => rfl) ?_; apply Exists.intro; refine ⟨fun vals w8 hL hd => ?_, ?_⟩; (focus (go_simp; first | exact Tame.Is.mk (Tame.Later.refl _) | (rw [if_neg]; (focus exact Tame.Is.mk (Tame.Later.refl _)); omega)))))
                       simp only [Act.put, List.setIfInBounds_toArray, List.set_cons_zero, List.set_cons_succ, List.nil_append, List.cons_append])
                    refine Tame.walk_end fun vals w8 hL _ => ?_
                    have HB8 : Hid (Below w7.heap.size w7 w8) := later_drew hL (Nat.le_refl _)
                    clear hL
                    go_wp2_with fail
                    go_ret
                    exact ⟨rfl, HB7.out.trans (HB8.out.mono HB7.out.size)⟩
                · have q2 : ((D2 : Int) == 0) = false := beq_eq_false_iff_ne.2 (by omega)
                  go_wp2_with fail
                  go_roundg (s.length - (t + 1))
                  case rel => exact ⟨t + 1, D2, by omega, by omega, by go_num, by go_num, by omega, HK.out, .inl (by omega), rfl⟩
                  case measure => omega
              · have q2 : ((b.toNat : Int) == 41) = false := beq_eq_false_iff_ne.2 h41
                have q3 : ((D : Int) == 0) = false := beq_eq_false_iff_ne.2 (by omega)
                have HK := Lib.hid (HKC.out (fun h => h40 (by rw [h]; rfl)) (fun h => h41 (by rw [h]; rfl)))
                go_wp2_with fail
                go_roundg (s.length - (t + 1))
                case rel => exact ⟨t + 1, D, by omega, by omega, by go_num, rfl, by omega, HK.out, .inl hD1, rfl⟩
                case measure => omega

end Go.Proofs.YtdabndiaflagpaaGreatDoor
