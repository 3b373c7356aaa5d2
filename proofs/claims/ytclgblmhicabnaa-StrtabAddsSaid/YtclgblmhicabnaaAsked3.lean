/- DERIVED. The walk of asked: both readers side by side. -/
import Derived.Test.YtclgblmhicabnaaAsked2
import Derived.IntWalk
namespace Go.Proofs.Ytclgblmhicabnaa
open Go.RowKit Crc Nums Rd
attribute [local go_sem] Tame.Op Tame.upon

theorem spirits_less {H0 : Nat} {W : World} {br bw A p q d m a b c c' : Nat} {s t : St} {w : World} (hc : c = a ∨ c = b)
    (h : ∀ (k : Nat) (g : Tame.Ghost), (spirits H0 W br bw A p q d m a b s t)[k]? = some g → g.g w.drew ∧ (∀ w w', Tame.Later w w' → g.g w → g.g w') ∧
      ∀ j, [a, b].contains j = true → g.keeps.contains j = true → ∀ w w', Sides c' p q j w w' → g.g w → g.g w') :
    ∀ (k : Nat) (g : Tame.Ghost), (spirits H0 W br bw A p q d m a b s t)[k]? = some g → g.g w.drew ∧ (∀ w w', Tame.Later w w' → g.g w → g.g w') ∧
      ∀ j, [c].contains j = true → g.keeps.contains j = true → ∀ w w', Sides c' p q j w w' → g.g w → g.g w' := fun k g hk =>
  ⟨(h k g hk).1, (h k g hk).2.1, fun j hj => (h k g hk).2.2 j (by have := one_of hj; simp; omega)⟩

set_option maxRecDepth 100000 in
set_option maxHeartbeats 4000000 in
theorem asked_6 (H0 br bw d m : Nat) (s : St) (w : World) (h : Pair H0 w br bw s) (hd : d < 256) (h0 : H0 ≤ w.heap.size) (hk : d % 7 = 6) :
    Calls Try.prog 22 #[.pointer (some ⟨br, 0, none⟩), .pointer (some ⟨bw, 0, none⟩), .agg #[.int .u8 d, .int .u64 m]] w fun e w' => e = .returned (.bool true) ∧ (∃ s', Pair H0 w' br bw s') ∧ Below H0 w w' := by
  obtain ⟨p, q, hp, hq, hbr, hbw, r1, r2, hR, hF⟩ := h
  obtain ⟨A, hA⟩ : ∃ A, A = w.heap.size := ⟨_, rfl⟩
  have hap : Apart br bw A p q := by
    have l1 := r1.lt
    have l2 := r2.lt
    have l3 := hR.lt
    have l4 := hF.lt
    obtain ⟨A0, c0, hr, _⟩ := hR
    refine ⟨?_, ?_, ?_, ?_, by omega, by omega, ?_⟩
    · rintro rfl; have := (r1.same hr).2; cases this
    · rintro rfl; have := (r1.same hF.1).2; cases this
    · rintro rfl; have := (r2.same hr).2; cases this
    · rintro rfl; have := (r2.same hF.1).2; cases this
    · rintro rfl; have := (hr.same hF.1).2; cases this
  have t0 : (((d : Int) % 7) == 0) = false := beq_eq_false_iff_ne.2 (by omega)
  have t1 : (((d : Int) % 7) == 1) = false := beq_eq_false_iff_ne.2 (by omega)
  have t2 : (((d : Int) % 7) == 2) = false := beq_eq_false_iff_ne.2 (by omega)
  have t3 : (((d : Int) % 7) == 3) = false := beq_eq_false_iff_ne.2 (by omega)
  have t4 : (((d : Int) % 7) == 4) = false := beq_eq_false_iff_ne.2 (by omega)
  have t5 : (((d : Int) % 7) == 5) = false := beq_eq_false_iff_ne.2 (by omega)
  have t6 : (((d : Int) % 7) == 6) = true := by rw [beq_iff_eq]; omega
  obtain ⟨r, hr, hrl⟩ : ∃ r, r = m % 20 ∧ r < 20 := ⟨_, rfl, by omega⟩
  have e1 : ((m : Int)).tmod 20 = (r : Int) := by rw [Int.tmod_eq_emod_of_nonneg (by omega)]; omega
  have e2 : IntKind.i64.wrap (r : Int) = (r : Int) := IntWalk.i64_in _ (by omega)
  obtain ⟨s', hs'⟩ : ∃ s', s' = fail (r : Int) s := ⟨_, rfl⟩
  have CL : Hid (∀ W, RD W p s → Calls Try.prog 51 #[.pointer (some ⟨p, 0, none⟩), .int .i64 r] W fun en w' => en = .returned (.tuple #[]) ∧ RD w' p s' ∧ W.grownBy w' (some p)) := fun W h => by rw [hs']; exact Fail_any p r s W h
  have CR : Hid (∀ W, RF W q s → Calls Try.prog 52 #[.pointer (some ⟨q, 0, none⟩), .int .i64 r] W fun en w' => en = .returned (.tuple #[]) ∧ RF w' q s' ∧ W.grownBy w' (some q)) := fun W h => by rw [hs']; exact refFail_any q r s W h
  have W1 : Hid (Vars br bw A p q d m (w.alloc (.cells #[.int .u8 d, .int .u64 m] 49))) := Lib.hid ⟨r1.alloc _, r2.alloc _, by rw [hA]; exact Row.made w 49 _⟩
  have W2 : Hid (One p q s (w.alloc (.cells #[.int .u8 d, .int .u64 m] 49))) := Lib.hid (One.later ((Below.refl _ _).alloc (Nat.le_refl _) _) ⟨hR, s, hF⟩)
  have W3 : Hid (Two q s (w.alloc (.cells #[.int .u8 d, .int .u64 m] 49))) := Lib.hid (Two.later ((Below.refl _ _).alloc (Nat.le_refl _) _) hF)
  have W4 : Hid (Since H0 w (w.alloc (.cells #[.int .u8 d, .int .u64 m] 49))) := Lib.hid (Since.later ((Below.refl _ _).alloc (Nat.le_refl _) _) ⟨Below.refl _ _, h0⟩)
  have HAP := Lib.hid hap
  clear hap r1 r2 hR hF hs' hk hr
  rw [hA] at W1 HAP
  clear hA
  go_enter Try.func22, Try.ntmps22
  go_wp2_with fail
  refine Tame.wp_region_tamg (L := Tame.Later) (M := Sides 7 p q) (gs := spirits H0 w br bw w.heap.size p q d m 7 8 s s) [7] (by kernel_rfl) (by kernel_rfl) Tame.Later.refl (Sides.refl 7 p q) (spirits_less (.inl rfl) (spirits_ok (by omega) HAP.out hp hq W1.out W2.out W3.out W4.out)) ?_
  repeat
    ((first
      | (refine Tame.walk3_known (o := ⟨some 100, _, _, _, _, _⟩) (by kernel_rfl) (fun _ => rfl) ?_; apply Exists.intro; refine ⟨fun vals w2 hG hd => ?_, ?_⟩; (focus (have hv := (hG 0 _ rfl (by kernel_rfl) : Vars br bw w.heap.size p q d m w2).1.cell 0; clear hG hd; simp at hv; go_simp; exact Tame.Is.mk (Tame.Later.refl _))))
      | (refine Tame.walk3_known (o := ⟨some 102, _, _, _, _, _⟩) (by kernel_rfl) (fun _ => rfl) ?_; apply Exists.intro; refine ⟨fun vals w2 hG hd => ?_, ?_⟩; (focus (have hv := (hG 0 _ rfl (by kernel_rfl) : Vars br bw w.heap.size p q d m w2).2.2.cell 1; clear hG hd; simp at hv; go_simp; exact Tame.Is.mk (Tame.Later.refl _))))
      | (refine Tame.walk3_write (o := ⟨some 105, _, _, _, _, _⟩) (LeftSaid p q (.tuple #[]) s') (none) ([]) (fun _ => rfl) (by kernel_rfl) (by kernel_rfl) (fun v w w' hl h => ⟨h.1, h.2.later hl⟩) (fun j _ hj => by cases hj) (fun vals w2 hG hd => ?_) ?_; (focus (have h1 := (hG 1 _ rfl (by kernel_rfl) : One p q s w2); clear hG hd; obtain ⟨h1, s2, h2⟩ := h1; have HH := Lib.hid h2; have HC := Lib.hid (CL.out w2 h1); clear h1 h2; go_simp; exact HC.out.mono fun e w' ⟨he, hr, hg⟩ => ⟨_, he, Sides.left hg, rfl, hr, s2, RF.other HH.out hg (by have := HAP.out.2.2.2.2.2.2; omega)⟩)))
      | (refine Tame.walk3_known (by kernel_rfl) (fun _ => rfl) ?_; apply Exists.intro; refine ⟨fun vals w2 hG hd => ?_, ?_⟩; (focus (go_simp; first | exact Tame.Is.mk (Tame.Later.refl _) | (rw [if_neg]; (focus exact Tame.Is.mk (Tame.Later.refl _)); omega)))))
     simp only [Act.put, List.setIfInBounds_toArray, List.set_cons_zero, List.set_cons_succ, List.nil_append, List.cons_append, List.length_cons, List.length_nil, Nat.zero_add, Nat.reduceAdd])
  refine Tame.walk3_end fun vals w2 hG hts => ?_
  have f1 : LeftSaid p q (.tuple #[]) s' (vals 7) w2 := hts 7 _ rfl rfl
  have V1 : Hid (Vars br bw w.heap.size p q d m w2) := hG 0 _ rfl (by kernel_rfl)
  have V2 := Lib.hid f1.2
  have V3 : Hid (Two q s w2) := hG 2 _ rfl (by kernel_rfl)
  have V4 : Hid (Since H0 w w2) := hG 3 _ rfl (by kernel_rfl)
  clear f1 hts hG W1 W2 W3 W4
  go_wp2_with fail
  refine Tame.wp_region_tamg (L := Tame.Later) (M := Sides 8 p q) (gs := spirits H0 w br bw w.heap.size p q d m 8 7 s' s) [7] (by kernel_rfl) (by kernel_rfl) Tame.Later.refl (Sides.refl 8 p q) (spirits_less (.inr rfl) (spirits_ok (by omega) HAP.out hp hq V1.out V2.out V3.out V4.out)) ?_
  repeat
    ((first
      | (refine Tame.walk3_known (o := ⟨some 108, _, _, _, _, _⟩) (by kernel_rfl) (fun _ => rfl) ?_; apply Exists.intro; refine ⟨fun vals w2 hG hd => ?_, ?_⟩; (focus (have hv := (hG 0 _ rfl (by kernel_rfl) : Vars br bw w.heap.size p q d m w2).2.1.cell 0; clear hG hd; simp at hv; go_simp; exact Tame.Is.mk (Tame.Later.refl _))))
      | (refine Tame.walk3_known (o := ⟨some 110, _, _, _, _, _⟩) (by kernel_rfl) (fun _ => rfl) ?_; apply Exists.intro; refine ⟨fun vals w2 hG hd => ?_, ?_⟩; (focus (have hv := (hG 0 _ rfl (by kernel_rfl) : Vars br bw w.heap.size p q d m w2).2.2.cell 1; clear hG hd; simp at hv; go_simp; exact Tame.Is.mk (Tame.Later.refl _))))
      | (refine Tame.walk3_write (o := ⟨some 113, _, _, _, _, _⟩) (RightSaid q (.tuple #[]) s') (none) ([]) (fun _ => rfl) (by kernel_rfl) (by kernel_rfl) (fun v w w' hl h => ⟨h.1, h.2.later hl⟩) (fun j _ hj => by cases hj) (fun vals w2 hG hd => ?_) ?_; (focus (have h1 := (hG 2 _ rfl (by kernel_rfl) : Two q s w2); clear hG hd; have HC := Lib.hid (CR.out w2 h1); clear h1; go_simp; exact HC.out.mono fun e w' ⟨he, hr, hg⟩ => ⟨_, he, Sides.right (a := 8) (by omega) hg hr, rfl, hr⟩)))
      | (refine Tame.walk3_known (by kernel_rfl) (fun _ => rfl) ?_; apply Exists.intro; refine ⟨fun vals w2 hG hd => ?_, ?_⟩; (focus (go_simp; first | exact Tame.Is.mk (Tame.Later.refl _) | (rw [if_neg]; (focus exact Tame.Is.mk (Tame.Later.refl _)); omega)))))
     simp only [Act.put, List.setIfInBounds_toArray, List.set_cons_zero, List.set_cons_succ, List.nil_append, List.cons_append, List.length_cons, List.length_nil, Nat.zero_add, Nat.reduceAdd])
  refine Tame.walk3_end fun vals2 w3 hG hts => ?_
  have f2 : RightSaid q (.tuple #[]) s' (vals2 7) w3 := hts 7 _ rfl rfl
  have f1 : One p q s' w3 := hG 1 _ rfl (by kernel_rfl)
  have f3 : Vars br bw w.heap.size p q d m w3 := hG 0 _ rfl (by kernel_rfl)
  have f4 : Since H0 w w3 := hG 3 _ rfl (by kernel_rfl)
  have HP : Hid (Pair H0 w3 br bw s') := Lib.hid ⟨p, q, hp, hq, hbr, hbw, f3.1, f3.2.1, f1.1, f2.2⟩
  have HB := Lib.hid f4.1
  clear f1 f2 f3 f4 hts hG
  go_wp2_with fail
  go_ret
  exact ⟨rfl, ⟨_, HP.out⟩, HB.out⟩

end Go.Proofs.Ytclgblmhicabnaa
