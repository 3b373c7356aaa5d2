/- DERIVED. The walk of asked: both readers side by side. -/
import Derived.Test.YtclgblmhicabnaaAsked
namespace Go.Proofs.Ytclgblmhicabnaa
open Go.RowKit Crc Nums Rd
attribute [local go_sem] Tame.Op Tame.upon

set_option maxRecDepth 100000 in
set_option maxHeartbeats 4000000 in
theorem asked_0 (H0 br bw d m : Nat) (s : St) (w : World) (h : Pair H0 w br bw s) (hd : d < 256) (h0 : H0 ≤ w.heap.size) (hk : d % 7 = 0) :
    Calls Try.prog 22 #[.pointer (some ⟨br, 0, none⟩), .pointer (some ⟨bw, 0, none⟩), .agg #[.int .u8 d, .int .u64 m]] w fun e w' => e = .returned (.bool true) ∧ (∃ s', Pair H0 w' br bw s') ∧ Below H0 w w' := by
  obtain ⟨p, q, hp, hq, hbr, hbw, r1, r2, hR, hF⟩ := h
  obtain ⟨A, hA⟩ : ∃ A, A = w.heap.size := ⟨_, rfl⟩
  have hap : Apart br bw A p q := by
    have l1 := r1.lt
    have l2 := r2.lt
    have l3 := hR.lt
    have l4 := hF.lt
    obtain ⟨A0, c0, hr, _⟩ := hR
    refine ⟨?_, ?_, ?_, ?_, by omega, by omega, ?_⟩
    · rintro rfl; have := (r1.same hr).2; cases this
    · rintro rfl; have := (r1.same hF.1).2; cases this
    · rintro rfl; have := (r2.same hr).2; cases this
    · rintro rfl; have := (r2.same hF.1).2; cases this
    · rintro rfl; have := (hr.same hF.1).2; cases this
  have t0 : (((d : Int) % 7) == 0) = true := by rw [beq_iff_eq]; omega
  obtain ⟨x, hx⟩ : ∃ x, x = (num 1 s).1 := ⟨_, rfl⟩
  obtain ⟨s', hs'⟩ : ∃ s', s' = (num 1 s).2 := ⟨_, rfl⟩
  have hxl : x < 256 ^ 1 := by rw [hx]; exact num_lt 1 s
  have CL : Hid (∀ W, RD W p s → Calls Try.prog 46 #[.pointer (some ⟨p, 0, none⟩)] W (Numbered W p .u8 x s')) := fun W h => by rw [hx, hs']; exact Byte_any p s W h
  have CR : Hid (∀ W, RF W q s → Calls Try.prog 47 #[.pointer (some ⟨q, 0, none⟩), .int .u64 1] W (Counted W q x s')) := fun W h => by rw [hx, hs']; exact refNum_any q 1 s W h (by omega)
  have ew : IntKind.u64.wrap (x : Int) = (x : Int) := by rw [IntKind.wrap_u64]; omega
  have W1 : Hid (Vars br bw A p q d m (w.alloc (.cells #[.int .u8 d, .int .u64 m] 49))) := Lib.hid ⟨r1.alloc _, r2.alloc _, by rw [hA]; exact Row.made w 49 _⟩
  have W2 : Hid (One p q s (w.alloc (.cells #[.int .u8 d, .int .u64 m] 49))) := Lib.hid (One.later ((Below.refl _ _).alloc (Nat.le_refl _) _) ⟨hR, s, hF⟩)
  have W3 : Hid (Two q s (w.alloc (.cells #[.int .u8 d, .int .u64 m] 49))) := Lib.hid (Two.later ((Below.refl _ _).alloc (Nat.le_refl _) _) hF)
  have W4 : Hid (Since H0 w (w.alloc (.cells #[.int .u8 d, .int .u64 m] 49))) := Lib.hid (Since.later ((Below.refl _ _).alloc (Nat.le_refl _) _) ⟨Below.refl _ _, h0⟩)
  have HAP := Lib.hid hap
  clear hap r1 r2 hR hF hx hs' hk
  go_enter Try.func22, Try.ntmps22
  go_wp2_with fail
  refine Tame.wp_region_tamg (L := Tame.Later) (M := Sides 3 p q) (gs := spirits H0 w br bw A p q d m 3 8 s s) [3, 8] (by kernel_rfl) (by kernel_rfl) Tame.Later.refl (Sides.refl 3 p q) (spirits_ok (by omega) HAP.out hp hq W1.out W2.out W3.out W4.out) ?_
  repeat
    ((first
      | (refine Tame.walk3_known (o := ⟨some 14, _, _, _, _, _⟩) (by kernel_rfl) (fun _ => rfl) ?_; apply Exists.intro; refine ⟨fun vals w2 hG hd => ?_, ?_⟩; (focus (have hv := (hG 0 _ rfl (by kernel_rfl) : Vars br bw A p q d m w2).1.cell 0; clear hG hd; simp at hv; go_simp; exact Tame.Is.mk (Tame.Later.refl _))))
      | (refine Tame.walk3_known (o := ⟨some 19, _, _, _, _, _⟩) (by kernel_rfl) (fun _ => rfl) ?_; apply Exists.intro; refine ⟨fun vals w2 hG hd => ?_, ?_⟩; (focus (have hv := (hG 0 _ rfl (by kernel_rfl) : Vars br bw A p q d m w2).2.1.cell 0; clear hG hd; simp at hv; go_simp; exact Tame.Is.mk (Tame.Later.refl _))))
      | (refine Tame.walk3_write (o := ⟨some 15, _, _, _, _, _⟩) (LeftSaid p q (.int .u8 x) s') (none) ([8]) (fun _ => rfl) (by kernel_rfl) (by kernel_rfl) (fun v w w' hl h => ⟨h.1, h.2.later hl⟩) (fun j _ hj v w w' hs h => ⟨h.1, h.2.right (by have := one_of hj; omega) hs⟩) (fun vals w2 hG hd => ?_) ?_; (focus (have h1 := (hG 1 _ rfl (by kernel_rfl) : One p q s w2); clear hG hd; obtain ⟨h1, s2, h2⟩ := h1; have HH := Lib.hid h2; have HC := Lib.hid (CL.out w2 h1); clear h1 h2; go_simp; exact HC.out.mono fun e w' ⟨he, hr, hg⟩ => ⟨_, he, Sides.left hg, rfl, hr, s2, RF.other HH.out hg (by have := HAP.out.2.2.2.2.2.2; omega)⟩)))
      | (refine Tame.walk3_write (o := ⟨some 20, _, _, _, _, _⟩) (RightSaid q (.int .u64 x) s') (none) ([3]) (fun _ => rfl) (by kernel_rfl) (by kernel_rfl) (fun v w w' hl h => ⟨h.1, h.2.later hl⟩) (fun j _ hj v w w' hs h => ⟨h.1, h.2.left HAP.out (by have := one_of hj; subst this; exact hs)⟩) (fun vals w2 hG hd => ?_) ?_; (focus (have h1 := (hG 2 _ rfl (by kernel_rfl) : Two q s w2); clear hG hd; have HC := Lib.hid (CR.out w2 h1); clear h1; go_simp; exact HC.out.mono fun e w' ⟨he, hr, hg⟩ => ⟨_, he, Sides.right (by omega) hg hr, rfl, hr⟩)))
      | (refine Tame.walk3_known (o := ⟨some 16, _, _, _, _, _⟩) (by kernel_rfl) (fun _ => rfl) ?_; apply Exists.intro; refine ⟨fun vals w2 hG hd => ?_, ?_⟩; (focus (have hv := (hd 3 _ rfl (by kernel_rfl) rfl : LeftSaid p q (.int .u8 x) s' (vals 3) w2).1; clear hG hd; go_simp; exact Tame.Is.mk (Tame.Later.refl _))))
      | (refine Tame.walk3_known (o := ⟨some 21, _, _, _, _, _⟩) (by kernel_rfl) (fun _ => rfl) ?_; apply Exists.intro; refine ⟨fun vals w2 hG hd => ?_, ?_⟩; (focus (have hv := (hd 8 _ rfl (by kernel_rfl) rfl : RightSaid q (.int .u64 x) s' (vals 8) w2).1; clear hG hd; go_simp; exact Tame.Is.mk (Tame.Later.refl _))))
      | (refine Tame.walk3_known (by kernel_rfl) (fun _ => rfl) ?_; apply Exists.intro; refine ⟨fun vals w2 hG hd => ?_, ?_⟩; (focus (go_simp; first | exact Tame.Is.mk (Tame.Later.refl _) | (rw [if_neg]; (focus exact Tame.Is.mk (Tame.Later.refl _)); omega)))))
     simp only [Act.put, List.setIfInBounds_toArray, List.set_cons_zero, List.set_cons_succ, List.nil_append, List.cons_append, List.length_cons, List.length_nil, Nat.zero_add, Nat.reduceAdd])
  refine Tame.walk3_end fun vals w2 hG hts => ?_
  have f1 : LeftSaid p q (.int .u8 x) s' (vals 3) w2 := hts 3 _ rfl rfl
  have f2 : RightSaid q (.int .u64 x) s' (vals 8) w2 := hts 8 _ rfl rfl
  have f3 : Vars br bw A p q d m w2 := hG 0 _ rfl (by kernel_rfl)
  have f4 : Since H0 w w2 := hG 3 _ rfl (by kernel_rfl)
  have HP : Hid (Pair H0 w2 br bw s') := Lib.hid ⟨p, q, hp, hq, hbr, hbw, f3.1, f3.2.1, f1.2.1, f2.2⟩
  have HB := Lib.hid f4.1
  clear f1 f2 f3 f4 hts hG
  go_wp2_with fail
  go_ret
  exact ⟨rfl, ⟨_, HP.out⟩, HB.out⟩

set_option maxRecDepth 100000 in
set_option maxHeartbeats 4000000 in
theorem asked_1 (H0 br bw d m : Nat) (s : St) (w : World) (h : Pair H0 w br bw s) (hd : d < 256) (h0 : H0 ≤ w.heap.size) (hk : d % 7 = 1) :
    Calls Try.prog 22 #[.pointer (some ⟨br, 0, none⟩), .pointer (some ⟨bw, 0, none⟩), .agg #[.int .u8 d, .int .u64 m]] w fun e w' => e = .returned (.bool true) ∧ (∃ s', Pair H0 w' br bw s') ∧ Below H0 w w' := by
  obtain ⟨p, q, hp, hq, hbr, hbw, r1, r2, hR, hF⟩ := h
  obtain ⟨A, hA⟩ : ∃ A, A = w.heap.size := ⟨_, rfl⟩
  have hap : Apart br bw A p q := by
    have l1 := r1.lt
    have l2 := r2.lt
    have l3 := hR.lt
    have l4 := hF.lt
    obtain ⟨A0, c0, hr, _⟩ := hR
    refine ⟨?_, ?_, ?_, ?_, by omega, by omega, ?_⟩
    · rintro rfl; have := (r1.same hr).2; cases this
    · rintro rfl; have := (r1.same hF.1).2; cases this
    · rintro rfl; have := (r2.same hr).2; cases this
    · rintro rfl; have := (r2.same hF.1).2; cases this
    · rintro rfl; have := (hr.same hF.1).2; cases this
  have t0 : (((d : Int) % 7) == 0) = false := beq_eq_false_iff_ne.2 (by omega)
  have t1 : (((d : Int) % 7) == 1) = true := by rw [beq_iff_eq]; omega
  obtain ⟨x, hx⟩ : ∃ x, x = (num 2 s).1 := ⟨_, rfl⟩
  obtain ⟨s', hs'⟩ : ∃ s', s' = (num 2 s).2 := ⟨_, rfl⟩
  have hxl : x < 256 ^ 2 := by rw [hx]; exact num_lt 2 s
  have CL : Hid (∀ W, RD W p s → Calls Try.prog 28 #[.pointer (some ⟨p, 0, none⟩)] W (Numbered W p .u16 x s')) := fun W h => by rw [hx, hs']; exact U16_any p s W h
  have CR : Hid (∀ W, RF W q s → Calls Try.prog 47 #[.pointer (some ⟨q, 0, none⟩), .int .u64 2] W (Counted W q x s')) := fun W h => by rw [hx, hs']; exact refNum_any q 2 s W h (by omega)
  have ew : IntKind.u64.wrap (x : Int) = (x : Int) := by rw [IntKind.wrap_u64]; omega
  have W1 : Hid (Vars br bw A p q d m (w.alloc (.cells #[.int .u8 d, .int .u64 m] 49))) := Lib.hid ⟨r1.alloc _, r2.alloc _, by rw [hA]; exact Row.made w 49 _⟩
  have W2 : Hid (One p q s (w.alloc (.cells #[.int .u8 d, .int .u64 m] 49))) := Lib.hid (One.later ((Below.refl _ _).alloc (Nat.le_refl _) _) ⟨hR, s, hF⟩)
  have W3 : Hid (Two q s (w.alloc (.cells #[.int .u8 d, .int .u64 m] 49))) := Lib.hid (Two.later ((Below.refl _ _).alloc (Nat.le_refl _) _) hF)
  have W4 : Hid (Since H0 w (w.alloc (.cells #[.int .u8 d, .int .u64 m] 49))) := Lib.hid (Since.later ((Below.refl _ _).alloc (Nat.le_refl _) _) ⟨Below.refl _ _, h0⟩)
  have HAP := Lib.hid hap
  clear hap r1 r2 hR hF hx hs' hk
  go_enter Try.func22, Try.ntmps22
  go_wp2_with fail
  refine Tame.wp_region_tamg (L := Tame.Later) (M := Sides 3 p q) (gs := spirits H0 w br bw A p q d m 3 8 s s) [3, 8] (by kernel_rfl) (by kernel_rfl) Tame.Later.refl (Sides.refl 3 p q) (spirits_ok (by omega) HAP.out hp hq W1.out W2.out W3.out W4.out) ?_
  repeat
    ((first
      | (refine Tame.walk3_known (o := ⟨some 26, _, _, _, _, _⟩) (by kernel_rfl) (fun _ => rfl) ?_; apply Exists.intro; refine ⟨fun vals w2 hG hd => ?_, ?_⟩; (focus (have hv := (hG 0 _ rfl (by kernel_rfl) : Vars br bw A p q d m w2).1.cell 0; clear hG hd; simp at hv; go_simp; exact Tame.Is.mk (Tame.Later.refl _))))
      | (refine Tame.walk3_known (o := ⟨some 31, _, _, _, _, _⟩) (by kernel_rfl) (fun _ => rfl) ?_; apply Exists.intro; refine ⟨fun vals w2 hG hd => ?_, ?_⟩; (focus (have hv := (hG 0 _ rfl (by kernel_rfl) : Vars br bw A p q d m w2).2.1.cell 0; clear hG hd; simp at hv; go_simp; exact Tame.Is.mk (Tame.Later.refl _))))
      | (refine Tame.walk3_write (o := ⟨some 27, _, _, _, _, _⟩) (LeftSaid p q (.int .u16 x) s') (none) ([8]) (fun _ => rfl) (by kernel_rfl) (by kernel_rfl) (fun v w w' hl h => ⟨h.1, h.2.later hl⟩) (fun j _ hj v w w' hs h => ⟨h.1, h.2.right (by have := one_of hj; omega) hs⟩) (fun vals w2 hG hd => ?_) ?_; (focus (have h1 := (hG 1 _ rfl (by kernel_rfl) : One p q s w2); clear hG hd; obtain ⟨h1, s2, h2⟩ := h1; have HH := Lib.hid h2; have HC := Lib.hid (CL.out w2 h1); clear h1 h2; go_simp; exact HC.out.mono fun e w' ⟨he, hr, hg⟩ => ⟨_, he, Sides.left hg, rfl, hr, s2, RF.other HH.out hg (by have := HAP.out.2.2.2.2.2.2; omega)⟩)))
      | (refine Tame.walk3_write (o := ⟨some 32, _, _, _, _, _⟩) (RightSaid q (.int .u64 x) s') (none) ([3]) (fun _ => rfl) (by kernel_rfl) (by kernel_rfl) (fun v w w' hl h => ⟨h.1, h.2.later hl⟩) (fun j _ hj v w w' hs h => ⟨h.1, h.2.left HAP.out (by have := one_of hj; subst this; exact hs)⟩) (fun vals w2 hG hd => ?_) ?_; (focus (have h1 := (hG 2 _ rfl (by kernel_rfl) : Two q s w2); clear hG hd; have HC := Lib.hid (CR.out w2 h1); clear h1; go_simp; exact HC.out.mono fun e w' ⟨he, hr, hg⟩ => ⟨_, he, Sides.right (by omega) hg hr, rfl, hr⟩)))
      | (refine Tame.walk3_known (o := ⟨some 28, _, _, _, _, _⟩) (by kernel_rfl) (fun _ => rfl) ?_; apply Exists.intro; refine ⟨fun vals w2 hG hd => ?_, ?_⟩; (focus (have hv := (hd 3 _ rfl (by kernel_rfl) rfl : LeftSaid p q (.int .u16 x) s' (vals 3) w2).1; clear hG hd; go_simp; exact Tame.Is.mk (Tame.Later.refl _))))
      | (refine Tame.walk3_known (o := ⟨some 33, _, _, _, _, _⟩) (by kernel_rfl) (fun _ => rfl) ?_; apply Exists.intro; refine ⟨fun vals w2 hG hd => ?_, ?_⟩; (focus (have hv := (hd 8 _ rfl (by kernel_rfl) rfl : RightSaid q (.int .u64 x) s' (vals 8) w2).1; clear hG hd; go_simp; exact Tame.Is.mk (Tame.Later.refl _))))
      | (refine Tame.walk3_known (by kernel_rfl) (fun _ => rfl) ?_; apply Exists.intro; refine ⟨fun vals w2 hG hd => ?_, ?_⟩; (focus (go_simp; first | exact Tame.Is.mk (Tame.Later.refl _) | (rw [if_neg]; (focus exact Tame.Is.mk (Tame.Later.refl _)); omega)))))
     simp only [Act.put, List.setIfInBounds_toArray, List.set_cons_zero, List.set_cons_succ, List.nil_append, List.cons_append, List.length_cons, List.length_nil, Nat.zero_add, Nat.reduceAdd])
  refine Tame.walk3_end fun vals w2 hG hts => ?_
  have f1 : LeftSaid p q (.int .u16 x) s' (vals 3) w2 := hts 3 _ rfl rfl
  have f2 : RightSaid q (.int .u64 x) s' (vals 8) w2 := hts 8 _ rfl rfl
  have f3 : Vars br bw A p q d m w2 := hG 0 _ rfl (by kernel_rfl)
  have f4 : Since H0 w w2 := hG 3 _ rfl (by kernel_rfl)
  have HP : Hid (Pair H0 w2 br bw s') := Lib.hid ⟨p, q, hp, hq, hbr, hbw, f3.1, f3.2.1, f1.2.1, f2.2⟩
  have HB := Lib.hid f4.1
  clear f1 f2 f3 f4 hts hG
  go_wp2_with fail
  go_ret
  exact ⟨rfl, ⟨_, HP.out⟩, HB.out⟩

set_option maxRecDepth 100000 in
set_option maxHeartbeats 4000000 in
theorem asked_2 (H0 br bw d m : Nat) (s : St) (w : World) (h : Pair H0 w br bw s) (hd : d < 256) (h0 : H0 ≤ w.heap.size) (hk : d % 7 = 2) :
    Calls Try.prog 22 #[.pointer (some ⟨br, 0, none⟩), .pointer (some ⟨bw, 0, none⟩), .agg #[.int .u8 d, .int .u64 m]] w fun e w' => e = .returned (.bool true) ∧ (∃ s', Pair H0 w' br bw s') ∧ Below H0 w w' := by
  obtain ⟨p, q, hp, hq, hbr, hbw, r1, r2, hR, hF⟩ := h
  obtain ⟨A, hA⟩ : ∃ A, A = w.heap.size := ⟨_, rfl⟩
  have hap : Apart br bw A p q := by
    have l1 := r1.lt
    have l2 := r2.lt
    have l3 := hR.lt
    have l4 := hF.lt
    obtain ⟨A0, c0, hr, _⟩ := hR
    refine ⟨?_, ?_, ?_, ?_, by omega, by omega, ?_⟩
    · rintro rfl; have := (r1.same hr).2; cases this
    · rintro rfl; have := (r1.same hF.1).2; cases this
    · rintro rfl; have := (r2.same hr).2; cases this
    · rintro rfl; have := (r2.same hF.1).2; cases this
    · rintro rfl; have := (hr.same hF.1).2; cases this
  have t0 : (((d : Int) % 7) == 0) = false := beq_eq_false_iff_ne.2 (by omega)
  have t1 : (((d : Int) % 7) == 1) = false := beq_eq_false_iff_ne.2 (by omega)
  have t2 : (((d : Int) % 7) == 2) = true := by rw [beq_iff_eq]; omega
  obtain ⟨x, hx⟩ : ∃ x, x = (num 4 s).1 := ⟨_, rfl⟩
  obtain ⟨s', hs'⟩ : ∃ s', s' = (num 4 s).2 := ⟨_, rfl⟩
  have hxl : x < 256 ^ 4 := by rw [hx]; exact num_lt 4 s
  have CL : Hid (∀ W, RD W p s → Calls Try.prog 29 #[.pointer (some ⟨p, 0, none⟩)] W (Numbered W p .u32 x s')) := fun W h => by rw [hx, hs']; exact U32_any p s W h
  have CR : Hid (∀ W, RF W q s → Calls Try.prog 47 #[.pointer (some ⟨q, 0, none⟩), .int .u64 4] W (Counted W q x s')) := fun W h => by rw [hx, hs']; exact refNum_any q 4 s W h (by omega)
  have ew : IntKind.u64.wrap (x : Int) = (x : Int) := by rw [IntKind.wrap_u64]; omega
  have W1 : Hid (Vars br bw A p q d m (w.alloc (.cells #[.int .u8 d, .int .u64 m] 49))) := Lib.hid ⟨r1.alloc _, r2.alloc _, by rw [hA]; exact Row.made w 49 _⟩
  have W2 : Hid (One p q s (w.alloc (.cells #[.int .u8 d, .int .u64 m] 49))) := Lib.hid (One.later ((Below.refl _ _).alloc (Nat.le_refl _) _) ⟨hR, s, hF⟩)
  have W3 : Hid (Two q s (w.alloc (.cells #[.int .u8 d, .int .u64 m] 49))) := Lib.hid (Two.later ((Below.refl _ _).alloc (Nat.le_refl _) _) hF)
  have W4 : Hid (Since H0 w (w.alloc (.cells #[.int .u8 d, .int .u64 m] 49))) := Lib.hid (Since.later ((Below.refl _ _).alloc (Nat.le_refl _) _) ⟨Below.refl _ _, h0⟩)
  have HAP := Lib.hid hap
  clear hap r1 r2 hR hF hx hs' hk
  go_enter Try.func22, Try.ntmps22
  go_wp2_with fail
  refine Tame.wp_region_tamg (L := Tame.Later) (M := Sides 3 p q) (gs := spirits H0 w br bw A p q d m 3 8 s s) [3, 8] (by kernel_rfl) (by kernel_rfl) Tame.Later.refl (Sides.refl 3 p q) (spirits_ok (by omega) HAP.out hp hq W1.out W2.out W3.out W4.out) ?_
  repeat
    ((first
      | (refine Tame.walk3_known (o := ⟨some 38, _, _, _, _, _⟩) (by kernel_rfl) (fun _ => rfl) ?_; apply Exists.intro; refine ⟨fun vals w2 hG hd => ?_, ?_⟩; (focus (have hv := (hG 0 _ rfl (by kernel_rfl) : Vars br bw A p q d m w2).1.cell 0; clear hG hd; simp at hv; go_simp; exact Tame.Is.mk (Tame.Later.refl _))))
      | (refine Tame.walk3_known (o := ⟨some 43, _, _, _, _, _⟩) (by kernel_rfl) (fun _ => rfl) ?_; apply Exists.intro; refine ⟨fun vals w2 hG hd => ?_, ?_⟩; (focus (have hv := (hG 0 _ rfl (by kernel_rfl) : Vars br bw A p q d m w2).2.1.cell 0; clear hG hd; simp at hv; go_simp; exact Tame.Is.mk (Tame.Later.refl _))))
      | (refine Tame.walk3_write (o := ⟨some 39, _, _, _, _, _⟩) (LeftSaid p q (.int .u32 x) s') (none) ([8]) (fun _ => rfl) (by kernel_rfl) (by kernel_rfl) (fun v w w' hl h => ⟨h.1, h.2.later hl⟩) (fun j _ hj v w w' hs h => ⟨h.1, h.2.right (by have := one_of hj; omega) hs⟩) (fun vals w2 hG hd => ?_) ?_; (focus (have h1 := (hG 1 _ rfl (by kernel_rfl) : One p q s w2); clear hG hd; obtain ⟨h1, s2, h2⟩ := h1; have HH := Lib.hid h2; have HC := Lib.hid (CL.out w2 h1); clear h1 h2; go_simp; exact HC.out.mono fun e w' ⟨he, hr, hg⟩ => ⟨_, he, Sides.left hg, rfl, hr, s2, RF.other HH.out hg (by have := HAP.out.2.2.2.2.2.2; omega)⟩)))
      | (refine Tame.walk3_write (o := ⟨some 44, _, _, _, _, _⟩) (RightSaid q (.int .u64 x) s') (none) ([3]) (fun _ => rfl) (by kernel_rfl) (by kernel_rfl) (fun v w w' hl h => ⟨h.1, h.2.later hl⟩) (fun j _ hj v w w' hs h => ⟨h.1, h.2.left HAP.out (by have := one_of hj; subst this; exact hs)⟩) (fun vals w2 hG hd => ?_) ?_; (focus (have h1 := (hG 2 _ rfl (by kernel_rfl) : Two q s w2); clear hG hd; have HC := Lib.hid (CR.out w2 h1); clear h1; go_simp; exact HC.out.mono fun e w' ⟨he, hr, hg⟩ => ⟨_, he, Sides.right (by omega) hg hr, rfl, hr⟩)))
      | (refine Tame.walk3_known (o := ⟨some 40, _, _, _, _, _⟩) (by kernel_rfl) (fun _ => rfl) ?_; apply Exists.intro; refine ⟨fun vals w2 hG hd => ?_, ?_⟩; (focus (have hv := (hd 3 _ rfl (by kernel_rfl) rfl : LeftSaid p q (.int .u32 x) s' (vals 3) w2).1; clear hG hd; go_simp; exact Tame.Is.mk (Tame.Later.refl _))))
      | (refine Tame.walk3_known (o := ⟨some 45, _, _, _, _, _⟩) (by kernel_rfl) (fun _ => rfl) ?_; apply Exists.intro; refine ⟨fun vals w2 hG hd => ?_, ?_⟩; (focus (have hv := (hd 8 _ rfl (by kernel_rfl) rfl : RightSaid q (.int .u64 x) s' (vals 8) w2).1; clear hG hd; go_simp; exact Tame.Is.mk (Tame.Later.refl _))))
      | (refine Tame.walk3_known (by kernel_rfl) (fun _ => rfl) ?_; apply Exists.intro; refine ⟨fun vals w2 hG hd => ?_, ?_⟩; (focus (go_simp; first | exact Tame.Is.mk (Tame.Later.refl _) | (rw [if_neg]; (focus exact Tame.Is.mk (Tame.Later.refl _)); omega)))))
     simp only [Act.put, List.setIfInBounds_toArray, List.set_cons_zero, List.set_cons_succ, List.nil_append, List.cons_append, List.length_cons, List.length_nil, Nat.zero_add, Nat.reduceAdd])
  refine Tame.walk3_end fun vals w2 hG hts => ?_
  have f1 : LeftSaid p q (.int .u32 x) s' (vals 3) w2 := hts 3 _ rfl rfl
  have f2 : RightSaid q (.int .u64 x) s' (vals 8) w2 := hts 8 _ rfl rfl
  have f3 : Vars br bw A p q d m w2 := hG 0 _ rfl (by kernel_rfl)
  have f4 : Since H0 w w2 := hG 3 _ rfl (by kernel_rfl)
  have HP : Hid (Pair H0 w2 br bw s') := Lib.hid ⟨p, q, hp, hq, hbr, hbw, f3.1, f3.2.1, f1.2.1, f2.2⟩
  have HB := Lib.hid f4.1
  clear f1 f2 f3 f4 hts hG
  go_wp2_with fail
  go_ret
  exact ⟨rfl, ⟨_, HP.out⟩, HB.out⟩

set_option maxRecDepth 100000 in
set_option maxHeartbeats 4000000 in
theorem asked_3 (H0 br bw d m : Nat) (s : St) (w : World) (h : Pair H0 w br bw s) (hd : d < 256) (h0 : H0 ≤ w.heap.size) (hk : d % 7 = 3) :
    Calls Try.prog 22 #[.pointer (some ⟨br, 0, none⟩), .pointer (some ⟨bw, 0, none⟩), .agg #[.int .u8 d, .int .u64 m]] w fun e w' => e = .returned (.bool true) ∧ (∃ s', Pair H0 w' br bw s') ∧ Below H0 w w' := by
  obtain ⟨p, q, hp, hq, hbr, hbw, r1, r2, hR, hF⟩ := h
  obtain ⟨A, hA⟩ : ∃ A, A = w.heap.size := ⟨_, rfl⟩
  have hap : Apart br bw A p q := by
    have l1 := r1.lt
    have l2 := r2.lt
    have l3 := hR.lt
    have l4 := hF.lt
    obtain ⟨A0, c0, hr, _⟩ := hR
    refine ⟨?_, ?_, ?_, ?_, by omega, by omega, ?_⟩
    · rintro rfl; have := (r1.same hr).2; cases this
    · rintro rfl; have := (r1.same hF.1).2; cases this
    · rintro rfl; have := (r2.same hr).2; cases this
    · rintro rfl; have := (r2.same hF.1).2; cases this
    · rintro rfl; have := (hr.same hF.1).2; cases this
  have t0 : (((d : Int) % 7) == 0) = false := beq_eq_false_iff_ne.2 (by omega)
  have t1 : (((d : Int) % 7) == 1) = false := beq_eq_false_iff_ne.2 (by omega)
  have t2 : (((d : Int) % 7) == 2) = false := beq_eq_false_iff_ne.2 (by omega)
  have t3 : (((d : Int) % 7) == 3) = true := by rw [beq_iff_eq]; omega
  obtain ⟨x, hx⟩ : ∃ x, x = (varS m s).1 := ⟨_, rfl⟩
  obtain ⟨s', hs'⟩ : ∃ s', s' = (varS m s).2 := ⟨_, rfl⟩
  have CL : Hid (∀ W, RD W p s → Calls Try.prog 30 #[.pointer (some ⟨p, 0, none⟩), .int .u64 m] W (Numbered W p .u64 x s')) := fun W h => by rw [hx, hs']; exact Var_any p m s W h
  have CR : Hid (∀ W, RF W q s → Calls Try.prog 48 #[.pointer (some ⟨q, 0, none⟩), .int .u64 m] W (Counted W q x s')) := fun W h => by rw [hx, hs']; exact refVar_any q m s W h
  have W1 : Hid (Vars br bw A p q d m (w.alloc (.cells #[.int .u8 d, .int .u64 m] 49))) := Lib.hid ⟨r1.alloc _, r2.alloc _, by rw [hA]; exact Row.made w 49 _⟩
  have W2 : Hid (One p q s (w.alloc (.cells #[.int .u8 d, .int .u64 m] 49))) := Lib.hid (One.later ((Below.refl _ _).alloc (Nat.le_refl _) _) ⟨hR, s, hF⟩)
  have W3 : Hid (Two q s (w.alloc (.cells #[.int .u8 d, .int .u64 m] 49))) := Lib.hid (Two.later ((Below.refl _ _).alloc (Nat.le_refl _) _) hF)
  have W4 : Hid (Since H0 w (w.alloc (.cells #[.int .u8 d, .int .u64 m] 49))) := Lib.hid (Since.later ((Below.refl _ _).alloc (Nat.le_refl _) _) ⟨Below.refl _ _, h0⟩)
  have HAP := Lib.hid hap
  clear hap r1 r2 hR hF hx hs' hk
  rw [hA] at W1 HAP
  clear hA
  go_enter Try.func22, Try.ntmps22
  go_wp2_with fail
  refine Tame.wp_region_tamg (L := Tame.Later) (M := Sides 5 p q) (gs := spirits H0 w br bw w.heap.size p q d m 5 11 s s) [5, 11] (by kernel_rfl) (by kernel_rfl) Tame.Later.refl (Sides.refl 5 p q) (spirits_ok (by omega) HAP.out hp hq W1.out W2.out W3.out W4.out) ?_
  repeat
    ((first
      | (refine Tame.walk3_known (o := ⟨some 50, _, _, _, _, _⟩) (by kernel_rfl) (fun _ => rfl) ?_; apply Exists.intro; refine ⟨fun vals w2 hG hd => ?_, ?_⟩; (focus (have hv := (hG 0 _ rfl (by kernel_rfl) : Vars br bw w.heap.size p q d m w2).1.cell 0; clear hG hd; simp at hv; go_simp; exact Tame.Is.mk (Tame.Later.refl _))))
      | (refine Tame.walk3_known (o := ⟨some 56, _, _, _, _, _⟩) (by kernel_rfl) (fun _ => rfl) ?_; apply Exists.intro; refine ⟨fun vals w2 hG hd => ?_, ?_⟩; (focus (have hv := (hG 0 _ rfl (by kernel_rfl) : Vars br bw w.heap.size p q d m w2).2.1.cell 0; clear hG hd; simp at hv; go_simp; exact Tame.Is.mk (Tame.Later.refl _))))
      | (refine Tame.walk3_known (o := ⟨some 52, _, _, _, _, _⟩) (by kernel_rfl) (fun _ => rfl) ?_; apply Exists.intro; refine ⟨fun vals w2 hG hd => ?_, ?_⟩; (focus (have hv := (hG 0 _ rfl (by kernel_rfl) : Vars br bw w.heap.size p q d m w2).2.2.cell 1; clear hG hd; simp at hv; go_simp; exact Tame.Is.mk (Tame.Later.refl _))))
      | (refine Tame.walk3_known (o := ⟨some 58, _, _, _, _, _⟩) (by kernel_rfl) (fun _ => rfl) ?_; apply Exists.intro; refine ⟨fun vals w2 hG hd => ?_, ?_⟩; (focus (have hv := (hG 0 _ rfl (by kernel_rfl) : Vars br bw w.heap.size p q d m w2).2.2.cell 1; clear hG hd; simp at hv; go_simp; exact Tame.Is.mk (Tame.Later.refl _))))
      | (refine Tame.walk3_write (o := ⟨some 53, _, _, _, _, _⟩) (LeftSaid p q (.int .u64 x) s') (none) ([11]) (fun _ => rfl) (by kernel_rfl) (by kernel_rfl) (fun v w w' hl h => ⟨h.1, h.2.later hl⟩) (fun j _ hj v w w' hs h => ⟨h.1, h.2.right (by have := one_of hj; omega) hs⟩) (fun vals w2 hG hd => ?_) ?_; (focus (have h1 := (hG 1 _ rfl (by kernel_rfl) : One p q s w2); clear hG hd; obtain ⟨h1, s2, h2⟩ := h1; have HH := Lib.hid h2; have HC := Lib.hid (CL.out w2 h1); clear h1 h2; go_simp; exact HC.out.mono fun e w' ⟨he, hr, hg⟩ => ⟨_, he, Sides.left hg, rfl, hr, s2, RF.other HH.out hg (by have := HAP.out.2.2.2.2.2.2; omega)⟩)))
      | (refine Tame.walk3_write (o := ⟨some 59, _, _, _, _, _⟩) (RightSaid q (.int .u64 x) s') (none) ([5]) (fun _ => rfl) (by kernel_rfl) (by kernel_rfl) (fun v w w' hl h => ⟨h.1, h.2.later hl⟩) (fun j _ hj v w w' hs h => ⟨h.1, h.2.left HAP.out (by have := one_of hj; subst this; exact hs)⟩) (fun vals w2 hG hd => ?_) ?_; (focus (have h1 := (hG 2 _ rfl (by kernel_rfl) : Two q s w2); clear hG hd; have HC := Lib.hid (CR.out w2 h1); clear h1; go_simp; exact HC.out.mono fun e w' ⟨he, hr, hg⟩ => ⟨_, he, Sides.right (by omega) hg hr, rfl, hr⟩)))
      | (refine Tame.walk3_known (o := ⟨some 60, _, _, _, _, _⟩) (by kernel_rfl) (fun _ => rfl) ?_; apply Exists.intro; refine ⟨fun vals w2 hG hd => ?_, ?_⟩; (focus (have hv1 := (hd 5 _ rfl (by kernel_rfl) rfl : LeftSaid p q (.int .u64 x) s' (vals 5) w2).1; have hv2 := (hd 11 _ rfl (by kernel_rfl) rfl : RightSaid q (.int .u64 x) s' (vals 11) w2).1; clear hG hd; go_simp; exact Tame.Is.mk (Tame.Later.refl _))))
      | (refine Tame.walk3_known (by kernel_rfl) (fun _ => rfl) ?_; apply Exists.intro; refine ⟨fun vals w2 hG hd => ?_, ?_⟩; (focus (go_simp; first | exact Tame.Is.mk (Tame.Later.refl _) | (rw [if_neg]; (focus exact Tame.Is.mk (Tame.Later.refl _)); omega)))))
     simp only [Act.put, List.setIfInBounds_toArray, List.set_cons_zero, List.set_cons_succ, List.nil_append, List.cons_append, List.length_cons, List.length_nil, Nat.zero_add, Nat.reduceAdd])
  refine Tame.walk3_end fun vals w2 hG hts => ?_
  have f1 : LeftSaid p q (.int .u64 x) s' (vals 5) w2 := hts 5 _ rfl rfl
  have f2 : RightSaid q (.int .u64 x) s' (vals 11) w2 := hts 11 _ rfl rfl
  have f3 : Vars br bw w.heap.size p q d m w2 := hG 0 _ rfl (by kernel_rfl)
  have f4 : Since H0 w w2 := hG 3 _ rfl (by kernel_rfl)
  have HP : Hid (Pair H0 w2 br bw s') := Lib.hid ⟨p, q, hp, hq, hbr, hbw, f3.1, f3.2.1, f1.2.1, f2.2⟩
  have HB := Lib.hid f4.1
  clear f1 f2 f3 f4 hts hG
  go_wp2_with fail
  go_ret
  exact ⟨rfl, ⟨_, HP.out⟩, HB.out⟩

set_option maxRecDepth 100000 in
set_option maxHeartbeats 4000000 in
theorem asked_4 (H0 br bw d m : Nat) (s : St) (w : World) (h : Pair H0 w br bw s) (hd : d < 256) (hm : m < 18446744073709551616) (h0 : H0 ≤ w.heap.size) (hk : d % 7 = 4) :
    Calls Try.prog 22 #[.pointer (some ⟨br, 0, none⟩), .pointer (some ⟨bw, 0, none⟩), .agg #[.int .u8 d, .int .u64 m]] w fun e w' => e = .returned (.bool true) ∧ (∃ s', Pair H0 w' br bw s') ∧ Below H0 w w' := by
  obtain ⟨p, q, hp, hq, hbr, hbw, r1, r2, hR, hF⟩ := h
  obtain ⟨A, hA⟩ : ∃ A, A = w.heap.size := ⟨_, rfl⟩
  have hap : Apart br bw A p q := by
    have l1 := r1.lt
    have l2 := r2.lt
    have l3 := hR.lt
    have l4 := hF.lt
    obtain ⟨A0, c0, hr, _⟩ := hR
    refine ⟨?_, ?_, ?_, ?_, by omega, by omega, ?_⟩
    · rintro rfl; have := (r1.same hr).2; cases this
    · rintro rfl; have := (r1.same hF.1).2; cases this
    · rintro rfl; have := (r2.same hr).2; cases this
    · rintro rfl; have := (r2.same hF.1).2; cases this
    · rintro rfl; have := (hr.same hF.1).2; cases this
  have t0 : (((d : Int) % 7) == 0) = false := beq_eq_false_iff_ne.2 (by omega)
  have t1 : (((d : Int) % 7) == 1) = false := beq_eq_false_iff_ne.2 (by omega)
  have t2 : (((d : Int) % 7) == 2) = false := beq_eq_false_iff_ne.2 (by omega)
  have t3 : (((d : Int) % 7) == 3) = false := beq_eq_false_iff_ne.2 (by omega)
  have t4 : (((d : Int) % 7) == 4) = true := by rw [beq_iff_eq]; omega
  obtain ⟨x, hx⟩ : ∃ x, x = (textS m s).1 := ⟨_, rfl⟩
  obtain ⟨s', hs'⟩ : ∃ s', s' = (textS m s).2 := ⟨_, rfl⟩
  have CL : Hid (∀ W, RD W p s → Calls Try.prog 31 #[.pointer (some ⟨p, 0, none⟩), .int .u64 m] W (Read_ W p x s')) := fun W h => by rw [hx, hs']; exact Text_any p m s W h hm
  have CR : Hid (∀ W, RF W q s → Calls Try.prog 49 #[.pointer (some ⟨q, 0, none⟩), .int .u64 m] W (Got_ W q x s')) := fun W h => by rw [hx, hs']; exact refText_any q m s W h hm
  have W1 : Hid (Vars br bw A p q d m (w.alloc (.cells #[.int .u8 d, .int .u64 m] 49))) := Lib.hid ⟨r1.alloc _, r2.alloc _, by rw [hA]; exact Row.made w 49 _⟩
  have W2 : Hid (One p q s (w.alloc (.cells #[.int .u8 d, .int .u64 m] 49))) := Lib.hid (One.later ((Below.refl _ _).alloc (Nat.le_refl _) _) ⟨hR, s, hF⟩)
  have W3 : Hid (Two q s (w.alloc (.cells #[.int .u8 d, .int .u64 m] 49))) := Lib.hid (Two.later ((Below.refl _ _).alloc (Nat.le_refl _) _) hF)
  have W4 : Hid (Since H0 w (w.alloc (.cells #[.int .u8 d, .int .u64 m] 49))) := Lib.hid (Since.later ((Below.refl _ _).alloc (Nat.le_refl _) _) ⟨Below.refl _ _, h0⟩)
  have HAP := Lib.hid hap
  clear hap r1 r2 hR hF hx hs' hk
  rw [hA] at W1 HAP
  clear hA
  go_enter Try.func22, Try.ntmps22
  go_wp2_with fail
  refine Tame.wp_region_tamg (L := Tame.Later) (M := Sides 5 p q) (gs := spirits H0 w br bw w.heap.size p q d m 5 11 s s) [5, 11] (by kernel_rfl) (by kernel_rfl) Tame.Later.refl (Sides.refl 5 p q) (spirits_ok (by omega) HAP.out hp hq W1.out W2.out W3.out W4.out) ?_
  repeat
    ((first
      | (refine Tame.walk3_known (o := ⟨some 65, _, _, _, _, _⟩) (by kernel_rfl) (fun _ => rfl) ?_; apply Exists.intro; refine ⟨fun vals w2 hG hd => ?_, ?_⟩; (focus (have hv := (hG 0 _ rfl (by kernel_rfl) : Vars br bw w.heap.size p q d m w2).1.cell 0; clear hG hd; simp at hv; go_simp; exact Tame.Is.mk (Tame.Later.refl _))))
      | (refine Tame.walk3_known (o := ⟨some 71, _, _, _, _, _⟩) (by kernel_rfl) (fun _ => rfl) ?_; apply Exists.intro; refine ⟨fun vals w2 hG hd => ?_, ?_⟩; (focus (have hv := (hG 0 _ rfl (by kernel_rfl) : Vars br bw w.heap.size p q d m w2).2.1.cell 0; clear hG hd; simp at hv; go_simp; exact Tame.Is.mk (Tame.Later.refl _))))
      | (refine Tame.walk3_known (o := ⟨some 67, _, _, _, _, _⟩) (by kernel_rfl) (fun _ => rfl) ?_; apply Exists.intro; refine ⟨fun vals w2 hG hd => ?_, ?_⟩; (focus (have hv := (hG 0 _ rfl (by kernel_rfl) : Vars br bw w.heap.size p q d m w2).2.2.cell 1; clear hG hd; simp at hv; go_simp; exact Tame.Is.mk (Tame.Later.refl _))))
      | (refine Tame.walk3_known (o := ⟨some 73, _, _, _, _, _⟩) (by kernel_rfl) (fun _ => rfl) ?_; apply Exists.intro; refine ⟨fun vals w2 hG hd => ?_, ?_⟩; (focus (have hv := (hG 0 _ rfl (by kernel_rfl) : Vars br bw w.heap.size p q d m w2).2.2.cell 1; clear hG hd; simp at hv; go_simp; exact Tame.Is.mk (Tame.Later.refl _))))
      | (refine Tame.walk3_write (o := ⟨some 68, _, _, _, _, _⟩) (LeftSaid p q (.string ⟨x.toArray⟩) s') (none) ([11]) (fun _ => rfl) (by kernel_rfl) (by kernel_rfl) (fun v w w' hl h => ⟨h.1, h.2.later hl⟩) (fun j _ hj v w w' hs h => ⟨h.1, h.2.right (by have := one_of hj; omega) hs⟩) (fun vals w2 hG hd => ?_) ?_; (focus (have h1 := (hG 1 _ rfl (by kernel_rfl) : One p q s w2); clear hG hd; obtain ⟨h1, s2, h2⟩ := h1; have HH := Lib.hid h2; have HC := Lib.hid (CL.out w2 h1); clear h1 h2; go_simp; exact HC.out.mono fun e w' ⟨he, hr, hg⟩ => ⟨_, he, Sides.left hg, rfl, hr, s2, RF.other HH.out hg (by have := HAP.out.2.2.2.2.2.2; omega)⟩)))
      | (refine Tame.walk3_write (o := ⟨some 74, _, _, _, _, _⟩) (RightSaid q (.string ⟨x.toArray⟩) s') (none) ([5]) (fun _ => rfl) (by kernel_rfl) (by kernel_rfl) (fun v w w' hl h => ⟨h.1, h.2.later hl⟩) (fun j _ hj v w w' hs h => ⟨h.1, h.2.left HAP.out (by have := one_of hj; subst this; exact hs)⟩) (fun vals w2 hG hd => ?_) ?_; (focus (have h1 := (hG 2 _ rfl (by kernel_rfl) : Two q s w2); clear hG hd; have HC := Lib.hid (CR.out w2 h1); clear h1; go_simp; exact HC.out.mono fun e w' ⟨he, hr, hg⟩ => ⟨_, he, Sides.right (by omega) hg hr, rfl, hr⟩)))
      | (refine Tame.walk3_known (o := ⟨some 75, _, _, _, _, _⟩) (by kernel_rfl) (fun _ => rfl) ?_; apply Exists.intro; refine ⟨fun vals w2 hG hd => ?_, ?_⟩; (focus (have hv1 := (hd 5 _ rfl (by kernel_rfl) rfl : LeftSaid p q (.string ⟨x.toArray⟩) s' (vals 5) w2).1; have hv2 := (hd 11 _ rfl (by kernel_rfl) rfl : RightSaid q (.string ⟨x.toArray⟩) s' (vals 11) w2).1; clear hG hd; go_simp; exact Tame.Is.mk (Tame.Later.refl _))))
      | (refine Tame.walk3_known (by kernel_rfl) (fun _ => rfl) ?_; apply Exists.intro; refine ⟨fun vals w2 hG hd => ?_, ?_⟩; (focus (go_simp; first | exact Tame.Is.mk (Tame.Later.refl _) | (rw [if_neg]; (focus exact Tame.Is.mk (Tame.Later.refl _)); omega)))))
     simp only [Act.put, List.setIfInBounds_toArray, List.set_cons_zero, List.set_cons_succ, List.nil_append, List.cons_append, List.length_cons, List.length_nil, Nat.zero_add, Nat.reduceAdd])
  refine Tame.walk3_end fun vals w2 hG hts => ?_
  have f1 : LeftSaid p q (.string ⟨x.toArray⟩) s' (vals 5) w2 := hts 5 _ rfl rfl
  have f2 : RightSaid q (.string ⟨x.toArray⟩) s' (vals 11) w2 := hts 11 _ rfl rfl
  have f3 : Vars br bw w.heap.size p q d m w2 := hG 0 _ rfl (by kernel_rfl)
  have f4 : Since H0 w w2 := hG 3 _ rfl (by kernel_rfl)
  have HP : Hid (Pair H0 w2 br bw s') := Lib.hid ⟨p, q, hp, hq, hbr, hbw, f3.1, f3.2.1, f1.2.1, f2.2⟩
  have HB := Lib.hid f4.1
  clear f1 f2 f3 f4 hts hG
  go_wp2_with fail
  go_ret
  exact ⟨rfl, ⟨_, HP.out⟩, HB.out⟩

end Go.Proofs.Ytclgblmhicabnaa
