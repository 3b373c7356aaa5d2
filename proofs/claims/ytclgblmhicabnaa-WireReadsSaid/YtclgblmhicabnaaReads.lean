/- DERIVED. The walk of WireReads: its beginning. -/
import Derived.Test.YtclgblmhicabnaaReads0
namespace Go.Proofs.Ytclgblmhicabnaa
open Go.RowKit Crc Nums Rd
attribute [local go_sem] Tame.Op Tame.upon

/-- A block from H0 on, of type t, is turned, or nothing is. -/
def TurnN (H0 t : Nat) (x y : World) : Prop := ∃ k, H0 ≤ k ∧ Turn k t x y
def Lays (H0 : Nat) (j : Nat) : World → World → Prop := if j = 8 then TurnN H0 40 else TurnN H0 42
theorem Lays.refl (H0 j : Nat) (w : World) : Lays H0 j w w := by
  unfold Lays
  split
  · exact ⟨H0, Nat.le_refl _, .inl rfl⟩
  · exact ⟨H0, Nat.le_refl _, .inl rfl⟩
theorem Lays.t8 {H0 : Nat} {x y : World} (h : Lays H0 8 x y) : TurnN H0 40 x y := h
theorem Lays.t9 {H0 : Nat} {x y : World} (h : Lays H0 9 x y) : TurnN H0 42 x y := h

def ghosts3 (H0 : Nat) (W : World) : List Tame.Ghost := [⟨Since H0 W, [8, 9]⟩]
theorem ghosts3_ok {H0 : Nat} {W w : World} (hB : Since H0 W w) :
    ∀ (k : Nat) (g : Tame.Ghost), (ghosts3 H0 W)[k]? = some g → g.g w.drew ∧ (∀ w w', Tame.Later w w' → g.g w → g.g w') ∧
      ∀ j, [8, 9].contains j = true → g.keeps.contains j = true → ∀ w w', Lays H0 j w w' → g.g w → g.g w' := by
  have hdr : Tame.Later w w.drew := (Below.refl _ _).drew
  intro k g hk
  rcases k with _ | k
  · obtain rfl : (⟨Since H0 W, [8, 9]⟩ : Tame.Ghost) = g := by simpa [ghosts3] using hk
    refine ⟨hB.later hdr, fun _ _ hl h => h.later hl, fun j _ hj w w' hs h => ?_⟩
    rcases two_of hj with rfl | rfl
    · obtain ⟨k, hk, ht⟩ := hs.t8
      exact Since.turn hk ht h
    · obtain ⟨k, hk, ht⟩ := hs.t9
      exact Since.turn hk ht h
  · simp [ghosts3] at hk

def Cell40 (H0 : Nat) (v : Value) (w : World) : Prop := ∃ k, v = .pointer (some ⟨k, 0, none⟩) ∧ H0 ≤ k ∧ ∃ a, Row w k 40 #[.pointer a]
def Cell42 (H0 : Nat) (v : Value) (w : World) : Prop := ∃ k, v = .pointer (some ⟨k, 0, none⟩) ∧ H0 ≤ k ∧ ∃ a, Row w k 42 #[.pointer a]
theorem Cell40.later {H0 : Nat} {v : Value} {w w' : World} (hl : Tame.Later w w') (h : Cell40 H0 v w) : Cell40 H0 v w' := by
  obtain ⟨k, hv, hk, a, hr⟩ := h
  exact ⟨k, hv, hk, a, hr.below hl hr.lt⟩
theorem Cell42.later {H0 : Nat} {v : Value} {w w' : World} (hl : Tame.Later w w') (h : Cell42 H0 v w) : Cell42 H0 v w' := by
  obtain ⟨k, hv, hk, a, hr⟩ := h
  exact ⟨k, hv, hk, a, hr.below hl hr.lt⟩
theorem Cell40.spared {H0 : Nat} {v : Value} {w w' : World} (hs : Lays H0 9 w w') (h : Cell40 H0 v w) : Cell40 H0 v w' := by
  obtain ⟨k, hv, hk, a, hr⟩ := h
  obtain ⟨k2, _, ht⟩ := hs.t9
  exact ⟨k, hv, hk, a, Row.turn (by decide) ht hr⟩
theorem Cell42.spared {H0 : Nat} {v : Value} {w w' : World} (hs : Lays H0 8 w w') (h : Cell42 H0 v w) : Cell42 H0 v w' := by
  obtain ⟨k, hv, hk, a, hr⟩ := h
  obtain ⟨k2, _, ht⟩ := hs.t8
  exact ⟨k, hv, hk, a, Row.turn (by decide) ht hr⟩
theorem NewL.lays {H0 j : Nat} {n : St} {v : Value} {w w' : World} (hj : [8, 9].contains j = true) (hs : Lays H0 j w w') (h : NewL H0 n v w) : NewL H0 n v w' := by
  obtain ⟨x, hv, hx, hr⟩ := h
  refine ⟨x, hv, hx, ?_⟩
  rcases two_of hj with rfl | rfl
  · obtain ⟨k, _, ht⟩ := hs.t8
    exact RD.turn (by decide) ht hr
  · obtain ⟨k, _, ht⟩ := hs.t9
    exact RD.turn (by decide) ht hr
theorem NewR.lays {H0 j : Nat} {n : St} {v : Value} {w w' : World} (hj : [8, 9].contains j = true) (hs : Lays H0 j w w') (h : NewR H0 n v w) : NewR H0 n v w' := by
  obtain ⟨x, hv, hx, hr⟩ := h
  refine ⟨x, hv, hx, ?_⟩
  rcases two_of hj with rfl | rfl
  · obtain ⟨k, _, ht⟩ := hs.t8
    exact RF.turn (by decide) ht hr
  · obtain ⟨k, _, ht⟩ := hs.t9
    exact RF.turn (by decide) ht hr

/-- Variable r has its reader; variable w has its own. -/
def SetL (H0 : Nat) (n : St) (i : Nat) (vals : Nat → Value) (w : World) : Prop := ∃ k p, vals i = .pointer (some ⟨k, 0, none⟩) ∧ H0 ≤ k ∧ Row w k 40 #[.pointer (some ⟨p, 0, none⟩)] ∧ H0 ≤ p ∧ RD w p n
def SetR (H0 : Nat) (n : St) (i : Nat) (vals : Nat → Value) (w : World) : Prop := ∃ k q, vals i = .pointer (some ⟨k, 0, none⟩) ∧ H0 ≤ k ∧ Row w k 42 #[.pointer (some ⟨q, 0, none⟩)] ∧ H0 ≤ q ∧ RF w q n
theorem SetL.later {H0 i : Nat} {n : St} {vals : Nat → Value} {w w' : World} (hl : Tame.Later w w') (h : SetL H0 n i vals w) : SetL H0 n i vals w' := by
  obtain ⟨k, p, hv, hk, hr, hp, hR⟩ := h
  exact ⟨k, p, hv, hk, hr.below hl hr.lt, hp, hR.below hl hR.lt⟩
theorem SetR.later {H0 i : Nat} {n : St} {vals : Nat → Value} {w w' : World} (hl : Tame.Later w w') (h : SetR H0 n i vals w) : SetR H0 n i vals w' := by
  obtain ⟨k, p, hv, hk, hr, hp, hR⟩ := h
  exact ⟨k, p, hv, hk, hr.below hl hr.lt, hp, hR.below hl hR.lt⟩
theorem SetL.spared {H0 i : Nat} {n : St} {vals : Nat → Value} {w w' : World} (hs : Lays H0 9 w w') (h : SetL H0 n i vals w) : SetL H0 n i vals w' := by
  obtain ⟨k, p, hv, hk, hr, hp, hR⟩ := h
  obtain ⟨k2, _, ht⟩ := hs.t9
  exact ⟨k, p, hv, hk, Row.turn (by decide) ht hr, hp, RD.turn (by decide) ht hR⟩
theorem SetR.spared {H0 i : Nat} {n : St} {vals : Nat → Value} {w w' : World} (hs : Lays H0 8 w w') (h : SetR H0 n i vals w) : SetR H0 n i vals w' := by
  obtain ⟨k, p, hv, hk, hr, hp, hR⟩ := h
  obtain ⟨k2, _, ht⟩ := hs.t8
  exact ⟨k, p, hv, hk, Row.turn (by decide) ht hr, hp, RF.turn (by decide) ht hR⟩
theorem SetL.same {H0 i : Nat} {n : St} {vals vals' : Nat → Value} {w : World} (he : vals i = vals' i) (h : SetL H0 n i vals w) : SetL H0 n i vals' w := by
  unfold SetL
  rw [← he]
  exact h
theorem SetR.same {H0 i : Nat} {n : St} {vals vals' : Nat → Value} {w : World} (he : vals i = vals' i) (h : SetR H0 n i vals w) : SetR H0 n i vals' w := by
  unfold SetR
  rw [← he]
  exact h

set_option maxRecDepth 100000 in
set_option maxHeartbeats 8000000 in
theorem reads_main (A C : Option Addr) (c e : Nat) (l : List UInt8) (ks : List (Nat × Nat)) (w : World) (hA : Lies w w.heap.size A (bytesV l)) (hC : Lies w w.heap.size C (asksV ks)) (has : ∀ a ∈ ks, a.1 < 256 ∧ a.2 < 18446744073709551616) (h1 : l.length ≤ 600) (h2 : ks.length ≤ 40) :
    Calls Try.prog 4 #[.slice A l.length c, .slice C ks.length e] w fun e w' => e = .returned (.bool true) ∧ Below w.heap.size w w' := by
  have HA := Lib.hid hA
  have HC := Lib.hid hC
  have HAS := Lib.hid has
  clear hA hC has
  have W6 : Hid (Since w.heap.size w w) := Lib.hid ⟨Below.refl _ _, Nat.le_refl _⟩
  obtain ⟨H0, hH0⟩ : ∃ H0, H0 = w.heap.size := ⟨_, rfl⟩
  rw [← hH0] at HA HC W6 ⊢
  have HH0 := Lib.hid hH0
  clear hH0
  have HLies : Hid (∀ W, Since H0 w W → Lies W W.heap.size A (bytesV l)) := fun W hW => (HA.out.below hW.1).more hW.2
  have CL : Hid (∀ W, Since H0 w W → Calls Try.prog 21 #[.slice A l.length c] W (Made W (l, 0))) := fun W hW => Read_any A c l W (HLies.out W hW) (by omega)
  go_enter Try.func4, Try.ntmps4
  go_wp2_with fail
  refine Tame.wp_region_tamg (L := Tame.Later) (M := Lays H0) (gs := ghosts3 H0 w) [8, 9] (by kernel_rfl) (by kernel_rfl) Tame.Later.refl (Lays.refl H0) (ghosts3_ok W6.out) ?_
  repeat
    ((first
      | (refine Tame.walk3_some (o := ⟨some 17, _, _, _, _, _⟩) (NewL H0 (l, 0)) (none) ([8, 9]) (by kernel_rfl) (fun _ => rfl) (by kernel_rfl) (fun v w w' hl h => h.later hl) (fun j _ hj v w w' hs h => h.lays hj hs) (fun vals w2 hG hd => ?_) ?_; (focus (have h1 := Lib.hid (hG 0 _ rfl (by kernel_rfl) : Since H0 w w2); clear hG hd; have HC := Lib.hid (CL.out w2 h1.out); go_simp; exact HC.out.mono fun e w' ⟨x, he, hge, hr, hb⟩ => ⟨_, he, hb, x, rfl, Nat.le_trans h1.out.2 hge, hr⟩)))
      | (refine Tame.walk3_known (o := ⟨some 19, _, _, _, _, _⟩) (by kernel_rfl) (fun _ => rfl) ?_; apply Exists.intro; refine ⟨fun vals w2 hG hd => ?_, ?_⟩; (focus (have h1 := (hG 0 _ rfl (by kernel_rfl) : Since H0 w w2); have hc := run_str (P := Try.prog) w2 23 5 9 Try.underlying23 Try.underlying5 Try.underlying9 A l.length c l rfl (HLies.out w2 h1); clear hG hd h1; go_simp; exact Tame.Is.mk (Tame.Later.refl _))))
      | (refine Tame.walk3_some (o := ⟨some 21, _, _, _, _, _⟩) (NewR H0 (l, 0)) (none) ([8, 9]) (by kernel_rfl) (fun _ => rfl) (by kernel_rfl) (fun v w w' hl h => h.later hl) (fun j _ hj v w w' hs h => h.lays hj hs) (fun vals w2 hG hd => ?_) ?_; (focus (have h1 := (hG 0 _ rfl (by kernel_rfl) : Since H0 w w2).2; clear hG hd; go_simp; exact Tame.Has.mk ((Below.refl _ _).alloc (Nat.le_refl _) _) ⟨_, rfl, h1, Row.made w2 _ _, by show l.length ≤ _; omega, fun h => absurd rfl h⟩)))
      | (refine Tame.walk3_some (o := ⟨some 5, _, _, _, _, _⟩) (Cell40 H0) (some 8) ([9]) (by kernel_rfl) (fun _ => rfl) (by kernel_rfl) (fun v w w' hl h => h.later hl) (fun j _ hj v w w' hs h => h.spared (by have := one_of hj; subst this; exact hs)) (fun vals w2 hG hd => ?_) ?_; (focus (have h1 := (hG 0 _ rfl (by kernel_rfl) : Since H0 w w2).2; clear hG hd; go_simp; exact Tame.Has.mk ((Below.refl _ _).alloc (Nat.le_refl _) _) ⟨_, rfl, h1, _, Row.made w2 _ _⟩)))
      | (refine Tame.walk3_some (o := ⟨some 6, _, _, _, _, _⟩) (Cell42 H0) (some 9) ([8]) (by kernel_rfl) (fun _ => rfl) (by kernel_rfl) (fun v w w' hl h => h.later hl) (fun j _ hj v w w' hs h => h.spared (by have := one_of hj; subst this; exact hs)) (fun vals w2 hG hd => ?_) ?_; (focus (have h1 := (hG 0 _ rfl (by kernel_rfl) : Since H0 w w2).2; clear hG hd; go_simp; exact Tame.Has.mk ((Below.refl _ _).alloc (Nat.le_refl _) _) ⟨_, rfl, h1, _, Row.made w2 _ _⟩)))
      | (refine Tame.walk3_lays (o := ⟨none, Op.store 40 _ _, _, _, _, _⟩) (SetL H0 (l, 0) 6) none ([9]) ([6]) (fun _ => rfl) (by kernel_rfl) (by kernel_rfl) (by kernel_rfl) (fun vals vals' w hh h => h.same (hh 6 (by decide))) (fun vals w w' hl h => h.later hl) (fun j _ hj vals w w' hs h => h.spared (by have := one_of hj; subst this; exact hs)) (fun vals w2 hG hd => ?_) ?_; (focus (have h1 := (hd 6 _ rfl (by kernel_rfl) (by kernel_rfl) : Cell40 H0 (vals 6) w2); have h2 := (hd 1 _ rfl (by kernel_rfl) rfl : NewL H0 (l, 0) (vals 1) w2); clear hG hd; obtain ⟨k, hv, hk, a, hr⟩ := h1; obtain ⟨x, hv2, hx, hR⟩ := h2; have HK := Lib.hid hr; have HR := Lib.hid hR; have c0 := Row.cell hr 0; have f0 := Row.free hr 0; have HV := Lib.hid hv; simp at c0; clear hr hR; go_simp; exact Tame.Leaves.mk ⟨k, hk, Turn.of_ptr HK.out (only_set (only_refl _ _) _ _)⟩ ⟨k, x, HV.out, hk, Row.set HK.out 0 _, hx, RD.turn (by decide) (Turn.of_ptr HK.out (only_set (only_refl _ _) _ _)) HR.out⟩)))
      | (refine Tame.walk3_lays (o := ⟨none, Op.store 42 _ _, _, _, _, _⟩) (SetR H0 (l, 0) 7) none ([8]) ([7]) (fun _ => rfl) (by kernel_rfl) (by kernel_rfl) (by kernel_rfl) (fun vals vals' w hh h => h.same (hh 7 (by decide))) (fun vals w w' hl h => h.later hl) (fun j _ hj vals w w' hs h => h.spared (by have := one_of hj; subst this; exact hs)) (fun vals w2 hG hd => ?_) ?_; (focus (have h1 := (hd 7 _ rfl (by kernel_rfl) (by kernel_rfl) : Cell42 H0 (vals 7) w2); have h2 := (hd 5 _ rfl (by kernel_rfl) rfl : NewR H0 (l, 0) (vals 5) w2); clear hG hd; obtain ⟨k, hv, hk, a, hr⟩ := h1; obtain ⟨x, hv2, hx, hR⟩ := h2; have HK := Lib.hid hr; have HR := Lib.hid hR; have c0 := Row.cell hr 0; have f0 := Row.free hr 0; have HV := Lib.hid hv; simp at c0; clear hr hR; go_simp; exact Tame.Leaves.mk ⟨k, hk, Turn.of_ptr HK.out (only_set (only_refl _ _) _ _)⟩ ⟨k, x, HV.out, hk, Row.set HK.out 0 _, hx, RF.turn (by decide) (Turn.of_ptr HK.out (only_set (only_refl _ _) _ _)) HR.out⟩)))
      | (refine Tame.walk3_known (by kernel_rfl) (fun _ => rfl) ?_; apply Exists.intro; refine ⟨fun vals w2 hG hd => ?_, ?_⟩; (focus (go_simp; first | exact Tame.Is.mk (Tame.Later.refl _) | (rw [if_neg]; (focus exact Tame.Is.mk (Tame.Later.refl _)); omega)))))
     simp only [Act.put, List.setIfInBounds_toArray, List.set_cons_zero, List.set_cons_succ, List.nil_append, List.cons_append, List.length_cons, List.length_nil, Nat.zero_add, Nat.reduceAdd])
  refine Tame.walk3_end fun vals w2 hG hts => ?_
  have f1 : SetL H0 (l, 0) 6 vals w2 := hts 8 _ rfl rfl
  have f2 : SetR H0 (l, 0) 7 vals w2 := hts 9 _ rfl rfl
  have f4 : Since H0 w w2 := hG 0 _ rfl (by kernel_rfl)
  obtain ⟨br, p, hv1, hbr, g1, hp, g2⟩ := f1
  obtain ⟨bw, q, hv2, hbw, k1, hq, k2⟩ := f2
  have HP : Hid (Pair H0 w2 br bw (l, 0)) := Lib.hid ⟨p, q, hp, hq, hbr, hbw, g1, k1, g2, k2⟩
  have HB := Lib.hid f4
  rw [hv1, hv2]
  clear g1 g2 k1 k2 f4 hts hG hv1 hv2 HA W6 HLies CL hp hq
  go_wp2_with fail
  go_loopw [7] (fun k wr => ∃ (i : Nat) (s : St), i ≤ ks.length ∧ k = .int .i64 (i : Nat) ∧ Pair H0 wr br bw s ∧ Since H0 w wr) (fun k _ => ks.length - (intOf k).toNat)
  case atStart => exact ⟨0, (l, 0), by omega, rfl, HP.out, HB.out⟩
  case round =>
    obtain ⟨i, s, hi, rfl, hP, hS⟩ := hrel
    have HP := Lib.hid hP
    have HS := Lib.hid hS
    clear hP hS
    by_cases hlt : i < ks.length
    · obtain ⟨d, hd⟩ : ∃ d, d = (ks[i]).1 := ⟨_, rfl⟩
      obtain ⟨m, hm⟩ : ∃ m, m = (ks[i]).2 := ⟨_, rfl⟩
      have hb := HAS.out ks[i] (List.getElem_mem hlt)
      have hg := asksV_get ks i hlt
      rw [← hd, ← hm] at hb hg
      obtain ⟨hd8, hm64⟩ := hb
      have hne : asksV ks ≠ [] := by intro h; rw [h] at hg; simp at hg
      obtain ⟨b, off, rfl, hbl, hcell⟩ := HC.out hne
      have hc0 := hcell _ _ hg.1
      have hc1 := hcell _ _ hg.2
      rw [show off + 2 * i = off + i * 2 by omega] at hc0
      rw [show off + (2 * i + 1) = off + i * 2 + 1 by omega] at hc1
      have HCELL : Hid (∀ W, Since H0 w W → W.cell? ⟨b, off + i * 2, none⟩ = some (.int .u8 (d : Nat)) ∧ W.cell? ⟨b, off + i * 2 + 1, none⟩ = some (.int .u64 (m : Nat))) := fun W hW =>
        ⟨by rw [hW.1.cell (by exact hbl)]; exact hc0, by rw [hW.1.cell (by exact hbl)]; exact hc1⟩
      have CA : Hid (∀ W, Pair H0 W br bw s → Since H0 w W → Calls Try.prog 22 #[.pointer (some ⟨br, 0, none⟩), .pointer (some ⟨bw, 0, none⟩), .agg #[.int .u8 d, .int .u64 m]] W fun e w' => e = .returned (.bool true) ∧ (∃ s', Pair H0 w' br bw s') ∧ Below H0 W w') := fun W hW hW2 => asked_any H0 br bw d m s W hW hd8 hm64 hW2.2
      clear hd hm hg hc0 hc1 hcell hne
      obtain ⟨p, q, hp, hq, hbr2, hbw2, r1, r2, hR, hF⟩ := HP.out
      have HR1 : Hid (IsRow40 br p wr) := Lib.hid r1
      clear r1 r2 hR hF
      go_wp2_with fail
      refine Tame.wp_region_tamg (L := Tame.Later) (M := After H0) (gs := ghosts7 H0 w br bw p s) [7] (by kernel_rfl) (by kernel_rfl) Tame.Later.refl (After.refl H0) (ghosts7_ok HS.out HP.out HR1.out) ?_
      repeat
        ((first
          | (refine Tame.walk3_known (o := ⟨some 28, _, _, _, _, _⟩) (by kernel_rfl) (fun _ => rfl) ?_; apply Exists.intro; refine ⟨fun vals w2 hG hd => ?_, ?_⟩; (focus (have h := (hG 2 _ rfl (by kernel_rfl) : IsRow40 br p w2).cell 0; clear hG hd; simp at h; go_simp; exact Tame.Is.mk (Tame.Later.refl _))))
          | (refine Tame.walk3_known (o := ⟨some 34, _, _, _, _, _⟩) (by kernel_rfl) (fun _ => rfl) ?_; apply Exists.intro; refine ⟨fun vals w2 hG hd => ?_, ?_⟩; (focus (have h := HCELL.out w2 (hG 0 _ rfl (by kernel_rfl) : Since H0 w w2); obtain ⟨hc0, hc1⟩ := h; clear hG hd; go_simp; exact Tame.Is.mk (Tame.Later.refl _))))
          | (refine Tame.walk3_write (o := ⟨some 35, _, _, _, _, _⟩) (Asked H0 br bw) (none) ([]) (fun _ => rfl) (by kernel_rfl) (by kernel_rfl) (fun v w w' hl h => h.later hl) (fun j _ hj => by cases hj) (fun vals w2 hG hd => ?_) ?_; (focus (have h := Lib.hid (CA.out w2 (hG 1 _ rfl (by kernel_rfl) : Pair H0 w2 br bw s) (hG 0 _ rfl (by kernel_rfl) : Since H0 w w2)); clear hG hd; go_simp; exact h.out.mono fun e w' ⟨he, hx, hb⟩ => ⟨_, he, fun _ => hb, rfl, hx⟩)))
          | (refine Tame.walk3_known (o := ⟨some 36, _, _, _, _, _⟩) (by kernel_rfl) (fun _ => rfl) ?_; apply Exists.intro; refine ⟨fun vals w2 hG hd => ?_, ?_⟩; (focus (have h7 := (hd 7 _ rfl (by kernel_rfl) rfl : Asked H0 br bw (vals 7) w2); clear hG hd; have hv := h7.1; clear h7; go_simp; exact Tame.Is.mk (Tame.Later.refl _))))
          | (refine Tame.walk3_some (o := ⟨some 39, _, _, _, _, _⟩) (PL H0 br bw) (none) ([]) (by kernel_rfl) (fun _ => rfl) (by kernel_rfl) (fun v w w' hl h => h.later hl) (fun j _ hj => by cases hj) (fun vals w2 hG hd => ?_) ?_; (focus (have h7 := (hd 7 _ rfl (by kernel_rfl) rfl : Asked H0 br bw (vals 7) w2); clear hG hd; obtain ⟨x, hx, hy⟩ := h7.left; have HY := Lib.hid hy; clear h7 hy; go_simp; exact Tame.Has.mk (Tame.Later.refl _) HY.out)))
          | (refine Tame.walk3_some (o := ⟨some 43, _, _, _, _, _⟩) (PL H0 br bw) (none) ([]) (by kernel_rfl) (fun _ => rfl) (by kernel_rfl) (fun v w w' hl h => h.later hl) (fun j _ hj => by cases hj) (fun vals w2 hG hd => ?_) ?_; (focus (have h7 := (hd 7 _ rfl (by kernel_rfl) rfl : Asked H0 br bw (vals 7) w2); clear hG hd; obtain ⟨x, hx, hy⟩ := h7.left; have HY := Lib.hid hy; clear h7 hy; go_simp; exact Tame.Has.mk (Tame.Later.refl _) HY.out)))
          | (refine Tame.walk3_some (o := ⟨some 53, _, _, _, _, _⟩) (PL H0 br bw) (none) ([]) (by kernel_rfl) (fun _ => rfl) (by kernel_rfl) (fun v w w' hl h => h.later hl) (fun j _ hj => by cases hj) (fun vals w2 hG hd => ?_) ?_; (focus (have h7 := (hd 7 _ rfl (by kernel_rfl) rfl : Asked H0 br bw (vals 7) w2); clear hG hd; obtain ⟨x, hx, hy⟩ := h7.left; have HY := Lib.hid hy; clear h7 hy; go_simp; exact Tame.Has.mk (Tame.Later.refl _) HY.out)))
          | (refine Tame.walk3_some (o := ⟨some 62, _, _, _, _, _⟩) (PL H0 br bw) (none) ([]) (by kernel_rfl) (fun _ => rfl) (by kernel_rfl) (fun v w w' hl h => h.later hl) (fun j _ hj => by cases hj) (fun vals w2 hG hd => ?_) ?_; (focus (have h7 := (hd 7 _ rfl (by kernel_rfl) rfl : Asked H0 br bw (vals 7) w2); clear hG hd; obtain ⟨x, hx, hy⟩ := h7.left; have HY := Lib.hid hy; clear h7 hy; go_simp; exact Tame.Has.mk (Tame.Later.refl _) HY.out)))
          | (refine Tame.walk3_some (o := ⟨some 45, _, _, _, _, _⟩) (PR H0 br bw 0) (none) ([]) (by kernel_rfl) (fun _ => rfl) (by kernel_rfl) (fun v w w' hl h => h.later hl) (fun j _ hj => by cases hj) (fun vals w2 hG hd => ?_) ?_; (focus (have h7 := (hd 7 _ rfl (by kernel_rfl) rfl : Asked H0 br bw (vals 7) w2); clear hG hd; obtain ⟨x, hx, hy⟩ := h7.right; have HY := Lib.hid hy; clear h7 hy; go_simp; exact Tame.Has.mk (Tame.Later.refl _) HY.out)))
          | (refine Tame.walk3_some (o := ⟨some 55, _, _, _, _, _⟩) (PR H0 br bw 0) (none) ([]) (by kernel_rfl) (fun _ => rfl) (by kernel_rfl) (fun v w w' hl h => h.later hl) (fun j _ hj => by cases hj) (fun vals w2 hG hd => ?_) ?_; (focus (have h7 := (hd 7 _ rfl (by kernel_rfl) rfl : Asked H0 br bw (vals 7) w2); clear hG hd; obtain ⟨x, hx, hy⟩ := h7.right; have HY := Lib.hid hy; clear h7 hy; go_simp; exact Tame.Has.mk (Tame.Later.refl _) HY.out)))
          | (refine Tame.walk3_some (o := ⟨some 64, _, _, _, _, _⟩) (PR H0 br bw 0) (none) ([]) (by kernel_rfl) (fun _ => rfl) (by kernel_rfl) (fun v w w' hl h => h.later hl) (fun j _ hj => by cases hj) (fun vals w2 hG hd => ?_) ?_; (focus (have h7 := (hd 7 _ rfl (by kernel_rfl) rfl : Asked H0 br bw (vals 7) w2); clear hG hd; obtain ⟨x, hx, hy⟩ := h7.right; have HY := Lib.hid hy; clear h7 hy; go_simp; exact Tame.Has.mk (Tame.Later.refl _) HY.out)))
          | (refine Tame.walk3_known (o := ⟨some 40, _, _, _, _, _⟩) (by kernel_rfl) (fun _ => rfl) ?_; apply Exists.intro; refine ⟨fun vals w2 hG hd => ?_, ?_⟩; (focus (have h := (hd 11 _ rfl (by kernel_rfl) rfl : PL H0 br bw (vals 11) w2); clear hG hd; obtain ⟨x, y, hx, _⟩ := h; go_simp; exact Tame.Is.mk (Tame.Later.refl _))))
          | (refine Tame.walk3_some (o := ⟨some 44, _, _, _, _, _⟩) (VS H0 br bw lenV) (none) ([]) (by kernel_rfl) (fun _ => rfl) (by kernel_rfl) (fun v w w' hl h => h.later hl) (fun j _ hj => by cases hj) (fun vals w2 hG hd => ?_) ?_; (focus (have h := (hd 15 _ rfl (by kernel_rfl) rfl : PL H0 br bw (vals 15) w2); clear hG hd; obtain ⟨x, hx, hy⟩ := left_said h; have HY := Lib.hid hy; clear h hy; go_simp; exact HY.out)))
          | (refine Tame.walk3_some (o := ⟨some 54, _, _, _, _, _⟩) (VS H0 br bw errV) (none) ([]) (by kernel_rfl) (fun _ => rfl) (by kernel_rfl) (fun v w w' hl h => h.later hl) (fun j _ hj => by cases hj) (fun vals w2 hG hd => ?_) ?_; (focus (have h := (hd 25 _ rfl (by kernel_rfl) rfl : PL H0 br bw (vals 25) w2); clear hG hd; obtain ⟨x, hx, hy⟩ := err_said h; have HY := Lib.hid hy; clear h hy; go_simp; exact HY.out)))
          | (refine Tame.walk3_some (o := ⟨some 63, _, _, _, _, _⟩) (VS H0 br bw endV) (none) ([]) (by kernel_rfl) (fun _ => rfl) (by kernel_rfl) (fun v w w' hl h => h.later hl) (fun j _ hj => by cases hj) (fun vals w2 hG hd => ?_) ?_; (focus (have h := (hd 34 _ rfl (by kernel_rfl) rfl : PL H0 br bw (vals 34) w2); clear hG hd; obtain ⟨x, hx, hy⟩ := end_said h; have HY := Lib.hid hy; clear h hy; go_simp; exact HY.out)))
          | (refine Tame.walk3_some (o := ⟨some 65, _, _, _, _, _⟩) (VS H0 br bw endV) (none) ([]) (by kernel_rfl) (fun _ => rfl) (by kernel_rfl) (fun v w w' hl h => h.later hl) (fun j _ hj => by cases hj) (fun vals w2 hG hd => ?_) ?_; (focus (have h := (hd 36 _ rfl (by kernel_rfl) rfl : PR H0 br bw 0 (vals 36) w2); clear hG hd; obtain ⟨x, hx, hy⟩ := refEnd_said h; have HY := Lib.hid hy; clear h hy; go_simp; exact HY.out)))
          | (refine Tame.walk3_some (o := ⟨some 46, _, _, _, _, _⟩) (PR H0 br bw 0) (none) ([]) (by kernel_rfl) (fun _ => rfl) (by kernel_rfl) (fun v w w' hl h => h.later hl) (fun j _ hj => by cases hj) (fun vals w2 hG hd => ?_) ?_; (focus (have h := (hd 17 _ rfl (by kernel_rfl) rfl : PR H0 br bw 0 (vals 17) w2); clear hG hd; obtain ⟨x, hx, hy⟩ := PR.field 0 h; have HY := Lib.hid hy; clear h hy; go_simp; exact Tame.Has.mk (Tame.Later.refl _) HY.out)))
          | (refine Tame.walk3_some (o := ⟨some 47, _, _, _, _, _⟩) (PR H0 br bw 0) (none) ([]) (by kernel_rfl) (fun _ => rfl) (by kernel_rfl) (fun v w w' hl h => h.later hl) (fun j _ hj => by cases hj) (fun vals w2 hG hd => ?_) ?_; (focus (have h := (hd 18 _ rfl (by kernel_rfl) rfl : PR H0 br bw 0 (vals 18) w2); clear hG hd; obtain ⟨x, hx, hy⟩ := PR.field 0 h; have HY := Lib.hid hy; clear h hy; go_simp; exact Tame.Has.mk (Tame.Later.refl _) HY.out)))
          | (refine Tame.walk3_some (o := ⟨some 56, _, _, _, _, _⟩) (PR H0 br bw 0) (none) ([]) (by kernel_rfl) (fun _ => rfl) (by kernel_rfl) (fun v w w' hl h => h.later hl) (fun j _ hj => by cases hj) (fun vals w2 hG hd => ?_) ?_; (focus (have h := (hd 27 _ rfl (by kernel_rfl) rfl : PR H0 br bw 0 (vals 27) w2); clear hG hd; obtain ⟨x, hx, hy⟩ := PR.field 0 h; have HY := Lib.hid hy; clear h hy; go_simp; exact Tame.Has.mk (Tame.Later.refl _) HY.out)))
          | (refine Tame.walk3_some (o := ⟨some 57, _, _, _, _, _⟩) (PR H0 br bw 1) (none) ([]) (by kernel_rfl) (fun _ => rfl) (by kernel_rfl) (fun v w w' hl h => h.later hl) (fun j _ hj => by cases hj) (fun vals w2 hG hd => ?_) ?_; (focus (have h := (hd 28 _ rfl (by kernel_rfl) rfl : PR H0 br bw 0 (vals 28) w2); clear hG hd; obtain ⟨x, hx, hy⟩ := PR.field 1 h; have HY := Lib.hid hy; clear h hy; go_simp; exact Tame.Has.mk (Tame.Later.refl _) HY.out)))
          | (refine Tame.walk3_some (o := ⟨some 48, _, _, _, _, _⟩) (VS H0 br bw strV) (none) ([]) (by kernel_rfl) (fun _ => rfl) (by kernel_rfl) (fun v w w' hl h => h.later hl) (fun j _ hj => by cases hj) (fun vals w2 hG hd => ?_) ?_; (focus (have h := (hd 19 _ rfl (by kernel_rfl) rfl : PR H0 br bw 0 (vals 19) w2); clear hG hd; obtain ⟨x, S, hx, hc, hy⟩ := h.str; have HY := Lib.hid hy; clear h hy; go_simp; exact Tame.Has.mk (Tame.Later.refl _) HY.out)))
          | (refine Tame.walk3_some (o := ⟨some 49, _, _, _, _, _⟩) (VS H0 br bw lenV) (none) ([]) (by kernel_rfl) (fun _ => rfl) (by kernel_rfl) (fun v w w' hl h => h.later hl) (fun j _ hj => by cases hj) (fun vals w2 hG hd => ?_) ?_; (focus (have h := (hd 20 _ rfl (by kernel_rfl) rfl : VS H0 br bw strV (vals 20) w2); clear hG hd; obtain ⟨S, hx, hs, hy⟩ := h.len; have HY := Lib.hid hy; clear h hy; go_simp; exact Tame.Has.mk (Tame.Later.refl _) HY.out)))
          | (refine Tame.walk3_some (o := ⟨some 58, _, _, _, _, _⟩) (VS H0 br bw errV) (none) ([]) (by kernel_rfl) (fun _ => rfl) (by kernel_rfl) (fun v w w' hl h => h.later hl) (fun j _ hj => by cases hj) (fun vals w2 hG hd => ?_) ?_; (focus (have h := (hd 29 _ rfl (by kernel_rfl) rfl : PR H0 br bw 1 (vals 29) w2); clear hG hd; obtain ⟨x, S, hx, hc, hy⟩ := h.err; have HY := Lib.hid hy; clear h hy; go_simp; exact Tame.Has.mk (Tame.Later.refl _) HY.out)))
          | (refine Tame.walk3_known (o := ⟨some 50, _, _, _, _, _⟩) (by kernel_rfl) (fun _ => rfl) ?_; apply Exists.intro; refine ⟨fun vals w2 hG hd => ?_, ?_⟩; (focus (have h := (hd 16 _ rfl (by kernel_rfl) rfl : VS H0 br bw lenV (vals 16) w2); have k := (hd 21 _ rfl (by kernel_rfl) rfl : VS H0 br bw lenV (vals 21) w2); clear hG hd; obtain ⟨x, hx, hy⟩ := VS.sameLen h k; clear h k; go_simp; exact Tame.Is.mk (Tame.Later.refl _))))
          | (refine Tame.walk3_known (o := ⟨some 59, _, _, _, _, _⟩) (by kernel_rfl) (fun _ => rfl) ?_; apply Exists.intro; refine ⟨fun vals w2 hG hd => ?_, ?_⟩; (focus (have h := (hd 26 _ rfl (by kernel_rfl) rfl : VS H0 br bw errV (vals 26) w2); have k := (hd 30 _ rfl (by kernel_rfl) rfl : VS H0 br bw errV (vals 30) w2); clear hG hd; obtain ⟨x, hx, hy⟩ := VS.sameErr h k; clear h k; go_simp; exact Tame.Is.mk (Tame.Later.refl _))))
          | (refine Tame.walk3_known (o := ⟨some 66, _, _, _, _, _⟩) (by kernel_rfl) (fun _ => rfl) ?_; apply Exists.intro; refine ⟨fun vals w2 hG hd => ?_, ?_⟩; (focus (have h := (hd 35 _ rfl (by kernel_rfl) rfl : VS H0 br bw endV (vals 35) w2); have k := (hd 37 _ rfl (by kernel_rfl) rfl : VS H0 br bw endV (vals 37) w2); clear hG hd; obtain ⟨x, hx, hy⟩ := VS.sameEnd h k; clear h k; go_simp; exact Tame.Is.mk (Tame.Later.refl _))))
          | (refine Tame.walk3_known (by kernel_rfl) (fun _ => rfl) ?_; apply Exists.intro; refine ⟨fun vals w2 hG hd => ?_, ?_⟩; (focus (go_simp; first | exact Tame.Is.mk (Tame.Later.refl _) | (rw [if_neg]; (focus exact Tame.Is.mk (Tame.Later.refl _)); omega)))))
         simp only [Act.put, List.setIfInBounds_toArray, List.set_cons_zero, List.set_cons_succ, List.nil_append, List.cons_append, List.length_cons, List.length_nil, Nat.zero_add, Nat.reduceAdd])
      refine Tame.walk3_end fun vals2 w3 hG hts => ?_
      have f1 : Asked H0 br bw (vals2 7) w3 := hts 7 _ rfl rfl
      have f2 : Since H0 w w3 := hG 0 _ rfl (by kernel_rfl)
      obtain ⟨_, s2, hP2⟩ := f1
      have HP2 := Lib.hid hP2
      have HS2 := Lib.hid f2
      clear hts hG hP2 f2
      go_wp2_with fail
      exact ⟨⟨i + 1, s2, by omega, by go_num, HP2.out, HS2.out⟩, by simp [intOf]; omega⟩
    · go_wp2_with fail
      refine (awake1_any _).mono ?_
      rintro e w7 ⟨rfl, hB7⟩
      have HB7 := Lib.hid (HS.out.1.trans (hB7.mono HS.out.2))
      clear hB7
      go_wp2_with fail
      go_ret
      exact ⟨rfl, HB7.out⟩

end Go.Proofs.Ytclgblmhicabnaa
