/- Parts: LxL, LxR1, LxR2, LxR3, LxR4, LxR5, LxBk. -/
import Derived.Test.YtdabndiaflagpaaGreatDoorB15
import Derived.Test.YtdabndiaflagpaaGreatDoorB01
import Derived.WalkMore
import Derived.Deep.LoopGhost
import Derived.Test.YtdabndiaflagpaaGreatDoorB14
import Derived.Test.YtdabndiaflagpaaGreatDoorB04
set_option maxRecDepth 100000
set_option maxHeartbeats 4000000
set_option linter.unusedVariables false
namespace Go.Proofs.YtdabndiaflagpaaGreatDoor
open Go.RowKit
attribute [local go_sem] Tame.Op Tame.upon

theorem only_set2 (w : World) (P : Nat) (u v : Value) : w.grownBy ((w.setCell ⟨P, 0, none⟩ u).setCell ⟨P, 1, none⟩ v) (some P) := only_set (only_set (only_refl w P) 0 u) 1 v
theorem turnL_keep {p B j : Nat} {r : Option Nat} {w w' : World} (hp : p < B) (h : w.grownBy w' (if j = 10 then r else some p)) (b : Nat) (hb : Sb B r w b) : Sb B r w' b ∧ w'.heap[b]? = w.heap[b]? :=
  ⟨⟨hb.1, Nat.lt_of_lt_of_le hb.2.1 h.size, hb.2.2⟩, h.block b hb.2.1 (by
    split
    · exact hb.2.2
    · intro e; injection e with e; have := hb.1; omega)⟩
/-- What Lex leaves. -/
def LexPost (s : T) (w0 : World) (e : Ending) (w' : World) : Prop :=
  (∃ (ts : List Tk) (V : Value) (B : Nat), lexA s 0 [] = (ts, 0, 0) ∧ e = .returned (.tuple #[V, .agg #[.int .i64 0, .int .i64 0], .int .i64 0]) ∧ w0.heap.size ≤ B ∧ OwnG (RTk s) 141 5 w' B (Sb B V.ownBlock w') V ts ∧ Below w0.heap.size w0 w') ∨
  (∃ (a : Nat) (code : Int), lexA s 0 [] = ([], a, code) ∧ (code = 2 ∨ code = 4) ∧ e = .returned (.tuple #[.slice none 0 0, .agg #[.int .i64 (plAt s a).1, .int .i64 (plAt s a).2], .int .i64 code]) ∧ Below w0.heap.size w0 w')
def ghostsL (s : T) (w : World) (P B b : Nat) (p : Int × Int) (mb : Nat) (tv : Value) (acc : List Tk) : List Tame.Ghost :=
  [⟨Two w P tv.ownBlock, [10, 13]⟩, ⟨fun w2 => TxR w2 b [] p tv (.map (some mb)), [10, 13]⟩, ⟨AppT s B acc tv, [13]⟩, ⟨fun w2 => Row w2 P 58 #[.int .i64 0, .int .i64 0], [10]⟩]
theorem ghostsL_ok {s : T} {w : World} {P B b : Nat} {p : Int × Int} {mb : Nat} {tv : Value} {acc : List Tk} (h1 : TxR w b [] p tv (.map (some mb))) (hbB : b < B) (hPb : P < b) (h2 : AppT s B acc tv w) (h3 : Row w P 58 #[.int .i64 0, .int .i64 0]) :
    ∀ (i : Nat) (g : Tame.Ghost), (ghostsL s w P B b p mb tv acc)[i]? = some g → g.g w.drew ∧ (∀ w w', Tame.Later w w' → g.g w → g.g w') ∧
      ∀ j, [10, 13].contains j = true → g.keeps.contains j = true → ∀ w w', w.grownBy w' (if j = 10 then tv.ownBlock else some P) → g.g w → g.g w' := by
  intro i g hi
  rcases i with _ | _ | _ | _ | i
  · obtain rfl : (⟨Two w P tv.ownBlock, [10, 13]⟩ : Tame.Ghost) = g := by simpa [ghostsL] using hi
    refine ⟨(Two.refl _ _ _).later ((Below.refl _ _).drew), fun a c hl h => h.later hl, fun j _ _ a c hs h => h.turn hs ?_⟩
    split
    · exact .inl rfl
    · exact .inr rfl
  · obtain rfl : (⟨fun w2 => TxR w2 b [] p tv (.map (some mb)), [10, 13]⟩ : Tame.Ghost) = g := by simpa [ghostsL] using hi
    refine ⟨Row.drew h1, fun a c hl h => Row.below h hl (Row.lt h), fun j _ hj a c hs h => ?_⟩
    refine Row.grown h hs ?_
    split
    · intro e; have := (OwnG.lt h2 b e.symm).1; omega
    · intro e; injection e with e; omega
  · obtain rfl : (⟨AppT s B acc tv, [13]⟩ : Tame.Ghost) = g := by simpa [ghostsL] using hi
    refine ⟨OwnG.later (lastsT s) h2 ((Below.refl _ _).drew), fun a c hl h => OwnG.later (lastsT s) h hl, fun j _ hj a c hs h => ?_⟩
    have := one_of hj
    subst this
    exact OwnG.far (lastsT s) (p := P) h (by omega) hs
  · obtain rfl : (⟨fun w2 => Row w2 P 58 #[.int .i64 0, .int .i64 0], [10]⟩ : Tame.Ghost) = g := by simpa [ghostsL] using hi
    refine ⟨Row.drew h3, fun a c hl h => Row.below h hl (Row.lt h), fun j _ hj a c hs h => ?_⟩
    have := one_of hj
    subst this
    exact Row.grown h hs (by simp only [if_true]; intro e; have := (OwnG.lt h2 P e.symm).1; omega)
  · simp [ghostsL] at hi

set_option maxRecDepth 100000 in
set_option maxHeartbeats 4000000 in
theorem lex_any (s : T) (w : World) (hs : s.length ≤ 1000000) (he : LexEnv w) : Calls Tryz.prog 31 #[.string ⟨s.toArray⟩] w (LexPost s w) := by
  obtain ⟨i0, hi0, hz0, hz1, hz2⟩ := info_parts tok_info
  obtain ⟨w0, hw0⟩ : ∃ w0, w0 = w.alloc (.cells #[.int .i64 0, .int .i64 0] 58) := ⟨_, rfl⟩
  obtain ⟨P, hP⟩ : ∃ P, P = w.heap.size := ⟨_, rfl⟩
  have hz : w0.heap.size = P + 1 := by rw [hw0, hP]; simp
  have hbz : Below w.heap.size w w0 := by rw [hw0]; exact (Below.refl _ _).alloc (Nat.le_refl _) _
  have HP : Hid (P = w.heap.size) := Lib.hid hP
  have HBZ := Lib.hid hbz
  have HRP : Hid (Row w0 P 58 #[.int .i64 0, .int .i64 0]) := Lib.hid (by rw [hw0, hP]; exact Row.made _ _ _)
  have HE0 : Hid (LexEnv w0) := Lib.hid (he.later hbz)
  obtain ⟨b, hb⟩ : ∃ b, b = w0.heap.size + 1 := ⟨_, rfl⟩
  obtain ⟨mb, hmb⟩ : ∃ mb, mb = w0.heap.size := ⟨_, rfl⟩
  have HBG : Hid (Calls Tryz.prog 59 #[.string ⟨s.toArray⟩] w0 fun e w' => e = .returned (.pointer (some ⟨b, 0, none⟩)) ∧ Fresh s w0 w' b mb) := Lib.hid (by rw [hb, hmb]; exact begin_any s w0 hs HE0.out)
  have hPb : P < mb := by omega
  have hmbb : mb < b := by omega
  have hmz : w0.heap.size = mb := by omega
  clear he hbz hb hmb hz
  go_enter Tryz.func31, Tryz.ntmps31
  go_wp2_with fail
  rw [← hw0, ← hP]
  clear hw0 hP
  go_wp2_with (go_at_call 59; refine HBG.out.mono ?_; rintro e w1 ⟨rfl, hf⟩; have HF := Lib.hid hf; clear hf HBG)
  have hall := all_any s w0 w1 b mb HF.out
  by_cases hq : (lexA s 0 []).2.2 = 0
  · have HAL : Hid (Calls Tryz.prog 60 #[.pointer (some ⟨b, 0, none⟩)] w1 fun e w2 => e = .returned (.int .i64 0) ∧ ∃ (acc : List Tk) (a : Nat) (tv : Value) (mc : Nat) (W1 : World) (B : Nat), lexA s 0 [] = (acc ++ [⟨0, [], 0, a⟩], 0, 0) ∧ LxAt s w0 W1 B w2 b mb mc tv [] a acc) := Lib.hid (hall.mono fun e w2 hh => by
      rcases hh with ⟨acc, a, tv, mc, W1, B, hR, rfl, ha⟩ | ⟨a, code, tv, mc, l, acc, W1, B, hR, hcode, rfl, ha⟩
      · exact ⟨rfl, acc, a, tv, mc, W1, B, hR, ha⟩
      · rw [hR] at hq; simp only at hq; omega)
    clear hall hq
    go_wp2_with (go_at_call 60; refine HAL.out.mono ?_; rintro e w2 ⟨rfl, acc, a, tv, mc, W1, B, hR, ha⟩; have HA := Lib.hid ha; have HR := Lib.hid hR; clear ha hR HAL)
    obtain ⟨t, ht⟩ : ∃ t : Tk, t = ⟨0, [], 0, a⟩ := ⟨_, rfl⟩
    have h := HA.out
    have hpb := plAt_bound s a h.short_
    obtain ⟨z1, hz1e⟩ : ∃ z, z = (plAt s a).1 := ⟨_, rfl⟩
    obtain ⟨z2, hz2e⟩ : ∃ z, z = (plAt s a).2 := ⟨_, rfl⟩
    obtain ⟨cs, hcs⟩ : ∃ cs : Array Value, #[.int .i64 0, .string ⟨#[]⟩, .int .i64 0, .int .i64 z1, .int .i64 z2] = cs := ⟨_, rfl⟩
    have HCS : Hid (#[.int .i64 0, .string ⟨#[]⟩, .int .i64 0, .int .i64 z1, .int .i64 z2] = cs) := hcs
    have HCT : Hid (cs = (tkC s t).toArray) := Lib.hid (by rw [← hcs, ht]; simp [tkC, hz1e, hz2e])
    have HPE : Hid (plAt s a = (z1, z2)) := Lib.hid (by rw [hz1e, hz2e])
    have HROW : Hid (TxR w2 b [] (z1, z2) tv (.map (some mb))) := by have := h.row_; rw [HPE.out] at this; exact this
    have HOWN : Hid (AppT s B acc tv w2) := h.own_
    have HV : Hid (∀ q, tv.ownBlock = some q → B ≤ q ∧ q < w2.heap.size) := OwnG.lt h.own_
    have hbw : b < w2.heap.size := Row.lt h.row_
    have hbB := h.base_
    have hBw := h.room_
    have hfew : acc.length ≤ 1000000 := by have := h.few_; have := h.le_; have := h.short_; omega
    have HR3 : Hid (Row w2 P 58 #[.int .i64 0, .int .i64 0]) := Lib.hid (Row.below HRP.out h.below_ (by omega))
    have HT := Lib.hid ht
    clear hcs h ht hz1e hz2e hpb
    refine Tame.wp_region_tamg (L := Tame.Later) (M := fun j a c => a.grownBy c (if j = 10 then tv.ownBlock else some P)) (gs := ghostsL s w2 P B b (z1, z2) mb tv acc) [10, 13] (by kernel_rfl) (by kernel_rfl) Tame.Later.refl (fun _ w => World.grownBy.refl w _) (ghostsL_ok HROW.out hbB (by omega) HOWN.out HR3.out) ?_
    repeat
      ((first
        | (refine Tame.walk3_known (o := ⟨some 21, _, _, _, _, _⟩) (by kernel_rfl) (fun _ => rfl) ?_; apply Exists.intro; refine ⟨fun vals w3 hG hd => ?_, ?_⟩; (focus (have hr1 := (hG 1 _ rfl (by kernel_rfl) : TxR w3 b [] (z1, z2) tv (.map (some mb))); have hv := (show Row w3 b 139 _ from hr1).cell 3; clear hG hd hr1; simp at hv; go_simp; exact Tame.Is.mk (Tame.Later.refl _))))
        | (refine Tame.walk3_known (o := ⟨some 25, _, _, _, _, _⟩) (by kernel_rfl) (fun _ => rfl) ?_; apply Exists.intro; refine ⟨fun vals w3 hG hd => ?_, ?_⟩; (focus (have hr1 := (hG 1 _ rfl (by kernel_rfl) : TxR w3 b [] (z1, z2) tv (.map (some mb))); have hv := (show Row w3 b 139 _ from hr1).cell 1; have hv2 := (show Row w3 b 139 _ from hr1).cell 2; clear hG hd hr1; simp at hv hv2; go_simp; exact Tame.Is.mk (Tame.Later.refl _))))
        | (refine Tame.walk3_some (o := ⟨some 27, _, _, _, _, _⟩) (NewTk B tv cs) (none) ([10, 13]) (by kernel_rfl) (fun _ => rfl) (by kernel_rfl) (fun u a c hl h => NewTk.move h (later_keep hl)) (fun i _ _ u a c hs h => NewTk.move h (turnL_keep (by omega) hs)) (fun vals w3 hG hd => ?_) ?_; (focus (have hg3 := (hG 0 _ rfl (by kernel_rfl) : Two w2 P tv.ownBlock w3); have hzr := hg3.size; clear hG hd hg3; go_simp; exact Tame.Has.mk ((Below.refl _ _).alloc (Nat.le_refl _) _) ⟨w3.heap.size, rfl, HCS.out ▸ Row.made _ _ _, by omega, by simp, fun e => by have := HV.out _ e.symm; omega⟩)))
        | (refine Tame.walk3_write (o := ⟨some 28, _, _, _, _, _⟩) (AppT s B (acc ++ [t])) (none) ([13]) (fun _ => rfl) (by kernel_rfl) (by kernel_rfl) (fun u a c hl h => OwnG.later (lastsT s) h hl) (fun i _ hj u a c hs h => OwnG.far (lastsT s) (p := P) h (by omega) (by have := one_of hj; subst this; exact hs)) (fun vals w3 hG hd => ?_) ?_; (focus (have hg3 := (hG 0 _ rfl (by kernel_rfl) : Two w2 P tv.ownBlock w3); have hzr := hg3.size; have h1 := (hd 9 _ rfl (by kernel_rfl) rfl : NewTk B tv cs (vals 9) w3); have h2 := (hG 2 _ rfl (by kernel_rfl) : AppT s B acc tv w3); clear hG hd hg3; obtain ⟨g1, hv1, hr1, hs1⟩ := h1; obtain ⟨ds, ho, hx⟩ := h2; exact op_append (.tmp 21) (.tmp 27) _ rfl B 141 i0 _ 5 48 Tryz.underlying90 hi0 hz0 hz1 hz2 rfl (by omega) (by omega) tv _ ds rfl ho g1 1 141 (tkC s t) hv1 rfl (by rw [HCT.out] at hr1; exact hr1) ((lastsT s).one (w := w3) (S := fun _ => True) rfl) (by omega) (by omega) (fun v' w' ho' hgr hat => ⟨hgr, own_snoc ho' hx hgr hat⟩))))
        | (refine Tame.walk3_some (o := ⟨some 2, _, _, _, _, _⟩) (AppT s B (acc ++ [t])) (none) ([13]) (by kernel_rfl) (fun _ => rfl) (by kernel_rfl) (fun u a c hl h => OwnG.later (lastsT s) h hl) (fun i _ hj u a c hs h => OwnG.far (lastsT s) (p := P) h (by omega) (by have := one_of hj; subst this; exact hs)) (fun vals w3 hG hd => ?_) ?_; (focus (have h1 := (hd 10 _ rfl (by kernel_rfl) rfl : AppT s B (acc ++ [t]) (vals 10) w3); have H1 := Lib.hid h1; clear hG hd h1; go_simp; exact Tame.Has.mk (Tame.Later.refl _) H1.out)))
        | (refine Tame.walk3_lays (o := ⟨none, Op.store _ _ _, _, _, _, _⟩) (fun _ w => Row w P 58 #[.int .i64 0, .int .i64 0]) none ([10]) ([]) (fun _ => rfl) (by kernel_rfl) (by kernel_rfl) (by kernel_rfl) (fun vals vals' w hh h => h) (fun vals w w' hl h => Row.below h hl (Row.lt h)) (fun j hj hk vals w w' hm h => by have := one_of hk; subst this; exact Row.grown h hm (by simp only [if_true]; intro e; have := (HV.out P e.symm).1; omega)) (fun vals w3 hG hd => ?_) ?_; (focus (have hr1 := (hG 3 _ rfl (by kernel_rfl) : Row w3 P 58 #[.int .i64 0, .int .i64 0]); clear hG hd; have q0 := hr1.cell 0; have q1 := hr1.cell 1; have p0 := hr1.free 0; have p1 := hr1.free 1; simp at q0 q1; have HR1 := Lib.hid hr1; clear hr1; go_simp; exact ⟨only_set2 w3 P _ _, by have := (HR1.out.set 0 (.int .i64 0)).set 1 (.int .i64 0); simpa using this⟩)))
        | (refine Tame.walk3_known (by kernel_rfl) (fun _ => rfl) ?_; apply Exists.intro; refine ⟨fun vals w3 hG hd => ?_, ?_⟩; (focus (go_simp; first | exact Tame.Is.mk (Tame.Later.refl _) | (rw [if_neg]; (focus exact Tame.Is.mk (Tame.Later.refl _)); omega)))))
       simp only [Act.put, List.setIfInBounds_toArray, List.set_cons_zero, List.set_cons_succ, List.nil_append, List.cons_append, List.length_cons, List.length_nil, Nat.zero_add, Nat.reduceAdd])
    refine Tame.walk3_end fun vals w3 hG hts => ?_
    have f0 : Two w2 P tv.ownBlock w3 := hG 0 _ rfl (by kernel_rfl)
    have f1 : AppT s B (acc ++ [t]) (vals 12) w3 := hts 12 _ rfl rfl
    have f2 : Row w3 P 58 #[.int .i64 0, .int .i64 0] := hts 13 _ rfl rfl
    obtain ⟨V, hV⟩ : ∃ V, V = vals 12 := ⟨_, rfl⟩
    rw [← hV] at f1
    have HF0 := Lib.hid f0
    have HF1 := Lib.hid f1
    have q0 := f2.cell 0
    have q1 := f2.cell 1
    simp at q0 q1
    clear f0 f1 f2 hts hG
    go_wp2_with fail
    (try simp only [Exit.inBlock, Exit.then])
    refine bodyPost_ret (by simp [results, Tryz.results31, go_sem, q0, q1]; rfl) rfl ?_
    refine .inl ⟨acc ++ [t], V, B, ?_, ?_, ?_, HF1.out, ?_⟩
    · rw [HR.out, HT.out]
    · rw [hV]
    · have := HP.out; omega
    · have h := HA.out
      have := HP.out
      have hwz : w.heap.size ≤ w0.heap.size := by omega
      exact ⟨HF0.out.os.trans (h.below_.os.trans HBZ.out.os), HF0.out.tape.trans (h.below_.tape.trans HBZ.out.tape), HF0.out.output.trans (h.below_.output.trans HBZ.out.output), Nat.le_trans hwz (Nat.le_trans h.below_.size HF0.out.size), fun q hq => (HF0.out.block q (by omega) (by omega) (fun e => by have := HV.out q e.symm; omega)).trans ((h.below_.block q (by omega)).trans (HBZ.out.block q hq))⟩
  · have HAL : Hid (Calls Tryz.prog 60 #[.pointer (some ⟨b, 0, none⟩)] w1 fun e w2 => ∃ (a : Nat) (code : Int) (tv : Value) (mc : Nat) (l : T) (acc : List Tk) (W1 : World) (B : Nat), e = .returned (.int .i64 code) ∧ lexA s 0 [] = ([], a, code) ∧ (code = 2 ∨ code = 4) ∧ LxAt s w0 W1 B w2 b mb mc tv l a acc) := Lib.hid (hall.mono fun e w2 hh => by
      rcases hh with ⟨acc, a, tv, mc, W1, B, hR, rfl, ha⟩ | ⟨a, code, tv, mc, l, acc, W1, B, hR, hcode, rfl, ha⟩
      · rw [hR] at hq; exact absurd rfl hq
      · exact ⟨a, code, tv, mc, l, acc, W1, B, rfl, hR, hcode, ha⟩)
    clear hall hq
    go_wp2_with (go_at_call 60; refine HAL.out.mono ?_; rintro e w2 ⟨a, code, tv, mc, l, acc, W1, B, rfl, hR, hcode, ha⟩; have HA := Lib.hid ha; have HR := Lib.hid hR; have HCD := Lib.hid hcode; have hc0 : ¬ code = 0 := (by omega); clear ha hR HAL hcode)
    have h := HA.out
    have hr1 := (show Row w2 b 139 _ from h.row_)
    have c1 := hr1.cell 1
    have c2 := hr1.cell 2
    have hr3 : Row w2 P 58 #[.int .i64 0, .int .i64 0] := Row.below HRP.out h.below_ (by omega)
    have q0 := hr3.cell 0
    have q1 := hr3.cell 1
    have p0 := hr3.free 0
    have p1 := hr3.free 1
    simp at c1 c2 q0 q1
    have hbz : b < w2.heap.size := Row.lt hr1
    clear h hr1 hr3
    go_region
    all_goals go_wp2_with fail
    all_goals (try simp only [Exit.inBlock, Exit.then])
    have hr3 : Row w2 P 58 #[.int .i64 0, .int .i64 0] := Row.below HRP.out HA.out.below_ (by omega)
    have hr4 := (hr3.set 0 (.int .i64 (plAt s a).1)).set 1 (.int .i64 (plAt s a).2)
    have g4 := only_set2 w2 P (.int .i64 (plAt s a).1) (.int .i64 (plAt s a).2)
    have hr5 := Row.drew hr4
    have y0 := hr5.cell 0
    have y1 := hr5.cell 1
    simp at y0 y1
    refine bodyPost_ret (by simp [results, Tryz.results31, go_sem, y0, y1]; rfl) rfl ?_
    refine .inr ⟨a, code, HR.out, HCD.out, rfl, ?_⟩
    have h := HA.out
    have := HP.out
    have hwz : w.heap.size ≤ w0.heap.size := by omega
    have hb2 : Below w.heap.size w w2 := ⟨h.below_.os.trans HBZ.out.os, h.below_.tape.trans HBZ.out.tape, h.below_.output.trans HBZ.out.output, Nat.le_trans hwz h.below_.size, fun q hq => (h.below_.block q (by omega)).trans (HBZ.out.block q hq)⟩
    exact (hb2.grown g4 hb2.size (fun k e => by injection e with e; omega)).drew

end Go.Proofs.YtdabndiaflagpaaGreatDoor
namespace Go.Proofs.YtdabndiaflagpaaGreatDoor
open Go.RowKit

theorem str_mid (s : T) (i n : Nat) : (⟨s.toArray⟩ : ByteArray).extract i (i + n) = ⟨((s.drop i).take n).toArray⟩ := by
  apply ByteArray.ext
  simp [ByteArray.data_extract, List.take_drop]
theorem run_mid (s : T) (i n : Nat) (j : Int) (hj : j = ((i + n : Nat) : Int)) (h : i + n ≤ s.length) (w : World) : (Instr.slice 9 (.string ⟨s.toArray⟩) (some (.int .i64 (i : Int))) (some (.int .i64 j)) none).run Tryz.prog w = .ok (.string ⟨((s.drop i).take n).toArray⟩) w := by
  subst hj
  rw [run_slice_string _ _ _ _ _ _ _ Tryz.underlying9 (by omega) (by omega) (by show _ ≤ ((s.toArray.size : Nat) : Int); simp; omega), Int.toNat_natCast, Int.toNat_natCast, str_mid]
end Go.Proofs.YtdabndiaflagpaaGreatDoor
namespace Go.Proofs.YtdabndiaflagpaaGreatDoor
open Go.RowKit

end Go.Proofs.YtdabndiaflagpaaGreatDoor
namespace Go.Proofs.YtdabndiaflagpaaGreatDoor
open Go.RowKit

end Go.Proofs.YtdabndiaflagpaaGreatDoor
namespace Go.Proofs.YtdabndiaflagpaaGreatDoor
open Go.RowKit

end Go.Proofs.YtdabndiaflagpaaGreatDoor
namespace Go.Proofs.YtdabndiaflagpaaGreatDoor
open Go.RowKit

/-! ### Numbers -/
end Go.Proofs.YtdabndiaflagpaaGreatDoor
namespace Go.Proofs.YtdabndiaflagpaaGreatDoor
open Go.RowKit

/-! ### A token stands by itself -/
/-! ### What comes, comes again -/
end Go.Proofs.YtdabndiaflagpaaGreatDoor
