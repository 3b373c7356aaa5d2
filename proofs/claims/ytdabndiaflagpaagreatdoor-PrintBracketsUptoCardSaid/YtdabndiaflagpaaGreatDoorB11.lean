/- Parts: LxT, LxK, LxM, LxN. -/
import Derived.Test.YtdabndiaflagpaaGreatDoorB01
import Derived.WalkSpells
import Derived.Handy
import Derived.Test.YtdabndiaflagpaaGreatDoorB12
import Derived.Lib.ParseIntBTie
set_option maxRecDepth 100000
set_option maxHeartbeats 4000000
set_option linter.unusedVariables false
namespace Go.Proofs.YtdabndiaflagpaaGreatDoor
open Go.RowKit
attribute [local go_sem] Tame.Op Tame.upon

theorem clone_any (x : ByteArray) (w : World) (hx : x.size ≤ 281474976710656) : Calls Tryz.prog 153 #[.string x] w fun e w' => e = .returned (.string x) ∧ Below w.heap.size w w' := by
  have HC := Lib.hid (Tryz.stringslite_Clone x w hx)
  go_enter Tryz.func153, Tryz.ntmps153
  go_wp2_with (go_at_call 170; refine HC.out.mono ?_; rintro e w1 ⟨rfl, hb⟩; have HB := Lib.hid hb; clear hb)
  go_ret
  exact ⟨rfl, HB.out⟩

/-- Two blocks alone may have turned. -/
structure Two (w0 : World) (b : Nat) (r : Option Nat) (w : World) : Prop where
  os : w.os = w0.os
  tape : w.tape = w0.tape
  output : w.output = w0.output
  size : w0.heap.size ≤ w.heap.size
  block : ∀ q, q < w0.heap.size → q ≠ b → some q ≠ r → w.heap[q]? = w0.heap[q]?
theorem Two.refl (w : World) (b : Nat) (r : Option Nat) : Two w b r w := ⟨rfl, rfl, rfl, Nat.le_refl _, fun _ _ _ _ => rfl⟩
theorem Two.later {w0 w w' : World} {b : Nat} {r : Option Nat} (h : Two w0 b r w) (hl : Tame.Later w w') : Two w0 b r w' := ⟨(Below.os hl).trans h.os, (Below.tape hl).trans h.tape, (Below.output hl).trans h.output, Nat.le_trans h.size (Below.size hl), fun q hq h1 h2 => (Below.block hl q (Nat.lt_of_lt_of_le hq h.size)).trans (h.block q hq h1 h2)⟩
theorem Two.turn {w0 w w' : World} {b : Nat} {r r' : Option Nat} (h : Two w0 b r w) (hg : w.grownBy w' r') (hr : r' = r ∨ r' = some b) : Two w0 b r w' := ⟨hg.os.trans h.os, hg.tape.trans h.tape, hg.output.trans h.output, Nat.le_trans h.size hg.size, fun q hq h1 h2 => (hg.block q (Nat.lt_of_lt_of_le hq h.size) (by rcases hr with rfl | rfl; exact h2; intro e; injection e with e; exact h1 e)).trans (h.block q hq h1 h2)⟩

theorem turnT_keep {p B j : Nat} {r : Option Nat} {w w' : World} (hp : p < B) (h : w.grownBy w' (if j = 15 then r else some p)) (b : Nat) (hb : Sb B r w b) : Sb B r w' b ∧ w'.heap[b]? = w.heap[b]? :=
  ⟨⟨hb.1, Nat.lt_of_lt_of_le hb.2.1 h.size, hb.2.2⟩, h.block b hb.2.1 (by
    split
    · exact hb.2.2
    · intro e; injection e with e; have := hb.1; omega)⟩
def NewTk (B : Nat) (tv : Value) (cs : Array Value) (u : Value) (w : World) : Prop := ∃ g, u = .slice (some ⟨g, 0, none⟩) 1 1 ∧ Row w g 141 cs ∧ Sb B tv.ownBlock w g
theorem NewTk.move {B : Nat} {tv : Value} {cs : Array Value} {u : Value} {w w' : World} (h : NewTk B tv cs u w) (hm : ∀ q, Sb B tv.ownBlock w q → Sb B tv.ownBlock w' q ∧ w'.heap[q]? = w.heap[q]?) : NewTk B tv cs u w' := by
  obtain ⟨g, hv, hr, hs⟩ := h
  exact ⟨g, hv, (hm g hs).2.trans hr, (hm g hs).1⟩
def AppT (s : T) (B : Nat) (xs : List Tk) (u : Value) (w : World) : Prop := OwnG (RTk s) 141 5 w B (Sb B u.ownBlock w) u xs
theorem appT_form {s : T} {B : Nat} {xs : List Tk} {u : Value} {w : World} (h : AppT s B xs u w) : ∃ A c, u = .slice A xs.length c := by
  obtain ⟨A, c, hv, _⟩ := OwnG.form (lastsT s) h (S' := fun _ => True) (fun _ _ => trivial) (fun _ _ _ _ => trivial)
  exact ⟨A, c, hv⟩
theorem own_snoc {s : T} {B : Nat} {tv v' : Value} {acc : List Tk} {t : Tk} {w w' : World} {ds : List Value} (ho' : w'.ownsRow B 141 5 v' (acc.length + 1) (ds ++ tkC s t)) (hx : CG (RTk s) w (Sb B tv.ownBlock w) acc ds)
    (hgr : w.grownBy w' tv.ownBlock) (hat : v'.ownBlock = tv.ownBlock ∨ v'.ownBlock = some w.heap.size) : AppT s B (acc ++ [t]) v' w' := by
  have hm : ∀ q, Sb B tv.ownBlock w q → Sb B v'.ownBlock w' q ∧ w'.heap[q]? = w.heap[q]? := fun q hq => ⟨⟨hq.1, Nat.lt_of_lt_of_le hq.2.1 hgr.size, by
    rcases hat with h | h
    · rw [h]; exact hq.2.2
    · rw [h]; intro e; injection e with e; have := hq.2.1; omega⟩, hgr.block q hq.2.1 hq.2.2⟩
  refine ⟨ds ++ tkC s t, ?_, CG.snoc rfl (hx.move (lastsT s) hm)⟩
  rw [List.length_append]
  exact ho'
def LaidT (b : Nat) (l : T) (p : Int × Int) (mb : Nat) (vals : Nat → Value) (w : World) : Prop := TxR w b l p (vals 15) (.map (some mb))
theorem LaidT.same {b : Nat} {l : T} {p : Int × Int} {mb : Nat} {vals vals' : Nat → Value} {w : World} (h : LaidT b l p mb vals w) (e : vals 15 = vals' 15) : LaidT b l p mb vals' w := by unfold LaidT; rw [← e]; exact h
theorem LaidT.mk {b : Nat} {l : T} {p : Int × Int} {mb : Nat} {vals : Nat → Value} {w : World} {u : Value} (e : vals 15 = u) (h : TxR w b l p u (.map (some mb))) : LaidT b l p mb vals w := by unfold LaidT; rw [e]; exact h

def ghostsT (s : T) (w : World) (B b : Nat) (l : T) (p : Int × Int) (mb : Nat) (tv : Value) (acc : List Tk) : List Tame.Ghost :=
  [⟨Two w b tv.ownBlock, [15, 18]⟩, ⟨fun w2 => TxR w2 b l p tv (.map (some mb)), [15]⟩, ⟨AppT s B acc tv, []⟩]
theorem ghostsT_ok {s : T} {w : World} {B b : Nat} {l : T} {p : Int × Int} {mb : Nat} {tv : Value} {acc : List Tk} (h1 : TxR w b l p tv (.map (some mb))) (hbB : b < B) (h2 : AppT s B acc tv w) :
    ∀ (i : Nat) (g : Tame.Ghost), (ghostsT s w B b l p mb tv acc)[i]? = some g → g.g w.drew ∧ (∀ w w', Tame.Later w w' → g.g w → g.g w') ∧
      ∀ j, [15, 18].contains j = true → g.keeps.contains j = true → ∀ w w', w.grownBy w' (if j = 15 then tv.ownBlock else some b) → g.g w → g.g w' := by
  intro i g hi
  rcases i with _ | _ | _ | i
  · obtain rfl : (⟨Two w b tv.ownBlock, [15, 18]⟩ : Tame.Ghost) = g := by simpa [ghostsT] using hi
    refine ⟨(Two.refl _ _ _).later ((Below.refl _ _).drew), fun a c hl h => h.later hl, fun j _ _ a c hs h => h.turn hs ?_⟩
    split
    · exact .inl rfl
    · exact .inr rfl
  · obtain rfl : (⟨fun w2 => TxR w2 b l p tv (.map (some mb)), [15]⟩ : Tame.Ghost) = g := by simpa [ghostsT] using hi
    refine ⟨Row.drew h1, fun a c hl h => Row.below h hl (Row.lt h), fun j _ hj a c hs h => ?_⟩
    obtain rfl := one_of hj
    exact Row.grown h hs (by simp only [if_true]; intro e; have := (OwnG.lt h2 b e.symm).1; omega)
  · obtain rfl : (⟨AppT s B acc tv, []⟩ : Tame.Ghost) = g := by simpa [ghostsT] using hi
    exact ⟨OwnG.later (lastsT s) h2 ((Below.refl _ _).drew), fun a c hl h => OwnG.later (lastsT s) h hl, fun j _ hj => by cases hj⟩
  · simp [ghostsT] at hi

set_option maxRecDepth 100000 in
set_option maxHeartbeats 4000000 in
theorem take_any (s : T) (W0 W1 : World) (B : Nat) (w : World) (b mb mc : Nat) (tv : Value) (x r : T) (a : Nat) (acc : List Tk) (kind n : Int) (hx : 0 < x.length) (h : LxAt s W0 W1 B w b mb mc tv (x ++ r) a acc) :
    Calls Tryz.prog 128 #[.pointer (some ⟨b, 0, none⟩), .int .i64 kind, .string ⟨x.toArray⟩, .int .i64 n] w fun e w' => e = .returned (.tuple #[]) ∧ ∃ tv', LxAt s W0 W1 B w' b mb mc tv' r (a + x.length) (acc ++ [⟨kind, x, n, a⟩]) := by
  obtain ⟨i0, hi0, hz0, hz1, hz2⟩ := info_parts tok_info
  obtain ⟨t, ht⟩ : ∃ t : Tk, t = ⟨kind, x, n, a⟩ := ⟨_, rfl⟩
  have hxl : x.length ≤ 1000000 := by have := le_on h.rest_ h.le_; have := h.short_; omega
  have hpb := plAt_bound s a h.short_
  obtain ⟨z1, hz1e⟩ : ∃ z, z = (plAt s a).1 := ⟨_, rfl⟩
  obtain ⟨z2, hz2e⟩ : ∃ z, z = (plAt s a).2 := ⟨_, rfl⟩
  obtain ⟨cs, hcs⟩ : ∃ cs : Array Value, #[.int .i64 kind, .string ⟨x.toArray⟩, .int .i64 n, .int .i64 z1, .int .i64 z2] = cs := ⟨_, rfl⟩
  have HCS : Hid (#[.int .i64 kind, .string ⟨x.toArray⟩, .int .i64 n, .int .i64 z1, .int .i64 z2] = cs) := hcs
  have HCT : Hid (cs = (tkC s t).toArray) := Lib.hid (by rw [← hcs, ht]; simp [tkC, hz1e, hz2e])
  have HPE : Hid (plAt s a = (z1, z2)) := Lib.hid (by rw [hz1e, hz2e])
  have HROW : Hid (TxR w b (x ++ r) (z1, z2) tv (.map (some mb))) := by have := h.row_; rw [HPE.out] at this; exact this
  have HOWN : Hid (AppT s B acc tv w) := h.own_
  have HV : Hid (∀ q, tv.ownBlock = some q → B ≤ q ∧ q < w.heap.size) := OwnG.lt h.own_
  have hbw : b < w.heap.size := Row.lt h.row_
  have hbB := h.base_
  have hBw := h.room_
  have HXL : Hid ((⟨x.toArray⟩ : ByteArray).size ≤ 281474976710656) := Lib.hid (by show x.toArray.size ≤ _; simp; omega)
  have hfew : acc.length ≤ 1000000 := by have := h.few_; have := h.le_; have := h.short_; omega
  have HAT := Lib.hid h
  have HT := Lib.hid ht
  have HPB : Hid (1 ≤ z1 ∧ z1 ≤ 5000000 ∧ 1 ≤ z2 ∧ z2 ≤ 5000000) := Lib.hid (by rw [hz1e, hz2e]; exact hpb)
  clear hcs h ht hz1e hz2e hpb
  go_enter Tryz.func128, Tryz.ntmps128
  go_wp2_with fail
  refine Tame.wp_region_tamg (L := Tame.Later) (M := fun j a c => a.grownBy c (if j = 15 then tv.ownBlock else some b)) (gs := ghostsT s w B b (x ++ r) (z1, z2) mb tv acc) [15, 18] (by kernel_rfl) (by kernel_rfl) Tame.Later.refl (fun _ w => World.grownBy.refl w _) (ghostsT_ok HROW.out hbB HOWN.out) ?_
  repeat
    ((first
      | (refine Tame.walk3_known (o := ⟨some 12, _, _, _, _, _⟩) (by kernel_rfl) (fun _ => rfl) ?_; apply Exists.intro; refine ⟨fun vals w2 hG hd => ?_, ?_⟩; (focus (have hr1 := (hG 1 _ rfl (by kernel_rfl) : TxR w2 b (x ++ r) (z1, z2) tv (.map (some mb))); have hv := (show Row w2 b 139 _ from hr1).cell 3; clear hG hd hr1; simp at hv; go_simp; exact Tame.Is.mk (Tame.Later.refl _))))
      | (refine Tame.walk3_known (o := ⟨some 15, _, _, _, _, _⟩) (by kernel_rfl) (fun _ => rfl) ?_; apply Exists.intro; refine ⟨fun vals w2 hG hd => ?_, ?_⟩; (focus (have HC := Lib.hid (clone_any ⟨x.toArray⟩ w2 HXL.out); clear hG hd; go_simp; exact Tame.known HC.out)))
      | (refine Tame.walk3_known (o := ⟨some 20, _, _, _, _, _⟩) (by kernel_rfl) (fun _ => rfl) ?_; apply Exists.intro; refine ⟨fun vals w2 hG hd => ?_, ?_⟩; (focus (have hr1 := (hG 1 _ rfl (by kernel_rfl) : TxR w2 b (x ++ r) (z1, z2) tv (.map (some mb))); have hv := (show Row w2 b 139 _ from hr1).cell 1; have hv2 := (show Row w2 b 139 _ from hr1).cell 2; clear hG hd hr1; simp at hv hv2; go_simp; exact Tame.Is.mk (Tame.Later.refl _))))
      | (refine Tame.walk3_some (o := ⟨some 22, _, _, _, _, _⟩) (NewTk B tv cs) (none) ([15, 18]) (by kernel_rfl) (fun _ => rfl) (by kernel_rfl) (fun u a c hl h => NewTk.move h (later_keep hl)) (fun i _ _ u a c hs h => NewTk.move h (turnT_keep (by omega) hs)) (fun vals w2 hG hd => ?_) ?_; (focus (have hg3 := (hG 0 _ rfl (by kernel_rfl) : Two w b tv.ownBlock w2); have hzr := hg3.size; clear hG hd hg3; go_simp; exact Tame.Has.mk ((Below.refl _ _).alloc (Nat.le_refl _) _) ⟨w2.heap.size, rfl, HCS.out ▸ Row.made _ _ _, by omega, by simp, fun e => by have := HV.out _ e.symm; omega⟩)))
      | (refine Tame.walk3_write (o := ⟨some 23, _, _, _, _, _⟩) (AppT s B (acc ++ [t])) (none) ([18]) (fun _ => rfl) (by kernel_rfl) (by kernel_rfl) (fun u a c hl h => OwnG.later (lastsT s) h hl) (fun i _ hj u a c hs h => OwnG.far (lastsT s) (p := b) h (by omega) (by have := one_of hj; subst this; exact hs)) (fun vals w2 hG hd => ?_) ?_; (focus (have hg3 := (hG 0 _ rfl (by kernel_rfl) : Two w b tv.ownBlock w2); have hzr := hg3.size; have h1 := (hd 14 _ rfl (by kernel_rfl) rfl : NewTk B tv cs (vals 14) w2); have h2 := (hG 2 _ rfl (by kernel_rfl) : AppT s B acc tv w2); clear hG hd hg3; obtain ⟨g1, hv1, hr1, hs1⟩ := h1; obtain ⟨ds, ho, hx⟩ := h2; exact op_append (.tmp 12) (.tmp 22) _ rfl B 141 i0 _ 5 48 Tryz.underlying90 hi0 hz0 hz1 hz2 rfl (by omega) (by omega) tv _ ds rfl ho g1 1 141 (tkC s t) hv1 rfl (by rw [HCT.out] at hr1; exact hr1) ((lastsT s).one (w := w2) (S := fun _ => True) rfl) (by omega) (by omega) (fun v' w' ho' hgr hat => ⟨hgr, own_snoc ho' hx hgr hat⟩))))
      | (refine Tame.walk3_lays (o := ⟨none, Op.store _ _ _, _, _, _, _⟩) (LaidT b (x ++ r) (z1, z2) mb) none ([]) ([15]) (fun _ => rfl) (by kernel_rfl) (by kernel_rfl) (by kernel_rfl) (fun vals vals' w hh h => h.same (hh 15 (by decide))) (fun vals w w' hl h => Row.below h hl (Row.lt h)) (fun j hj hk => by cases hk) (fun vals w2 hG hd => ?_) ?_; (focus (have h1 := (hd 15 _ rfl (by kernel_rfl) (by kernel_rfl) : AppT s B (acc ++ [t]) (vals 15) w2); have hr1 := (hG 1 _ rfl (by kernel_rfl) : TxR w2 b (x ++ r) (z1, z2) tv (.map (some mb))); clear hG hd; obtain ⟨E1, f1, hv1⟩ := appT_form h1; have HR1 := Lib.hid (show Row w2 b 139 _ from hr1); have q3 := HR1.out.cell 3; have p3 := HR1.out.free 3; simp at q3; clear hr1 h1; go_simp; exact ⟨only_set (only_refl w2 b) 3 _, LaidT.mk hv1 (by have := HR1.out.set 3 (.slice E1 (acc ++ [t]).length f1); unfold TxR; simpa using this)⟩)))
      | (refine Tame.walk3_known (by kernel_rfl) (fun _ => rfl) ?_; apply Exists.intro; refine ⟨fun vals w2 hG hd => ?_, ?_⟩; (focus (go_simp; first | exact Tame.Is.mk (Tame.Later.refl _) | (rw [if_neg]; (focus exact Tame.Is.mk (Tame.Later.refl _)); omega)))))
     simp only [Act.put, List.setIfInBounds_toArray, List.set_cons_zero, List.set_cons_succ, List.nil_append, List.cons_append, List.length_cons, List.length_nil, Nat.zero_add, Nat.reduceAdd])
  refine Tame.walk3_end fun vals w2 hG hts => ?_
  have f0 : Two w b tv.ownBlock w2 := hG 0 _ rfl (by kernel_rfl)
  have f1 : AppT s B (acc ++ [t]) (vals 15) w2 := hts 15 _ rfl rfl
  have f2 : LaidT b (x ++ r) (z1, z2) mb vals w2 := hts 18 _ rfl rfl
  obtain ⟨tv', htv'⟩ : ∃ tv', tv' = vals 15 := ⟨_, rfl⟩
  have HF0 := Lib.hid f0
  have HF1 : Hid (AppT s B (acc ++ [t]) tv' w2) := Lib.hid (by rw [htv']; exact f1)
  have HPS : Hid (Calls Tryz.prog 123 #[.pointer (some ⟨b, 0, none⟩), .string ⟨x.toArray⟩] w2 fun e w' => e = .returned (.tuple #[]) ∧ TxR w' b r (plS (z1, z2) x) tv' (.map (some mb)) ∧ w2.grownBy w' (some b)) :=
    pass_any x r b (z1, z2) tv' (.map (some mb)) w2 hxl HPB.out.1 HPB.out.2.1 HPB.out.2.2.1 HPB.out.2.2.2 (by have := f2; unfold LaidT at this; rw [← htv'] at this; exact this)
  clear f0 f1 f2 hts hG
  go_wp2_with (go_at_call 123; refine HPS.out.mono ?_; rintro e w3 ⟨rfl, hr3, hg3⟩; have HR3 := Lib.hid hr3; have HG3 := Lib.hid hg3; clear hr3 hg3)
  go_end0
  refine ⟨rfl, tv', ?_⟩
  rw [← HT.out]
  have h := HAT.out
  have hmb := h.mb_
  have hold := h.old_
  have hz2 := HF0.out.size
  have hb2 : Below W0.heap.size W0 w2 := ⟨HF0.out.os.trans h.below_.os, HF0.out.tape.trans h.below_.tape, HF0.out.output.trans h.below_.output, Nat.le_trans h.below_.size hz2, fun q hq => (HF0.out.block q (by have := h.below_.size; omega) (by omega) (fun e => by have := HV.out q e.symm; omega)).trans (h.below_.block q hq)⟩
  refine ⟨?_, OwnG.far (lastsT s) (p := b) HF1.out (by omega) HG3.out, (h.map_.move (HF0.out.block mb h.map_.lt (by omega) (fun e => by have := HV.out mb e.symm; omega))).kept HG3.out (by intro e; injection e with e; omega), h.env_, hmb, hold, ?_, drop_on h.rest_, ?_, le_on h.rest_ h.le_, h.short_, h.base_, by have := HG3.out.size; omega, fun q h1 h2 h3 => (HG3.out.block q (by omega) (by intro e; injection e with e; exact h2 e)).trans ((HF0.out.block q (by omega) h2 (fun e => by have := HV.out q e.symm; omega)).trans (h.keep_ q h1 h2 h3))⟩
  · rw [plAt_on h.rest_, HPE.out]; exact HR3.out
  · exact hb2.grown HG3.out hb2.size (fun k e => by injection e with e; omega)
  · rw [List.length_append]; have := h.few_; simp only [List.length_cons, List.length_nil]; omega

end Go.Proofs.YtdabndiaflagpaaGreatDoor
namespace Go.Proofs.YtdabndiaflagpaaGreatDoor
open Go.RowKit

theorem LxAt.later {s : T} {W0 W1 w w' : World} {B : Nat} {b mb mc : Nat} {tv : Value} {l : T} {a : Nat} {acc : List Tk} (h : LxAt s W0 W1 B w b mb mc tv l a acc) (hb : Below w.heap.size w w') : LxAt s W0 W1 B w' b mb mc tv l a acc :=
  ⟨Row.below h.row_ hb (Row.lt h.row_), OwnG.later (lastsT s) h.own_ hb, h.map_.move (hb.block mb h.map_.lt), h.env_, h.mb_, h.old_, h.below_.trans (hb.mono h.below_.size), h.rest_, h.few_, h.le_, h.short_, h.base_, Nat.le_trans h.room_ hb.size, fun q h1 h2 h3 => (hb.block q (Nat.lt_of_lt_of_le h1 h.room_)).trans (h.keep_ q h1 h2 h3)⟩
theorem LxAt.mapped {s : T} {W0 W1 w w' : World} {B : Nat} {b mb mc mc' : Nat} {tv : Value} {l : T} {a : Nat} {acc : List Tk} (h : LxAt s W0 W1 B w b mb mc tv l a acc) (hg : w.grownBy w' (some mb)) (hm : KM w' mb mc') : LxAt s W0 W1 B w' b mb mc' tv l a acc :=
  ⟨Row.grown h.row_ hg (by intro e; injection e with e; have := h.mb_; omega), OwnG.far (lastsT s) h.own_ (by have := h.mb_; have := h.base_; omega) hg, hm, h.env_, h.mb_, h.old_, h.below_.grown hg h.below_.size (fun k e => by injection e with e; have := h.old_; omega), h.rest_, h.few_, h.le_, h.short_, h.base_, Nat.le_trans h.room_ hg.size, fun q h1 h2 h3 => (hg.block q (Nat.lt_of_lt_of_le h1 h.room_) (by intro e; injection e with e; exact h3 e)).trans (h.keep_ q h1 h2 h3)⟩
theorem LxAt.more {s : T} {W0 W1 w : World} {B : Nat} {b mb mc mc' : Nat} {tv : Value} {l : T} {a : Nat} {acc : List Tk} (h : LxAt s W0 W1 B w b mb mc tv l a acc) (hm : mc ≤ mc') : LxAt s W0 W1 B w b mb mc' tv l a acc := by
  obtain ⟨n, D, hn, h3⟩ := h.map_
  exact ⟨h.row_, h.own_, ⟨n, D, by omega, h3⟩, h.env_, h.mb_, h.old_, h.below_, h.rest_, h.few_, h.le_, h.short_, h.base_, h.room_, h.keep_⟩
def KindP (x : T) (k : Int) : Prop := (nameB x = true ∧ k = 1) ∨ (nameB x = false ∧ wordB x = true ∧ k = 2)
def KAll (D : DataW Unit) : Prop := ∀ s, Maps.has D (.string s) = true → ∃ k : Int, (∀ z, D.atKey (.string s) z = .lit (.int .i64 k)) ∧ ((nameB s = true ∧ k = 1) ∨ (nameB s = false ∧ wordB s = true ∧ k = 2))
theorem kall_put {D : DataW Unit} {x : T} {k : Int} (hm : Maps.IsMap D) (h : KAll D) (hk : KindP x k) : KAll (D.put (.string x) (.lit (.int .i64 k))) := by
  intro s hs
  by_cases e : s = x
  · subst e
    exact ⟨k, fun z => Maps.atKey_put_same hm (show WideAt.IsKeyLit (.string s) from trivial) _ z, hk⟩
  · have hne : Lit.string s ≠ Lit.string x := fun h => e (by injection h)
    rw [Maps.has_put_other hne] at hs
    obtain ⟨k', h1, h2⟩ := h s hs
    exact ⟨k', fun z => by rw [Maps.atKey_put_other hne]; exact h1 z, h2⟩

theorem zeroIntD (w : World) : (zeroValue 3).run Tryz.prog w = .ok (.int .i64 0) w := by kernel_rfl

noncomputable def kindV (x : T) : Value := if nameB x = true then .tuple #[.int .i64 1, .bool true] else if wordB x = true then .tuple #[.int .i64 2, .bool true] else .tuple #[.int .i64 0, .bool false]

set_option maxRecDepth 100000 in
set_option maxHeartbeats 2000000 in
theorem kind_any (s : T) (W0 W1 : World) (B : Nat) (w : World) (b mb mc : Nat) (tv : Value) (l : T) (a : Nat) (acc : List Tk) (x : T) (hx : x.length ≤ 1000000) (hmc : mc ≤ 1000000) (h : LxAt s W0 W1 B w b mb mc tv l a acc) :
    Calls Tryz.prog 127 #[.pointer (some ⟨b, 0, none⟩), .string ⟨x.toArray⟩] w fun e w' => e = .returned (kindV x) ∧ LxAt s W0 W1 B w' b mb (mc + 1) tv l a acc := by
  have hrow := (show Row w b 139 _ from h.row_)
  have c4 := hrow.cell 4
  simp at c4
  obtain ⟨n, D, hn, hm, hmap, hall⟩ := h.map_
  have HM := Lib.hid hm
  have HK : Hid (keyOf Tryz.prog 9 (.string ⟨x.toArray⟩) = some (.string x)) := Lib.hid (key_of x (by unfold maxLen; omega))
  have HAT := Lib.hid h
  have HMAP := Lib.hid hmap
  have HALL := Lib.hid hall
  clear hrow hm hmap hall h
  by_cases hh : Maps.has D (.string x) = true
  · obtain ⟨k, hk, hkk⟩ := HALL.out x hh
    have HKV : Hid (kindV x = .tuple #[.int .i64 k, .bool true]) := Lib.hid (by
      unfold kindV
      rcases hkk with ⟨h1, rfl⟩ | ⟨h1, h2, rfl⟩
      · rw [if_pos h1]
      · rw [if_neg (by rw [h1]; decide), if_pos h2])
    have HKK := Lib.hid hk
    clear hk hkk
    go_enter Tryz.func127, Tryz.ntmps127
    go_wp2_with (at_lookup; refine wpList_lookup_own_ok_int _ rfl _ _ _ rfl 9 3 .i64 strKeyed Tryz.underlying137 Tryz.underlying3 (zeroIntD _) mb n D rfl HM.out _ _ rfl HK.out ?_; intro c hat hwc; have HC := Lib.hid hat; clear hat; rw [hh])
    go_ret2
    have e1 := (HKK.out _).symm.trans HC.out
    injection e1 with e1
    injection e1 with _ e1
    exact ⟨by rw [HKV.out, e1]; rfl, HAT.out.more (by omega)⟩
  · have hh' : Maps.has D (.string x) = false := (Bool.not_eq_true _).mp hh
    have hN := Name_any x w (by omega)
    by_cases h1 : nameB x = true
    · have HKV : Hid (kindV x = .tuple #[.int .i64 1, .bool true]) := Lib.hid (by unfold kindV; rw [if_pos h1])
      have HE : Hid (KindP x 1) := .inl ⟨h1, rfl⟩
      rw [h1] at hN
      have HN := Lib.hid hN
      clear hN h1 hh
      go_enter Tryz.func127, Tryz.ntmps127
      go_wp2_with (first
        | (at_lookup; refine wpList_lookup_own_ok_int _ rfl _ _ _ rfl 9 3 .i64 strKeyed Tryz.underlying137 Tryz.underlying3 (zeroIntD _) mb n D rfl HM.out _ _ rfl HK.out ?_; intro c hat hwc; clear hat; rw [hh'])
        | (go_at_call 151; refine HN.out.mono ?_; rintro e w1 ⟨rfl, hb1⟩; have HA1 := Lib.hid (HAT.out.later hb1); have HM1 := Lib.hid (HM.out.kept (only_below hb1 (row := none)) (by simp)); have d4 := (show Row w1 b 139 _ from HA1.out.row_).cell 4; simp at d4; clear hb1 HN)
        | (at_mapUpdate; refine wpList_mapUpdate_own _ rfl _ _ _ 137 rfl 9 3 strKeyed Tryz.underlying137 _ mb n D rfl HM1.out (by unfold maxLen; omega) _ _ _ rfl rfl HK.out _ [] (plainElem_int Tryz.underlying3 (WalkArith.wf_i64 (by omega))) ?_; intro w9 hM9 hG9; have HM9 := Lib.hid hM9; have HG9 := Lib.hid hG9; clear hM9 hG9))
      go_ret2
      exact ⟨by rw [HKV.out]; rfl, HA1.out.mapped HG9.out ⟨n + 1, _, by omega, HM9.out, HMAP.out.put _ _, kall_put HMAP.out HALL.out HE.out⟩⟩
    · have h1' : nameB x = false := (Bool.not_eq_true _).mp h1
      rw [h1'] at hN
      have HN := Lib.hid hN
      by_cases h2 : wordB x = true
      · have HKV : Hid (kindV x = .tuple #[.int .i64 2, .bool true]) := Lib.hid (by unfold kindV; rw [if_neg h1, if_pos h2])
        have HE : Hid (KindP x 2) := .inr ⟨h1', h2, rfl⟩
        have HW : Hid (∀ w2, Calls Tryz.prog 152 #[.string ⟨x.toArray⟩] w2 fun e w' => e = .returned (.bool true) ∧ Below w2.heap.size w2 w') := fun w2 => by have := aWord_any x w2 (by omega); rw [h2] at this; exact this
        clear hN h1 h1' hh h2
        go_enter Tryz.func127, Tryz.ntmps127
        go_wp2_with (first
          | (at_lookup; refine wpList_lookup_own_ok_int _ rfl _ _ _ rfl 9 3 .i64 strKeyed Tryz.underlying137 Tryz.underlying3 (zeroIntD _) mb n D rfl HM.out _ _ rfl HK.out ?_; intro c hat hwc; clear hat; rw [hh'])
          | (go_at_call 151; refine HN.out.mono ?_; rintro e w1 ⟨rfl, hb1⟩; have HA1 := Lib.hid (HAT.out.later hb1); have HM1 := Lib.hid (HM.out.kept (only_below hb1 (row := none)) (by simp)); have d4 := (show Row w1 b 139 _ from HA1.out.row_).cell 4; simp at d4; clear hb1 HN)
          | (go_at_call 152; refine (HW.out w1).mono ?_; rintro e w2 ⟨rfl, hb2⟩; have HA2 := Lib.hid (HA1.out.later hb2); have HM2 := Lib.hid (HM1.out.kept (only_below hb2 (row := none)) (by simp)); have d5 := (show Row w2 b 139 _ from HA2.out.row_).cell 4; simp at d5; clear hb2 HW)
          | (at_mapUpdate; refine wpList_mapUpdate_own _ rfl _ _ _ 137 rfl 9 3 strKeyed Tryz.underlying137 _ mb n D rfl HM2.out (by unfold maxLen; omega) _ _ _ rfl rfl HK.out _ [] (plainElem_int Tryz.underlying3 (WalkArith.wf_i64 (by omega))) ?_; intro w9 hM9 hG9; have HM9 := Lib.hid hM9; have HG9 := Lib.hid hG9; clear hM9 hG9))
        go_ret2
        exact ⟨by rw [HKV.out]; rfl, HA2.out.mapped HG9.out ⟨n + 1, _, by omega, HM9.out, HMAP.out.put _ _, kall_put HMAP.out HALL.out HE.out⟩⟩
      · have h2' : wordB x = false := (Bool.not_eq_true _).mp h2
        have HKV : Hid (kindV x = .tuple #[.int .i64 0, .bool false]) := Lib.hid (by unfold kindV; rw [if_neg h1, if_neg h2])
        have HW : Hid (∀ w2, Calls Tryz.prog 152 #[.string ⟨x.toArray⟩] w2 fun e w' => e = .returned (.bool false) ∧ Below w2.heap.size w2 w') := fun w2 => by have := aWord_any x w2 (by omega); rw [h2'] at this; exact this
        clear hN h1 h1' hh h2 h2'
        go_enter Tryz.func127, Tryz.ntmps127
        go_wp2_with (first
          | (at_lookup; refine wpList_lookup_own_ok_int _ rfl _ _ _ rfl 9 3 .i64 strKeyed Tryz.underlying137 Tryz.underlying3 (zeroIntD _) mb n D rfl HM.out _ _ rfl HK.out ?_; intro c hat hwc; clear hat; rw [hh'])
          | (go_at_call 151; refine HN.out.mono ?_; rintro e w1 ⟨rfl, hb1⟩; have HA1 := Lib.hid (HAT.out.later hb1); have HM1 := Lib.hid (HM.out.kept (only_below hb1 (row := none)) (by simp)); have d4 := (show Row w1 b 139 _ from HA1.out.row_).cell 4; simp at d4; clear hb1 HN)
          | (go_at_call 152; refine (HW.out w1).mono ?_; rintro e w2 ⟨rfl, hb2⟩; have HA2 := Lib.hid (HA1.out.later hb2); have HM2 := Lib.hid (HM1.out.kept (only_below hb2 (row := none)) (by simp)); have d5 := (show Row w2 b 139 _ from HA2.out.row_).cell 4; simp at d5; clear hb2 HW))
        go_ret2
        exact ⟨by rw [HKV.out]; rfl, HA2.out.more (by omega)⟩

end Go.Proofs.YtdabndiaflagpaaGreatDoor
namespace Go.Proofs.YtdabndiaflagpaaGreatDoor
open Go.RowKit

theorem takeWhile_take {p : UInt8 → Bool} (l : T) : l.takeWhile p = l.take (l.takeWhile p).length := (List.prefix_iff_eq_take.1 (List.takeWhile_prefix p))
theorem betS_take {l : T} (h : (betS l).2 = true) : (betS l).1 = l.take (betS l).1.length := by
  unfold betS at h ⊢
  split
  · exact takeWhile_take l
  · split
    · rename_i h1 h2
      rw [if_neg h1, if_pos h2] at h
      unfold noteS at h ⊢
      cases hn : endOf (l.drop 2) with
      | none => rw [hn] at h; cases h
      | some n =>
        simp only
        have := endOf_le _ _ hn
        rw [List.length_drop] at this
        rw [List.length_take, Nat.min_eq_left (by omega)]
    · exact takeWhile_take l

set_option maxRecDepth 100000 in
set_option maxHeartbeats 1000000 in
theorem mBetween_any (s : T) (W0 W1 : World) (B : Nat) (w : World) (b mb mc : Nat) (tv : Value) (l : T) (a : Nat) (acc : List Tk) (h : LxAt s W0 W1 B w b mb mc tv l a acc) :
    Calls Tryz.prog 95 #[.pointer (some ⟨b, 0, none⟩)] w fun e w' =>
      ((betS l).2 = true ∧ e = .returned (.int .i64 0) ∧ LxAt s W0 W1 B w' b mb mc tv (l.drop (betS l).1.length) (a + (betS l).1.length) acc) ∨ ((betS l).2 = false ∧ e = .returned (.int .i64 2) ∧ LxAt s W0 W1 B w' b mb mc tv l a acc) := by
  have hrow := (show Row w b 139 _ from h.row_)
  have c0 := hrow.cell 0
  simp at c0
  have hll : l.length ≤ 1000000 := by have := congrArg List.length h.rest_; rw [List.length_drop] at this; have := h.short_; omega
  have hbt := between_any l w hll (h.env_.later h.below_)
  have HAT := Lib.hid h
  have hpb := plAt_bound s a h.short_
  have HPB := Lib.hid hpb
  clear hrow h hpb
  by_cases hk : (betS l).2 = true
  · have hx := betS_take hk
    rw [hk] at hbt
    have HBT := Lib.hid hbt
    have HK := Lib.hid hk
    obtain ⟨x, hxe⟩ : ∃ x, x = (betS l).1 := ⟨_, rfl⟩
    rw [← hxe] at hx HBT
    have hlx : l = x ++ l.drop x.length := by
      have := List.take_append_drop x.length l
      rw [← hx] at this
      exact this.symm
    have HLX := Lib.hid hlx
    have hxl : x.length ≤ 1000000 := by have := congrArg List.length hlx; rw [List.length_append] at this; omega
    have HPS : Hid (∀ w1, Below w.heap.size w w1 → Calls Tryz.prog 123 #[.pointer (some ⟨b, 0, none⟩), .string ⟨x.toArray⟩] w1 fun e w' => e = .returned (.tuple #[]) ∧ TxR w' b (l.drop x.length) (plS (plAt s a) x) tv (.map (some mb)) ∧ w1.grownBy w' (some b)) := fun w1 hb1 =>
      pass_any x (l.drop x.length) b (plAt s a) tv (.map (some mb)) w1 hxl HPB.out.1 HPB.out.2.1 HPB.out.2.2.1 HPB.out.2.2.2 (by rw [← HLX.out]; exact (HAT.out.later hb1).row_)
    have HXE := Lib.hid hxe
    clear hbt hk hx hlx hxe
    go_enter Tryz.func95, Tryz.ntmps95
    go_wp2_with (first
      | (go_at_call 122; refine HBT.out.mono ?_; rintro e w1 ⟨rfl, hb1⟩; have HB1 := Lib.hid hb1; clear hb1)
      | (go_at_call 123; refine (HPS.out _ HB1.out).mono ?_; rintro e w2 ⟨rfl, hr2, hg2⟩; have HR2 := Lib.hid hr2; have HG2 := Lib.hid hg2; clear hr2 hg2))
    go_ret
    refine .inl ⟨HK.out, rfl, ?_⟩
    rw [← HXE.out]
    have h1 := HAT.out.later HB1.out
    rw [HLX.out] at h1
    exact h1.passed HR2.out HG2.out
  · have hk' : (betS l).2 = false := (Bool.not_eq_true _).mp hk
    rw [hk'] at hbt
    have HBT := Lib.hid hbt
    have HK := Lib.hid hk'
    clear hbt hk hk'
    go_enter Tryz.func95, Tryz.ntmps95
    go_wp2_with (go_at_call 122; refine HBT.out.mono ?_; rintro e w1 ⟨rfl, hb1⟩; have HB1 := Lib.hid hb1; clear hb1)
    go_ret
    exact .inr ⟨HK.out, rfl, HAT.out.later HB1.out⟩

/-- What a part leaves: a code, and a state. -/
def Part (s : T) (W0 W1 : World) (B b mb : Nat) (code : Int) (l : T) (a : Nat) (acc : List Tk) (e : Ending) (w' : World) : Prop := e = .returned (.int .i64 code) ∧ ∃ tv mc, mc ≤ a ∧ LxAt s W0 W1 B w' b mb mc tv l a acc

set_option maxRecDepth 100000 in
set_option maxHeartbeats 1000000 in
theorem mWord_off (s : T) (W0 W1 : World) (B : Nat) (w : World) (b mb mc : Nat) (tv : Value) (c : UInt8) (r : T) (a : Nat) (acc : List Tk) (hmc : mc ≤ a) (h : LxAt s W0 W1 B w b mb mc tv (c :: r) a acc) (hc : ltr c = false) :
    Calls Tryz.prog 96 #[.pointer (some ⟨b, 0, none⟩)] w (Part s W0 W1 B b mb 0 (c :: r) a acc) := by
  have hrow := (show Row w b 139 _ from h.row_)
  have c0 := hrow.cell 0
  simp at c0
  have hl := lxLetter_any (c.toNat : Int) w
  rw [show isL (c.toNat : Int) = false from hc] at hl
  have HL := Lib.hid hl
  have HAT := Lib.hid h
  clear hrow h hl hc
  go_enter Tryz.func96, Tryz.ntmps96
  go_wp2_with (go_at_call 124; refine HL.out.mono ?_; rintro e w1 ⟨rfl, rfl⟩)
  go_ret
  exact ⟨rfl, tv, mc, hmc, HAT.out⟩

set_option maxRecDepth 100000 in
set_option maxHeartbeats 1000000 in
theorem mWord_on (s : T) (W0 W1 : World) (B : Nat) (w : World) (b mb mc : Nat) (tv : Value) (c : UInt8) (r : T) (a : Nat) (acc : List Tk) (k : Int) (hmc : mc ≤ a) (h : LxAt s W0 W1 B w b mb mc tv (c :: r) a acc) (hc : ltr c = true) (hk : kindV ((c :: r).takeWhile ltd) = .tuple #[.int .i64 k, .bool true]) :
    Calls Tryz.prog 96 #[.pointer (some ⟨b, 0, none⟩)] w (Part s W0 W1 B b mb 0 ((c :: r).drop ((c :: r).takeWhile ltd).length) (a + ((c :: r).takeWhile ltd).length) (acc ++ [⟨k, (c :: r).takeWhile ltd, 0, a⟩])) := by
  have hrow := (show Row w b 139 _ from h.row_)
  have c0 := hrow.cell 0
  simp at c0
  have hll : (c :: r).length ≤ 1000000 := by have := congrArg List.length h.rest_; rw [List.length_drop] at this; have := h.short_; omega
  have hl := lxLetter_any (c.toNat : Int) w
  rw [show isL (c.toNat : Int) = true from hc] at hl
  have HL := Lib.hid hl
  have HRUN := Lib.hid (runName_any (c :: r) w (by omega))
  have hpos : 0 < ((c :: r).takeWhile ltd).length := takeWhile_pos (by simp [ltd, hc])
  have hx := takeWhile_take (p := ltd) (c :: r)
  have hle := takeWhile_le (p := ltd) (c :: r)
  generalize hxe : (c :: r).takeWhile ltd = x at HRUN hpos hx hle hk ⊢
  have hlx : c :: r = x ++ (c :: r).drop x.length := by
    have := List.take_append_drop x.length (c :: r)
    rw [← hx] at this
    exact this.symm
  have HLX := Lib.hid hlx
  have hma : mc ≤ 1000000 := by have := h.le_; have := h.short_; omega
  have HKD : Hid (Calls Tryz.prog 127 #[.pointer (some ⟨b, 0, none⟩), .string ⟨x.toArray⟩] w fun e w' => e = .returned (.tuple #[.int .i64 k, .bool true]) ∧ LxAt s W0 W1 B w' b mb (mc + 1) tv (c :: r) a acc) := by
    have := kind_any s W0 W1 B w b mb mc tv (c :: r) a acc x (by omega) hma h
    rw [hk] at this
    exact this
  clear hrow h hl hc hk hxe hx hlx
  go_enter Tryz.func96, Tryz.ntmps96
  go_wp2_with (first
    | (go_at_call 124; refine HL.out.mono ?_; rintro e w1 ⟨rfl, rfl⟩)
    | (go_at_call 125; refine HRUN.out.mono ?_; rintro e w1 ⟨rfl, rfl⟩)
    | (go_at_call 127; refine HKD.out.mono ?_; rintro e w1 ⟨rfl, ha1⟩; have HA1 : Hid (LxAt s W0 W1 B w1 b mb (mc + 1) tv (x ++ (c :: r).drop x.length) a acc) := Lib.hid (by rw [← HLX.out]; exact ha1); clear ha1)
    | (go_at_call 128; refine (take_any s W0 W1 B _ b mb (mc + 1) tv x ((c :: r).drop x.length) a acc k 0 hpos HA1.out).mono ?_; rintro e w2 ⟨rfl, tv2, ha2⟩; have HA2 := Lib.hid ha2; clear ha2))
  go_ret
  exact ⟨rfl, tv2, mc + 1, by omega, HA2.out⟩

set_option maxRecDepth 100000 in
set_option maxHeartbeats 1000000 in
theorem mWord_bad (s : T) (W0 W1 : World) (B : Nat) (w : World) (b mb mc : Nat) (tv : Value) (c : UInt8) (r : T) (a : Nat) (acc : List Tk) (hmc : mc ≤ a) (h : LxAt s W0 W1 B w b mb mc tv (c :: r) a acc) (hc : ltr c = true) (hk : kindV ((c :: r).takeWhile ltd) = .tuple #[.int .i64 0, .bool false]) :
    Calls Tryz.prog 96 #[.pointer (some ⟨b, 0, none⟩)] w fun e w' => e = .returned (.int .i64 4) ∧ LxAt s W0 W1 B w' b mb (mc + 1) tv (c :: r) a acc := by
  have hrow := (show Row w b 139 _ from h.row_)
  have c0 := hrow.cell 0
  simp at c0
  have hll : (c :: r).length ≤ 1000000 := by have := congrArg List.length h.rest_; rw [List.length_drop] at this; have := h.short_; omega
  have hl := lxLetter_any (c.toNat : Int) w
  rw [show isL (c.toNat : Int) = true from hc] at hl
  have HL := Lib.hid hl
  have HRUN := Lib.hid (runName_any (c :: r) w (by omega))
  have hle := takeWhile_le (p := ltd) (c :: r)
  generalize hxe : (c :: r).takeWhile ltd = x at HRUN hle hk ⊢
  have hma : mc ≤ 1000000 := by have := h.le_; have := h.short_; omega
  have HKD : Hid (Calls Tryz.prog 127 #[.pointer (some ⟨b, 0, none⟩), .string ⟨x.toArray⟩] w fun e w' => e = .returned (.tuple #[.int .i64 0, .bool false]) ∧ LxAt s W0 W1 B w' b mb (mc + 1) tv (c :: r) a acc) := by
    have := kind_any s W0 W1 B w b mb mc tv (c :: r) a acc x (by omega) hma h
    rw [hk] at this
    exact this
  clear hrow h hl hc hk hxe
  go_enter Tryz.func96, Tryz.ntmps96
  go_wp2_with (first
    | (go_at_call 124; refine HL.out.mono ?_; rintro e w1 ⟨rfl, rfl⟩)
    | (go_at_call 125; refine HRUN.out.mono ?_; rintro e w1 ⟨rfl, rfl⟩)
    | (go_at_call 127; refine HKD.out.mono ?_; rintro e w1 ⟨rfl, ha1⟩; have HA1 := Lib.hid ha1; clear ha1))
  go_ret
  exact ⟨rfl, HA1.out⟩

end Go.Proofs.YtdabndiaflagpaaGreatDoor
namespace Go.Proofs.YtdabndiaflagpaaGreatDoor
open Go.RowKit

theorem valS_ge (x : T) : ∀ acc, acc ≤ valS acc x := by
  induction x with
  | nil => intro acc; exact Nat.le_refl _
  | cons c r ih => intro acc; unfold valS; have := ih (10 * acc + (c.toNat - 48)); omega
theorem parse_val (x : T) : ∀ acc : Nat, (∀ c ∈ x, dgt c = true) → acc < 18446744073709551616 → Lib.parseUint10 acc x = if valS acc x < 18446744073709551616 then .ok (valS acc x) else .range := by
  induction x with
  | nil =>
    intro acc _ h
    show Lib.NumEnd.ok acc = if acc < 18446744073709551616 then Lib.NumEnd.ok acc else Lib.NumEnd.range
    rw [if_pos h]
  | cons c r ih =>
    intro acc hd h
    have hc := hd c (List.mem_cons_self ..)
    unfold dgt isD at hc
    have hc := of_decide_eq_true hc
    have e1 : 48 ≤ c.toNat ∧ c.toNat ≤ 57 := by omega
    have hge := valS_ge r (10 * acc + (c.toNat - 48))
    rw [Lib.parseUint10, if_pos e1, show valS acc (c :: r) = valS (10 * acc + (c.toNat - 48)) r from rfl]
    have e2 : acc * 10 + (c.toNat - 48) = 10 * acc + (c.toNat - 48) := by omega
    rw [e2]
    by_cases h1 : 1844674407370955162 ≤ acc
    · have h3 : ¬ valS (10 * acc + (c.toNat - 48)) r < 18446744073709551616 := by omega
      rw [if_pos h1, if_neg h3]
    · by_cases h2 : 18446744073709551616 ≤ 10 * acc + (c.toNat - 48)
      · have h3 : ¬ valS (10 * acc + (c.toNat - 48)) r < 18446744073709551616 := by omega
        rw [if_neg h1, if_pos h2, if_neg h3]
      · rw [if_neg h1, if_neg h2]
        exact ih _ (fun d hd' => hd d (List.mem_cons_of_mem _ hd')) (by omega)
theorem parse_digits {c : UInt8} {r : T} (h : ∀ d ∈ c :: r, dgt d = true) : Lib.parseIntB 64 (c :: r) = if valS 0 (c :: r) ≤ 9223372036854775807 then .ok (valS 0 (c :: r) : Nat) else .range := by
  have hc := h c (List.mem_cons_self ..)
  unfold dgt isD at hc
  have hc := of_decide_eq_true hc
  rw [Lib.parseIntB_64]
  unfold Lib.atoiAll
  have h43 : ¬ (c.toNat = 43 ∨ c.toNat = 45) := by omega
  have h45 : ¬ c.toNat = 45 := by omega
  have hif : (if c.toNat = 43 ∨ c.toNat = 45 then r else c :: r) = c :: r := if_neg h43
  have hmag : Lib.parseMag (c :: r) = if valS 0 (c :: r) < 18446744073709551616 then .ok (valS 0 (c :: r)) else .range := by
    unfold Lib.parseMag
    rw [if_neg (by simp), parse_val _ 0 h (by omega)]
  simp only [hif, hmag]
  generalize valS 0 (c :: r) = v
  by_cases h1 : v ≤ 9223372036854775807
  · have h2 : v < 18446744073709551616 := by omega
    have h3 : ¬ (¬ c.toNat = 45 ∧ 9223372036854775808 ≤ v) := fun h => by omega
    have h4 : ¬ (c.toNat = 45 ∧ 9223372036854775808 < v) := fun h => h45 h.1
    rw [if_pos h2, if_pos h1]
    show (if ¬ c.toNat = 45 ∧ 9223372036854775808 ≤ v then Lib.NumEnd.range else if c.toNat = 45 ∧ 9223372036854775808 < v then Lib.NumEnd.range else Lib.NumEnd.ok (if c.toNat = 45 then -(v : Int) else v)) = _
    rw [if_neg h3, if_neg h4, if_neg h45]
  · rw [if_neg h1]
    by_cases h2 : v < 18446744073709551616
    · have h3 : ¬ c.toNat = 45 ∧ 9223372036854775808 ≤ v := ⟨h45, by omega⟩
      rw [if_pos h2]
      show (if ¬ c.toNat = 45 ∧ 9223372036854775808 ≤ v then Lib.NumEnd.range else if c.toNat = 45 ∧ 9223372036854775808 < v then Lib.NumEnd.range else Lib.NumEnd.ok (if c.toNat = 45 then -(v : Int) else v)) = _
      rw [if_pos h3]
    · rw [if_neg h2]

set_option maxRecDepth 100000 in
set_option maxHeartbeats 1000000 in
theorem mNum_off (s : T) (W0 W1 : World) (B : Nat) (w : World) (b mb mc : Nat) (tv : Value) (c : UInt8) (r : T) (a : Nat) (acc : List Tk) (hmc : mc ≤ a) (h : LxAt s W0 W1 B w b mb mc tv (c :: r) a acc) (hc : dgt c = false) :
    Calls Tryz.prog 97 #[.pointer (some ⟨b, 0, none⟩)] w (Part s W0 W1 B b mb 0 (c :: r) a acc) := by
  have hrow := (show Row w b 139 _ from h.row_)
  have c0 := hrow.cell 0
  simp at c0
  have hll : (c :: r).length ≤ 1000000 := by have := congrArg List.length h.rest_; rw [List.length_drop] at this; have := h.short_; omega
  have hrun := runNum_any (c :: r) w (by omega)
  rw [List.takeWhile_cons, if_neg (by rw [hc]; decide)] at hrun
  have HRUN := Lib.hid hrun
  have HAT := Lib.hid h
  clear hrow h hc hrun
  go_enter Tryz.func97, Tryz.ntmps97
  go_wp2_with (go_at_call 125; refine HRUN.out.mono ?_; rintro e w1 ⟨rfl, rfl⟩)
  go_ret
  exact ⟨rfl, tv, mc, hmc, HAT.out⟩

set_option maxRecDepth 100000 in
set_option maxHeartbeats 1000000 in
theorem mNum_on (s : T) (W0 W1 : World) (B : Nat) (w : World) (b mb mc : Nat) (tv : Value) (c : UInt8) (r : T) (a : Nat) (acc : List Tk) (hmc : mc ≤ a) (h : LxAt s W0 W1 B w b mb mc tv (c :: r) a acc) (hc : dgt c = true) (hk : valS 0 ((c :: r).takeWhile dgt) ≤ 9223372036854775807) :
    Calls Tryz.prog 97 #[.pointer (some ⟨b, 0, none⟩)] w (Part s W0 W1 B b mb 0 ((c :: r).drop ((c :: r).takeWhile dgt).length) (a + ((c :: r).takeWhile dgt).length) (acc ++ [⟨3, (c :: r).takeWhile dgt, (valS 0 ((c :: r).takeWhile dgt) : Nat), a⟩])) := by
  have hrow := (show Row w b 139 _ from h.row_)
  have c0 := hrow.cell 0
  simp at c0
  have hll : (c :: r).length ≤ 1000000 := by have := congrArg List.length h.rest_; rw [List.length_drop] at this; have := h.short_; omega
  have HRUN := Lib.hid (runNum_any (c :: r) w (by omega))
  have hpos : 0 < ((c :: r).takeWhile dgt).length := takeWhile_pos hc
  have hx := takeWhile_take (p := dgt) (c :: r)
  have hle := takeWhile_le (p := dgt) (c :: r)
  have hall : ∀ d ∈ (c :: r).takeWhile dgt, dgt d = true := fun d hd => List.all_eq_true.1 List.all_takeWhile d hd
  have hcons : (c :: r).takeWhile dgt = c :: r.takeWhile dgt := by rw [List.takeWhile_cons, if_pos hc]
  have hpd : Lib.parseIntB 64 ((c :: r).takeWhile dgt) = .ok (valS 0 ((c :: r).takeWhile dgt) : Nat) := by
    have := parse_digits (c := c) (r := r.takeWhile dgt) (by rw [← hcons]; exact hall)
    rw [← hcons, if_pos hk] at this
    exact this
  generalize hxe : (c :: r).takeWhile dgt = x at HRUN hpos hx hle hk hpd ⊢
  have hlx : c :: r = x ++ (c :: r).drop x.length := by
    have := List.take_append_drop x.length (c :: r)
    rw [← hx] at this
    exact this.symm
  have HAT : Hid (LxAt s W0 W1 B w b mb mc tv (x ++ (c :: r).drop x.length) a acc) := Lib.hid (by rw [← hlx]; exact h)
  obtain ⟨v, hv⟩ : ∃ v : Int, v = (valS 0 x : Nat) := ⟨_, rfl⟩
  rw [← hv] at hpd ⊢
  have HPI := Lib.hid (Tryz.strconv_ParseInt_10_at64_ok ⟨x.toArray⟩ (by show x.toArray.size ≤ _; simp; omega) v hpd w)
  have hne : (x == []) = false := by cases x with | nil => simp at hpos | cons p q => rfl
  have hne2 : ¬ x = [] := by rintro rfl; simp at hpos
  clear hrow h hc hk hxe hx hlx hall hcons hpd hv
  go_enter Tryz.func97, Tryz.ntmps97
  go_wp2_with (first
    | (go_at_call 125; refine HRUN.out.mono ?_; rintro e w1 ⟨rfl, rfl⟩)
    | (go_at_call 130; refine HPI.out.mono ?_; rintro e w1 ⟨rfl, hw1⟩; have HB1 : Hid (Below w.heap.size w w1) := Lib.hid (by rcases hw1 with rfl | ⟨t, rfl⟩; exact Below.refl _ _; exact bytesWorld_below _ _ _); have HA1 := Lib.hid (HAT.out.later HB1.out); clear hw1)
    | (go_at_call 128; refine (take_any s W0 W1 B _ b mb mc tv x ((c :: r).drop x.length) a acc 3 v hpos HA1.out).mono ?_; rintro e w2 ⟨rfl, tv2, ha2⟩; have HA2 := Lib.hid ha2; clear ha2))
  go_ret
  exact ⟨rfl, tv2, mc, by omega, HA2.out⟩

set_option maxRecDepth 100000 in
set_option maxHeartbeats 1000000 in
theorem mNum_bad (s : T) (W0 W1 : World) (B : Nat) (w : World) (b mb mc : Nat) (tv : Value) (c : UInt8) (r : T) (a : Nat) (acc : List Tk) (h : LxAt s W0 W1 B w b mb mc tv (c :: r) a acc) (hc : dgt c = true) (hk : ¬ valS 0 ((c :: r).takeWhile dgt) ≤ 9223372036854775807) :
    Calls Tryz.prog 97 #[.pointer (some ⟨b, 0, none⟩)] w fun e w' => e = .returned (.int .i64 4) ∧ LxAt s W0 W1 B w' b mb mc tv (c :: r) a acc := by
  have hrow := (show Row w b 139 _ from h.row_)
  have c0 := hrow.cell 0
  simp at c0
  have hll : (c :: r).length ≤ 1000000 := by have := congrArg List.length h.rest_; rw [List.length_drop] at this; have := h.short_; omega
  have HRUN := Lib.hid (runNum_any (c :: r) w (by omega))
  have hpos : 0 < ((c :: r).takeWhile dgt).length := takeWhile_pos hc
  have hle := takeWhile_le (p := dgt) (c :: r)
  have hall : ∀ d ∈ (c :: r).takeWhile dgt, dgt d = true := fun d hd => List.all_eq_true.1 List.all_takeWhile d hd
  have hcons : (c :: r).takeWhile dgt = c :: r.takeWhile dgt := by rw [List.takeWhile_cons, if_pos hc]
  have hpd : Lib.parseIntB 64 ((c :: r).takeWhile dgt) = .range := by
    have := parse_digits (c := c) (r := r.takeWhile dgt) (by rw [← hcons]; exact hall)
    rw [← hcons, if_neg hk] at this
    exact this
  obtain ⟨tp, p, hrng⟩ := (h.env_.later h.below_).range_
  generalize hxe : (c :: r).takeWhile dgt = x at HRUN hpos hle hk hpd ⊢
  have HAT := Lib.hid h
  have HPI := Lib.hid (Tryz.strconv_ParseInt_10_at64_range ⟨x.toArray⟩ (by show x.toArray.size ≤ _; simp; omega) hpd _ w hrng (.inr ⟨tp, p, rfl⟩))
  have hne : (x == []) = false := by cases x with | nil => simp at hpos | cons p q => rfl
  have hne2 : ¬ x = [] := by rintro rfl; simp at hpos
  clear hrow h hc hk hxe hall hcons hpd hrng
  go_enter Tryz.func97, Tryz.ntmps97
  go_wp2_with (first
    | (go_at_call 125; refine HRUN.out.mono ?_; rintro e w1 ⟨rfl, rfl⟩)
    | (go_at_call 130; refine HPI.out.mono ?_; rintro e w1 ⟨N, rfl, hN, hN2, hb1⟩; have HA1 := Lib.hid (HAT.out.later hb1); clear hb1 hN hN2))
  go_ret
  exact ⟨rfl, HA1.out⟩

end Go.Proofs.YtdabndiaflagpaaGreatDoor
