/- DERIVED. The code takes a token. -/
import Derived.Test.YtfajnflfonechaaDoorLxT0
namespace Go.Proofs.YtfajnflfonechaaDoor
open Go.RowKit
attribute [local go_sem] Tame.Op Tame.upon

theorem clone_any (x : ByteArray) (w : World) (hx : x.size ≤ 281474976710656) : Calls Tryd.prog 96 #[.string x] w fun e w' => e = .returned (.string x) ∧ Below w.heap.size w w' := by
  have HC := Lib.hid (Tryd.stringslite_Clone x w hx)
  go_enter Tryd.func96, Tryd.ntmps96
  go_wp2_with (go_at_call 114; refine HC.out.mono ?_; rintro e w1 ⟨rfl, hb⟩; have HB := Lib.hid hb; clear hb)
  go_ret
  exact ⟨rfl, HB.out⟩

/-- Two blocks alone may have turned. -/
structure Two (w0 : World) (b : Nat) (r : Option Nat) (w : World) : Prop where
  os : w.os = w0.os
  tape : w.tape = w0.tape
  output : w.output = w0.output
  size : w0.heap.size ≤ w.heap.size
  block : ∀ q, q < w0.heap.size → q ≠ b → some q ≠ r → w.heap[q]? = w0.heap[q]?
theorem Two.refl (w : World) (b : Nat) (r : Option Nat) : Two w b r w := ⟨rfl, rfl, rfl, Nat.le_refl _, fun _ _ _ _ => rfl⟩
theorem Two.later {w0 w w' : World} {b : Nat} {r : Option Nat} (h : Two w0 b r w) (hl : Tame.Later w w') : Two w0 b r w' := ⟨(Below.os hl).trans h.os, (Below.tape hl).trans h.tape, (Below.output hl).trans h.output, Nat.le_trans h.size (Below.size hl), fun q hq h1 h2 => (Below.block hl q (Nat.lt_of_lt_of_le hq h.size)).trans (h.block q hq h1 h2)⟩
theorem Two.turn {w0 w w' : World} {b : Nat} {r r' : Option Nat} (h : Two w0 b r w) (hg : w.grownBy w' r') (hr : r' = r ∨ r' = some b) : Two w0 b r w' := ⟨hg.os.trans h.os, hg.tape.trans h.tape, hg.output.trans h.output, Nat.le_trans h.size hg.size, fun q hq h1 h2 => (hg.block q (Nat.lt_of_lt_of_le hq h.size) (by rcases hr with rfl | rfl; exact h2; intro e; injection e with e; exact h1 e)).trans (h.block q hq h1 h2)⟩

theorem turnT_keep {p B j : Nat} {r : Option Nat} {w w' : World} (hp : p < B) (h : w.grownBy w' (if j = 15 then r else some p)) (b : Nat) (hb : Sb B r w b) : Sb B r w' b ∧ w'.heap[b]? = w.heap[b]? :=
  ⟨⟨hb.1, Nat.lt_of_lt_of_le hb.2.1 h.size, hb.2.2⟩, h.block b hb.2.1 (by
    split
    · exact hb.2.2
    · intro e; injection e with e; have := hb.1; omega)⟩
def NewTk (B : Nat) (tv : Value) (cs : Array Value) (u : Value) (w : World) : Prop := ∃ g, u = .slice (some ⟨g, 0, none⟩) 1 1 ∧ Row w g 36 cs ∧ Sb B tv.ownBlock w g
theorem NewTk.move {B : Nat} {tv : Value} {cs : Array Value} {u : Value} {w w' : World} (h : NewTk B tv cs u w) (hm : ∀ q, Sb B tv.ownBlock w q → Sb B tv.ownBlock w' q ∧ w'.heap[q]? = w.heap[q]?) : NewTk B tv cs u w' := by
  obtain ⟨g, hv, hr, hs⟩ := h
  exact ⟨g, hv, (hm g hs).2.trans hr, (hm g hs).1⟩
def AppT (s : T) (B : Nat) (xs : List Tk) (u : Value) (w : World) : Prop := OwnG (RTk s) 36 5 w B (Sb B u.ownBlock w) u xs
theorem appT_form {s : T} {B : Nat} {xs : List Tk} {u : Value} {w : World} (h : AppT s B xs u w) : ∃ A c, u = .slice A xs.length c := by
  obtain ⟨A, c, hv, _⟩ := OwnG.form (lastsT s) h (S' := fun _ => True) (fun _ _ => trivial) (fun _ _ _ _ => trivial)
  exact ⟨A, c, hv⟩
theorem own_snoc {s : T} {B : Nat} {tv v' : Value} {acc : List Tk} {t : Tk} {w w' : World} {ds : List Value} (ho' : w'.ownsRow B 36 5 v' (acc.length + 1) (ds ++ tkC s t)) (hx : CG (RTk s) w (Sb B tv.ownBlock w) acc ds)
    (hgr : w.grownBy w' tv.ownBlock) (hat : v'.ownBlock = tv.ownBlock ∨ v'.ownBlock = some w.heap.size) : AppT s B (acc ++ [t]) v' w' := by
  have hm : ∀ q, Sb B tv.ownBlock w q → Sb B v'.ownBlock w' q ∧ w'.heap[q]? = w.heap[q]? := fun q hq => ⟨⟨hq.1, Nat.lt_of_lt_of_le hq.2.1 hgr.size, by
    rcases hat with h | h
    · rw [h]; exact hq.2.2
    · rw [h]; intro e; injection e with e; have := hq.2.1; omega⟩, hgr.block q hq.2.1 hq.2.2⟩
  refine ⟨ds ++ tkC s t, ?_, CG.snoc rfl (hx.move (lastsT s) hm)⟩
  rw [List.length_append]
  exact ho'
def LaidT (b : Nat) (l : T) (p : Int × Int) (mb : Nat) (vals : Nat → Value) (w : World) : Prop := TxR w b l p (vals 15) (.map (some mb))
theorem LaidT.same {b : Nat} {l : T} {p : Int × Int} {mb : Nat} {vals vals' : Nat → Value} {w : World} (h : LaidT b l p mb vals w) (e : vals 15 = vals' 15) : LaidT b l p mb vals' w := by unfold LaidT; rw [← e]; exact h
theorem LaidT.mk {b : Nat} {l : T} {p : Int × Int} {mb : Nat} {vals : Nat → Value} {w : World} {u : Value} (e : vals 15 = u) (h : TxR w b l p u (.map (some mb))) : LaidT b l p mb vals w := by unfold LaidT; rw [e]; exact h

def ghostsT (s : T) (w : World) (B b : Nat) (l : T) (p : Int × Int) (mb : Nat) (tv : Value) (acc : List Tk) : List Tame.Ghost :=
  [⟨Two w b tv.ownBlock, [15, 18]⟩, ⟨fun w2 => TxR w2 b l p tv (.map (some mb)), [15]⟩, ⟨AppT s B acc tv, []⟩]
theorem ghostsT_ok {s : T} {w : World} {B b : Nat} {l : T} {p : Int × Int} {mb : Nat} {tv : Value} {acc : List Tk} (h1 : TxR w b l p tv (.map (some mb))) (hbB : b < B) (h2 : AppT s B acc tv w) :
    ∀ (i : Nat) (g : Tame.Ghost), (ghostsT s w B b l p mb tv acc)[i]? = some g → g.g w.drew ∧ (∀ w w', Tame.Later w w' → g.g w → g.g w') ∧
      ∀ j, [15, 18].contains j = true → g.keeps.contains j = true → ∀ w w', w.grownBy w' (if j = 15 then tv.ownBlock else some b) → g.g w → g.g w' := by
  intro i g hi
  rcases i with _ | _ | _ | i
  · obtain rfl : (⟨Two w b tv.ownBlock, [15, 18]⟩ : Tame.Ghost) = g := by simpa [ghostsT] using hi
    refine ⟨(Two.refl _ _ _).later ((Below.refl _ _).drew), fun a c hl h => h.later hl, fun j _ _ a c hs h => h.turn hs ?_⟩
    split
    · exact .inl rfl
    · exact .inr rfl
  · obtain rfl : (⟨fun w2 => TxR w2 b l p tv (.map (some mb)), [15]⟩ : Tame.Ghost) = g := by simpa [ghostsT] using hi
    refine ⟨Row.drew h1, fun a c hl h => Row.below h hl (Row.lt h), fun j _ hj a c hs h => ?_⟩
    obtain rfl := one_of hj
    exact Row.grown h hs (by simp only [if_true]; intro e; have := (OwnG.lt h2 b e.symm).1; omega)
  · obtain rfl : (⟨AppT s B acc tv, []⟩ : Tame.Ghost) = g := by simpa [ghostsT] using hi
    exact ⟨OwnG.later (lastsT s) h2 ((Below.refl _ _).drew), fun a c hl h => OwnG.later (lastsT s) h hl, fun j _ hj => by cases hj⟩
  · simp [ghostsT] at hi

set_option maxRecDepth 100000 in
set_option maxHeartbeats 4000000 in
theorem take_any (s : T) (W0 W1 : World) (B : Nat) (w : World) (b mb mc : Nat) (tv : Value) (x r : T) (a : Nat) (acc : List Tk) (kind n : Int) (hx : 0 < x.length) (h : LxAt s W0 W1 B w b mb mc tv (x ++ r) a acc) :
    Calls Tryd.prog 72 #[.pointer (some ⟨b, 0, none⟩), .int .i64 kind, .string ⟨x.toArray⟩, .int .i64 n] w fun e w' => e = .returned (.tuple #[]) ∧ ∃ tv', LxAt s W0 W1 B w' b mb mc tv' r (a + x.length) (acc ++ [⟨kind, x, n, a⟩]) := by
  obtain ⟨i0, hi0, hz0, hz1, hz2⟩ := info_parts tok_info
  obtain ⟨t, ht⟩ : ∃ t : Tk, t = ⟨kind, x, n, a⟩ := ⟨_, rfl⟩
  have hxl : x.length ≤ 1000000 := by have := le_on h.rest_ h.le_; have := h.short_; omega
  have hpb := plAt_bound s a h.short_
  obtain ⟨z1, hz1e⟩ : ∃ z, z = (plAt s a).1 := ⟨_, rfl⟩
  obtain ⟨z2, hz2e⟩ : ∃ z, z = (plAt s a).2 := ⟨_, rfl⟩
  obtain ⟨cs, hcs⟩ : ∃ cs : Array Value, #[.int .i64 kind, .string ⟨x.toArray⟩, .int .i64 n, .int .i64 z1, .int .i64 z2] = cs := ⟨_, rfl⟩
  have HCS : Hid (#[.int .i64 kind, .string ⟨x.toArray⟩, .int .i64 n, .int .i64 z1, .int .i64 z2] = cs) := hcs
  have HCT : Hid (cs = (tkC s t).toArray) := Lib.hid (by rw [← hcs, ht]; simp [tkC, hz1e, hz2e])
  have HPE : Hid (plAt s a = (z1, z2)) := Lib.hid (by rw [hz1e, hz2e])
  have HROW : Hid (TxR w b (x ++ r) (z1, z2) tv (.map (some mb))) := by have := h.row_; rw [HPE.out] at this; exact this
  have HOWN : Hid (AppT s B acc tv w) := h.own_
  have HV : Hid (∀ q, tv.ownBlock = some q → B ≤ q ∧ q < w.heap.size) := OwnG.lt h.own_
  have hbw : b < w.heap.size := Row.lt h.row_
  have hbB := h.base_
  have hBw := h.room_
  have HXL : Hid ((⟨x.toArray⟩ : ByteArray).size ≤ 281474976710656) := Lib.hid (by show x.toArray.size ≤ _; simp; omega)
  have hfew : acc.length ≤ 1000000 := by have := h.few_; have := h.le_; have := h.short_; omega
  have HAT := Lib.hid h
  have HT := Lib.hid ht
  have HPB : Hid (1 ≤ z1 ∧ z1 ≤ 5000000 ∧ 1 ≤ z2 ∧ z2 ≤ 5000000) := Lib.hid (by rw [hz1e, hz2e]; exact hpb)
  clear hcs h ht hz1e hz2e hpb
  go_enter Tryd.func72, Tryd.ntmps72
  go_wp2_with fail
  refine Tame.wp_region_tamg (L := Tame.Later) (M := fun j a c => a.grownBy c (if j = 15 then tv.ownBlock else some b)) (gs := ghostsT s w B b (x ++ r) (z1, z2) mb tv acc) [15, 18] (by kernel_rfl) (by kernel_rfl) Tame.Later.refl (fun _ w => World.grownBy.refl w _) (ghostsT_ok HROW.out hbB HOWN.out) ?_
  repeat
    ((first
      | (refine Tame.walk3_known (o := ⟨some 12, _, _, _, _, _⟩) (by kernel_rfl) (fun _ => rfl) ?_; apply Exists.intro; refine ⟨fun vals w2 hG hd => ?_, ?_⟩; (focus (have hr1 := (hG 1 _ rfl (by kernel_rfl) : TxR w2 b (x ++ r) (z1, z2) tv (.map (some mb))); have hv := (show Row w2 b 69 _ from hr1).cell 3; clear hG hd hr1; simp at hv; go_simp; exact Tame.Is.mk (Tame.Later.refl _))))
      | (refine Tame.walk3_known (o := ⟨some 15, _, _, _, _, _⟩) (by kernel_rfl) (fun _ => rfl) ?_; apply Exists.intro; refine ⟨fun vals w2 hG hd => ?_, ?_⟩; (focus (have HC := Lib.hid (clone_any ⟨x.toArray⟩ w2 HXL.out); clear hG hd; go_simp; exact Tame.known HC.out)))
      | (refine Tame.walk3_known (o := ⟨some 20, _, _, _, _, _⟩) (by kernel_rfl) (fun _ => rfl) ?_; apply Exists.intro; refine ⟨fun vals w2 hG hd => ?_, ?_⟩; (focus (have hr1 := (hG 1 _ rfl (by kernel_rfl) : TxR w2 b (x ++ r) (z1, z2) tv (.map (some mb))); have hv := (show Row w2 b 69 _ from hr1).cell 1; have hv2 := (show Row w2 b 69 _ from hr1).cell 2; clear hG hd hr1; simp at hv hv2; go_simp; exact Tame.Is.mk (Tame.Later.refl _))))
      | (refine Tame.walk3_some (o := ⟨some 22, _, _, _, _, _⟩) (NewTk B tv cs) (none) ([15, 18]) (by kernel_rfl) (fun _ => rfl) (by kernel_rfl) (fun u a c hl h => NewTk.move h (later_keep hl)) (fun i _ _ u a c hs h => NewTk.move h (turnT_keep (by omega) hs)) (fun vals w2 hG hd => ?_) ?_; (focus (have hg3 := (hG 0 _ rfl (by kernel_rfl) : Two w b tv.ownBlock w2); have hzr := hg3.size; clear hG hd hg3; go_simp; exact Tame.Has.mk ((Below.refl _ _).alloc (Nat.le_refl _) _) ⟨w2.heap.size, rfl, HCS.out ▸ Row.made _ _ _, by omega, by simp, fun e => by have := HV.out _ e.symm; omega⟩)))
      | (refine Tame.walk3_write (o := ⟨some 23, _, _, _, _, _⟩) (AppT s B (acc ++ [t])) (none) ([18]) (fun _ => rfl) (by kernel_rfl) (by kernel_rfl) (fun u a c hl h => OwnG.later (lastsT s) h hl) (fun i _ hj u a c hs h => OwnG.far (lastsT s) (p := b) h (by omega) (by have := one_of hj; subst this; exact hs)) (fun vals w2 hG hd => ?_) ?_; (focus (have hg3 := (hG 0 _ rfl (by kernel_rfl) : Two w b tv.ownBlock w2); have hzr := hg3.size; have h1 := (hd 14 _ rfl (by kernel_rfl) rfl : NewTk B tv cs (vals 14) w2); have h2 := (hG 2 _ rfl (by kernel_rfl) : AppT s B acc tv w2); clear hG hd hg3; obtain ⟨g1, hv1, hr1, hs1⟩ := h1; obtain ⟨ds, ho, hx⟩ := h2; exact op_append (.tmp 12) (.tmp 22) _ rfl B 36 i0 _ 5 48 Tryd.underlying22 hi0 hz0 hz1 hz2 rfl (by omega) (by omega) tv _ ds rfl ho g1 1 36 (tkC s t) hv1 rfl (by rw [HCT.out] at hr1; exact hr1) ((lastsT s).one (w := w2) (S := fun _ => True) rfl) (by omega) (by omega) (fun v' w' ho' hgr hat => ⟨hgr, own_snoc ho' hx hgr hat⟩))))
      | (refine Tame.walk3_lays (o := ⟨none, Op.store _ _ _, _, _, _, _⟩) (LaidT b (x ++ r) (z1, z2) mb) none ([]) ([15]) (fun _ => rfl) (by kernel_rfl) (by kernel_rfl) (by kernel_rfl) (fun vals vals' w hh h => h.same (hh 15 (by decide))) (fun vals w w' hl h => Row.below h hl (Row.lt h)) (fun j hj hk => by cases hk) (fun vals w2 hG hd => ?_) ?_; (focus (have h1 := (hd 15 _ rfl (by kernel_rfl) (by kernel_rfl) : AppT s B (acc ++ [t]) (vals 15) w2); have hr1 := (hG 1 _ rfl (by kernel_rfl) : TxR w2 b (x ++ r) (z1, z2) tv (.map (some mb))); clear hG hd; obtain ⟨E1, f1, hv1⟩ := appT_form h1; have HR1 := Lib.hid (show Row w2 b 69 _ from hr1); have q3 := HR1.out.cell 3; have p3 := HR1.out.free 3; simp at q3; clear hr1 h1; go_simp; exact ⟨only_set (only_refl w2 b) 3 _, LaidT.mk hv1 (by have := HR1.out.set 3 (.slice E1 (acc ++ [t]).length f1); unfold TxR; simpa using this)⟩)))
      | (refine Tame.walk3_known (by kernel_rfl) (fun _ => rfl) ?_; apply Exists.intro; refine ⟨fun vals w2 hG hd => ?_, ?_⟩; (focus (go_simp; first | exact Tame.Is.mk (Tame.Later.refl _) | (rw [if_neg]; (focus exact Tame.Is.mk (Tame.Later.refl _)); omega)))))
     simp only [Act.put, List.setIfInBounds_toArray, List.set_cons_zero, List.set_cons_succ, List.nil_append, List.cons_append, List.length_cons, List.length_nil, Nat.zero_add, Nat.reduceAdd])
  refine Tame.walk3_end fun vals w2 hG hts => ?_
  have f0 : Two w b tv.ownBlock w2 := hG 0 _ rfl (by kernel_rfl)
  have f1 : AppT s B (acc ++ [t]) (vals 15) w2 := hts 15 _ rfl rfl
  have f2 : LaidT b (x ++ r) (z1, z2) mb vals w2 := hts 18 _ rfl rfl
  obtain ⟨tv', htv'⟩ : ∃ tv', tv' = vals 15 := ⟨_, rfl⟩
  have HF0 := Lib.hid f0
  have HF1 : Hid (AppT s B (acc ++ [t]) tv' w2) := Lib.hid (by rw [htv']; exact f1)
  have HPS : Hid (Calls Tryd.prog 67 #[.pointer (some ⟨b, 0, none⟩), .string ⟨x.toArray⟩] w2 fun e w' => e = .returned (.tuple #[]) ∧ TxR w' b r (plS (z1, z2) x) tv' (.map (some mb)) ∧ w2.grownBy w' (some b)) :=
    pass_any x r b (z1, z2) tv' (.map (some mb)) w2 hxl HPB.out.1 HPB.out.2.1 HPB.out.2.2.1 HPB.out.2.2.2 (by have := f2; unfold LaidT at this; rw [← htv'] at this; exact this)
  clear f0 f1 f2 hts hG
  go_wp2_with (go_at_call 67; refine HPS.out.mono ?_; rintro e w3 ⟨rfl, hr3, hg3⟩; have HR3 := Lib.hid hr3; have HG3 := Lib.hid hg3; clear hr3 hg3)
  go_end0
  refine ⟨rfl, tv', ?_⟩
  rw [← HT.out]
  have h := HAT.out
  have hmb := h.mb_
  have hold := h.old_
  have hz2 := HF0.out.size
  have hb2 : Below W0.heap.size W0 w2 := ⟨HF0.out.os.trans h.below_.os, HF0.out.tape.trans h.below_.tape, HF0.out.output.trans h.below_.output, Nat.le_trans h.below_.size hz2, fun q hq => (HF0.out.block q (by have := h.below_.size; omega) (by omega) (fun e => by have := HV.out q e.symm; omega)).trans (h.below_.block q hq)⟩
  refine ⟨?_, OwnG.far (lastsT s) (p := b) HF1.out (by omega) HG3.out, (h.map_.move (HF0.out.block mb h.map_.lt (by omega) (fun e => by have := HV.out mb e.symm; omega))).kept HG3.out (by intro e; injection e with e; omega), h.env_, hmb, hold, ?_, drop_on h.rest_, ?_, le_on h.rest_ h.le_, h.short_, h.base_, by have := HG3.out.size; omega, fun q h1 h2 h3 => (HG3.out.block q (by omega) (by intro e; injection e with e; exact h2 e)).trans ((HF0.out.block q (by omega) h2 (fun e => by have := HV.out q e.symm; omega)).trans (h.keep_ q h1 h2 h3))⟩
  · rw [plAt_on h.rest_, HPE.out]; exact HR3.out
  · exact hb2.grown HG3.out hb2.size (fun k e => by injection e with e; omega)
  · rw [List.length_append]; have := h.few_; simp only [List.length_cons, List.length_nil]; omega

end Go.Proofs.YtfajnflfonechaaDoor
