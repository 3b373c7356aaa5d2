/- DERIVED. The walks of the table: New, Len, Find, Get, keep. -/
import Derived.Test.YtclgblmhicabnaaTab0
namespace Go.Proofs.Ytclgblmhicabnaa
open Go.RowKit

/-- A new table. -/
def NewTab (w : World) (xs : List T) (en : Ending) (w' : World) : Prop :=
  ∃ p, en = .returned (.pointer (some ⟨p, 0, none⟩)) ∧ TB w' w.heap.size p xs ∧ Below w.heap.size w w'

set_option maxRecDepth 100000 in
set_option maxHeartbeats 1000000 in
theorem New_any (w : World) : Calls Try.prog 32 #[] w (NewTab w []) := by
  have hmm := @run_makeMap Try.prog
  go_enter Try.func32, Try.ntmps32
  go_wp2_with fail
  go_ret
  have hm := World.ownsMap_made (H := Unit) w Try.prog 9 (plainElem Try.prog 3)
  refine ⟨w.heap.size + 1, by simp, ⟨_, w.heap.size, w.heap.size + 2, _, ?_, Owns.nil _ _ _, hm.alloc _, TabD.empty, by omega, by omega, by omega, by omega, by simp, by simp, by simp⟩, ((Below.refl _ _).alloc (Nat.le_refl _) _).alloc (by simp) _⟩
  have := Row.made (w.alloc (.map #[] 0)) 93 #[.slice none 0 0, .map (some w.heap.size)]
  rw [World.size_alloc] at this
  exact this

set_option maxRecDepth 100000 in
set_option maxHeartbeats 1000000 in
theorem Len_any (B p : Nat) (xs : List T) (w : World) (h : TB w B p xs) :
    Calls Try.prog 55 #[.pointer (some ⟨p, 0, none⟩)] w fun e w' => e = .returned (.int .i64 xs.length) ∧ w = w' := by
  obtain ⟨v, b, q, D, hr, ho, hm, hd, h1, h2, h3, h4, h5, h6, h7⟩ := h
  have c0 := hr.cell 0
  simp at c0
  obtain ⟨A, c, rfl, hl⟩ := ho.form
  clear hr ho hm hd hl h7
  go_enter Try.func55, Try.ntmps55
  go_wp2_with fail
  go_ret
  exact ⟨by rw [txts_length]; rfl, rfl⟩

/-- What Find tells. -/
def FoundV (xs : List T) (l : T) : Value := .tuple #[.int .i64 (if l ∈ xs then ((xs.idxOf l : Nat) : Int) else 0), .bool (decide (l ∈ xs))]

set_option maxRecDepth 100000 in
set_option maxHeartbeats 1000000 in
theorem Find_any (B p : Nat) (xs : List T) (l : T) (w : World) (h : TB w B p xs) (hl : l.length ≤ maxLen) :
    Calls Try.prog 37 #[.pointer (some ⟨p, 0, none⟩), .string ⟨l.toArray⟩] w fun e w' => e = .returned (FoundV xs l) ∧ w = w' := by
  obtain ⟨v, b, q, D, hr, ho, hm, hd, h1, h2, h3, h4, h5, h6, h7⟩ := h
  have c1 := hr.cell 1
  simp at c1
  have HM := Lib.hid hm
  have HA := Lib.hid (hd.at_ l)
  have HH := Lib.hid (hd.2.1 l)
  have HK := Lib.hid (key_of l hl)
  clear hr ho hm hd h7
  go_enter Try.func37, Try.ntmps37
  go_wp2_with (at_lookup; refine wpList_lookup_own_ok_int _ rfl _ _ _ rfl 9 3 .i64 strKeyed Try.underlying91 Try.underlying3 (zeroInt _) b xs.length D rfl HM.out _ _ rfl HK.out ?_; intro c hat hwc; have HC := Lib.hid hat; clear hat)
  go_ret2
  have e1 := HA.out.symm.trans HC.out
  injection e1 with e1
  injection e1 with _ e1
  refine ⟨?_, rfl⟩
  unfold FoundV
  rw [e1, HH.out]; rfl

set_option maxRecDepth 100000 in
set_option maxHeartbeats 1000000 in
theorem Get_any (B p k : Nat) (xs : List T) (w : World) (h : TB w B p xs) (hk : k < xs.length) :
    Calls Try.prog 36 #[.pointer (some ⟨p, 0, none⟩), .int .i64 k] w fun e w' => e = .returned (.tuple #[.string ⟨xs[k].toArray⟩, .bool true]) ∧ w = w' := by
  have HL := Lib.hid (Len_any B p xs w h)
  obtain ⟨v, b, q, D, hr, ho, hm, hd, h1, h2, h3, h4, h5, h6, h7⟩ := h
  have c0 := hr.cell 0
  simp at c0
  obtain ⟨A, c, rfl, hl⟩ := ho.form
  obtain ⟨g, off, rfl, hg, hc⟩ := hl.at_ (txts_get xs k hk)
  rw [txts_length] at c0
  unfold txt at hc
  clear hr ho hm hd hl h7
  go_enter Try.func36, Try.ntmps36
  go_wp2_with (go_at_call 55; refine HL.out.mono ?_; rintro e w1 ⟨rfl, rfl⟩)
  go_ret2
  exact ⟨rfl, rfl⟩

set_option maxRecDepth 100000 in
set_option maxHeartbeats 1000000 in
theorem Get_none (B p : Nat) (k : Int) (xs : List T) (w : World) (h : TB w B p xs) (hk : k < 0 ∨ (xs.length : Int) ≤ k) :
    Calls Try.prog 36 #[.pointer (some ⟨p, 0, none⟩), .int .i64 k] w fun e w' => e = .returned (.tuple #[.string ⟨#[]⟩, .bool false]) ∧ w = w' := by
  have HL := Lib.hid (Len_any B p xs w h)
  clear h
  by_cases hk0 : k < 0
  · clear hk
    go_enter Try.func36, Try.ntmps36
    go_wp2_with (go_at_call 55; refine HL.out.mono ?_; rintro e w1 ⟨rfl, rfl⟩)
    go_ret2
    exact ⟨rfl, rfl⟩
  · have hk1 : (xs.length : Int) ≤ k := by omega
    clear hk
    go_enter Try.func36, Try.ntmps36
    go_wp2_with (go_at_call 55; refine HL.out.mono ?_; rintro e w1 ⟨rfl, rfl⟩)
    go_ret2
    exact ⟨rfl, rfl⟩

/-- What keep hands back and leaves. -/
def Kept_ (w : World) (B p n : Nat) (xs : List T) (en : Ending) (w' : World) : Prop :=
  en = .returned (.int .i64 (n : Nat)) ∧ TB w' B p xs ∧ Below B w w'

/-- .. with what it spares: all that was laid since the world w0. -/
def KeptB (q : Nat) (w : World) (B p n : Nat) (xs : List T) (en : Ending) (w' : World) : Prop := Kept_ w B p n xs en w' ∧ Between q w w'

set_option maxRecDepth 100000 in
set_option maxHeartbeats 2000000 in
theorem keep_at (w0 : World) (B p : Nat) (xs : List T) (l : T) (w : World) (h : TB w0 B p xs) (hw : Below w0.heap.size w0 w) (hl : l.length ≤ maxLen) (hn : l ∉ xs) (hx : xs.length < 1099511627776) :
    Calls Try.prog 56 #[.pointer (some ⟨p, 0, none⟩), .string ⟨l.toArray⟩] w (KeptB w0.heap.size w B p xs.length (xs ++ [l])) := by
  obtain ⟨i0, hi0, hz0, hz1, hz2⟩ := info_parts str_info
  have HL := Lib.hid (Len_any B p xs w (h.later hw))
  obtain ⟨v, b, q, D, hr, ho, hm, hd, h1, h2, h3, h4, h5, h6, h7⟩ := h
  have HVB : Hid (∀ k, v.ownBlock = some k → k < w0.heap.size) := fun k hk => (ho.lt k hk).2
  have hp0 := hr.lt
  have hb0 := hm.lt
  have hws := hw.size
  replace hr := hr.below hw hr.lt
  replace ho := ho.below_all hw
  replace hm := map_below hm hw hm.lt
  replace h5 : q ≤ w.heap.size := by omega
  have c0 := hr.cell 0
  have c1 := hr.cell 1
  have f0 := hr.free 0
  simp at c0 c1
  have HR := Lib.hid hr
  have HO := Lib.hid ho
  have HM := Lib.hid hm
  have HD := Lib.hid hd
  have HN := Lib.hid h7
  have HI := Lib.hid hn
  have HK := Lib.hid (key_of l hl)
  have hpb := hr.lt
  have hbb := hm.lt
  have hne : p ≠ b := by
    rintro rfl
    obtain ⟨es, clock, he, _⟩ := hm
    rw [hr] at he
    cases he
  clear hr ho hm hd h7 hn
  go_enter Try.func56, Try.ntmps56
  go_wp2_with (first
    | (go_at_call 55; refine HL.out.mono ?_; rintro e w1 ⟨rfl, rfl⟩)
    | (at_builtin; go_must (refine wpList_app1 _ rfl (.tmp 12) (.tmp 14) _ rfl q 9 i0 _ 16 Try.underlying55 hi0 hz0 hz1 hz2 rfl (by omega) _ rfl _ (HO.out.alloc _) _ _ rfl (txt l) (by rw [(Row.made _ _ _).cell]; rfl) ?_ rfl ?_ ?_; rotate_left; (focus (simp [txts_length]; omega)); (focus (simp; omega)); intro v1 w1 hO1 hB1 hV1); have HV1 : Hid (Between w0.heap.size (w.alloc (Obj.cells #[txt l] 9)) w1) := Lib.hid (Between.grown hV1 HVB.out); clear hV1; obtain ⟨A1, k1, rfl, _⟩ := hO1.form; have HO1 := Lib.hid hO1; have HB1 := Lib.hid hB1; have HR1 := Lib.hid ((HR.out.alloc (Obj.cells #[txt l] 9)).below hB1 h3); have HM1 := Lib.hid (map_below (HM.out.alloc (Obj.cells #[txt l] 9)) hB1 h4); have d0 := HR1.out.cell 0; have d1 := HR1.out.cell 1; have g0 := HR1.out.free 0; simp at d0 d1; clear hO1 hB1 c0 c1 f0)
    | (at_mapUpdate; go_loud (refine wpList_mapUpdate_own _ rfl _ _ _ 91 rfl 9 3 strKeyed Try.underlying91 _ b xs.length D rfl (HM1.out.setCell (a := ⟨p, 0, none⟩) (Ne.symm hne) _) (by unfold maxLen; omega) _ _ _ rfl rfl HK.out _ [] (plainElem_int Try.underlying3 (WalkArith.wf_i64 (by omega))) ?_; intro w2 hM2 hG2; have HM2 := Lib.hid hM2; have HG2 := Lib.hid hG2; clear hM2 hG2)))
  go_ret
  have e1 : (txts xs ++ [txt l]).length = (txts xs).length + 1 := by simp
  have e2 : txts xs ++ [txt l] = txts (xs ++ [l]) := by simp [txts]
  have hO2 := (HO1.out.far (p := ⟨p, 0, none⟩) h3 (.slice A1 ((txts xs).length + 1) k1)).grown HG2.out h4
  rw [e1, e2] at hO2
  refine ⟨⟨rfl, ⟨_, b, q, _, (HR1.out.set 0 (.slice A1 ((txts xs).length + 1) k1)).grown HG2.out (by simp; omega), hO2, ?_, HD.out.put HI.out, h1, h2, h3, h4, ?_, ?_, ?_⟩, ?_⟩, ?_⟩
  · rw [List.length_append]; exact HM2.out
  · exact Nat.le_trans (Nat.le_trans (Nat.le_trans h5 (by simp)) HB1.out.size) (Nat.le_trans (by simp) HG2.out.size)
  · simp; omega
  · rw [List.nodup_append]; exact ⟨HN.out, by simp, by simp; rintro a ha rfl; exact HI.out ha⟩
  · exact ((((Below.refl B w).alloc (by omega) _).trans (HB1.out.mono (by omega))).setCell (p := ⟨p, 0, none⟩) h1 _).trans (grown_below HG2.out (by have := HB1.out.size; simp at this ⊢; omega) (fun k hk => by cases hk; exact h2))

  · have s1 := HB1.out.size
    have s2 := HG2.out.size
    simp at s1 s2
    have b1 : Between w0.heap.size w (w.alloc (Obj.cells #[txt l] 9)) := Between.of_later ((Below.refl _ _).alloc (Nat.le_refl _) _)
    have b2 := b1.trans HV1.out (by simp)
    have b3 := b2.trans (Between.set (q := w0.heap.size) (p := p) 0 (.slice A1 ((txts xs).length + 1) k1) hp0) (by omega)
    exact b3.trans (Between.grown HG2.out (fun k hk => by cases hk; exact hb0)) (by simp; omega)

theorem keep_any (B p : Nat) (xs : List T) (l : T) (w : World) (h : TB w B p xs) (hl : l.length ≤ maxLen) (hn : l ∉ xs) (hx : xs.length < 1099511627776) :
    Calls Try.prog 56 #[.pointer (some ⟨p, 0, none⟩), .string ⟨l.toArray⟩] w (Kept_ w B p xs.length (xs ++ [l])) :=
  (keep_at w B p xs l w h (Below.refl _ _) hl hn hx).mono fun _ _ h => h.1

end Go.Proofs.Ytclgblmhicabnaa
