/- Parts: LxA0. -/
import Derived.Test.YtdabndiaflagpaaGreatDoorB11
import Derived.Test.YtdabndiaflagpaaGreatDoorB13
set_option maxRecDepth 100000
set_option maxHeartbeats 4000000
set_option linter.unusedVariables false
namespace Go.Proofs.YtdabndiaflagpaaGreatDoor
open Go.RowKit

structure Fresh (s : T) (W0 w : World) (b mb : Nat) : Prop where
  row_ : TxR w b s (1, 1) (.slice none 0 0) (.map (some mb))
  map_ : KM w mb 0
  env_ : LexEnv W0
  mb_ : mb < b
  old_ : W0.heap.size ≤ mb
  below_ : Below W0.heap.size W0 w
  short_ : s.length ≤ 1000000

theorem begin_any (s : T) (w : World) (hs : s.length ≤ 1000000) (he : LexEnv w) : Calls Tryz.prog 59 #[.string ⟨s.toArray⟩] w fun e w' => e = .returned (.pointer (some ⟨w.heap.size + 1, 0, none⟩)) ∧ Fresh s w w' (w.heap.size + 1) w.heap.size := by
  have hmm := @run_makeMap Tryz.prog
  have HE := Lib.hid he
  clear he
  go_enter Tryz.func59, Tryz.ntmps59
  go_wp2_with fail
  go_ret
  have hm := World.ownsMap_made (H := Unit) w Tryz.prog 9 (plainElem Tryz.prog 3)
  refine ⟨by simp, ?_, ⟨0, _, Nat.le_refl _, hm.alloc _, Maps.isMap_empty, fun s hs => by cases hs⟩, HE.out, Nat.lt_succ_self _, Nat.le_refl _, ((Below.refl _ _).alloc (Nat.le_refl _) _).alloc (by simp) _, hs⟩
  have := Row.made (w.alloc (.map #[] 0)) 139 #[.string ⟨s.toArray⟩, .int .i64 1, .int .i64 1, .slice none 0 0, .map (some w.heap.size)]
  rw [World.size_alloc] at this
  exact this

theorem isPre2 {p q c d : UInt8} {r : T} : [p, q].isPrefixOf (c :: d :: r) = (p == c && q == d) := by simp [List.isPrefixOf]
theorem bet_bad {c : UInt8} {r : T} (h : (betS (c :: r)).2 = false) : stepS (c :: r) = .bad 2 := by
  unfold betS at h
  split at h
  · cases h
  · rename_i h1
    split at h
    · rename_i h2
      unfold noteS at h
      have hb : blk c = false := by
        cases r with
        | nil => simp [List.isPrefixOf] at h2
        | cons d r => rw [isPre2] at h2; simp at h2; rw [← h2.1]; decide
      cases hn : endOf ((c :: r).drop 2) with
      | none => unfold stepS; simp only [hb, h1, h2, hn]; rfl
      | some n => rw [hn] at h; cases h
    · cases h
theorem bet_skip {c : UInt8} {r : T} {n : Nat} (h : (betS (c :: r)).2 = true) (hn : (betS (c :: r)).1.length = n) (h0 : 0 < n) : stepS (c :: r) = .skip n := by
  unfold betS at h hn
  split at h
  · rename_i h1
    rw [if_pos h1] at hn
    have hb : blk c = false := by
      cases r with
      | nil => simp [List.isPrefixOf] at h1
      | cons d r => rw [isPre2] at h1; simp at h1; rw [← h1.1]; decide
    unfold stepS
    simp only [hb, h1]
    simp at hn ⊢
    exact hn
  · rename_i h1
    rw [if_neg h1] at hn
    split at h
    · rename_i h2
      rw [if_pos h2] at hn
      unfold noteS at h hn
      have hb : blk c = false := by
        cases r with
        | nil => simp [List.isPrefixOf] at h2
        | cons d r => rw [isPre2] at h2; simp at h2; rw [← h2.1]; decide
      cases hn2 : endOf ((c :: r).drop 2) with
      | none => rw [hn2] at h; cases h
      | some m =>
        rw [hn2] at hn
        have := endOf_le _ _ hn2
        rw [List.length_drop] at this
        simp only [List.length_take] at hn
        unfold stepS
        simp only [hb, h1, h2, hn2]
        simp
        omega
    · rename_i h2
      rw [if_neg h2] at hn
      by_cases hb : blk c = true
      · unfold stepS
        simp only [hb, if_true]
        rw [List.takeWhile_cons, if_pos hb] at hn
        simp at hn
        congr 1
        omega
      · rw [List.takeWhile_cons, if_neg hb] at hn
        simp at hn
        omega
/-- Nothing stands between. -/
def NoBet (c : UInt8) (r : T) : Prop := blk c = false ∧ [45, 45].isPrefixOf (c :: r) = false ∧ [40, 42].isPrefixOf (c :: r) = false
theorem bet_none {c : UInt8} {r : T} (h : (betS (c :: r)).2 = true) (hn : (betS (c :: r)).1.length = 0) : NoBet c r := by
  have h1 : [45, 45].isPrefixOf (c :: r) = false := by
    cases h1 : [45, 45].isPrefixOf (c :: r) with
    | false => rfl
    | true =>
      unfold betS at hn
      rw [if_pos h1] at hn
      have hc : nnl c = true := by
        cases r with
        | nil => simp [List.isPrefixOf] at h1
        | cons d r => rw [isPre2] at h1; simp at h1; rw [← h1.1]; decide
      have := takeWhile_pos (p := nnl) (c := c) (r := r) hc
      have hn : ((c :: r).takeWhile nnl).length = 0 := hn
      omega
  have h2 : [40, 42].isPrefixOf (c :: r) = false := by
    cases h2 : [40, 42].isPrefixOf (c :: r) with
    | false => rfl
    | true =>
      unfold betS at hn h
      rw [if_neg (by rw [h1]; decide), if_pos h2] at hn h
      unfold noteS at hn h
      cases hn2 : endOf ((c :: r).drop 2) with
      | none => rw [hn2] at h; cases h
      | some m =>
        rw [hn2] at hn
        have := endOf_le _ _ hn2
        rw [List.length_drop] at this
        simp only [List.length_take] at hn
        omega
  refine ⟨?_, h1, h2⟩
  unfold betS at hn
  rw [if_neg (by rw [h1]; decide), if_neg (by rw [h2]; decide)] at hn
  cases hb : blk c with
  | false => rfl
  | true =>
    have := takeWhile_pos (p := blk) (c := c) (r := r) hb
    have hn : ((c :: r).takeWhile blk).length = 0 := hn
    omega
theorem step_word {c : UInt8} {r : T} (hb : NoBet c r) (hl : ltr c = true) : stepS (c :: r) = if wordB ((c :: r).takeWhile ltd) = true then .tok 2 ((c :: r).takeWhile ltd).length 0 else if ((c :: r).takeWhile ltd).length ≤ 60 then .tok 1 ((c :: r).takeWhile ltd).length 0 else .bad 4 := by
  obtain ⟨h1, h2, h3⟩ := hb
  unfold stepS
  simp only [h1, h2, h3, hl]
  rfl
theorem step_num {c : UInt8} {r : T} (hb : NoBet c r) (hl : ltr c = false) (hd : dgt c = true) : stepS (c :: r) = if valS 0 ((c :: r).takeWhile dgt) ≤ 9223372036854775807 then .tok 3 ((c :: r).takeWhile dgt).length (valS 0 ((c :: r).takeWhile dgt) : Nat) else .bad 4 := by
  obtain ⟨h1, h2, h3⟩ := hb
  unfold stepS
  simp only [h1, h2, h3, hl, hd]
  rfl
theorem step_sign {c : UInt8} {r : T} (hb : NoBet c r) (hl : ltr c = false) (hd : dgt c = false) : stepS (c :: r) = match signsL.find? (fun s => s.isPrefixOf (c :: r)) with | some s => .tok 4 s.length 0 | none => .bad 2 := by
  obtain ⟨h1, h2, h3⟩ := hb
  unfold stepS
  simp only [h1, h2, h3, hl, hd]
  rfl
/-- The kinds of a word, of a name; too long a name. -/
theorem kind_name {x : T} (h : nameB x = true) : kindV x = .tuple #[.int .i64 1, .bool true] := by unfold kindV; rw [if_pos h]
theorem kind_word {x : T} (h : nameB x = false) (h2 : wordB x = true) : kindV x = .tuple #[.int .i64 2, .bool true] := by unfold kindV; rw [if_neg (by rw [h]; decide), if_pos h2]
theorem kind_none {x : T} (h : nameB x = false) (h2 : wordB x = false) : kindV x = .tuple #[.int .i64 0, .bool false] := by unfold kindV; rw [if_neg (by rw [h]; decide), if_neg (by rw [h2]; decide)]

end Go.Proofs.YtdabndiaflagpaaGreatDoor
