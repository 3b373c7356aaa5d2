/- DERIVED. The reference's tokens in memory; numbers, one digit at a time. -/
import Derived.Test.YtfajnflfonechaaDoorLxR4
import Derived.Test.YtfajnflfonechaaDoorOwnG
namespace Go.Proofs.YtfajnflfonechaaDoor
open Go.RowKit

theorem rtok_info : (Tryd.prog.info? 34).map (fun i => (i.zero, i.size, i.bytes)) = some (some (.agg #[.int .i64 0, .string ⟨#[]⟩, .int .i64 0, .int .i64 0]), 4, 40) := by kernel_rfl
def rtC (t : Tk) : List Value := [.int .i64 t.kind, .string ⟨t.text.toArray⟩, .int .i64 t.n, .int .i64 (t.from_ : Int)]
def RRk : Of Tk := fun _ _ t cs => cs = rtC t
theorem lastsR : Lasts RRk 4 := ⟨fun h _ => h, fun h => by rw [show _ = _ from h]; rfl, fun h u hu => by
  rw [show _ = _ from h] at hu
  simp only [rtC, List.mem_cons, List.not_mem_nil, or_false] at hu
  rcases hu with rfl | rfl | rfl | rfl <;> rfl⟩

/-- Between two tokens of the reference. -/
structure RxAt (s : T) (W0 w : World) (tv : Value) (a : Nat) (acc : List Tk) : Prop where
  own_ : OwnG RRk 34 4 w W0.heap.size (Sb W0.heap.size tv.ownBlock w) tv acc
  below_ : Below W0.heap.size W0 w
  few_ : acc.length ≤ a
  le_ : a ≤ s.length

/-- skip, with its second answer under a name. -/
theorem skip2_any (s : T) (a : Nat) (w : World) (hs : s.length ≤ 1000000) (ha : a ≤ s.length) :
    Calls Tryd.prog 23 #[.string ⟨s.toArray⟩, .int .i64 (a : Int)] w fun e w' => w = w' ∧ ∃ (p : Nat) (q : Int), e = .returned (.tuple #[.int .i64 (p : Int), .int .i64 q]) ∧ a ≤ p ∧ p ≤ s.length ∧
      ((q = -1 ∧ (∀ acc, lexA (s.drop a) a acc = lexA (s.drop p) p acc) ∧ (∀ c r, s.drop p = c :: r → NoBet c r)) ∨ (q = (p : Int) ∧ ∀ acc, lexA (s.drop a) a acc = ([], p, 2))) :=
  (skip_any s a w hs ha).mono fun e w' h => by
    obtain ⟨hw, p, h1, h2, h3 | h3⟩ := h
    · exact ⟨hw, p, -1, h3.1, h1, h2, .inl ⟨rfl, h3.2.1, h3.2.2⟩⟩
    · exact ⟨hw, p, (p : Int), h3.1, h1, h2, .inr ⟨rfl, h3.2⟩⟩

/-! ### Numbers -/
theorem valS_append (l m : T) : ∀ acc, valS acc (l ++ m) = valS (valS acc l) m := by
  induction l with
  | nil => intro acc; rfl
  | cons c r ih => intro acc; exact ih _
theorem valS_le (l : T) : ∀ acc, acc ≤ valS acc l := by
  induction l with
  | nil => intro acc; exact Nat.le_refl _
  | cons c r ih => intro acc; exact Nat.le_trans (by omega) (ih (10 * acc + (c.toNat - 48)))
theorem valS_snoc (l : T) (c : UInt8) (acc : Nat) : valS acc (l ++ [c]) = 10 * valS acc l + (c.toNat - 48) := by rw [valS_append]; rfl
theorem valS_take {l : T} {j : Nat} {c : UInt8} (h : l[j]? = some c) : valS 0 (l.take (j + 1)) = 10 * valS 0 (l.take j) + (c.toNat - 48) := by rw [take_snoc h, valS_snoc]
theorem valS_part (l : T) (j : Nat) : valS 0 (l.take j) ≤ valS 0 l := by
  conv => rhs; rw [← List.take_append_drop j l, valS_append]
  exact valS_le _ _
/-- The reference's test for a number that is too great. -/
theorem num_test (n d : Int) (M : Int) (_ : M = 9223372036854775807) (_ : 0 ≤ n) (_ : 0 ≤ d) (_ : d ≤ 9) : (M - d) / 10 < n ↔ M < 10 * n + d := by omega

/-- A run of bytes of a text, cut out. -/
theorem run_cut (s : T) (p n : Nat) {f : UInt8 → Bool} (h : n = ((s.drop p).takeWhile f).length) : (s.drop p).take n = (s.drop p).takeWhile f := by
  rw [h]
  exact (takeWhile_take (p := f) (s.drop p)).symm
theorem best_le (l : T) : ∀ i, best l i ≤ l.length := by
  intro i
  unfold best
  have : ∀ (L : List T) (m : Nat), m ≤ l.length → L.foldl (bestF l) m ≤ l.length := by
    intro L
    induction L with
    | nil => intro m h; exact h
    | cons x L ih =>
      intro m h
      refine ih _ ?_
      unfold bestF
      split
      · rename_i hx; exact prefix_len hx.1
      · exact h
  exact this _ 0 (Nat.zero_le _)
/-- What the signs tell, once all have been looked at. -/
theorem best_step_sign {c : UInt8} {r : T} (hb : NoBet c r) (hl : ltr c = false) (hd : dgt c = false) (h : 0 < best (c :: r) 16) : stepS (c :: r) = .tok 4 (best (c :: r) 16) 0 := by
  rw [step_sign hb hl hd, best_all] at *
  cases hf : signsL.find? (fun s => s.isPrefixOf (c :: r)) with
  | none => rw [hf] at h; simp at h
  | some x => rfl
theorem best_step_none {c : UInt8} {r : T} (hb : NoBet c r) (hl : ltr c = false) (hd : dgt c = false) (h : best (c :: r) 16 = 0) : stepS (c :: r) = .bad 2 := by
  rw [best_all] at h
  rw [step_sign hb hl hd]
  cases hf : signsL.find? (fun s => s.isPrefixOf (c :: r)) with
  | none => rfl
  | some x =>
    rw [hf] at h
    have := signs_pos x (List.mem_of_find?_eq_some hf)
    simp only [Option.map_some, Option.getD_some] at h
    omega

end Go.Proofs.YtfajnflfonechaaDoor
