/- DERIVED. Tokens, plain: what comes next in a text, and all that comes; places. -/
import Derived.Test.YtfajnflfonechaaDoorNm2
namespace Go.Proofs.YtfajnflfonechaaDoor
open Go.RowKit

def blk (c : UInt8) : Bool := c == 32 || c == 9 || c == 13 || c == 10
def ltr (c : UInt8) : Bool := isL (c.toNat : Int)
def dgt (c : UInt8) : Bool := isD (c.toNat : Int)
def ltd (c : UInt8) : Bool := ltr c || dgt c
def nnl (c : UInt8) : Bool := c != 10
def signsL : List T := [[60, 62], [60, 61], [62, 61], [61, 62], [45, 62], [40], [41], [44], [59], [58], [61], [60], [62], [43], [45], [42]]
/-- Where a note ends. -/
def endOf : T → Option Nat
  | [] => none
  | c :: r => if [42, 41].isPrefixOf (c :: r) then some 0 else (endOf r).map (· + 1)
/-- The number that digits spell, behind one that has come. -/
def valS (acc : Nat) : T → Nat
  | [] => acc
  | c :: r => valS (10 * acc + (c.toNat - 48)) r

inductive Step where
  | done
  | skip (n : Nat)
  | tok (k : Int) (n : Nat) (v : Int)
  | bad (e : Int)
deriving DecidableEq

def stepS (l : T) : Step :=
  match l with
  | [] => .done
  | c :: r =>
    if blk c = true then .skip (1 + (r.takeWhile blk).length)
    else if [45, 45].isPrefixOf (c :: r) = true then .skip ((c :: r).takeWhile nnl).length
    else if [40, 42].isPrefixOf (c :: r) = true then (match endOf ((c :: r).drop 2) with | none => .bad 2 | some n => .skip (n + 4))
    else if ltr c = true then
      (if wordB ((c :: r).takeWhile ltd) = true then .tok 2 ((c :: r).takeWhile ltd).length 0 else if ((c :: r).takeWhile ltd).length ≤ 60 then .tok 1 ((c :: r).takeWhile ltd).length 0 else .bad 4)
    else if dgt c = true then
      (if valS 0 ((c :: r).takeWhile dgt) ≤ 9223372036854775807 then .tok 3 ((c :: r).takeWhile dgt).length (valS 0 ((c :: r).takeWhile dgt) : Nat) else .bad 4)
    else match signsL.find? (fun s => s.isPrefixOf (c :: r)) with
      | some s => .tok 4 s.length 0
      | none => .bad 2

structure Tk where
  kind : Int
  text : T
  n : Int
  from_ : Nat

def lexF : Nat → T → Nat → List Tk → List Tk × Nat × Int
  | 0, _, a, acc => (acc, a, 0)
  | f + 1, l, a, acc =>
    match stepS l with
    | .done => (acc ++ [⟨0, [], 0, a⟩], 0, 0)
    | .skip n => lexF f (l.drop n) (a + n) acc
    | .tok k n v => lexF f (l.drop n) (a + n) (acc ++ [⟨k, l.take n, v, a⟩])
    | .bad e => ([], a, e)

theorem takeWhile_le {p : UInt8 → Bool} (l : T) : (l.takeWhile p).length ≤ l.length := (List.takeWhile_sublist p).length_le
theorem takeWhile_pos {p : UInt8 → Bool} {c : UInt8} {r : T} (h : p c = true) : 0 < ((c :: r).takeWhile p).length := by simp [h]
theorem prefix_len {s l : T} (h : s.isPrefixOf l = true) : s.length ≤ l.length := (List.isPrefixOf_iff_prefix.1 h).length_le
theorem endOf_le : ∀ (l : T) (n : Nat), endOf l = some n → n + 2 ≤ l.length := by
  intro l
  induction l with
  | nil => intro n h; simp [endOf] at h
  | cons c r ih =>
    intro n h
    unfold endOf at h
    split at h
    · rename_i hp
      have := prefix_len hp
      injection h with h
      simp only [List.length_cons, List.length_nil] at this ⊢
      omega
    · obtain ⟨m, hm, rfl⟩ := Option.map_eq_some_iff.1 h
      have := ih m hm
      simp only [List.length_cons]
      omega

theorem signs_pos : ∀ s ∈ signsL, 0 < s.length := by decide
theorem step_skip {l : T} {n : Nat} (h : stepS l = .skip n) : 0 < n ∧ n ≤ l.length := by
  unfold stepS at h
  split at h
  · cases h
  · rename_i c r
    split at h
    · injection h with h
      have := takeWhile_le (p := blk) r
      simp only [List.length_cons]
      omega
    · split at h
      · rename_i hp
        injection h with h
        have h1 := prefix_len hp
        obtain ⟨m, hm⟩ := List.isPrefixOf_iff_prefix.1 hp
        have h2 : 0 < ((c :: r).takeWhile nnl).length := by rw [← hm]; exact takeWhile_pos (c := 45) (by decide)
        have := takeWhile_le (p := nnl) (c :: r)
        omega
      · split at h
        · split at h
          · cases h
          · rename_i m hm
            injection h with h
            have := endOf_le _ _ hm
            rw [List.length_drop] at this
            omega
        · split at h
          · split at h
            · cases h
            · split at h <;> cases h
          · split at h
            · split at h <;> cases h
            · split at h <;> cases h
theorem step_tok {l : T} {k v : Int} {n : Nat} (h : stepS l = .tok k n v) : 0 < n ∧ n ≤ l.length := by
  unfold stepS at h
  split at h
  · cases h
  · rename_i c r
    split at h
    · cases h
    · split at h
      · cases h
      · split at h
        · split at h <;> cases h
        · split at h
          · rename_i hc
            have h1 : 0 < ((c :: r).takeWhile ltd).length := takeWhile_pos (by simp [ltd, hc])
            have h2 := takeWhile_le (p := ltd) (c :: r)
            split at h
            · injection h with _ h _; omega
            · split at h
              · injection h with _ h _; omega
              · cases h
          · split at h
            · rename_i hc
              have h1 : 0 < ((c :: r).takeWhile dgt).length := takeWhile_pos hc
              have h2 := takeWhile_le (p := dgt) (c :: r)
              split at h
              · injection h with _ h _; omega
              · cases h
            · split at h
              · rename_i s hs
                injection h with _ h _
                have h1 := signs_pos s (List.mem_of_find?_eq_some hs)
                have h2 := prefix_len (List.find?_some (p := fun s : T => s.isPrefixOf (c :: r)) hs)
                omega
              · cases h
theorem step_done {l : T} (h : stepS l = .done) : l = [] := by
  unfold stepS at h
  split at h
  · rfl
  · exfalso
    repeat' split at h
    all_goals cases h

theorem lexF_fuel : ∀ (f f' : Nat) (l : T) (a : Nat) (acc : List Tk), l.length < f → l.length < f' → lexF f l a acc = lexF f' l a acc := by
  intro f
  induction f with
  | zero => intro f' l a acc h; omega
  | succ f ih =>
    intro f' l a acc h h'
    cases f' with
    | zero => omega
    | succ f' =>
      unfold lexF
      split
      · rfl
      · rename_i n hs
        have := step_skip hs
        exact ih _ _ _ _ (by rw [List.length_drop]; omega) (by rw [List.length_drop]; omega)
      · rename_i k n v hs
        have := step_tok hs
        exact ih _ _ _ _ (by rw [List.length_drop]; omega) (by rw [List.length_drop]; omega)
      · rfl

def lexA (l : T) (a : Nat) (acc : List Tk) : List Tk × Nat × Int := lexF (l.length + 1) l a acc
theorem lexA_eq (l : T) (a : Nat) (acc : List Tk) : lexA l a acc =
    match stepS l with
    | .done => (acc ++ [⟨0, [], 0, a⟩], 0, 0)
    | .skip n => lexA (l.drop n) (a + n) acc
    | .tok k n v => lexA (l.drop n) (a + n) (acc ++ [⟨k, l.take n, v, a⟩])
    | .bad e => ([], a, e) := by
  unfold lexA
  rw [lexF]
  split
  · rfl
  · rename_i n hs
    have := step_skip hs
    exact lexF_fuel _ _ _ _ _ (by rw [List.length_drop]; omega) (by omega)
  · rename_i k n v hs
    have := step_tok hs
    exact lexF_fuel _ _ _ _ _ (by rw [List.length_drop]; omega) (by omega)
  · rfl
theorem lexA_done (a : Nat) (acc : List Tk) : lexA [] a acc = (acc ++ [⟨0, [], 0, a⟩], 0, 0) := by rw [lexA_eq]; rfl
theorem lexA_skip {l : T} {n : Nat} (h : stepS l = .skip n) (a : Nat) (acc : List Tk) : lexA l a acc = lexA (l.drop n) (a + n) acc := by rw [lexA_eq, h]
theorem lexA_tok {l : T} {k v : Int} {n : Nat} (h : stepS l = .tok k n v) (a : Nat) (acc : List Tk) : lexA l a acc = lexA (l.drop n) (a + n) (acc ++ [⟨k, l.take n, v, a⟩]) := by rw [lexA_eq, h]
theorem lexA_bad {l : T} {e : Int} (h : stepS l = .bad e) (a : Nat) (acc : List Tk) : lexA l a acc = ([], a, e) := by rw [lexA_eq, h]

/-- Blanks, one by one. -/
theorem lexA_blank {c : UInt8} {r : T} (h : blk c = true) (a : Nat) (acc : List Tk) : lexA (c :: r) a acc = lexA r (a + 1) acc := by
  have h1 : stepS (c :: r) = .skip (1 + (r.takeWhile blk).length) := by unfold stepS; simp [h]
  rw [lexA_skip h1]
  cases r with
  | nil => simp
  | cons d r =>
    by_cases hd : blk d = true
    · have h2 : stepS (d :: r) = .skip (1 + (r.takeWhile blk).length) := by unfold stepS; simp [hd]
      rw [lexA_skip h2]
      have e : ((d :: r).takeWhile blk).length = 1 + (r.takeWhile blk).length := by simp [hd]; omega
      rw [e]
      simp only [Nat.add_comm 1, List.drop_succ_cons, Nat.add_assoc]
    · have e : ((d :: r).takeWhile blk).length = 0 := by simp [hd]
      rw [e]
      simp

/-! ### Places -/
def plS (p : Int × Int) : T → Int × Int
  | [] => p
  | c :: r => plS (if c = 10 then (p.1 + 1, 1) else (p.1, p.2 + 1)) r
theorem plS_append (p : Int × Int) (l m : T) : plS p (l ++ m) = plS (plS p l) m := by
  induction l generalizing p with
  | nil => rfl
  | cons c r ih => simp only [List.cons_append, plS, ih]
theorem plS_snoc (p : Int × Int) (l : T) (c : UInt8) : plS p (l ++ [c]) = (if c = 10 then ((plS p l).1 + 1, 1) else ((plS p l).1, (plS p l).2 + 1)) := by rw [plS_append]; rfl
/-- Small numbers. -/
theorem plS_bound (l : T) : ∀ (p : Int × Int), 1 ≤ p.1 → 1 ≤ p.2 → 1 ≤ (plS p l).1 ∧ 1 ≤ (plS p l).2 ∧ (plS p l).1 ≤ p.1 + l.length ∧ (plS p l).2 ≤ p.2 + l.length := by
  induction l with
  | nil => intro p h1 h2; simp [plS, h1, h2]
  | cons c r ih =>
    intro p h1 h2
    unfold plS
    split
    · have := ih (p.1 + 1, 1) (by simp only; omega) (by simp only; omega)
      simp only [List.length_cons] at this ⊢
      omega
    · have := ih (p.1, p.2 + 1) (by simp only; omega) (by simp only; omega)
      simp only [List.length_cons] at this ⊢
      omega
/-- The place of a byte of a text. -/
def plAt (s : T) (a : Nat) : Int × Int := plS (1, 1) (s.take a)

/-! ### Letters and digits -/
theorem run_letters {c : UInt8} {r : T} (h : ltr c = true) : ∀ (i : Nat) (d : UInt8), ((c :: r).takeWhile ltd)[i]? = some d → okAt i (d.toNat : Int) := by
  intro i d hd
  have hm : d ∈ (c :: r).takeWhile ltd := List.mem_of_getElem? hd
  have hl : ltd d = true := List.all_eq_true.1 List.all_takeWhile d hm
  cases i with
  | zero =>
    have e : (c :: r).takeWhile ltd = c :: r.takeWhile ltd := by rw [List.takeWhile_cons, if_pos (by simp [ltd, h])]
    rw [e] at hd
    simp at hd
    subst hd
    exact .inl h
  | succ i =>
    unfold ltd at hl
    rw [Bool.or_eq_true] at hl
    exact hl.imp id fun h => ⟨by omega, h⟩
theorem name_run {c : UInt8} {r : T} (h : ltr c = true) : nameB ((c :: r).takeWhile ltd) = (decide (((c :: r).takeWhile ltd).length ≤ 60) && !wordB ((c :: r).takeWhile ltd)) := by
  have hpos : 0 < ((c :: r).takeWhile ltd).length := takeWhile_pos (by simp [ltd, h])
  by_cases h1 : ((c :: r).takeWhile ltd).length ≤ 60
  · by_cases h2 : (c :: r).takeWhile ltd ∈ wordsL
    · have h3 : wordB ((c :: r).takeWhile ltd) = true := decide_eq_true h2
      rw [nameB_false fun hp => hp.2.2.2 h2, h3]; simp
    · have h3 : wordB ((c :: r).takeWhile ltd) = false := decide_eq_false h2
      rw [nameB_true ⟨run_letters h, hpos, h1, h2⟩, h3]; simp [h1]
  · rw [nameB_false fun hp => h1 hp.2.2.1]; simp [h1]

end Go.Proofs.YtfajnflfonechaaDoor
