/- Parts: LxS, LxB, LxC, LxP, LxT0. -/
import Derived.Test.YtdabndiaflagpaaGreatDoorB00
import Derived.Test.YtdabndiaflagpaaGreatDoorB04
import Derived.Maps.OwnSet
set_option maxRecDepth 100000
set_option maxHeartbeats 4000000
set_option linter.unusedVariables false
namespace Go.Proofs.YtdabndiaflagpaaGreatDoor
open Go.RowKit

def blk (c : UInt8) : Bool := c == 32 || c == 9 || c == 13 || c == 10
def ltr (c : UInt8) : Bool := isL (c.toNat : Int)
def dgt (c : UInt8) : Bool := isD (c.toNat : Int)
def ltd (c : UInt8) : Bool := ltr c || dgt c
def nnl (c : UInt8) : Bool := c != 10
def signsL : List T := [[60, 62], [60, 61], [62, 61], [61, 62], [45, 62], [40], [41], [44], [59], [58], [61], [60], [62], [43], [45], [42]]
/-- Where a note ends. -/
def endOf : T → Option Nat
  | [] => none
  | c :: r => if [42, 41].isPrefixOf (c :: r) then some 0 else (endOf r).map (· + 1)
/-- The number that digits spell, behind one that has come. -/
def valS (acc : Nat) : T → Nat
  | [] => acc
  | c :: r => valS (10 * acc + (c.toNat - 48)) r

inductive Step where
  | done
  | skip (n : Nat)
  | tok (k : Int) (n : Nat) (v : Int)
  | bad (e : Int)
deriving DecidableEq

def stepS (l : T) : Step :=
  match l with
  | [] => .done
  | c :: r =>
    if blk c = true then .skip (1 + (r.takeWhile blk).length)
    else if [45, 45].isPrefixOf (c :: r) = true then .skip ((c :: r).takeWhile nnl).length
    else if [40, 42].isPrefixOf (c :: r) = true then (match endOf ((c :: r).drop 2) with | none => .bad 2 | some n => .skip (n + 4))
    else if ltr c = true then
      (if wordB ((c :: r).takeWhile ltd) = true then .tok 2 ((c :: r).takeWhile ltd).length 0 else if ((c :: r).takeWhile ltd).length ≤ 60 then .tok 1 ((c :: r).takeWhile ltd).length 0 else .bad 4)
    else if dgt c = true then
      (if valS 0 ((c :: r).takeWhile dgt) ≤ 9223372036854775807 then .tok 3 ((c :: r).takeWhile dgt).length (valS 0 ((c :: r).takeWhile dgt) : Nat) else .bad 4)
    else match signsL.find? (fun s => s.isPrefixOf (c :: r)) with
      | some s => .tok 4 s.length 0
      | none => .bad 2

structure Tk where
  kind : Int
  text : T
  n : Int
  from_ : Nat

def lexF : Nat → T → Nat → List Tk → List Tk × Nat × Int
  | 0, _, a, acc => (acc, a, 0)
  | f + 1, l, a, acc =>
    match stepS l with
    | .done => (acc ++ [⟨0, [], 0, a⟩], 0, 0)
    | .skip n => lexF f (l.drop n) (a + n) acc
    | .tok k n v => lexF f (l.drop n) (a + n) (acc ++ [⟨k, l.take n, v, a⟩])
    | .bad e => ([], a, e)

theorem takeWhile_le {p : UInt8 → Bool} (l : T) : (l.takeWhile p).length ≤ l.length := (List.takeWhile_sublist p).length_le
theorem takeWhile_pos {p : UInt8 → Bool} {c : UInt8} {r : T} (h : p c = true) : 0 < ((c :: r).takeWhile p).length := by simp [h]
theorem prefix_len {s l : T} (h : s.isPrefixOf l = true) : s.length ≤ l.length := (List.isPrefixOf_iff_prefix.1 h).length_le
theorem endOf_le : ∀ (l : T) (n : Nat), endOf l = some n → n + 2 ≤ l.length := by
  intro l
  induction l with
  | nil => intro n h; simp [endOf] at h
  | cons c r ih =>
    intro n h
    unfold endOf at h
    split at h
    · rename_i hp
      have := prefix_len hp
      injection h with h
      simp only [List.length_cons, List.length_nil] at this ⊢
      omega
    · obtain ⟨m, hm, rfl⟩ := Option.map_eq_some_iff.1 h
      have := ih m hm
      simp only [List.length_cons]
      omega

theorem signs_pos : ∀ s ∈ signsL, 0 < s.length := by decide
theorem step_skip {l : T} {n : Nat} (h : stepS l = .skip n) : 0 < n ∧ n ≤ l.length := by
  unfold stepS at h
  split at h
  · cases h
  · rename_i c r
    split at h
    · injection h with h
      have := takeWhile_le (p := blk) r
      simp only [List.length_cons]
      omega
    · split at h
      · rename_i hp
        injection h with h
        have h1 := prefix_len hp
        obtain ⟨m, hm⟩ := List.isPrefixOf_iff_prefix.1 hp
        have h2 : 0 < ((c :: r).takeWhile nnl).length := by rw [← hm]; exact takeWhile_pos (c := 45) (by decide)
        have := takeWhile_le (p := nnl) (c :: r)
        omega
      · split at h
        · split at h
          · cases h
          · rename_i m hm
            injection h with h
            have := endOf_le _ _ hm
            rw [List.length_drop] at this
            omega
        · split at h
          · split at h
            · cases h
            · split at h <;> cases h
          · split at h
            · split at h <;> cases h
            · split at h <;> cases h
theorem step_tok {l : T} {k v : Int} {n : Nat} (h : stepS l = .tok k n v) : 0 < n ∧ n ≤ l.length := by
  unfold stepS at h
  split at h
  · cases h
  · rename_i c r
    split at h
    · cases h
    · split at h
      · cases h
      · split at h
        · split at h <;> cases h
        · split at h
          · rename_i hc
            have h1 : 0 < ((c :: r).takeWhile ltd).length := takeWhile_pos (by simp [ltd, hc])
            have h2 := takeWhile_le (p := ltd) (c :: r)
            split at h
            · injection h with _ h _; omega
            · split at h
              · injection h with _ h _; omega
              · cases h
          · split at h
            · rename_i hc
              have h1 : 0 < ((c :: r).takeWhile dgt).length := takeWhile_pos hc
              have h2 := takeWhile_le (p := dgt) (c :: r)
              split at h
              · injection h with _ h _; omega
              · cases h
            · split at h
              · rename_i s hs
                injection h with _ h _
                have h1 := signs_pos s (List.mem_of_find?_eq_some hs)
                have h2 := prefix_len (List.find?_some (p := fun s : T => s.isPrefixOf (c :: r)) hs)
                omega
              · cases h
theorem lexF_fuel : ∀ (f f' : Nat) (l : T) (a : Nat) (acc : List Tk), l.length < f → l.length < f' → lexF f l a acc = lexF f' l a acc := by
  intro f
  induction f with
  | zero => intro f' l a acc h; omega
  | succ f ih =>
    intro f' l a acc h h'
    cases f' with
    | zero => omega
    | succ f' =>
      unfold lexF
      split
      · rfl
      · rename_i n hs
        have := step_skip hs
        exact ih _ _ _ _ (by rw [List.length_drop]; omega) (by rw [List.length_drop]; omega)
      · rename_i k n v hs
        have := step_tok hs
        exact ih _ _ _ _ (by rw [List.length_drop]; omega) (by rw [List.length_drop]; omega)
      · rfl

def lexA (l : T) (a : Nat) (acc : List Tk) : List Tk × Nat × Int := lexF (l.length + 1) l a acc
theorem lexA_eq (l : T) (a : Nat) (acc : List Tk) : lexA l a acc =
    match stepS l with
    | .done => (acc ++ [⟨0, [], 0, a⟩], 0, 0)
    | .skip n => lexA (l.drop n) (a + n) acc
    | .tok k n v => lexA (l.drop n) (a + n) (acc ++ [⟨k, l.take n, v, a⟩])
    | .bad e => ([], a, e) := by
  unfold lexA
  rw [lexF]
  split
  · rfl
  · rename_i n hs
    have := step_skip hs
    exact lexF_fuel _ _ _ _ _ (by rw [List.length_drop]; omega) (by omega)
  · rename_i k n v hs
    have := step_tok hs
    exact lexF_fuel _ _ _ _ _ (by rw [List.length_drop]; omega) (by omega)
  · rfl
theorem lexA_done (a : Nat) (acc : List Tk) : lexA [] a acc = (acc ++ [⟨0, [], 0, a⟩], 0, 0) := by rw [lexA_eq]; rfl
theorem lexA_skip {l : T} {n : Nat} (h : stepS l = .skip n) (a : Nat) (acc : List Tk) : lexA l a acc = lexA (l.drop n) (a + n) acc := by rw [lexA_eq, h]
theorem lexA_tok {l : T} {k v : Int} {n : Nat} (h : stepS l = .tok k n v) (a : Nat) (acc : List Tk) : lexA l a acc = lexA (l.drop n) (a + n) (acc ++ [⟨k, l.take n, v, a⟩]) := by rw [lexA_eq, h]
theorem lexA_bad {l : T} {e : Int} (h : stepS l = .bad e) (a : Nat) (acc : List Tk) : lexA l a acc = ([], a, e) := by rw [lexA_eq, h]

/-- Blanks, one by one. -/
theorem lexA_blank {c : UInt8} {r : T} (h : blk c = true) (a : Nat) (acc : List Tk) : lexA (c :: r) a acc = lexA r (a + 1) acc := by
  have h1 : stepS (c :: r) = .skip (1 + (r.takeWhile blk).length) := by unfold stepS; simp [h]
  rw [lexA_skip h1]
  cases r with
  | nil => simp
  | cons d r =>
    by_cases hd : blk d = true
    · have h2 : stepS (d :: r) = .skip (1 + (r.takeWhile blk).length) := by unfold stepS; simp [hd]
      rw [lexA_skip h2]
      have e : ((d :: r).takeWhile blk).length = 1 + (r.takeWhile blk).length := by simp [hd]; omega
      rw [e]
      simp only [Nat.add_comm 1, List.drop_succ_cons, Nat.add_assoc]
    · have e : ((d :: r).takeWhile blk).length = 0 := by simp [hd]
      rw [e]
      simp

/-! ### Places -/
def plS (p : Int × Int) : T → Int × Int
  | [] => p
  | c :: r => plS (if c = 10 then (p.1 + 1, 1) else (p.1, p.2 + 1)) r
theorem plS_append (p : Int × Int) (l m : T) : plS p (l ++ m) = plS (plS p l) m := by
  induction l generalizing p with
  | nil => rfl
  | cons c r ih => simp only [List.cons_append, plS, ih]
theorem plS_snoc (p : Int × Int) (l : T) (c : UInt8) : plS p (l ++ [c]) = (if c = 10 then ((plS p l).1 + 1, 1) else ((plS p l).1, (plS p l).2 + 1)) := by rw [plS_append]; rfl
/-- Small numbers. -/
theorem plS_bound (l : T) : ∀ (p : Int × Int), 1 ≤ p.1 → 1 ≤ p.2 → 1 ≤ (plS p l).1 ∧ 1 ≤ (plS p l).2 ∧ (plS p l).1 ≤ p.1 + l.length ∧ (plS p l).2 ≤ p.2 + l.length := by
  induction l with
  | nil => intro p h1 h2; simp [plS, h1, h2]
  | cons c r ih =>
    intro p h1 h2
    unfold plS
    split
    · have := ih (p.1 + 1, 1) (by simp only; omega) (by simp only; omega)
      simp only [List.length_cons] at this ⊢
      omega
    · have := ih (p.1, p.2 + 1) (by simp only; omega) (by simp only; omega)
      simp only [List.length_cons] at this ⊢
      omega
/-- The place of a byte of a text. -/
def plAt (s : T) (a : Nat) : Int × Int := plS (1, 1) (s.take a)

/-! ### Letters and digits -/
theorem run_letters {c : UInt8} {r : T} (h : ltr c = true) : ∀ (i : Nat) (d : UInt8), ((c :: r).takeWhile ltd)[i]? = some d → okAt i (d.toNat : Int) := by
  intro i d hd
  have hm : d ∈ (c :: r).takeWhile ltd := List.mem_of_getElem? hd
  have hl : ltd d = true := List.all_eq_true.1 List.all_takeWhile d hm
  cases i with
  | zero =>
    have e : (c :: r).takeWhile ltd = c :: r.takeWhile ltd := by rw [List.takeWhile_cons, if_pos (by simp [ltd, h])]
    rw [e] at hd
    simp at hd
    subst hd
    exact .inl h
  | succ i =>
    unfold ltd at hl
    rw [Bool.or_eq_true] at hl
    exact hl.imp id fun h => ⟨by omega, h⟩
theorem name_run {c : UInt8} {r : T} (h : ltr c = true) : nameB ((c :: r).takeWhile ltd) = (decide (((c :: r).takeWhile ltd).length ≤ 60) && !wordB ((c :: r).takeWhile ltd)) := by
  have hpos : 0 < ((c :: r).takeWhile ltd).length := takeWhile_pos (by simp [ltd, h])
  by_cases h1 : ((c :: r).takeWhile ltd).length ≤ 60
  · by_cases h2 : (c :: r).takeWhile ltd ∈ wordsL
    · have h3 : wordB ((c :: r).takeWhile ltd) = true := decide_eq_true h2
      rw [nameB_false fun hp => hp.2.2.2 h2, h3]; simp
    · have h3 : wordB ((c :: r).takeWhile ltd) = false := decide_eq_false h2
      rw [nameB_true ⟨run_letters h, hpos, h1, h2⟩, h3]; simp [h1]
  · rw [nameB_false fun hp => h1 hp.2.2.1]; simp [h1]

end Go.Proofs.YtdabndiaflagpaaGreatDoor
namespace Go.Proofs.YtdabndiaflagpaaGreatDoor
open Go.RowKit

def isB (z : Int) : Bool := decide (z = 32 ∨ z = 9 ∨ z = 13 ∨ z = 10)
def isN (z : Int) : Bool := decide (z ≠ 10)

theorem lxLetter_any (z : Int) (w : World) : Calls Tryz.prog 124 #[.int .u8 z] w fun e w' => e = .returned (.bool (isL z)) ∧ w = w' := by
  by_cases h1 : 97 ≤ z <;> by_cases h2 : z ≤ 122 <;> by_cases h3 : 65 ≤ z <;> by_cases h4 : z ≤ 90 <;> by_cases h5 : z = 95
  all_goals first | (exfalso; omega) | skip
  all_goals
    first
      | (have h7 : z = 95 := h5
         clear h1 h2 h3 h4 h5
         subst h7
         have HL : Hid (isL 95 = true) := Lib.hid (by decide)
         go_enter Tryz.func124, Tryz.ntmps124
         go_wp2_with fail
         go_ret
         exact ⟨ret_bool HL.out.symm, rfl⟩)
      | (have HL : Hid (isL z = true) := decide_eq_true (by omega)
         have h6 : (z == 95) = false := by simpa using h5
         go_enter Tryz.func124, Tryz.ntmps124
         go_wp2_with fail
         go_ret
         exact ⟨ret_bool HL.out.symm, rfl⟩)
      | (have HL : Hid (isL z = false) := decide_eq_false (by omega)
         have h6 : (z == 95) = false := by simpa using h5
         go_enter Tryz.func124, Tryz.ntmps124
         go_wp2_with fail
         go_ret
         exact ⟨ret_bool HL.out.symm, rfl⟩)

theorem lxDigit_any (z : Int) (w : World) : Calls Tryz.prog 129 #[.int .u8 z] w fun e w' => e = .returned (.bool (isD z)) ∧ w = w' := by
  by_cases h1 : 48 ≤ z <;> by_cases h2 : z ≤ 57
  all_goals
    first
      | (have HL : Hid (isD z = true) := decide_eq_true (by omega)
         go_enter Tryz.func129, Tryz.ntmps129
         go_wp2_with fail
         go_ret
         exact ⟨ret_bool HL.out.symm, rfl⟩)
      | (have HL : Hid (isD z = false) := decide_eq_false (by omega)
         go_enter Tryz.func129, Tryz.ntmps129
         go_wp2_with fail
         go_ret
         exact ⟨ret_bool HL.out.symm, rfl⟩)

theorem lxBlank_any (z : Int) (w : World) : Calls Tryz.prog 150 #[.int .u8 z] w fun e w' => e = .returned (.bool (isB z)) ∧ w = w' := by
  by_cases h1 : z = 32 <;> by_cases h2 : z = 9 <;> by_cases h3 : z = 13 <;> by_cases h4 : z = 10
  all_goals first | (exfalso; omega) | skip
  all_goals
    first
      | (subst h1
         have HL : Hid (isB 32 = true) := Lib.hid (by decide)
         clear h2 h3 h4
         go_enter Tryz.func150, Tryz.ntmps150
         go_wp2_with fail
         go_ret
         exact ⟨ret_bool HL.out.symm, rfl⟩)
      | (subst h2
         have HL : Hid (isB 9 = true) := Lib.hid (by decide)
         clear h1 h3 h4
         go_enter Tryz.func150, Tryz.ntmps150
         go_wp2_with fail
         go_ret
         exact ⟨ret_bool HL.out.symm, rfl⟩)
      | (subst h3
         have HL : Hid (isB 13 = true) := Lib.hid (by decide)
         clear h1 h2 h4
         go_enter Tryz.func150, Tryz.ntmps150
         go_wp2_with fail
         go_ret
         exact ⟨ret_bool HL.out.symm, rfl⟩)
      | (subst h4
         have HL : Hid (isB 10 = true) := Lib.hid (by decide)
         clear h1 h2 h3
         go_enter Tryz.func150, Tryz.ntmps150
         go_wp2_with fail
         go_ret
         exact ⟨ret_bool HL.out.symm, rfl⟩)
      | (have HL : Hid (isB z = false) := decide_eq_false (by omega)
         have k1 : (z == 32) = false := by simpa using h1
         have k2 : (z == 9) = false := by simpa using h2
         have k3 : (z == 13) = false := by simpa using h3
         have k4 : (z == 10) = false := by simpa using h4
         clear h1 h2 h3 h4
         go_enter Tryz.func150, Tryz.ntmps150
         go_wp2_with fail
         go_ret
         exact ⟨ret_bool HL.out.symm, rfl⟩)

theorem lxLine_any (z : Int) (w : World) : Calls Tryz.prog 148 #[.int .u8 z] w fun e w' => e = .returned (.bool (isN z)) ∧ w = w' := by
  by_cases h4 : z = 10
  · subst h4
    have HL : Hid (isN 10 = false) := Lib.hid (by decide)
    go_enter Tryz.func148, Tryz.ntmps148
    go_wp2_with fail
    go_ret
    exact ⟨ret_bool HL.out.symm, rfl⟩
  · have HL : Hid (isN z = true) := decide_eq_true h4
    have k4 : (z == 10) = false := by simpa using h4
    have k5 : (z != 10) = true := by simpa using h4
    clear h4
    go_enter Tryz.func148, Tryz.ntmps148
    go_wp2_with fail
    go_ret
    exact ⟨ret_bool HL.out.symm, rfl⟩

def isLD (z : Int) : Bool := isL z || isD z
theorem lxBoth_any (z : Int) (w : World) : Calls Tryz.prog 126 #[.int .u8 z] w fun e w' => e = .returned (.bool (isLD z)) ∧ w = w' := by
  have h1 := lxLetter_any z w
  have h2 := lxDigit_any z w
  by_cases hl : isL z = true
  · have HL : Hid (isLD z = true) := Lib.hid (by simp [isLD, hl])
    rw [hl] at h1
    have H1 := Lib.hid h1
    clear h1 h2 hl
    go_enter Tryz.func126, Tryz.ntmps126
    go_wp2_with (go_at_call 124; refine H1.out.mono ?_; rintro e w1 ⟨rfl, rfl⟩)
    go_ret
    exact ⟨ret_bool HL.out.symm, rfl⟩
  · have hl' : isL z = false := by simpa using hl
    have HL : Hid (isLD z = isD z) := Lib.hid (by simp [isLD, hl'])
    rw [hl'] at h1
    have H1 := Lib.hid h1
    have H2 := Lib.hid h2
    clear h1 h2 hl hl'
    go_enter Tryz.func126, Tryz.ntmps126
    go_wp2_with (first | (go_at_call 124; refine H1.out.mono ?_; rintro e w1 ⟨rfl, rfl⟩) | (go_at_call 129; refine H2.out.mono ?_; rintro e w1 ⟨rfl, rfl⟩))
    go_ret
    exact ⟨ret_bool HL.out.symm, rfl⟩

theorem u8_eq (c : UInt8) (n : UInt8) : ((c.toNat : Int) = (n.toNat : Int)) ↔ c = n := by
  constructor
  · intro h
    exact UInt8.toNat_inj.1 (by omega)
  · rintro rfl; rfl
theorem blk_eq (c : UInt8) : isB (c.toNat : Int) = blk c := by
  have h1 := u8_eq c 32
  have h2 := u8_eq c 9
  have h3 := u8_eq c 13
  have h4 := u8_eq c 10
  simp only [UInt8.reduceToNat] at h1 h2 h3 h4
  rw [Bool.eq_iff_iff]
  simp [isB, blk, or_assoc, ← h1, ← h2, ← h3, ← h4]
theorem nnl_eq (c : UInt8) : isN (c.toNat : Int) = nnl c := by
  have h4 := u8_eq c 10
  simp only [UInt8.reduceToNat] at h4
  rw [Bool.eq_iff_iff]
  simp [isN, nnl, ← h4]
/-! ### Runs -/
theorem take_run {p : UInt8 → Bool} {s : T} {i : Nat} (ha : ∀ (j : Nat) c, j < i → s[j]? = some c → p c = true) (he : ∀ c, s[i]? = some c → p c = false) : s.takeWhile p = s.take i := by
  induction s generalizing i with
  | nil => simp
  | cons c r ih =>
    cases i with
    | zero => simp [he c rfl]
    | succ i =>
      rw [List.takeWhile_cons, if_pos (ha 0 c (by omega) rfl), List.take_succ_cons, ih (i := i) (fun j d hj hd => ha (j + 1) d (by omega) (by simpa using hd)) (fun d hd => he d (by simpa using hd))]
theorem str_take (s : T) (i : Nat) : (⟨s.toArray⟩ : ByteArray).extract 0 i = ⟨(s.take i).toArray⟩ := by
  apply ByteArray.ext
  simp [ByteArray.data_extract]

theorem runName_any (s : T) (w : World) (hs : s.length ≤ 1099511627776) : Calls Tryz.prog 125 #[.string ⟨s.toArray⟩, .func (.func 126) #[] #[]] w fun e w' => e = .returned (.string ⟨(s.takeWhile ltd).toArray⟩) ∧ w = w' := by
  go_enter Tryz.func125, Tryz.ntmps125
  go_wp2_with fail
  go_loopw [5] (fun k wr => ∃ i : Nat, i ≤ s.length ∧ k = .int .i64 i ∧ (∀ (j : Nat) (c : UInt8), j < i → s[j]? = some c → ltd c = true) ∧ w = wr) (fun k _ => s.length - (intOf k).toNat)
  case atStart => exact ⟨0, by omega, rfl, fun j c h => by omega, rfl⟩
  case round =>
    obtain ⟨i, hi, rfl, ha, rfl⟩ := hrel
    have HA := Lib.hid ha
    clear ha
    by_cases hlt : i < s.length
    · obtain ⟨c, h', hc, hg⟩ := byte_at hlt
      have HC := Lib.hid hc
      have hcall := lxBoth_any (c.toNat : Int) w
      clear hc
      by_cases hp : ltd c = true
      · have hp' : isLD (c.toNat : Int) = true := hp
        rw [hp'] at hcall
        have HK := Lib.hid hcall
        have HP := Lib.hid hp
        clear hcall hp hp'
        go_wp2_with (go_at_call 126; refine HK.out.mono ?_; rintro e w1 ⟨rfl, rfl⟩)
        go_roundw
        case rel => exact ⟨i + 1, by omega, by go_num, fun j d hj hd => by
          by_cases e : j = i
          · subst e; rw [HC.out] at hd; injection hd with hd; rw [← hd]; exact HP.out
          · exact HA.out j d (by omega) hd, by first | rfl | trivial⟩
        case measure => simp [intOf]; omega
      · have hp1 : ltd c = false := by simpa using hp
        have hp' : isLD (c.toNat : Int) = false := hp1
        rw [hp'] at hcall
        have HK := Lib.hid hcall
        have HE : Hid (s.takeWhile ltd = s.take i) := take_run HA.out fun d hd => by rw [HC.out] at hd; injection hd with hd; rw [← hd]; exact hp1
        clear hcall hp hp' hp1
        go_wp2_with (go_at_call 126; refine HK.out.mono ?_; rintro e w1 ⟨rfl, rfl⟩)
        go_ret
        exact ⟨by rw [HE.out, ← str_take]; rfl, rfl⟩
    · obtain rfl : i = s.length := by omega
      have HE : Hid (s.takeWhile ltd = s.take s.length) := take_run HA.out fun d hd => by rw [List.getElem?_eq_none (Nat.le_refl _)] at hd; cases hd
      go_wp2_with fail
      go_ret
      exact ⟨by rw [HE.out, ← str_take]; rfl, rfl⟩

theorem runNum_any (s : T) (w : World) (hs : s.length ≤ 1099511627776) : Calls Tryz.prog 125 #[.string ⟨s.toArray⟩, .func (.func 129) #[] #[]] w fun e w' => e = .returned (.string ⟨(s.takeWhile dgt).toArray⟩) ∧ w = w' := by
  go_enter Tryz.func125, Tryz.ntmps125
  go_wp2_with fail
  go_loopw [5] (fun k wr => ∃ i : Nat, i ≤ s.length ∧ k = .int .i64 i ∧ (∀ (j : Nat) (c : UInt8), j < i → s[j]? = some c → dgt c = true) ∧ w = wr) (fun k _ => s.length - (intOf k).toNat)
  case atStart => exact ⟨0, by omega, rfl, fun j c h => by omega, rfl⟩
  case round =>
    obtain ⟨i, hi, rfl, ha, rfl⟩ := hrel
    have HA := Lib.hid ha
    clear ha
    by_cases hlt : i < s.length
    · obtain ⟨c, h', hc, hg⟩ := byte_at hlt
      have HC := Lib.hid hc
      have hcall := lxDigit_any (c.toNat : Int) w
      clear hc
      by_cases hp : dgt c = true
      · have hp' : isD (c.toNat : Int) = true := hp
        rw [hp'] at hcall
        have HK := Lib.hid hcall
        have HP := Lib.hid hp
        clear hcall hp hp'
        go_wp2_with (go_at_call 129; refine HK.out.mono ?_; rintro e w1 ⟨rfl, rfl⟩)
        go_roundw
        case rel => exact ⟨i + 1, by omega, by go_num, fun j d hj hd => by
          by_cases e : j = i
          · subst e; rw [HC.out] at hd; injection hd with hd; rw [← hd]; exact HP.out
          · exact HA.out j d (by omega) hd, by first | rfl | trivial⟩
        case measure => simp [intOf]; omega
      · have hp1 : dgt c = false := by simpa using hp
        have hp' : isD (c.toNat : Int) = false := hp1
        rw [hp'] at hcall
        have HK := Lib.hid hcall
        have HE : Hid (s.takeWhile dgt = s.take i) := take_run HA.out fun d hd => by rw [HC.out] at hd; injection hd with hd; rw [← hd]; exact hp1
        clear hcall hp hp' hp1
        go_wp2_with (go_at_call 129; refine HK.out.mono ?_; rintro e w1 ⟨rfl, rfl⟩)
        go_ret
        exact ⟨by rw [HE.out, ← str_take]; rfl, rfl⟩
    · obtain rfl : i = s.length := by omega
      have HE : Hid (s.takeWhile dgt = s.take s.length) := take_run HA.out fun d hd => by rw [List.getElem?_eq_none (Nat.le_refl _)] at hd; cases hd
      go_wp2_with fail
      go_ret
      exact ⟨by rw [HE.out, ← str_take]; rfl, rfl⟩

theorem runBlank_any (s : T) (w : World) (hs : s.length ≤ 1099511627776) : Calls Tryz.prog 125 #[.string ⟨s.toArray⟩, .func (.func 150) #[] #[]] w fun e w' => e = .returned (.string ⟨(s.takeWhile blk).toArray⟩) ∧ w = w' := by
  go_enter Tryz.func125, Tryz.ntmps125
  go_wp2_with fail
  go_loopw [5] (fun k wr => ∃ i : Nat, i ≤ s.length ∧ k = .int .i64 i ∧ (∀ (j : Nat) (c : UInt8), j < i → s[j]? = some c → blk c = true) ∧ w = wr) (fun k _ => s.length - (intOf k).toNat)
  case atStart => exact ⟨0, by omega, rfl, fun j c h => by omega, rfl⟩
  case round =>
    obtain ⟨i, hi, rfl, ha, rfl⟩ := hrel
    have HA := Lib.hid ha
    clear ha
    by_cases hlt : i < s.length
    · obtain ⟨c, h', hc, hg⟩ := byte_at hlt
      have HC := Lib.hid hc
      have hcall := lxBlank_any (c.toNat : Int) w
      clear hc
      by_cases hp : blk c = true
      · have hp' : isB (c.toNat : Int) = true := (blk_eq c).trans hp
        rw [hp'] at hcall
        have HK := Lib.hid hcall
        have HP := Lib.hid hp
        clear hcall hp hp'
        go_wp2_with (go_at_call 150; refine HK.out.mono ?_; rintro e w1 ⟨rfl, rfl⟩)
        go_roundw
        case rel => exact ⟨i + 1, by omega, by go_num, fun j d hj hd => by
          by_cases e : j = i
          · subst e; rw [HC.out] at hd; injection hd with hd; rw [← hd]; exact HP.out
          · exact HA.out j d (by omega) hd, by first | rfl | trivial⟩
        case measure => simp [intOf]; omega
      · have hp1 : blk c = false := by simpa using hp
        have hp' : isB (c.toNat : Int) = false := (blk_eq c).trans hp1
        rw [hp'] at hcall
        have HK := Lib.hid hcall
        have HE : Hid (s.takeWhile blk = s.take i) := take_run HA.out fun d hd => by rw [HC.out] at hd; injection hd with hd; rw [← hd]; exact hp1
        clear hcall hp hp' hp1
        go_wp2_with (go_at_call 150; refine HK.out.mono ?_; rintro e w1 ⟨rfl, rfl⟩)
        go_ret
        exact ⟨by rw [HE.out, ← str_take]; rfl, rfl⟩
    · obtain rfl : i = s.length := by omega
      have HE : Hid (s.takeWhile blk = s.take s.length) := take_run HA.out fun d hd => by rw [List.getElem?_eq_none (Nat.le_refl _)] at hd; cases hd
      go_wp2_with fail
      go_ret
      exact ⟨by rw [HE.out, ← str_take]; rfl, rfl⟩

theorem runLine_any (s : T) (w : World) (hs : s.length ≤ 1099511627776) : Calls Tryz.prog 125 #[.string ⟨s.toArray⟩, .func (.func 148) #[] #[]] w fun e w' => e = .returned (.string ⟨(s.takeWhile nnl).toArray⟩) ∧ w = w' := by
  go_enter Tryz.func125, Tryz.ntmps125
  go_wp2_with fail
  go_loopw [5] (fun k wr => ∃ i : Nat, i ≤ s.length ∧ k = .int .i64 i ∧ (∀ (j : Nat) (c : UInt8), j < i → s[j]? = some c → nnl c = true) ∧ w = wr) (fun k _ => s.length - (intOf k).toNat)
  case atStart => exact ⟨0, by omega, rfl, fun j c h => by omega, rfl⟩
  case round =>
    obtain ⟨i, hi, rfl, ha, rfl⟩ := hrel
    have HA := Lib.hid ha
    clear ha
    by_cases hlt : i < s.length
    · obtain ⟨c, h', hc, hg⟩ := byte_at hlt
      have HC := Lib.hid hc
      have hcall := lxLine_any (c.toNat : Int) w
      clear hc
      by_cases hp : nnl c = true
      · have hp' : isN (c.toNat : Int) = true := (nnl_eq c).trans hp
        rw [hp'] at hcall
        have HK := Lib.hid hcall
        have HP := Lib.hid hp
        clear hcall hp hp'
        go_wp2_with (go_at_call 148; refine HK.out.mono ?_; rintro e w1 ⟨rfl, rfl⟩)
        go_roundw
        case rel => exact ⟨i + 1, by omega, by go_num, fun j d hj hd => by
          by_cases e : j = i
          · subst e; rw [HC.out] at hd; injection hd with hd; rw [← hd]; exact HP.out
          · exact HA.out j d (by omega) hd, by first | rfl | trivial⟩
        case measure => simp [intOf]; omega
      · have hp1 : nnl c = false := by simpa using hp
        have hp' : isN (c.toNat : Int) = false := (nnl_eq c).trans hp1
        rw [hp'] at hcall
        have HK := Lib.hid hcall
        have HE : Hid (s.takeWhile nnl = s.take i) := take_run HA.out fun d hd => by rw [HC.out] at hd; injection hd with hd; rw [← hd]; exact hp1
        clear hcall hp hp' hp1
        go_wp2_with (go_at_call 148; refine HK.out.mono ?_; rintro e w1 ⟨rfl, rfl⟩)
        go_ret
        exact ⟨by rw [HE.out, ← str_take]; rfl, rfl⟩
    · obtain rfl : i = s.length := by omega
      have HE : Hid (s.takeWhile nnl = s.take s.length) := take_run HA.out fun d hd => by rw [List.getElem?_eq_none (Nat.le_refl _)] at hd; cases hd
      go_wp2_with fail
      go_ret
      exact ⟨by rw [HE.out, ← str_take]; rfl, rfl⟩

end Go.Proofs.YtdabndiaflagpaaGreatDoor
namespace Go.Proofs.YtdabndiaflagpaaGreatDoor
open Go.RowKit

/-- What is read of package-level variables. -/
structure LexEnv (w : World) : Prop where
  maxLen_ : ∃ m : Int, w.cell? ⟨7, 0, none⟩ = some (.int .i64 m)
  signs_ : Row w 3 9 (signsL.map fun l => Value.string ⟨l.toArray⟩).toArray ∨ ∀ (i : Nat) l, signsL[i]? = some l → w.cell? ⟨3, i, none⟩ = some (.string ⟨l.toArray⟩)
  range_ : ∃ tp p, w.cell? ⟨9, 0, none⟩ = some (.iface tp p)
theorem LexEnv.signs {w : World} (h : LexEnv w) : ∀ (i : Nat) l, signsL[i]? = some l → w.cell? ⟨3, i, none⟩ = some (.string ⟨l.toArray⟩) := by
  rcases h.signs_ with h | h
  · intro i l hl
    rw [h.cell, ← Array.getElem?_toList]
    simp [hl]
  · exact h
theorem LexEnv.move {w w' : World} (h : LexEnv w) (hb : ∀ b, b < w.heap.size → b = 7 ∨ b = 3 ∨ b = 9 → w'.heap[b]? = w.heap[b]?) : LexEnv w' := by
  have hs := h.signs
  obtain ⟨⟨m, h1⟩, _, tp, p, h3⟩ := h
  have g1 := World.block_lt_of_cell? w _ h1
  have g3 := World.block_lt_of_cell? w _ h3
  refine ⟨⟨m, (World.cell?_of_block (hb _ g1 (.inl rfl))).trans h1⟩, .inr fun i l hl => ?_, tp, p, (World.cell?_of_block (hb _ g3 (.inr (.inr rfl)))).trans h3⟩
  have h2 := hs i l hl
  have g2 := World.block_lt_of_cell? w _ h2
  exact (World.cell?_of_block (hb _ g2 (.inr (.inl rfl)))).trans h2
theorem LexEnv.later {w w' : World} (h : LexEnv w) (hb : Below w.heap.size w w') : LexEnv w' := h.move fun b hlt _ => hb.block b hlt

theorem str_drop (s : T) (i : Nat) : (⟨s.toArray⟩ : ByteArray).extract i s.length = ⟨(s.drop i).toArray⟩ := by
  apply ByteArray.ext
  simp [ByteArray.data_extract]
  rw [List.take_of_length_le (by simp)]
theorem drewN_below (w : World) (n : Nat) : Below w.heap.size w (w.drewN n) := ⟨rfl, rfl, rfl, Nat.le_refl _, fun _ _ => rfl⟩

/-- strings.Cut at the end of a note. -/
theorem cut_note (l : T) : Lib.cut l [42, 41] = (match endOf l with | none => (l, [], false) | some n => (l.take n, l.drop (n + 2), true)) := by
  have key : Lib.index l [42, 41] = (match endOf l with | none => -1 | some n => (n : Int)) := by
    induction l with
    | nil => rfl
    | cons c r ih =>
      unfold Lib.index endOf
      by_cases hp : [42, 41].isPrefixOf (c :: r) = true
      · simp [hp]
      · simp only [hp, ih]
        cases endOf r with
        | none => simp
        | some n =>
          have : ((n : Int) == -1) = false := beq_eq_false_iff_ne.2 (by omega)
          simp [this]
  unfold Lib.cut
  rw [key]
  cases endOf l with
  | none => simp
  | some n => simp

def noteS (l : T) : T × Bool := match endOf (l.drop 2) with | none => ([], false) | some n => (l.take (n + 4), true)
theorem note_any (l : T) (w : World) (h2 : 2 ≤ l.length) (hl : l.length ≤ 1000000) (he : LexEnv w) : Calls Tryz.prog 149 #[.string ⟨l.toArray⟩] w fun e w' => e = .returned (.tuple #[.string ⟨(noteS l).1.toArray⟩, .bool (noteS l).2]) ∧ Below w.heap.size w w' := by
  obtain ⟨m, hm⟩ := he.maxLen_
  have hcut := Tryz.strings_Cut ⟨(l.drop 2).toArray⟩ ⟨#[42, 41]⟩ m w (by show (l.drop 2).toArray.size < _; simp; omega) hm
  simp only [cut_note] at hcut
  have hd := str_drop l 2
  cases hn : endOf (l.drop 2) with
  | none =>
    rw [hn] at hcut
    simp only at hcut
    have HC := Lib.hid hcut
    have HN : Hid (noteS l = ([], false)) := Lib.hid (by unfold noteS; rw [hn])
    clear hcut hm hn
    go_enter Tryz.func149, Tryz.ntmps149
    go_wp2_with (go_at_call 169; refine HC.out.mono ?_; rintro e w1 ⟨rfl, n, rfl⟩)
    go_ret2
    exact ⟨by rw [HN.out]; rfl, drewN_below _ _⟩
  | some n =>
    rw [hn] at hcut
    simp only at hcut
    have HC := Lib.hid hcut
    have HN : Hid (noteS l = (l.take (n + 4), true)) := Lib.hid (by unfold noteS; rw [hn])
    have hle := endOf_le _ _ hn
    rw [List.length_drop] at hle
    have hlen : ((l.drop 2).take n).length = n := by rw [List.length_take, List.length_drop]; omega
    have HLN := Lib.hid hlen
    clear hcut hm hn
    go_enter Tryz.func149, Tryz.ntmps149
    go_wp2_with (go_at_call 169; refine HC.out.mono ?_; rintro e w1 ⟨rfl, k, rfl⟩)
    go_ret2
    exact ⟨by rw [HN.out, show n + 4 = 2 + n + 2 by omega, ← str_take l (2 + n + 2)]; rfl, drewN_below _ _⟩

def betS (l : T) : T × Bool := if [45, 45].isPrefixOf l = true then (l.takeWhile nnl, true) else if [40, 42].isPrefixOf l = true then noteS l else (l.takeWhile blk, true)
theorem between_any (l : T) (w : World) (hl : l.length ≤ 1000000) (he : LexEnv w) : Calls Tryz.prog 122 #[.string ⟨l.toArray⟩] w fun e w' => e = .returned (.tuple #[.string ⟨(betS l).1.toArray⟩, .bool (betS l).2]) ∧ Below w.heap.size w w' := by
  have p1 : Hid (Calls Tryz.prog 131 #[.string ⟨l.toArray⟩, .string ⟨#[45, 45]⟩] w fun e w' => e = .returned (.bool ([45, 45].isPrefixOf l)) ∧ w' = w) := Tryz.strings_HasPrefix ⟨l.toArray⟩ ⟨#[45, 45]⟩ w
  have p2 : Hid (Calls Tryz.prog 131 #[.string ⟨l.toArray⟩, .string ⟨#[40, 42]⟩] w fun e w' => e = .returned (.bool ([40, 42].isPrefixOf l)) ∧ w' = w) := Tryz.strings_HasPrefix ⟨l.toArray⟩ ⟨#[40, 42]⟩ w
  have r1 : Hid (Calls Tryz.prog 125 #[.string ⟨l.toArray⟩, .func (.func 148) #[] #[]] w fun e w' => e = .returned (.string ⟨(l.takeWhile nnl).toArray⟩) ∧ w = w') := runLine_any l w (by omega)
  have r2 : Hid (Calls Tryz.prog 125 #[.string ⟨l.toArray⟩, .func (.func 150) #[] #[]] w fun e w' => e = .returned (.string ⟨(l.takeWhile blk).toArray⟩) ∧ w = w') := runBlank_any l w (by omega)
  by_cases h1 : [45, 45].isPrefixOf l = true
  · have HO : Hid (betS l = (l.takeWhile nnl, true)) := Lib.hid (by unfold betS; rw [if_pos h1])
    rw [h1] at p1
    clear h1
    go_enter Tryz.func122, Tryz.ntmps122
    go_wp2_with (first | (go_at_call 131; refine p1.out.mono ?_; rintro e w1 ⟨rfl, rfl⟩) | (go_at_call 125; refine r1.out.mono ?_; rintro e w1 ⟨rfl, rfl⟩))
    go_ret2
    exact ⟨by rw [HO.out]; rfl, Below.refl _ _⟩
  · have h1' : [45, 45].isPrefixOf l = false := (Bool.not_eq_true _).mp h1
    rw [h1'] at p1
    by_cases h2 : [40, 42].isPrefixOf l = true
    · have HO : Hid (betS l = noteS l) := Lib.hid (by unfold betS; rw [if_neg h1, if_pos h2])
      have hlen := prefix_len h2
      have n1 : Hid (Calls Tryz.prog 149 #[.string ⟨l.toArray⟩] w fun e w' => e = .returned (.tuple #[.string ⟨(noteS l).1.toArray⟩, .bool (noteS l).2]) ∧ Below w.heap.size w w') := note_any l w hlen hl he
      rw [h2] at p2
      clear h1 h1' h2
      go_enter Tryz.func122, Tryz.ntmps122
      go_wp2_with (first | (go_at_call 131; refine p1.out.mono ?_; rintro e w1 ⟨rfl, rfl⟩; clear p1) | (go_at_call 131; refine p2.out.mono ?_; rintro e w1 ⟨rfl, rfl⟩; clear p2) | (go_at_call 149; refine n1.out.mono ?_; rintro e w1 ⟨rfl, hb⟩; have HB := Lib.hid hb; clear hb))
      go_ret2
      exact ⟨by rw [HO.out]; rfl, HB.out⟩
    · have h2' : [40, 42].isPrefixOf l = false := (Bool.not_eq_true _).mp h2
      have HO : Hid (betS l = (l.takeWhile blk, true)) := Lib.hid (by unfold betS; rw [if_neg h1, if_neg h2])
      rw [h2'] at p2
      clear h1 h1' h2 h2'
      go_enter Tryz.func122, Tryz.ntmps122
      go_wp2_with (first | (go_at_call 131; refine p1.out.mono ?_; rintro e w1 ⟨rfl, rfl⟩; clear p1) | (go_at_call 131; refine p2.out.mono ?_; rintro e w1 ⟨rfl, rfl⟩; clear p2) | (go_at_call 125; refine r2.out.mono ?_; rintro e w1 ⟨rfl, rfl⟩))
      go_ret2
      exact ⟨by rw [HO.out]; rfl, Below.refl _ _⟩

end Go.Proofs.YtdabndiaflagpaaGreatDoor
namespace Go.Proofs.YtdabndiaflagpaaGreatDoor
open Go.RowKit

/-- The text's struct. -/
def TxR (w : World) (b : Nat) (l : T) (p : Int × Int) (tv mv : Value) : Prop := Row w b 139 #[.string ⟨l.toArray⟩, .int .i64 p.1, .int .i64 p.2, tv, mv]
theorem take_snoc {s : T} {i : Nat} {c : UInt8} (h : s[i]? = some c) : s.take (i + 1) = s.take i ++ [c] := by rw [List.take_add_one, h]; rfl

set_option maxRecDepth 100000 in
set_option maxHeartbeats 1000000 in
theorem pass_any (x r : T) (b : Nat) (p : Int × Int) (tv mv : Value) (w : World) (hl : x.length ≤ 1000000) (hp1 : 1 ≤ p.1) (hp2 : p.1 ≤ 5000000) (hp3 : 1 ≤ p.2) (hp4 : p.2 ≤ 5000000) (hr : TxR w b (x ++ r) p tv mv) :
    Calls Tryz.prog 123 #[.pointer (some ⟨b, 0, none⟩), .string ⟨x.toArray⟩] w fun e w' => e = .returned (.tuple #[]) ∧ TxR w' b r (plS p x) tv mv ∧ w.grownBy w' (some b) := by
  have hcb := Lib.run_convert_string_bytes (P := Tryz.prog) w 9 32 5 ⟨x.toArray⟩ Tryz.underlying9 Tryz.underlying32 Tryz.underlying5
  have HB : Hid (Below w.heap.size w (Lib.bytesWorld w 5 ⟨x.toArray⟩)) := Lib.hid (bytesWorld_below _ _ _)
  have HC : Hid (∀ (j : Nat) (c : UInt8), x[j]? = some c → (Lib.bytesWorld w 5 ⟨x.toArray⟩).cell? ⟨w.heap.size, j, none⟩ = some (.int .u8 (c.toNat : Int))) := fun j c hj => by
    have hlt : j < x.length := by
      rcases Nat.lt_or_ge j x.length with h' | h'
      · exact h'
      · rw [List.getElem?_eq_none h'] at hj; cases hj
    rw [Lib.bytesWorld_cell w _ _ j (by simpa [ByteArray.size] using hlt)]
    simp [List.getD, hj]
  have hsz : w.heap.size < (Lib.bytesWorld w 5 ⟨x.toArray⟩).heap.size := by rw [Lib.bytesWorld_size]; omega
  generalize Lib.bytesWorld w 5 ⟨x.toArray⟩ = wb at hcb HB HC hsz
  generalize grownCap w (⟨x.toArray⟩ : ByteArray).size 0 5 = cp at hcb
  have hbw : b < w.heap.size := Row.lt hr
  have HR0 : Hid (TxR wb b (x ++ r) p tv mv) := Row.below hr HB.out hbw
  have HD := Lib.hid (str_drop (x ++ r) x.length)
  clear hr
  go_enter Tryz.func123, Tryz.ntmps123
  go_wp2_with fail
  go_loopw [9] (fun k wr => ∃ i : Nat, i ≤ x.length ∧ k = .int .i64 i ∧ TxR wr b (x ++ r) (plS p (x.take i)) tv mv ∧ wb.grownBy wr (some b)) (fun k _ => x.length - (intOf k).toNat)
  case atStart => exact ⟨0, by omega, rfl, HR0.out, only_refl _ _⟩
  case round =>
    obtain ⟨i, hi, rfl, ht, hg⟩ := hrel
    have HT := Lib.hid ht
    have HG := Lib.hid hg
    have hpb := plS_bound (x.take i) p hp1 hp3
    have hti : (x.take i).length = i := by simp; omega
    rw [hti] at hpb
    have HPB := Lib.hid hpb
    have hrow : Row wr b 139 #[.string ⟨(x ++ r).toArray⟩, .int .i64 (plS p (x.take i)).1, .int .i64 (plS p (x.take i)).2, tv, mv] := ht
    clear ht hg hti
    by_cases hlt : i < x.length
    · obtain ⟨c, h', hc, _⟩ := byte_at hlt
      have hcell : wr.cell? ⟨w.heap.size, i, none⟩ = some (.int .u8 (c.toNat : Int)) := (HG.out.cell_far ⟨w.heap.size, i, none⟩ hsz (by intro e; have e2 : w.heap.size = b := Option.some.inj e; omega)).trans (HC.out i c hc)
      have HS : Hid (x.take (i + 1) = x.take i ++ [c]) := Lib.hid (take_snoc hc)
      have HROW := Lib.hid hrow
      obtain ⟨z1, hz1⟩ : ∃ z, z = (plS p (x.take i)).1 := ⟨_, rfl⟩
      obtain ⟨z2, hz2⟩ : ∃ z, z = (plS p (x.take i)).2 := ⟨_, rfl⟩
      have HZ : Hid (∀ q, q = (if c = 10 then (z1 + 1, 1) else (z1, z2 + 1)) → plS p (x.take (i + 1)) = q) := fun q hq => by rw [HS.out, plS_snoc, hq, hz1, hz2]
      rw [← hz1, ← hz2] at HROW hpb
      have c0 := HROW.out.cell 0
      have c1 := HROW.out.cell 1
      have c2 := HROW.out.cell 2
      have f0 := HROW.out.free 0
      have f1 := HROW.out.free 1
      have f2 := HROW.out.free 2
      simp at c0 c1 c2
      have b1 := hpb.1
      have b2 := hpb.2.1
      have b3 : z1 ≤ 6000000 := by omega
      have b4 : z2 ≤ 6000000 := by omega
      clear hrow hz1 hz2 hc hpb
      by_cases h10 : c = 10
      · subst h10
        have hq : plS p (x.take (i + 1)) = (z1 + 1, 1) := HZ.out _ rfl
        have HQ := Lib.hid hq
        clear hq
        simp at hcell
        go_wp2_with fail
        go_roundw
        case rel =>
          refine ⟨i + 1, by omega, by go_num, ?_, ?_⟩
          · rw [HQ.out]
            have := ((HROW.out.set 2 (.int .i64 (z2 + 1))).set 1 (.int .i64 (z1 + 1))).set 2 (.int .i64 1)
            unfold TxR
            simpa using this
          · exact only_set (only_set (only_set HG.out 2 _) 1 _) 2 _
        case measure => simp [intOf]; omega
      · have hne : ((c.toNat : Int) == 10) = false := beq_eq_false_iff_ne.2 (fun h => h10 (UInt8.toNat_inj.1 (by simp only [UInt8.reduceToNat]; omega)))
        have hq : plS p (x.take (i + 1)) = (z1, z2 + 1) := HZ.out _ (by rw [if_neg h10])
        have HQ := Lib.hid hq
        clear hq h10
        go_wp2_with fail
        go_roundw
        case rel =>
          refine ⟨i + 1, by omega, by go_num, ?_, ?_⟩
          · rw [HQ.out]
            have := HROW.out.set 2 (.int .i64 (z2 + 1))
            unfold TxR
            simpa using this
          · exact only_set HG.out 2 _
        case measure => simp [intOf]; omega
    · obtain rfl : i = x.length := by omega
      rw [List.take_length] at hrow
      have HROW := Lib.hid hrow
      have c0 := hrow.cell 0
      have f0 := hrow.free 0
      simp at c0
      clear hrow hpb
      go_wp2_with fail
      go_end0
      have hd : (⟨(x ++ r).toArray⟩ : ByteArray).extract x.length (x.length + r.length) = ⟨r.toArray⟩ := by
        have := HD.out
        rw [List.length_append, List.drop_left] at this
        exact this
      rw [hd]
      refine ⟨rfl, ?_, ?_⟩
      · have := HROW.out.set 0 (.string ⟨r.toArray⟩)
        unfold TxR
        simpa using this
      · exact only_set ((show w.grownBy wb (some b) from ⟨HB.out.os, HB.out.tape, HB.out.output, HB.out.size, fun k hk _ => HB.out.block k hk⟩).trans HG.out) 0 _

end Go.Proofs.YtdabndiaflagpaaGreatDoor
namespace Go.Proofs.YtdabndiaflagpaaGreatDoor
open Go.RowKit

theorem tok_info : (Tryz.prog.info? 141).map (fun i => (i.zero, i.size, i.bytes)) = some (some (.agg #[.int .i64 0, .string ⟨#[]⟩, .int .i64 0, .int .i64 0, .int .i64 0]), 5, 48) := by kernel_rfl
def tkC (s : T) (t : Tk) : List Value := [.int .i64 t.kind, .string ⟨t.text.toArray⟩, .int .i64 t.n, .int .i64 (plAt s t.from_).1, .int .i64 (plAt s t.from_).2]
def RTk (s : T) : Of Tk := fun _ _ t cs => cs = tkC s t
theorem lastsT (s : T) : Lasts (RTk s) 5 := ⟨fun h _ => h, fun h => by rw [show _ = _ from h]; rfl, fun h u hu => by
  rw [show _ = _ from h] at hu
  simp only [tkC, List.mem_cons, List.not_mem_nil, or_false] at hu
  rcases hu with rfl | rfl | rfl | rfl | rfl <;> rfl⟩

/-- The map of kinds: what it has is right. -/
def KM (w : World) (mb mc : Nat) : Prop := ∃ (n : Nat) (D : DataW Unit), n ≤ mc ∧ w.ownsMap Tryz.prog 9 (plainElem Tryz.prog 3) mb n D ∧ Maps.IsMap D ∧
  ∀ s, Maps.has D (.string s) = true → ∃ k : Int, (∀ z, D.atKey (.string s) z = .lit (.int .i64 k)) ∧ ((nameB s = true ∧ k = 1) ∨ (nameB s = false ∧ wordB s = true ∧ k = 2))
theorem KM.kept {w w' : World} {mb mc : Nat} {r : Option Nat} (h : KM w mb mc) (hg : w.grownBy w' r) (hr : some mb ≠ r) : KM w' mb mc := by
  obtain ⟨n, D, hn, h1, h2⟩ := h
  exact ⟨n, D, hn, h1.kept hg hr, h2⟩

theorem KM.lt {w : World} {mb mc : Nat} (h : KM w mb mc) : mb < w.heap.size := by
  obtain ⟨n, D, hn, h1, h2⟩ := h
  exact h1.lt
theorem KM.move {w w' : World} {mb mc : Nat} (h : KM w mb mc) (hb : w'.heap[mb]? = w.heap[mb]?) : KM w' mb mc := by
  obtain ⟨n, D, hn, ⟨es, clock, he, hr⟩, h2⟩ := h
  exact ⟨n, D, hn, ⟨es, clock, hb.trans he, hr⟩, h2⟩

/-- Between two tokens: the text, what is left of it, what has come. -/
structure LxAt (s : T) (W0 W1 : World) (B : Nat) (w : World) (b mb mc : Nat) (tv : Value) (l : T) (a : Nat) (acc : List Tk) : Prop where
  row_ : TxR w b l (plAt s a) tv (.map (some mb))
  own_ : OwnG (RTk s) 141 5 w B (Sb B tv.ownBlock w) tv acc
  map_ : KM w mb mc
  env_ : LexEnv W0
  mb_ : mb < b
  old_ : W0.heap.size ≤ mb
  below_ : Below W0.heap.size W0 w
  rest_ : s.drop a = l
  few_ : acc.length ≤ a
  le_ : a ≤ s.length
  short_ : s.length ≤ 1000000
  base_ : b < B
  room_ : B ≤ w.heap.size
  keep_ : ∀ q, q < B → q ≠ b → q ≠ mb → w.heap[q]? = W1.heap[q]?

theorem plAt_bound (s : T) (a : Nat) (hs : s.length ≤ 1000000) : 1 ≤ (plAt s a).1 ∧ (plAt s a).1 ≤ 5000000 ∧ 1 ≤ (plAt s a).2 ∧ (plAt s a).2 ≤ 5000000 := by
  have := plS_bound (s.take a) (1, 1) (by decide) (by decide)
  have h2 : (s.take a).length ≤ s.length := by rw [List.length_take]; omega
  unfold plAt
  simp only at this
  omega
theorem plAt_on {s x r : T} {a : Nat} (h : s.drop a = x ++ r) : plAt s (a + x.length) = plS (plAt s a) x := by
  have e : s.take (a + x.length) = s.take a ++ x := by
    rw [List.take_add, h, List.take_left]
  unfold plAt
  rw [e, plS_append]
theorem drop_on {s x r : T} {a : Nat} (h : s.drop a = x ++ r) : s.drop (a + x.length) = r := by
  rw [← List.drop_drop, h, List.drop_left]
theorem le_on {s x r : T} {a : Nat} (h : s.drop a = x ++ r) (ha : a ≤ s.length) : a + x.length ≤ s.length := by
  have := congrArg List.length h
  rw [List.length_drop, List.length_append] at this
  omega

/-- The text passes x. -/
theorem LxAt.passed {s : T} {W0 W1 w w' : World} {B : Nat} {b mb mc : Nat} {tv : Value} {x r : T} {a : Nat} {acc : List Tk} (h : LxAt s W0 W1 B w b mb mc tv (x ++ r) a acc) (hr : TxR w' b r (plS (plAt s a) x) tv (.map (some mb))) (hg : w.grownBy w' (some b)) :
    LxAt s W0 W1 B w' b mb mc tv r (a + x.length) acc := by
  have hb : b < w.heap.size := Row.lt h.row_
  have hmb := h.mb_
  have hbB := h.base_
  refine ⟨?_, OwnG.far (lastsT s) h.own_ h.base_ hg, h.map_.kept hg (by intro e; injection e with e; omega), h.env_, h.mb_, h.old_, ?_, drop_on h.rest_, by have := h.few_; omega, le_on h.rest_ h.le_, h.short_, h.base_, Nat.le_trans h.room_ hg.size, fun q h1 h2 h3 => (hg.block q (Nat.lt_of_lt_of_le h1 h.room_) (by intro e; injection e with e; exact h2 e)).trans (h.keep_ q h1 h2 h3)⟩
  · rw [plAt_on h.rest_]; exact hr
  · exact h.below_.grown hg h.below_.size (fun k e => by injection e with e; have := h.mb_; have := h.old_; omega)

end Go.Proofs.YtdabndiaflagpaaGreatDoor
