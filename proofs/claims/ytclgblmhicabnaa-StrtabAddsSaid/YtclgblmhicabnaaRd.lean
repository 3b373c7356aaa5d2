/- DERIVED. Plain: what a reader does, on lists of bytes and an error (no program). -/
import Derived.Test.YtclgblmhicabnaaNums
namespace Go.Proofs.Ytclgblmhicabnaa.Rd
open Crc Nums

/-- What is left, and with what it gave up. -/
abbrev St := List UInt8 × Int

def fail (e : Int) (s : St) : St := if s.2 = 0 ∧ e ≠ 0 then ([], e) else s

/-- So many bytes. -/
def take_ (n : Nat) (s : St) : List UInt8 × St := if s.1.length < n then ([], fail 1 s) else (s.1.take n, (s.1.drop n, s.2))

/-- A number, the lowest byte first. -/
def le : List UInt8 → Nat
  | [] => 0
  | c :: l => c.toNat + 256 * le l

def num (n : Nat) (s : St) : Nat × St := (le (take_ n s).1, (take_ n s).2)

theorem le_lt (l : List UInt8) : le l < 256 ^ l.length := by
  induction l with
  | nil => simp [le]
  | cons c l ih =>
    have := c.toNat_lt
    rw [le, List.length_cons, Nat.pow_succ]
    omega
theorem le_append (l m : List UInt8) : le (l ++ m) = le l + 256 ^ l.length * le m := by
  induction l with
  | nil => simp [le]
  | cons c l ih =>
    rw [List.cons_append, le, ih, le, List.length_cons, Nat.pow_succ, Nat.mul_add, Nat.mul_comm (256 ^ l.length) 256, Nat.mul_assoc]
    omega
theorem take_length (n : Nat) (s : St) : (take_ n s).1.length ≤ n := by
  unfold take_; split <;> simp; omega
theorem num_lt (n : Nat) (s : St) : (num n s).1 < 256 ^ n := by
  have h := le_lt (take_ n s).1
  exact Nat.lt_of_lt_of_le h (Nat.pow_le_pow_right (by omega) (take_length n s))

/-- A number by sevens, digit by digit: 0, the number and what is left; or an error's number. -/
def varGo : Nat → Nat → Nat → List UInt8 → Int × Nat × List UInt8
  | 0, _, _, _ => (2, 0, [])
  | _ + 1, _, _, [] => (1, 0, [])
  | f + 1, n, v, b :: r =>
    if 128 ≤ b.toNat then varGo f (n + 1) (v + b.toNat % 128 * 128 ^ n) r
    else if (0 < n ∧ b.toNat = 0) ∨ (n = 9 ∧ 1 < b.toNat) then (2, 0, [])
    else (0, v + b.toNat * 128 ^ n, r)

def varS (most : Nat) (s : St) : Nat × St :=
  if (varGo 10 0 0 s.1).1 = 1 then (0, fail 1 s)
  else if (varGo 10 0 0 s.1).1 = 2 then (0, fail 2 s)
  else if most < (varGo 10 0 0 s.1).2.1 then (0, fail 4 ((varGo 10 0 0 s.1).2.2, s.2))
  else ((varGo 10 0 0 s.1).2.1, ((varGo 10 0 0 s.1).2.2, s.2))

/-- How far the code's own loop has come: k digits read, the last one d, v so far, the reader's state. -/
inductive Phase (s : St) : Nat → Nat → Nat → St → Prop
  | alive (k d v : Nat) (l : List UInt8) : 128 ≤ d → d < 256 → k ≤ 9 → v < 128 ^ k → varGo 10 0 0 s.1 = varGo (10 - k) k v l → (k = 0 → l = s.1) → (0 < k → s.2 = 0) → Phase s k d v (l, s.2)
  | long (d v : Nat) (l : List UInt8) : 128 ≤ d → d < 256 → v < 18446744073709551616 → (varGo 10 0 0 s.1).1 = 2 → s.2 = 0 → Phase s 10 d v (l, s.2)
  | short (k v : Nat) : 0 < k → k ≤ 10 → v < 18446744073709551616 → (varGo 10 0 0 s.1).1 = 1 → Phase s k 0 v (fail 1 s)
  | bad (k d v : Nat) (l : List UInt8) : 0 < k → k ≤ 10 → d < 128 → v < 18446744073709551616 → (1 < k ∧ d = 0) ∨ (k = 10 ∧ 1 < d) → (varGo 10 0 0 s.1).1 = 2 → s.2 = 0 → Phase s k d v (l, s.2)
  | good (k d v : Nat) (l : List UInt8) : 0 < k → k ≤ 10 → d < 128 → v < 18446744073709551616 → ¬ ((1 < k ∧ d = 0) ∨ (k = 10 ∧ 1 < d)) → varGo 10 0 0 s.1 = (0, v, l) → s.2 = 0 → Phase s k d v (l, s.2)

theorem Phase.start (s : St) : Phase s 0 128 0 s := Phase.alive 0 128 0 s.1 (by omega) (by omega) (by omega) (by simp) rfl (fun _ => rfl) (by omega)

theorem pow7 (k : Nat) : (128 : Nat) ^ k = 2 ^ (7 * k) := by rw [Nat.pow_mul]

theorem or_digit (k v d : Nat) (hk : k ≤ 9) (hv : v < 128 ^ k) (hd : d < 128) (h9 : k = 9 → d ≤ 1) : v ||| (d * 2 ^ (7 * k) % 18446744073709551616) = v + d * 128 ^ k ∧ v + d * 128 ^ k < 18446744073709551616 := by
  have hp : d * 2 ^ (7 * k) < 18446744073709551616 := by
    by_cases h : k = 9
    · subst h
      have := h9 rfl
      have : d * 2 ^ (7 * 9) ≤ 1 * 2 ^ (7 * 9) := Nat.mul_le_mul_right _ this
      omega
    · have h1 : (2 : Nat) ^ (7 * k) ≤ 2 ^ 56 := Nat.pow_le_pow_right (by omega) (by omega)
      have : d * 2 ^ (7 * k) ≤ 127 * 2 ^ 56 := Nat.mul_le_mul (by omega) h1
      omega
  rw [Nat.mod_eq_of_lt hp]
  rw [pow7] at hv ⊢
  have e3 := Nat.two_pow_add_eq_or_of_lt hv d
  constructor
  · rw [Nat.or_comm, Nat.mul_comm d, ← e3]; omega
  · by_cases h : k = 9
    · subst h
      have := h9 rfl
      have : d * 2 ^ (7 * 9) ≤ 1 * 2 ^ (7 * 9) := Nat.mul_le_mul_right _ this
      omega
    · have h1 : (2 : Nat) ^ (7 * k) ≤ 2 ^ 56 := Nat.pow_le_pow_right (by omega) (by omega)
      have : d * 2 ^ (7 * k) ≤ 127 * 2 ^ 56 := Nat.mul_le_mul (by omega) h1
      omega

theorem or_lt (v d k : Nat) (hv : v < 18446744073709551616) : v ||| (d * 2 ^ (7 * k) % 18446744073709551616) < 18446744073709551616 :=
  Nat.or_lt_two_pow (n := 64) hv (Nat.mod_lt _ (by omega))

theorem Phase.bounds {s s' : St} {k d v : Nat} (h : Phase s k d v s') : k ≤ 10 ∧ d < 256 ∧ v < 18446744073709551616 := by
  cases h with
  | alive k d v l h1 h2 h3 h4 =>
    have : (128 : Nat) ^ k ≤ 128 ^ 9 := Nat.pow_le_pow_right (by omega) h3
    exact ⟨by omega, h2, by omega⟩
  | long d v l h1 h2 h3 => exact ⟨by omega, h2, h3⟩
  | short k v h1 h2 h3 => exact ⟨h2, by omega, h3⟩
  | bad k d v l h1 h2 h3 h4 => exact ⟨h2, by omega, h4⟩
  | good k d v l h1 h2 h3 h4 => exact ⟨h2, by omega, h4⟩

/-- One round. -/
theorem Phase.step {s s' : St} {k d v : Nat} (h : Phase s k d v s') (hval : s.2 ≠ 0 → s.1 = []) (h1 : 128 ≤ d) (h2 : k < 10) :
    Phase s (k + 1) (num 1 s').1 (v ||| ((num 1 s').1 % 128 * 2 ^ (7 * k) % 18446744073709551616)) (num 1 s').2 := by
  cases h with
  | long => omega
  | short k v h3 => omega
  | bad => omega
  | good => omega
  | alive k d v l hd hd2 hk hv hgo hl0 hs0 =>
    have hv64 : v < 18446744073709551616 := by
      have : (128 : Nat) ^ k ≤ 128 ^ 9 := Nat.pow_le_pow_right (by omega) hk
      omega
    cases l with
    | nil =>
      have e1 : num 1 (([], s.2) : St) = (0, fail 1 ([], s.2)) := by simp [num, take_, le]
      rw [e1]
      have e2 : fail 1 (([], s.2) : St) = fail 1 s := by
        unfold fail
        by_cases hz : s.2 = 0
        · simp [hz]
        · have := hval hz
          obtain ⟨bs, er⟩ := s
          simp at this hz
          subst this
          simp [hz]
      rw [e2]
      refine Phase.short (k + 1) _ (by omega) (by omega) (or_lt _ _ _ hv64) ?_
      rw [hgo, show 10 - k = (9 - k) + 1 by omega]
      rfl
    | cons b r =>
      have hb := b.toNat_lt
      have hz : s.2 = 0 := by
        by_cases hz : s.2 = 0
        · exact hz
        · have h3 := hval hz
          by_cases hk0 : k = 0
          · have := hl0 hk0; rw [h3] at this; cases this
          · exact hs0 (by omega)
      have e1 : num 1 ((b :: r, s.2) : St) = (b.toNat, (r, s.2)) := by simp [num, take_, le]
      rw [e1]
      have hgo2 : varGo 10 0 0 s.1 = if 128 ≤ b.toNat then varGo (9 - k) (k + 1) (v + b.toNat % 128 * 128 ^ k) r
          else if (0 < k ∧ b.toNat = 0) ∨ (k = 9 ∧ 1 < b.toNat) then (2, 0, []) else (0, v + b.toNat * 128 ^ k, r) := by
        rw [hgo, show 10 - k = (9 - k) + 1 by omega]
        rfl
      by_cases hbig : 128 ≤ b.toNat
      · rw [if_pos hbig] at hgo2
        by_cases hk9 : k = 9
        · subst hk9
          refine Phase.long _ _ _ hbig (by omega) (or_lt _ _ _ hv64) ?_ hz
          rw [hgo2]
          rfl
        · obtain ⟨e2, _⟩ := or_digit k v (b.toNat % 128) hk hv (by omega) (by omega)
          rw [e2]
          refine Phase.alive _ _ _ _ hbig (by omega) (by omega) ?_ (by rw [hgo2, show 10 - (k + 1) = 9 - k by omega]) (by omega) (fun _ => hz)
          have : b.toNat % 128 * 128 ^ k ≤ 127 * 128 ^ k := Nat.mul_le_mul_right _ (by omega)
          rw [Nat.pow_succ]
          omega
      · rw [if_neg hbig] at hgo2
        by_cases hbad : (0 < k ∧ b.toNat = 0) ∨ (k = 9 ∧ 1 < b.toNat)
        · rw [if_pos hbad] at hgo2
          exact Phase.bad _ _ _ _ (by omega) (by omega) (by omega) (or_lt _ _ _ hv64) (by omega) (by rw [hgo2]) hz
        · rw [if_neg hbad] at hgo2
          have hm : b.toNat % 128 = b.toNat := by omega
          obtain ⟨e2, e3⟩ := or_digit k v b.toNat hk hv (by omega) (by omega)
          rw [hm, e2]
          exact Phase.good _ _ _ _ (by omega) (by omega) (by omega) e3 (by omega) hgo2 hz

def Bad (k d : Nat) : Prop := (1 < k ∧ d = 0) ∨ (k = 10 ∧ 1 < d)

theorem fail_zero {e : Int} {s : St} (h : s.2 = 0) (he : e ≠ 0) : fail e s = ([], e) := by unfold fail; rw [if_pos ⟨h, he⟩]
theorem fail_keep {e : Int} {s : St} (h : s.2 ≠ 0) : fail e s = s := by unfold fail; rw [if_neg (fun x => h x.1)]
theorem fail_ne {e : Int} {s : St} (he : e ≠ 0) : (fail e s).2 ≠ 0 := by
  unfold fail
  split
  · exact he
  · rename_i h
    intro h0
    exact h ⟨h0, he⟩

/-- Behind the loop. -/
theorem var_tail {s s' : St} {k d v most : Nat} (h : Phase s k d v s') (hx : ¬ (128 ≤ d ∧ k < 10)) :
    (Bad k d → varS most s = (0, fail 2 s')) ∧ (¬ Bad k d → most < v → varS most s = (0, fail 4 s')) ∧
    (¬ Bad k d → ¬ most < v → s'.2 ≠ 0 → varS most s = (0, s')) ∧ (¬ Bad k d → ¬ most < v → s'.2 = 0 → varS most s = (v, s')) := by
  cases h with
  | alive => omega
  | long d v l h1 h2 h3 h4 h5 =>
    have hb : Bad 10 d := .inr ⟨rfl, by omega⟩
    refine ⟨fun _ => ?_, fun h => absurd hb h, fun h => absurd hb h, fun h => absurd hb h⟩
    unfold varS
    rw [h4]
    simp only [fail_zero h5 (show (2 : Int) ≠ 0 by omega)]
    rw [fail_zero (s := (l, s.2)) h5 (by omega)]
    simp
  | short k v h1 h2 h3 h4 =>
    have e : varS most s = (0, fail 1 s) := by unfold varS; rw [if_pos h4]
    have hn : (fail 1 s).2 ≠ 0 := fail_ne (by omega)
    refine ⟨fun _ => by rw [e, fail_keep hn], fun _ _ => by rw [e, fail_keep hn], fun _ _ _ => e, fun _ _ h0 => absurd h0 hn⟩
  | bad k d v l h1 h2 h3 h4 h5 h6 h7 =>
    refine ⟨fun _ => ?_, fun h => absurd h5 h, fun h => absurd h5 h, fun h => absurd h5 h⟩
    unfold varS
    rw [h6]
    simp only [fail_zero h7 (show (2 : Int) ≠ 0 by omega)]
    rw [fail_zero (s := (l, s.2)) h7 (by omega)]
    simp
  | good k d v l h1 h2 h3 h4 h5 h6 h7 =>
    have e : varS most s = if most < v then (0, fail 4 (l, s.2)) else (v, (l, s.2)) := by
      unfold varS
      rw [h6]
      simp
    refine ⟨fun h => absurd h h5, fun _ hm => by rw [e, if_pos hm], fun _ _ h0 => absurd h7 h0, fun _ hm _ => by rw [e, if_neg hm]⟩

theorem varS_le (most : Nat) (s : St) : (varS most s).1 ≤ most := by
  unfold varS
  split
  · simp
  · split
    · simp
    · split
      · simp
      · rename_i h
        simp only [Nat.not_lt] at h
        exact h

/-- A run of bytes. -/
def textS (most : Nat) (s : St) : List UInt8 × St := take_ (varS most s).1 (varS most s).2

/-- A section: of the new reader; of the old one. -/
def sec1 (id : Nat) (s : St) : St := if (num 1 s).1 = id then (num 1 s).2 else fail 2 (num 1 s).2
def sec2 (id : Nat) (s : St) : List UInt8 × St := take_ (num 4 (sec1 id s)).1 (num 4 (sec1 id s)).2
def sec3 (id : Nat) (s : St) : St := if (num 4 (sec2 id s).2).1 = crc (sec2 id s).1 then (num 4 (sec2 id s).2).2 else fail 3 (num 4 (sec2 id s).2).2
def secS (id : Nat) (s : St) : St := fail (sec3 id s).2 ((sec2 id s).1, 0)

theorem take_app {n : Nat} (a r : List UInt8) (e : Int) (h : a.length = n) : take_ n (a ++ r, e) = (a, (r, e)) := by
  unfold take_
  rw [if_neg (by simp; omega)]
  simp [← h]

theorem le_low (k : Nat) : ∀ x : Nat, le (low k x) = x % 256 ^ k := by
  induction k with
  | zero => intro x; simp [low, le, Nat.mod_one]
  | succ k ih =>
    intro x
    have h1 : (UInt8.ofNat (x % 256)).toNat = x % 256 := by simp
    rw [low, le, ih, h1, Nat.pow_succ, Nat.mul_comm (256 ^ k) 256, Nat.mod_mul]

theorem num_low (k x : Nat) (r : List UInt8) (e : Int) : num k (low k x ++ r, e) = (x % 256 ^ k, (r, e)) := by
  unfold num
  rw [take_app _ _ _ (low_length k x), le_low]

theorem varGo_var (k : Nat) : ∀ (n v x : Nat) (r : List UInt8), n + k = 9 → x < 128 ^ (k + 1) → (n = 0 ∨ x ≠ 0) → x * 128 ^ n < 18446744073709551616 →
    varGo (k + 1) n v (varF k x ++ r) = (0, v + x * 128 ^ n, r) := by
  induction k with
  | zero =>
    intro n v x r hn hx h0 hb
    have hx' : x < 128 := by simpa using hx
    have hn9 : n = 9 := by omega
    subst hn9
    have hx1 : x ≤ 1 := by omega
    have e1 : (UInt8.ofNat x).toNat = x := UInt8.toNat_ofNat_of_lt' (by show x < 256; omega)
    show varGo 1 9 v (UInt8.ofNat x :: r) = _
    unfold varGo
    rw [e1, if_neg (by omega), if_neg (by omega)]
  | succ k ih =>
    intro n v x r hn hx h0 hb
    rw [varF]
    by_cases hs : x < 128
    · rw [if_pos hs]
      have e1 : (UInt8.ofNat x).toNat = x := UInt8.toNat_ofNat_of_lt' (by show x < 256; omega)
      show varGo (k + 1 + 1) n v (UInt8.ofNat x :: r) = _
      unfold varGo
      rw [e1, if_neg (by omega), if_neg (by omega)]
    · rw [if_neg hs]
      have e1 : (UInt8.ofNat (x % 128 + 128)).toNat = x % 128 + 128 := UInt8.toNat_ofNat_of_lt' (by show x % 128 + 128 < 256; omega)
      show varGo (k + 1 + 1) n v (UInt8.ofNat (x % 128 + 128) :: (varF k (x / 128) ++ r)) = _
      unfold varGo
      rw [e1, if_pos (by omega)]
      have hp : x / 128 * 128 ^ (n + 1) ≤ x * 128 ^ n := by
        rw [Nat.pow_succ, Nat.mul_comm (128 ^ n) 128, ← Nat.mul_assoc]
        exact Nat.mul_le_mul_right _ (by omega)
      rw [ih (n + 1) _ (x / 128) r (by omega) (by rw [Nat.pow_succ] at hx; omega) (.inr (by omega)) (by omega)]
      have e2 : (x % 128 + 128) % 128 = x % 128 := by omega
      rw [e2, Nat.pow_succ, Nat.mul_comm (128 ^ n) 128, ← Nat.mul_assoc, Nat.add_assoc, ← Nat.add_mul]
      have : x % 128 + x / 128 * 128 = x := by omega
      rw [this]

theorem varF10 (x : Nat) (h : x < 18446744073709551616) : var x = varF 9 x := by
  unfold var
  rw [varF_more 9 x (by omega)]

theorem varS_var (x : Nat) (r : List UInt8) (e : Int) (most : Nat) (h : x < 18446744073709551616) (hm : x ≤ most) : varS most (var x ++ r, e) = (x, (r, e)) := by
  have hg : varGo 10 0 0 (var x ++ r) = (0, x, r) := by
    rw [varF10 x h]
    have := varGo_var 9 0 0 x r (by omega) (by omega) (.inl rfl) (by omega)
    simpa using this
  unfold varS
  rw [hg]
  simp
  omega

theorem textS_text (l r : List UInt8) (e : Int) (most : Nat) (h : l.length < 18446744073709551616) (hm : l.length ≤ most) : textS most (text l ++ r, e) = (l, (r, e)) := by
  unfold textS text
  rw [List.append_assoc, varS_var _ _ _ _ h hm]
  exact take_app l r e rfl

theorem sec_back (id : UInt8) (l : List UInt8) (h : l.length < 4294967296) : secS id.toNat (section_ id l, 0) = (l, 0) ∧ sec3 id.toNat (section_ id l, 0) = ([], 0) := by
  have e1 : num 1 ((section_ id l, 0) : St) = (id.toNat, (low 4 l.length ++ (l ++ low 4 (crc l)), 0)) := by
    unfold num section_
    rw [show (id :: (low 4 l.length ++ l ++ low 4 (crc l))) = [id] ++ (low 4 l.length ++ (l ++ low 4 (crc l))) by simp, take_app (n := 1) [id] _ _ rfl]
    simp [le]
  have s1 : sec1 id.toNat (section_ id l, 0) = (low 4 l.length ++ (l ++ low 4 (crc l)), 0) := by
    unfold sec1
    rw [e1]
    simp
  have s2 : sec2 id.toNat (section_ id l, 0) = (l, (low 4 (crc l), 0)) := by
    unfold sec2
    rw [s1, num_low]
    have : l.length % 256 ^ 4 = l.length := Nat.mod_eq_of_lt (by omega)
    simp only [this]
    exact take_app l _ _ rfl
  have e4 : num 4 ((low 4 (crc l), 0) : St) = (crc l, ([], 0)) := by
    have := num_low 4 (crc l) [] 0
    rw [List.append_nil] at this
    rw [this, Nat.mod_eq_of_lt (by have := crc_lt l; omega)]
  have s3 : sec3 id.toNat (section_ id l, 0) = ([], 0) := by
    unfold sec3
    rw [s2]
    simp only
    rw [e4]
    simp
  refine ⟨?_, s3⟩
  unfold secS
  rw [s3, s2]
  rfl

end Go.Proofs.Ytclgblmhicabnaa.Rd
