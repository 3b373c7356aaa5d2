/- DERIVED. Plain facts on the sum of bytes (no program): a sum moved by one bit, by eight, by a whole text; bits turned within 32 side by side move it. -/
namespace Go.Proofs.Ytclgblmhicabnaa.Crc

/-- A sum that is moved by one bit. -/
def mv (x : Nat) : Nat := if x % 2 = 1 then (x / 2) ^^^ 3988292384 else x / 2

def mvN : Nat → Nat → Nat
  | 0, x => x
  | k + 1, x => mvN k (mv x)

/-- The sum behind one byte. -/
def upd (s c : Nat) : Nat := mvN 8 (s ^^^ c)

def crcF (s : Nat) : List UInt8 → Nat
  | [] => s
  | c :: l => crcF (upd s c.toNat) l

/-- The sum of bytes. -/
def crc (l : List UInt8) : Nat := 4294967295 - crcF 4294967295 l

/-- The bytes as one number, the first byte lowest. -/
def num : List UInt8 → Nat
  | [] => 0
  | c :: l => c.toNat ^^^ (256 * num l)

theorem crcF_nil (s : Nat) : crcF s [] = s := rfl
theorem crcF_cons (s : Nat) (c : UInt8) (l : List UInt8) : crcF s (c :: l) = crcF (upd s c.toNat) l := rfl
theorem num_cons (c : UInt8) (l : List UInt8) : num (c :: l) = c.toNat ^^^ (256 * num l) := rfl

theorem xor_half (x y : Nat) : (x ^^^ y) / 2 = (x / 2) ^^^ (y / 2) := by
  apply Nat.eq_of_testBit_eq; intro i
  simp [Nat.testBit_div_two, Nat.testBit_xor]

theorem xor_odd (x y : Nat) : (x ^^^ y) % 2 = (x % 2 + y % 2) % 2 := by
  have h := Nat.xor_mod_two_eq_one (a := x) (b := y)
  omega

theorem mv_xor (x y : Nat) : mv (x ^^^ y) = mv x ^^^ mv y := by
  unfold mv
  rw [xor_half, xor_odd]
  rcases Nat.mod_two_eq_zero_or_one x with hx | hx <;> rcases Nat.mod_two_eq_zero_or_one y with hy | hy <;> simp only [hx, hy]
  · simp
  · simp [Nat.xor_assoc]
  · simp
    rw [Nat.xor_assoc, Nat.xor_comm (y / 2), ← Nat.xor_assoc]
  · simp only [Nat.reduceAdd, Nat.reduceMod, if_true]
    simp only [Nat.zero_ne_one, if_false]
    apply Nat.eq_of_testBit_eq; intro i
    simp only [Nat.testBit_xor]
    cases (x / 2).testBit i <;> cases (y / 2).testBit i <;> cases Nat.testBit 3988292384 i <;> rfl

theorem mvN_xor (k : Nat) : ∀ x y : Nat, mvN k (x ^^^ y) = mvN k x ^^^ mvN k y := by
  induction k with
  | zero => intro x y; rfl
  | succ k ih => intro x y; show mvN k (mv _) = mvN k (mv _) ^^^ mvN k (mv _); rw [mv_xor, ih]

theorem mv_zero : mv 0 = 0 := by decide
theorem mvN_zero (k : Nat) : mvN k 0 = 0 := by
  induction k with
  | zero => rfl
  | succ k ih => show mvN k (mv 0) = 0; rw [mv_zero, ih]

theorem mv_lt (x : Nat) (h : x < 4294967296) : mv x < 4294967296 := by
  unfold mv
  split
  · exact Nat.xor_lt_two_pow (n := 32) (by omega) (by omega)
  · omega

theorem mvN_lt (k : Nat) : ∀ x : Nat, x < 4294967296 → mvN k x < 4294967296 := by
  induction k with
  | zero => intro x h; exact h
  | succ k ih => intro x h; exact ih _ (mv_lt x h)

theorem mv_ne (x : Nat) (h : x < 4294967296) (h0 : x ≠ 0) : mv x ≠ 0 := by
  unfold mv
  split
  · intro e
    have : x / 2 = 3988292384 := by
      have e2 : ((x / 2) ^^^ 3988292384) ^^^ 3988292384 = 0 ^^^ 3988292384 := by rw [e]
      rw [Nat.xor_assoc, Nat.xor_self, Nat.xor_zero, Nat.zero_xor] at e2
      exact e2
    omega
  · omega

theorem mvN_ne (k : Nat) : ∀ x : Nat, x < 4294967296 → x ≠ 0 → mvN k x ≠ 0 := by
  induction k with
  | zero => intro x _ h; exact h
  | succ k ih => intro x h h0; exact ih _ (mv_lt x h) (mv_ne x h h0)

theorem mv_double (y : Nat) : mv (2 * y) = y := by
  unfold mv
  rw [if_neg (by omega)]; omega

theorem mvN_pow (k : Nat) : ∀ y : Nat, mvN k (2 ^ k * y) = y := by
  induction k with
  | zero => intro y; simp [mvN]
  | succ k ih =>
    intro y
    show mvN k (mv _) = y
    rw [show 2 ^ (k + 1) * y = 2 * (2 ^ k * y) by rw [Nat.pow_succ, Nat.mul_comm (2 ^ k) 2, Nat.mul_assoc], mv_double, ih]

theorem mvN_add (a b : Nat) : ∀ x : Nat, mvN (a + b) x = mvN b (mvN a x) := by
  induction a with
  | zero => intro x; rw [Nat.zero_add]; rfl
  | succ a ih => intro x; rw [show a + 1 + b = (a + b) + 1 by omega]; exact ih (mv x)

theorem split_byte (x : Nat) : (x % 256) ^^^ (256 * (x / 256)) = x := by
  apply Nat.eq_of_testBit_eq; intro i
  rw [Nat.testBit_xor, show (256 : Nat) = 2 ^ 8 from rfl, Nat.testBit_mod_two_pow, Nat.testBit_two_pow_mul, Nat.testBit_div_two_pow]
  by_cases h : i < 8
  · have h' : ¬ 8 ≤ i := by omega
    simp [h, h']
  · have h' : 8 ≤ i := by omega
    simp [h, h']

/-- What a table of 256 sums is for. -/
theorem upd_tab (s c : Nat) : upd s c = mvN 8 ((s % 256) ^^^ c) ^^^ (s / 256) := by
  unfold upd
  have h : s ^^^ c = ((s % 256) ^^^ c) ^^^ (256 * (s / 256)) := by
    have := split_byte s
    rw [Nat.xor_assoc, Nat.xor_comm c, ← Nat.xor_assoc, this]
  rw [h, mvN_xor]
  have := mvN_pow 8 (s / 256)
  rw [show (2 : Nat) ^ 8 = 256 from rfl] at this
  rw [this]

theorem upd_lt (s : Nat) (c : UInt8) (hs : s < 4294967296) : upd s c.toNat < 4294967296 :=
  mvN_lt 8 _ (Nat.xor_lt_two_pow (n := 32) (by omega) (by have := c.toNat_lt; omega))

theorem crcF_lt (l : List UInt8) : ∀ s : Nat, s < 4294967296 → crcF s l < 4294967296 := by
  induction l with
  | nil => intro s h; exact h
  | cons c l ih => intro s h; exact ih _ (upd_lt s c h)

theorem crc_lt (l : List UInt8) : crc l < 4294967296 := by unfold crc; omega

theorem crcF_append (l m : List UInt8) : ∀ s : Nat, crcF s (l ++ m) = crcF (crcF s l) m := by
  induction l with
  | nil => intro s; rfl
  | cons c l ih => intro s; exact ih _

theorem crcF_num (l : List UInt8) : ∀ s : Nat, crcF s l = mvN (8 * l.length) (s ^^^ num l) := by
  induction l with
  | nil => intro s; rw [crcF_nil, List.length_nil, Nat.mul_zero]; show s = s ^^^ 0; rw [Nat.xor_zero]
  | cons c l ih =>
    intro s
    have this : mvN 8 (256 * num l) = num l := mvN_pow 8 (num l)
    have hx : s ^^^ (c.toNat ^^^ (256 * num l)) = (s ^^^ c.toNat) ^^^ (256 * num l) := (Nat.xor_assoc _ _ _).symm
    have h8 : 8 * (l.length + 1) = 8 + 8 * l.length := by omega
    rw [crcF_cons, ih, num_cons, List.length_cons, h8, mvN_add, hx, mvN_xor 8, this]
    rfl

/-- Bits turned within 32 side by side move the sum. -/
theorem crc_turned (l m : List UInt8) (hl : m.length = l.length) (e first : Nat) (he : e < 4294967296) (h0 : e ≠ 0) (hf : first ≤ 8 * l.length)
    (hn : num m = num l ^^^ (2 ^ first * e)) : crc m ≠ crc l := by
  intro h
  unfold crc at h
  have a := crcF_lt l 4294967295 (by omega)
  have b := crcF_lt m 4294967295 (by omega)
  have h' : crcF 4294967295 m = crcF 4294967295 l := by omega
  rw [crcF_num, crcF_num, hl, hn, ← Nat.xor_assoc, mvN_xor] at h'
  have hz : mvN (8 * l.length) (2 ^ first * e) = 0 := by
    have e2 : ∀ A B : Nat, A ^^^ B = A → B = 0 := by
      intro A B hh
      have : A ^^^ (A ^^^ B) = A ^^^ A := by rw [hh]
      rwa [← Nat.xor_assoc, Nat.xor_self, Nat.zero_xor] at this
    exact e2 _ _ h'
  rw [show 8 * l.length = first + (8 * l.length - first) by omega, mvN_add, mvN_pow] at hz
  exact mvN_ne _ e he h0 hz

theorem pow_xor (k a b : Nat) : 2 ^ k * (a ^^^ b) = (2 ^ k * a) ^^^ (2 ^ k * b) := by
  rw [Nat.mul_comm, ← Nat.shiftLeft_eq, Nat.shiftLeft_xor_distrib, Nat.shiftLeft_eq, Nat.shiftLeft_eq, Nat.mul_comm a, Nat.mul_comm b]

theorem num_set (l : List UInt8) : ∀ (k j : Nat) (hk : k < l.length), j < 8 → ∀ c : UInt8, c.toNat = (l[k]).toNat ^^^ 2 ^ j → num (l.set k c) = num l ^^^ 2 ^ (8 * k + j) := by
  induction l with
  | nil => intro k j hk; simp at hk
  | cons x l ih =>
    intro k j hk hj c hc
    cases k with
    | zero =>
      simp only [List.getElem_cons_zero] at hc
      simp only [List.set_cons_zero, num, hc, Nat.mul_zero, Nat.zero_add]
      rw [Nat.xor_assoc, Nat.xor_comm (2 ^ j), ← Nat.xor_assoc]
    | succ k =>
      simp only [List.getElem_cons_succ] at hc
      have := ih k j (by simpa using hk) hj c hc
      simp only [List.set_cons_succ, num, this]
      have h2 : 256 * (num l ^^^ 2 ^ (8 * k + j)) = (256 * num l) ^^^ 2 ^ (8 * (k + 1) + j) := by
        rw [show (256 : Nat) = 2 ^ 8 from rfl, Nat.mul_comm, ← Nat.shiftLeft_eq, Nat.shiftLeft_xor_distrib, Nat.shiftLeft_eq, Nat.shiftLeft_eq, ← Nat.pow_add, Nat.mul_comm]
        rw [show 8 * k + j + 8 = 8 * (k + 1) + j by omega]
      rw [h2, Nat.xor_assoc]

/-- One bit more of the bits asked. -/
theorem low_succ (x i : Nat) : x % 2 ^ (i + 1) = (x % 2 ^ i) ^^^ (if x / 2 ^ i % 2 = 1 then 2 ^ i else 0) := by
  apply Nat.eq_of_testBit_eq; intro j
  rw [Nat.testBit_xor, Nat.testBit_mod_two_pow, Nat.testBit_mod_two_pow]
  have hb : x.testBit i = decide (x / 2 ^ i % 2 = 1) := by rw [Nat.testBit_eq_decide_div_mod_eq]
  by_cases h : x / 2 ^ i % 2 = 1
  · rw [if_pos h, Nat.testBit_two_pow]
    by_cases hj : i = j
    · subst hj; simp [hb, h]
    · by_cases h1 : j < i
      · have : j < i + 1 := by omega
        simp [h1, this, hj]
      · have : ¬ j < i + 1 := by omega
        simp [h1, this, hj]
  · rw [if_neg h, Nat.zero_testBit]
    by_cases hj : i = j
    · subst hj; simp [hb, h]
    · by_cases h1 : j < i
      · have : j < i + 1 := by omega
        simp [h1, this]
      · have : ¬ j < i + 1 := by omega
        simp [h1, this]

/-- The row of sums behind i rounds; and within the round, up to a. -/
def gOut (i k : Nat) : Nat := if k % 2 ^ (8 - i) = 0 then mvN 8 k else 0
def gIn (i a k : Nat) : Nat := if k % 2 ^ (8 - i) = 0 ∨ (k % 2 ^ (7 - i) = 0 ∧ k < a) then mvN 8 k else 0

theorem mvN_end (i x : Nat) : mvN (i + 1) x = mv (mvN i x) := by rw [mvN_add]; rfl

theorem gOut_zero (k : Nat) (h : k < 256) : gOut 0 k = 0 := by
  unfold gOut
  by_cases e : k = 0
  · subst e; decide
  · rw [if_neg]; simp; omega

theorem gOut_last (k : Nat) : gOut 8 k = mvN 8 k := by
  unfold gOut
  rw [if_pos]; simp [Nat.mod_one]

theorem gIn_zero (i k : Nat) : gIn i 0 k = gOut i k := by
  unfold gIn gOut
  simp

theorem gIn_last (i k a : Nat) (hi : i < 8) (h : k < 256) (ha : 256 ≤ a) : gIn i a k = gOut (i + 1) k := by
  unfold gIn gOut
  have e : 8 - (i + 1) = 7 - i := by omega
  have e8 : 8 - i = (7 - i) + 1 := by omega
  rw [e, e8]
  generalize 7 - i = n
  have hk : k < a := by omega
  have h2 : (k % 2 ^ (n + 1) = 0 ∨ (k % 2 ^ n = 0 ∧ k < a)) ↔ k % 2 ^ n = 0 := by
    constructor
    · rintro (h | h)
      · have : 2 ^ n ∣ k := Nat.dvd_trans (Nat.pow_dvd_pow 2 (by omega)) (Nat.dvd_of_mod_eq_zero h)
        exact Nat.mod_eq_zero_of_dvd this
      · exact h.1
    · intro h; exact .inr ⟨h, hk⟩
  simp only [h2]

theorem top_bit (i : Nat) (hi : i < 8) : mvN 8 (2 ^ (7 - i)) = mvN (i + 1) 1 := by
  have : 8 = (7 - i) + (i + 1) := by omega
  conv => lhs; rw [this]
  rw [mvN_add]
  have h := mvN_pow (7 - i) 1
  rw [Nat.mul_one] at h
  rw [h]

theorem gIn_at (i a : Nat) (ha : a % 2 ^ (8 - i) = 0) : gIn i a a = mvN 8 a := by
  unfold gIn; rw [if_pos (.inl ha)]

theorem xor_top (n q : Nat) : (2 ^ (n + 1) * q) ^^^ 2 ^ n = 2 ^ (n + 1) * q + 2 ^ n := by
  rw [Nat.two_pow_add_eq_or_of_lt (Nat.pow_lt_pow_right (by omega) (by omega))]
  apply Nat.eq_of_testBit_eq; intro j
  rw [Nat.testBit_xor, Nat.testBit_or, Nat.testBit_two_pow_mul, Nat.testBit_two_pow]
  by_cases h : n = j
  · subst h
    have : ¬ n + 1 ≤ n := by omega
    simp [this]
  · simp [h]

theorem gIn_step (i a k : Nat) (hi : i < 8) (ha : a % 2 ^ (8 - i) = 0) :
    (if k = a + 2 ^ (7 - i) then mvN 8 a ^^^ mvN (i + 1) 1 else gIn i a k) = gIn i (a + 2 * 2 ^ (7 - i)) k := by
  by_cases e : k = a + 2 ^ (7 - i)
  · rw [if_pos e]
    have hx : a ^^^ 2 ^ (7 - i) = a + 2 ^ (7 - i) := by
      have h8 : 8 - i = 7 - i + 1 := by omega
      rw [h8] at ha
      have hq : a = 2 ^ (7 - i + 1) * (a / 2 ^ (7 - i + 1)) := (Nat.mul_div_cancel' (Nat.dvd_of_mod_eq_zero ha)).symm
      rw [hq]
      exact xor_top _ _
    unfold gIn
    rw [if_pos, e, ← hx, mvN_xor, top_bit i hi]
    refine .inr ⟨?_, ?_⟩
    · have hi' : i = 0 ∨ i = 1 ∨ i = 2 ∨ i = 3 ∨ i = 4 ∨ i = 5 ∨ i = 6 ∨ i = 7 := by omega
      rcases hi' with rfl | rfl | rfl | rfl | rfl | rfl | rfl | rfl <;> simp at ha ⊢ <;> omega
    · have : 0 < 2 ^ (7 - i) := Nat.two_pow_pos _
      omega
  · rw [if_neg e]
    unfold gIn
    have h2 : (k % 2 ^ (8 - i) = 0 ∨ (k % 2 ^ (7 - i) = 0 ∧ k < a)) ↔ (k % 2 ^ (8 - i) = 0 ∨ (k % 2 ^ (7 - i) = 0 ∧ k < a + 2 * 2 ^ (7 - i))) := by
      have hi' : i = 0 ∨ i = 1 ∨ i = 2 ∨ i = 3 ∨ i = 4 ∨ i = 5 ∨ i = 6 ∨ i = 7 := by omega
      rcases hi' with rfl | rfl | rfl | rfl | rfl | rfl | rfl | rfl <;> simp at ha e ⊢ <;> omega
    simp only [h2]

end Go.Proofs.Ytclgblmhicabnaa.Crc
