/- DERIVED. The code's looks at single bytes, and its runs of bytes of one sort. -/
import Derived.Test.YtfajnflfonechaaDoorLxS
namespace Go.Proofs.YtfajnflfonechaaDoor
open Go.RowKit

def isB (z : Int) : Bool := decide (z = 32 ∨ z = 9 ∨ z = 13 ∨ z = 10)
def isN (z : Int) : Bool := decide (z ≠ 10)

theorem lxLetter_any (z : Int) (w : World) : Calls Tryd.prog 68 #[.int .u8 z] w fun e w' => e = .returned (.bool (isL z)) ∧ w = w' := by
  by_cases h1 : 97 ≤ z <;> by_cases h2 : z ≤ 122 <;> by_cases h3 : 65 ≤ z <;> by_cases h4 : z ≤ 90 <;> by_cases h5 : z = 95
  all_goals first | (exfalso; omega) | skip
  all_goals
    first
      | (have h7 : z = 95 := h5
         clear h1 h2 h3 h4 h5
         subst h7
         have HL : Hid (isL 95 = true) := Lib.hid (by decide)
         go_enter Tryd.func68, Tryd.ntmps68
         go_wp2_with fail
         go_ret
         exact ⟨ret_bool HL.out.symm, rfl⟩)
      | (have HL : Hid (isL z = true) := decide_eq_true (by omega)
         have h6 : (z == 95) = false := by simpa using h5
         go_enter Tryd.func68, Tryd.ntmps68
         go_wp2_with fail
         go_ret
         exact ⟨ret_bool HL.out.symm, rfl⟩)
      | (have HL : Hid (isL z = false) := decide_eq_false (by omega)
         have h6 : (z == 95) = false := by simpa using h5
         go_enter Tryd.func68, Tryd.ntmps68
         go_wp2_with fail
         go_ret
         exact ⟨ret_bool HL.out.symm, rfl⟩)

theorem lxDigit_any (z : Int) (w : World) : Calls Tryd.prog 73 #[.int .u8 z] w fun e w' => e = .returned (.bool (isD z)) ∧ w = w' := by
  by_cases h1 : 48 ≤ z <;> by_cases h2 : z ≤ 57
  all_goals
    first
      | (have HL : Hid (isD z = true) := decide_eq_true (by omega)
         go_enter Tryd.func73, Tryd.ntmps73
         go_wp2_with fail
         go_ret
         exact ⟨ret_bool HL.out.symm, rfl⟩)
      | (have HL : Hid (isD z = false) := decide_eq_false (by omega)
         go_enter Tryd.func73, Tryd.ntmps73
         go_wp2_with fail
         go_ret
         exact ⟨ret_bool HL.out.symm, rfl⟩)

theorem lxBlank_any (z : Int) (w : World) : Calls Tryd.prog 93 #[.int .u8 z] w fun e w' => e = .returned (.bool (isB z)) ∧ w = w' := by
  by_cases h1 : z = 32 <;> by_cases h2 : z = 9 <;> by_cases h3 : z = 13 <;> by_cases h4 : z = 10
  all_goals first | (exfalso; omega) | skip
  all_goals
    first
      | (subst h1
         have HL : Hid (isB 32 = true) := Lib.hid (by decide)
         clear h2 h3 h4
         go_enter Tryd.func93, Tryd.ntmps93
         go_wp2_with fail
         go_ret
         exact ⟨ret_bool HL.out.symm, rfl⟩)
      | (subst h2
         have HL : Hid (isB 9 = true) := Lib.hid (by decide)
         clear h1 h3 h4
         go_enter Tryd.func93, Tryd.ntmps93
         go_wp2_with fail
         go_ret
         exact ⟨ret_bool HL.out.symm, rfl⟩)
      | (subst h3
         have HL : Hid (isB 13 = true) := Lib.hid (by decide)
         clear h1 h2 h4
         go_enter Tryd.func93, Tryd.ntmps93
         go_wp2_with fail
         go_ret
         exact ⟨ret_bool HL.out.symm, rfl⟩)
      | (subst h4
         have HL : Hid (isB 10 = true) := Lib.hid (by decide)
         clear h1 h2 h3
         go_enter Tryd.func93, Tryd.ntmps93
         go_wp2_with fail
         go_ret
         exact ⟨ret_bool HL.out.symm, rfl⟩)
      | (have HL : Hid (isB z = false) := decide_eq_false (by omega)
         have k1 : (z == 32) = false := by simpa using h1
         have k2 : (z == 9) = false := by simpa using h2
         have k3 : (z == 13) = false := by simpa using h3
         have k4 : (z == 10) = false := by simpa using h4
         clear h1 h2 h3 h4
         go_enter Tryd.func93, Tryd.ntmps93
         go_wp2_with fail
         go_ret
         exact ⟨ret_bool HL.out.symm, rfl⟩)

theorem lxLine_any (z : Int) (w : World) : Calls Tryd.prog 91 #[.int .u8 z] w fun e w' => e = .returned (.bool (isN z)) ∧ w = w' := by
  by_cases h4 : z = 10
  · subst h4
    have HL : Hid (isN 10 = false) := Lib.hid (by decide)
    go_enter Tryd.func91, Tryd.ntmps91
    go_wp2_with fail
    go_ret
    exact ⟨ret_bool HL.out.symm, rfl⟩
  · have HL : Hid (isN z = true) := decide_eq_true h4
    have k4 : (z == 10) = false := by simpa using h4
    have k5 : (z != 10) = true := by simpa using h4
    clear h4
    go_enter Tryd.func91, Tryd.ntmps91
    go_wp2_with fail
    go_ret
    exact ⟨ret_bool HL.out.symm, rfl⟩

def isLD (z : Int) : Bool := isL z || isD z
theorem lxBoth_any (z : Int) (w : World) : Calls Tryd.prog 70 #[.int .u8 z] w fun e w' => e = .returned (.bool (isLD z)) ∧ w = w' := by
  have h1 := lxLetter_any z w
  have h2 := lxDigit_any z w
  by_cases hl : isL z = true
  · have HL : Hid (isLD z = true) := Lib.hid (by simp [isLD, hl])
    rw [hl] at h1
    have H1 := Lib.hid h1
    clear h1 h2 hl
    go_enter Tryd.func70, Tryd.ntmps70
    go_wp2_with (go_at_call 68; refine H1.out.mono ?_; rintro e w1 ⟨rfl, rfl⟩)
    go_ret
    exact ⟨ret_bool HL.out.symm, rfl⟩
  · have hl' : isL z = false := by simpa using hl
    have HL : Hid (isLD z = isD z) := Lib.hid (by simp [isLD, hl'])
    rw [hl'] at h1
    have H1 := Lib.hid h1
    have H2 := Lib.hid h2
    clear h1 h2 hl hl'
    go_enter Tryd.func70, Tryd.ntmps70
    go_wp2_with (first | (go_at_call 68; refine H1.out.mono ?_; rintro e w1 ⟨rfl, rfl⟩) | (go_at_call 73; refine H2.out.mono ?_; rintro e w1 ⟨rfl, rfl⟩))
    go_ret
    exact ⟨ret_bool HL.out.symm, rfl⟩

theorem u8_eq (c : UInt8) (n : UInt8) : ((c.toNat : Int) = (n.toNat : Int)) ↔ c = n := by
  constructor
  · intro h
    exact UInt8.toNat_inj.1 (by omega)
  · rintro rfl; rfl
theorem blk_eq (c : UInt8) : isB (c.toNat : Int) = blk c := by
  have h1 := u8_eq c 32
  have h2 := u8_eq c 9
  have h3 := u8_eq c 13
  have h4 := u8_eq c 10
  simp only [UInt8.reduceToNat] at h1 h2 h3 h4
  rw [Bool.eq_iff_iff]
  simp [isB, blk, or_assoc, ← h1, ← h2, ← h3, ← h4]
theorem nnl_eq (c : UInt8) : isN (c.toNat : Int) = nnl c := by
  have h4 := u8_eq c 10
  simp only [UInt8.reduceToNat] at h4
  rw [Bool.eq_iff_iff]
  simp [isN, nnl, ← h4]
/-! ### Runs -/
theorem take_run {p : UInt8 → Bool} {s : T} {i : Nat} (ha : ∀ (j : Nat) c, j < i → s[j]? = some c → p c = true) (he : ∀ c, s[i]? = some c → p c = false) : s.takeWhile p = s.take i := by
  induction s generalizing i with
  | nil => simp
  | cons c r ih =>
    cases i with
    | zero => simp [he c rfl]
    | succ i =>
      rw [List.takeWhile_cons, if_pos (ha 0 c (by omega) rfl), List.take_succ_cons, ih (i := i) (fun j d hj hd => ha (j + 1) d (by omega) (by simpa using hd)) (fun d hd => he d (by simpa using hd))]
theorem str_take (s : T) (i : Nat) : (⟨s.toArray⟩ : ByteArray).extract 0 i = ⟨(s.take i).toArray⟩ := by
  apply ByteArray.ext
  simp [ByteArray.data_extract]

theorem runName_any (s : T) (w : World) (hs : s.length ≤ 1099511627776) : Calls Tryd.prog 69 #[.string ⟨s.toArray⟩, .func (.func 70) #[] #[]] w fun e w' => e = .returned (.string ⟨(s.takeWhile ltd).toArray⟩) ∧ w = w' := by
  go_enter Tryd.func69, Tryd.ntmps69
  go_wp2_with fail
  go_loopw [5] (fun k wr => ∃ i : Nat, i ≤ s.length ∧ k = .int .i64 i ∧ (∀ (j : Nat) (c : UInt8), j < i → s[j]? = some c → ltd c = true) ∧ w = wr) (fun k _ => s.length - (intOf k).toNat)
  case atStart => exact ⟨0, by omega, rfl, fun j c h => by omega, rfl⟩
  case round =>
    obtain ⟨i, hi, rfl, ha, rfl⟩ := hrel
    have HA := Lib.hid ha
    clear ha
    by_cases hlt : i < s.length
    · obtain ⟨c, h', hc, hg⟩ := byte_at hlt
      have HC := Lib.hid hc
      have hcall := lxBoth_any (c.toNat : Int) w
      clear hc
      by_cases hp : ltd c = true
      · have hp' : isLD (c.toNat : Int) = true := hp
        rw [hp'] at hcall
        have HK := Lib.hid hcall
        have HP := Lib.hid hp
        clear hcall hp hp'
        go_wp2_with (go_at_call 70; refine HK.out.mono ?_; rintro e w1 ⟨rfl, rfl⟩)
        go_roundw
        case rel => exact ⟨i + 1, by omega, by go_num, fun j d hj hd => by
          by_cases e : j = i
          · subst e; rw [HC.out] at hd; injection hd with hd; rw [← hd]; exact HP.out
          · exact HA.out j d (by omega) hd, by first | rfl | trivial⟩
        case measure => simp [intOf]; omega
      · have hp1 : ltd c = false := by simpa using hp
        have hp' : isLD (c.toNat : Int) = false := hp1
        rw [hp'] at hcall
        have HK := Lib.hid hcall
        have HE : Hid (s.takeWhile ltd = s.take i) := take_run HA.out fun d hd => by rw [HC.out] at hd; injection hd with hd; rw [← hd]; exact hp1
        clear hcall hp hp' hp1
        go_wp2_with (go_at_call 70; refine HK.out.mono ?_; rintro e w1 ⟨rfl, rfl⟩)
        go_ret
        exact ⟨by rw [HE.out, ← str_take]; rfl, rfl⟩
    · obtain rfl : i = s.length := by omega
      have HE : Hid (s.takeWhile ltd = s.take s.length) := take_run HA.out fun d hd => by rw [List.getElem?_eq_none (Nat.le_refl _)] at hd; cases hd
      go_wp2_with fail
      go_ret
      exact ⟨by rw [HE.out, ← str_take]; rfl, rfl⟩

theorem runNum_any (s : T) (w : World) (hs : s.length ≤ 1099511627776) : Calls Tryd.prog 69 #[.string ⟨s.toArray⟩, .func (.func 73) #[] #[]] w fun e w' => e = .returned (.string ⟨(s.takeWhile dgt).toArray⟩) ∧ w = w' := by
  go_enter Tryd.func69, Tryd.ntmps69
  go_wp2_with fail
  go_loopw [5] (fun k wr => ∃ i : Nat, i ≤ s.length ∧ k = .int .i64 i ∧ (∀ (j : Nat) (c : UInt8), j < i → s[j]? = some c → dgt c = true) ∧ w = wr) (fun k _ => s.length - (intOf k).toNat)
  case atStart => exact ⟨0, by omega, rfl, fun j c h => by omega, rfl⟩
  case round =>
    obtain ⟨i, hi, rfl, ha, rfl⟩ := hrel
    have HA := Lib.hid ha
    clear ha
    by_cases hlt : i < s.length
    · obtain ⟨c, h', hc, hg⟩ := byte_at hlt
      have HC := Lib.hid hc
      have hcall := lxDigit_any (c.toNat : Int) w
      clear hc
      by_cases hp : dgt c = true
      · have hp' : isD (c.toNat : Int) = true := hp
        rw [hp'] at hcall
        have HK := Lib.hid hcall
        have HP := Lib.hid hp
        clear hcall hp hp'
        go_wp2_with (go_at_call 73; refine HK.out.mono ?_; rintro e w1 ⟨rfl, rfl⟩)
        go_roundw
        case rel => exact ⟨i + 1, by omega, by go_num, fun j d hj hd => by
          by_cases e : j = i
          · subst e; rw [HC.out] at hd; injection hd with hd; rw [← hd]; exact HP.out
          · exact HA.out j d (by omega) hd, by first | rfl | trivial⟩
        case measure => simp [intOf]; omega
      · have hp1 : dgt c = false := by simpa using hp
        have hp' : isD (c.toNat : Int) = false := hp1
        rw [hp'] at hcall
        have HK := Lib.hid hcall
        have HE : Hid (s.takeWhile dgt = s.take i) := take_run HA.out fun d hd => by rw [HC.out] at hd; injection hd with hd; rw [← hd]; exact hp1
        clear hcall hp hp' hp1
        go_wp2_with (go_at_call 73; refine HK.out.mono ?_; rintro e w1 ⟨rfl, rfl⟩)
        go_ret
        exact ⟨by rw [HE.out, ← str_take]; rfl, rfl⟩
    · obtain rfl : i = s.length := by omega
      have HE : Hid (s.takeWhile dgt = s.take s.length) := take_run HA.out fun d hd => by rw [List.getElem?_eq_none (Nat.le_refl _)] at hd; cases hd
      go_wp2_with fail
      go_ret
      exact ⟨by rw [HE.out, ← str_take]; rfl, rfl⟩

theorem runBlank_any (s : T) (w : World) (hs : s.length ≤ 1099511627776) : Calls Tryd.prog 69 #[.string ⟨s.toArray⟩, .func (.func 93) #[] #[]] w fun e w' => e = .returned (.string ⟨(s.takeWhile blk).toArray⟩) ∧ w = w' := by
  go_enter Tryd.func69, Tryd.ntmps69
  go_wp2_with fail
  go_loopw [5] (fun k wr => ∃ i : Nat, i ≤ s.length ∧ k = .int .i64 i ∧ (∀ (j : Nat) (c : UInt8), j < i → s[j]? = some c → blk c = true) ∧ w = wr) (fun k _ => s.length - (intOf k).toNat)
  case atStart => exact ⟨0, by omega, rfl, fun j c h => by omega, rfl⟩
  case round =>
    obtain ⟨i, hi, rfl, ha, rfl⟩ := hrel
    have HA := Lib.hid ha
    clear ha
    by_cases hlt : i < s.length
    · obtain ⟨c, h', hc, hg⟩ := byte_at hlt
      have HC := Lib.hid hc
      have hcall := lxBlank_any (c.toNat : Int) w
      clear hc
      by_cases hp : blk c = true
      · have hp' : isB (c.toNat : Int) = true := (blk_eq c).trans hp
        rw [hp'] at hcall
        have HK := Lib.hid hcall
        have HP := Lib.hid hp
        clear hcall hp hp'
        go_wp2_with (go_at_call 93; refine HK.out.mono ?_; rintro e w1 ⟨rfl, rfl⟩)
        go_roundw
        case rel => exact ⟨i + 1, by omega, by go_num, fun j d hj hd => by
          by_cases e : j = i
          · subst e; rw [HC.out] at hd; injection hd with hd; rw [← hd]; exact HP.out
          · exact HA.out j d (by omega) hd, by first | rfl | trivial⟩
        case measure => simp [intOf]; omega
      · have hp1 : blk c = false := by simpa using hp
        have hp' : isB (c.toNat : Int) = false := (blk_eq c).trans hp1
        rw [hp'] at hcall
        have HK := Lib.hid hcall
        have HE : Hid (s.takeWhile blk = s.take i) := take_run HA.out fun d hd => by rw [HC.out] at hd; injection hd with hd; rw [← hd]; exact hp1
        clear hcall hp hp' hp1
        go_wp2_with (go_at_call 93; refine HK.out.mono ?_; rintro e w1 ⟨rfl, rfl⟩)
        go_ret
        exact ⟨by rw [HE.out, ← str_take]; rfl, rfl⟩
    · obtain rfl : i = s.length := by omega
      have HE : Hid (s.takeWhile blk = s.take s.length) := take_run HA.out fun d hd => by rw [List.getElem?_eq_none (Nat.le_refl _)] at hd; cases hd
      go_wp2_with fail
      go_ret
      exact ⟨by rw [HE.out, ← str_take]; rfl, rfl⟩

theorem runLine_any (s : T) (w : World) (hs : s.length ≤ 1099511627776) : Calls Tryd.prog 69 #[.string ⟨s.toArray⟩, .func (.func 91) #[] #[]] w fun e w' => e = .returned (.string ⟨(s.takeWhile nnl).toArray⟩) ∧ w = w' := by
  go_enter Tryd.func69, Tryd.ntmps69
  go_wp2_with fail
  go_loopw [5] (fun k wr => ∃ i : Nat, i ≤ s.length ∧ k = .int .i64 i ∧ (∀ (j : Nat) (c : UInt8), j < i → s[j]? = some c → nnl c = true) ∧ w = wr) (fun k _ => s.length - (intOf k).toNat)
  case atStart => exact ⟨0, by omega, rfl, fun j c h => by omega, rfl⟩
  case round =>
    obtain ⟨i, hi, rfl, ha, rfl⟩ := hrel
    have HA := Lib.hid ha
    clear ha
    by_cases hlt : i < s.length
    · obtain ⟨c, h', hc, hg⟩ := byte_at hlt
      have HC := Lib.hid hc
      have hcall := lxLine_any (c.toNat : Int) w
      clear hc
      by_cases hp : nnl c = true
      · have hp' : isN (c.toNat : Int) = true := (nnl_eq c).trans hp
        rw [hp'] at hcall
        have HK := Lib.hid hcall
        have HP := Lib.hid hp
        clear hcall hp hp'
        go_wp2_with (go_at_call 91; refine HK.out.mono ?_; rintro e w1 ⟨rfl, rfl⟩)
        go_roundw
        case rel => exact ⟨i + 1, by omega, by go_num, fun j d hj hd => by
          by_cases e : j = i
          · subst e; rw [HC.out] at hd; injection hd with hd; rw [← hd]; exact HP.out
          · exact HA.out j d (by omega) hd, by first | rfl | trivial⟩
        case measure => simp [intOf]; omega
      · have hp1 : nnl c = false := by simpa using hp
        have hp' : isN (c.toNat : Int) = false := (nnl_eq c).trans hp1
        rw [hp'] at hcall
        have HK := Lib.hid hcall
        have HE : Hid (s.takeWhile nnl = s.take i) := take_run HA.out fun d hd => by rw [HC.out] at hd; injection hd with hd; rw [← hd]; exact hp1
        clear hcall hp hp' hp1
        go_wp2_with (go_at_call 91; refine HK.out.mono ?_; rintro e w1 ⟨rfl, rfl⟩)
        go_ret
        exact ⟨by rw [HE.out, ← str_take]; rfl, rfl⟩
    · obtain rfl : i = s.length := by omega
      have HE : Hid (s.takeWhile nnl = s.take s.length) := take_run HA.out fun d hd => by rw [List.getElem?_eq_none (Nat.le_refl _)] at hd; cases hd
      go_wp2_with fail
      go_ret
      exact ⟨by rw [HE.out, ← str_take]; rfl, rfl⟩

end Go.Proofs.YtfajnflfonechaaDoor
