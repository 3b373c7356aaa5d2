/- DERIVED. Whether an expression has what its kind has: the code's walks. -/
import Derived.Test.YtfajnflfonechaaDoorTable
namespace Go.Proofs.YtfajnflfonechaaDoor
open Go.RowKit

noncomputable def calB (s : T) (named : Bool) : Bool := if named = true then nameB s else decide (s = [])
theorem calB_iff {s : T} {named : Bool} : calB s named = true ↔ calP s named := by cases named <;> simp [calB, calP]
theorem ret_c {a b : Bool} (h : a = b) : Ending.returned (.bool a) = Ending.returned (.bool b) := by rw [h]

set_option maxRecDepth 100000 in
theorem called_any (b : Nat) (s : T) (named : Bool) (w : World) (hl : s.length ≤ 1099511627776) (hw : WM w b) : Calls Tryd.prog 107 #[.map (some b), .string ⟨s.toArray⟩, .bool named] w fun e w' => e = .returned (.bool (calB s named)) ∧ Below w.heap.size w w' := by
  cases named with
  | true =>
    go_enter Tryd.func107, Tryd.ntmps107
    go_wp2_with (go_at_call 76; refine (wname_any b s _ hl hw).mono ?_; rintro e w1 ⟨rfl, hb1⟩; have HB1 := Lib.hid hb1; clear hb1)
    go_ret
    exact ⟨rfl, HB1.out⟩
  | false =>
    clear hw
    by_cases h : s = []
    · subst h
      go_enter Tryd.func107, Tryd.ntmps107
      go_wp2_with fail
      go_ret
      exact ⟨rfl, Below.refl _ _⟩
    · have HE : Hid (calB s false = false) := Lib.hid (by simp [calB, h])
      have h1 : (s == []) = false := by cases s with | nil => exact absurd rfl h | cons a l => rfl
      have h2 : (!s.isEmpty) = true := by cases s with | nil => exact absurd rfl h | cons a l => rfl
      go_enter Tryd.func107, Tryd.ntmps107
      go_wp2_with fail
      go_ret
      exact ⟨ret_c HE.out.symm, Below.refl _ _⟩

set_option maxRecDepth 100000 in
set_option maxHeartbeats 1000000 in
theorem fits_0 (b : Nat) (o n : Int) (s : T) (ks : List X) (A : Option Addr) (c : Nat) (w : World) (hw : WM w b) (ht : ShapesAt w) (hn : n ≤ 9223372036854775807) (hs : s.length ≤ 1099511627776) (hk : ks.length ≤ 1099511627776) :
    Calls Tryd.prog 85 #[.map (some b), .agg #[.int .i64 0, .int .i64 o, .int .i64 n, .string ⟨s.toArray⟩, .slice A ks.length c]] w fun e w' => e = .returned (.bool (fitB (.mk 0 o n s ks))) ∧ Below w.heap.size w w' := by
  have t0 := ht 0 0 _ _ rfl rfl
  have t1 := ht 0 1 _ _ rfl rfl
  have t2 := ht 0 2 _ _ rfl rfl
  have t3 := ht 0 3 _ _ rfl rfl
  have t4 := ht 0 4 _ _ rfl rfl
  simp [litV] at t0 t1 t2 t3 t4
  have hg := ht.lt
  have e : fitP (.mk 0 o n s ks) ↔ (0 ≤ o ∧ o ≤ 0 ∧ 0 ≤ n ∧ n ≤ 9223372036854775807 ∧ calP s false ∧ 0 ≤ ks.length ∧ ks.length ≤ 0) := by simp [fitP, fitK, X.k, X.o, X.n, X.s, X.ks]
  have HE := Lib.hid e
  have HC : Hid (∀ w2, Below w.heap.size w w2 → Calls Tryd.prog 107 #[.map (some b), .string ⟨s.toArray⟩, .bool false] w2 fun e w' => e = .returned (.bool (calB s false)) ∧ Below w2.heap.size w2 w') := fun w2 hb2 => called_any b s false w2 hs (hw.later hb2)
  have HQ1 : Hid (Row ((w.alloc (.cells #[.int .i64 0, .int .i64 o, .int .i64 n, .string ⟨s.toArray⟩, .slice A ks.length c] 61)).alloc (.cells #[.int .i64 0, .int .i64 9223372036854775807, .bool false, .int .i64 0, .int .i64 0] 157)) w.heap.size 61 #[.int .i64 0, .int .i64 o, .int .i64 n, .string ⟨s.toArray⟩, .slice A ks.length c]) := Lib.hid ((Row.made w 61 _).alloc _)
  have HQ2 : Hid (Row ((w.alloc (.cells #[.int .i64 0, .int .i64 o, .int .i64 n, .string ⟨s.toArray⟩, .slice A ks.length c] 61)).alloc (.cells #[.int .i64 0, .int .i64 9223372036854775807, .bool false, .int .i64 0, .int .i64 0] 157)) (w.heap.size + 1) 157 #[.int .i64 0, .int .i64 9223372036854775807, .bool false, .int .i64 0, .int .i64 0]) := by have := Row.made (w.alloc (.cells #[.int .i64 0, .int .i64 o, .int .i64 n, .string ⟨s.toArray⟩, .slice A ks.length c] 61)) 157 #[.int .i64 0, .int .i64 9223372036854775807, .bool false, .int .i64 0, .int .i64 0]; rw [World.size_alloc] at this; exact Lib.hid this
  clear e ht hw
  by_cases h1 : 0 ≤ o
  · by_cases h2 : o ≤ 0
    · by_cases h3 : 0 ≤ n
      · by_cases h5 : calB s false = true
        · have HN := Lib.hid h5
          rw [h5] at HC
          clear h5
          by_cases h7 : ks = []
          · subst h7
            have h70 : ([] : List X).length = 0 := rfl
            have HF : Hid (fitB (.mk 0 o n s []) = true) := fitB_true (HE.out.2 ⟨by omega, by omega, by omega, by omega, calB_iff.1 HN.out, by omega, by omega⟩)
            clear h70
            go_enter Tryd.func85, Tryd.ntmps85
            go_wp2_with (go_at_call 107; refine (HC.out _ (((Below.refl _ _).alloc (Nat.le_refl _) _).alloc (by simp) _)).mono ?_; rintro e w1 ⟨rfl, hb1⟩; have HB1 := Lib.hid hb1; clear hb1; have y4 := (HQ1.out.below HB1.out HQ1.out.lt).cell 4; have y5 := (HQ2.out.below HB1.out HQ2.out.lt).cell 3; have y6 := (HQ2.out.below HB1.out HQ2.out.lt).cell 4; simp at y4 y5 y6)
            go_ret
            exact ⟨ret_c HF.out.symm, (((Below.refl _ _).alloc (Nat.le_refl _) _).alloc (by simp) _).trans (HB1.out.mono (by simp; omega))⟩
          · have HF : Hid (fitB (.mk 0 o n s ks) = false) := fitB_false fun hp => by
              have hq := HE.out.1 hp
              exact h7 (List.eq_nil_of_length_eq_zero (by omega))
            go_enter Tryd.func85, Tryd.ntmps85
            go_wp2_with (go_at_call 107; refine (HC.out _ (((Below.refl _ _).alloc (Nat.le_refl _) _).alloc (by simp) _)).mono ?_; rintro e w1 ⟨rfl, hb1⟩; have HB1 := Lib.hid hb1; clear hb1; have y4 := (HQ1.out.below HB1.out HQ1.out.lt).cell 4; have y5 := (HQ2.out.below HB1.out HQ2.out.lt).cell 3; have y6 := (HQ2.out.below HB1.out HQ2.out.lt).cell 4; simp at y4 y5 y6)
            go_ret
            exact ⟨ret_c HF.out.symm, (((Below.refl _ _).alloc (Nat.le_refl _) _).alloc (by simp) _).trans (HB1.out.mono (by simp; omega))⟩
        · have HF : Hid (fitB (.mk 0 o n s ks) = false) := fitB_false fun hp => by
            have hq := HE.out.1 hp
            exact h5 (calB_iff.2 hq.2.2.2.2.1)
          have h5' : calB s false = false := by simpa using h5
          rw [h5'] at HC
          clear h5 h5'
          go_enter Tryd.func85, Tryd.ntmps85
          go_wp2_with (go_at_call 107; refine (HC.out _ (((Below.refl _ _).alloc (Nat.le_refl _) _).alloc (by simp) _)).mono ?_; rintro e w1 ⟨rfl, hb1⟩; have HB1 := Lib.hid hb1; clear hb1; have y4 := (HQ1.out.below HB1.out HQ1.out.lt).cell 4; have y5 := (HQ2.out.below HB1.out HQ2.out.lt).cell 3; have y6 := (HQ2.out.below HB1.out HQ2.out.lt).cell 4; simp at y4 y5 y6)
          go_ret
          exact ⟨ret_c HF.out.symm, (((Below.refl _ _).alloc (Nat.le_refl _) _).alloc (by simp) _).trans (HB1.out.mono (by simp; omega))⟩
      · have HF : Hid (fitB (.mk 0 o n s ks) = false) := fitB_false fun hp => by
          have hq := HE.out.1 hp
          omega
        go_enter Tryd.func85, Tryd.ntmps85
        go_wp2_with fail
        go_ret
        exact ⟨ret_c HF.out.symm, ((Below.refl _ _).alloc (Nat.le_refl _) _).alloc (by simp) _⟩
    · have HF : Hid (fitB (.mk 0 o n s ks) = false) := fitB_false fun hp => by
        have hq := HE.out.1 hp
        omega
      go_enter Tryd.func85, Tryd.ntmps85
      go_wp2_with fail
      go_ret
      exact ⟨ret_c HF.out.symm, ((Below.refl _ _).alloc (Nat.le_refl _) _).alloc (by simp) _⟩
  · have HF : Hid (fitB (.mk 0 o n s ks) = false) := fitB_false fun hp => by
      have hq := HE.out.1 hp
      omega
    go_enter Tryd.func85, Tryd.ntmps85
    go_wp2_with fail
    go_ret
    exact ⟨ret_c HF.out.symm, ((Below.refl _ _).alloc (Nat.le_refl _) _).alloc (by simp) _⟩

set_option maxRecDepth 100000 in
set_option maxHeartbeats 1000000 in
theorem fits_1 (b : Nat) (o n : Int) (s : T) (ks : List X) (A : Option Addr) (c : Nat) (w : World) (hw : WM w b) (ht : ShapesAt w) (hn : n ≤ 9223372036854775807) (hs : s.length ≤ 1099511627776) (hk : ks.length ≤ 1099511627776) :
    Calls Tryd.prog 85 #[.map (some b), .agg #[.int .i64 1, .int .i64 o, .int .i64 n, .string ⟨s.toArray⟩, .slice A ks.length c]] w fun e w' => e = .returned (.bool (fitB (.mk 1 o n s ks))) ∧ Below w.heap.size w w' := by
  have t0 := ht 1 0 _ _ rfl rfl
  have t1 := ht 1 1 _ _ rfl rfl
  have t2 := ht 1 2 _ _ rfl rfl
  have t3 := ht 1 3 _ _ rfl rfl
  have t4 := ht 1 4 _ _ rfl rfl
  simp [litV] at t0 t1 t2 t3 t4
  have hg := ht.lt
  have e : fitP (.mk 1 o n s ks) ↔ (0 ≤ o ∧ o ≤ 0 ∧ 0 ≤ n ∧ n ≤ 1 ∧ calP s false ∧ 0 ≤ ks.length ∧ ks.length ≤ 0) := by simp [fitP, fitK, X.k, X.o, X.n, X.s, X.ks]
  have HE := Lib.hid e
  have HC : Hid (∀ w2, Below w.heap.size w w2 → Calls Tryd.prog 107 #[.map (some b), .string ⟨s.toArray⟩, .bool false] w2 fun e w' => e = .returned (.bool (calB s false)) ∧ Below w2.heap.size w2 w') := fun w2 hb2 => called_any b s false w2 hs (hw.later hb2)
  have HQ1 : Hid (Row ((w.alloc (.cells #[.int .i64 1, .int .i64 o, .int .i64 n, .string ⟨s.toArray⟩, .slice A ks.length c] 61)).alloc (.cells #[.int .i64 0, .int .i64 1, .bool false, .int .i64 0, .int .i64 0] 157)) w.heap.size 61 #[.int .i64 1, .int .i64 o, .int .i64 n, .string ⟨s.toArray⟩, .slice A ks.length c]) := Lib.hid ((Row.made w 61 _).alloc _)
  have HQ2 : Hid (Row ((w.alloc (.cells #[.int .i64 1, .int .i64 o, .int .i64 n, .string ⟨s.toArray⟩, .slice A ks.length c] 61)).alloc (.cells #[.int .i64 0, .int .i64 1, .bool false, .int .i64 0, .int .i64 0] 157)) (w.heap.size + 1) 157 #[.int .i64 0, .int .i64 1, .bool false, .int .i64 0, .int .i64 0]) := by have := Row.made (w.alloc (.cells #[.int .i64 1, .int .i64 o, .int .i64 n, .string ⟨s.toArray⟩, .slice A ks.length c] 61)) 157 #[.int .i64 0, .int .i64 1, .bool false, .int .i64 0, .int .i64 0]; rw [World.size_alloc] at this; exact Lib.hid this
  clear e ht hw
  by_cases h1 : 0 ≤ o
  · by_cases h2 : o ≤ 0
    · by_cases h3 : 0 ≤ n
      · by_cases h4 : n ≤ 1
        · by_cases h5 : calB s false = true
          · have HN := Lib.hid h5
            rw [h5] at HC
            clear h5
            by_cases h7 : ks = []
            · subst h7
              have h70 : ([] : List X).length = 0 := rfl
              have HF : Hid (fitB (.mk 1 o n s []) = true) := fitB_true (HE.out.2 ⟨by omega, by omega, by omega, by omega, calB_iff.1 HN.out, by omega, by omega⟩)
              clear h70
              go_enter Tryd.func85, Tryd.ntmps85
              go_wp2_with (go_at_call 107; refine (HC.out _ (((Below.refl _ _).alloc (Nat.le_refl _) _).alloc (by simp) _)).mono ?_; rintro e w1 ⟨rfl, hb1⟩; have HB1 := Lib.hid hb1; clear hb1; have y4 := (HQ1.out.below HB1.out HQ1.out.lt).cell 4; have y5 := (HQ2.out.below HB1.out HQ2.out.lt).cell 3; have y6 := (HQ2.out.below HB1.out HQ2.out.lt).cell 4; simp at y4 y5 y6)
              go_ret
              exact ⟨ret_c HF.out.symm, (((Below.refl _ _).alloc (Nat.le_refl _) _).alloc (by simp) _).trans (HB1.out.mono (by simp; omega))⟩
            · have HF : Hid (fitB (.mk 1 o n s ks) = false) := fitB_false fun hp => by
                have hq := HE.out.1 hp
                exact h7 (List.eq_nil_of_length_eq_zero (by omega))
              go_enter Tryd.func85, Tryd.ntmps85
              go_wp2_with (go_at_call 107; refine (HC.out _ (((Below.refl _ _).alloc (Nat.le_refl _) _).alloc (by simp) _)).mono ?_; rintro e w1 ⟨rfl, hb1⟩; have HB1 := Lib.hid hb1; clear hb1; have y4 := (HQ1.out.below HB1.out HQ1.out.lt).cell 4; have y5 := (HQ2.out.below HB1.out HQ2.out.lt).cell 3; have y6 := (HQ2.out.below HB1.out HQ2.out.lt).cell 4; simp at y4 y5 y6)
              go_ret
              exact ⟨ret_c HF.out.symm, (((Below.refl _ _).alloc (Nat.le_refl _) _).alloc (by simp) _).trans (HB1.out.mono (by simp; omega))⟩
          · have HF : Hid (fitB (.mk 1 o n s ks) = false) := fitB_false fun hp => by
              have hq := HE.out.1 hp
              exact h5 (calB_iff.2 hq.2.2.2.2.1)
            have h5' : calB s false = false := by simpa using h5
            rw [h5'] at HC
            clear h5 h5'
            go_enter Tryd.func85, Tryd.ntmps85
            go_wp2_with (go_at_call 107; refine (HC.out _ (((Below.refl _ _).alloc (Nat.le_refl _) _).alloc (by simp) _)).mono ?_; rintro e w1 ⟨rfl, hb1⟩; have HB1 := Lib.hid hb1; clear hb1; have y4 := (HQ1.out.below HB1.out HQ1.out.lt).cell 4; have y5 := (HQ2.out.below HB1.out HQ2.out.lt).cell 3; have y6 := (HQ2.out.below HB1.out HQ2.out.lt).cell 4; simp at y4 y5 y6)
            go_ret
            exact ⟨ret_c HF.out.symm, (((Below.refl _ _).alloc (Nat.le_refl _) _).alloc (by simp) _).trans (HB1.out.mono (by simp; omega))⟩
        · have HF : Hid (fitB (.mk 1 o n s ks) = false) := fitB_false fun hp => by
            have hq := HE.out.1 hp
            omega
          go_enter Tryd.func85, Tryd.ntmps85
          go_wp2_with fail
          go_ret
          exact ⟨ret_c HF.out.symm, ((Below.refl _ _).alloc (Nat.le_refl _) _).alloc (by simp) _⟩
      · have HF : Hid (fitB (.mk 1 o n s ks) = false) := fitB_false fun hp => by
          have hq := HE.out.1 hp
          omega
        go_enter Tryd.func85, Tryd.ntmps85
        go_wp2_with fail
        go_ret
        exact ⟨ret_c HF.out.symm, ((Below.refl _ _).alloc (Nat.le_refl _) _).alloc (by simp) _⟩
    · have HF : Hid (fitB (.mk 1 o n s ks) = false) := fitB_false fun hp => by
        have hq := HE.out.1 hp
        omega
      go_enter Tryd.func85, Tryd.ntmps85
      go_wp2_with fail
      go_ret
      exact ⟨ret_c HF.out.symm, ((Below.refl _ _).alloc (Nat.le_refl _) _).alloc (by simp) _⟩
  · have HF : Hid (fitB (.mk 1 o n s ks) = false) := fitB_false fun hp => by
      have hq := HE.out.1 hp
      omega
    go_enter Tryd.func85, Tryd.ntmps85
    go_wp2_with fail
    go_ret
    exact ⟨ret_c HF.out.symm, ((Below.refl _ _).alloc (Nat.le_refl _) _).alloc (by simp) _⟩

set_option maxRecDepth 100000 in
set_option maxHeartbeats 1000000 in
theorem fits_2 (b : Nat) (o n : Int) (s : T) (ks : List X) (A : Option Addr) (c : Nat) (w : World) (hw : WM w b) (ht : ShapesAt w) (hn : n ≤ 9223372036854775807) (hs : s.length ≤ 1099511627776) (hk : ks.length ≤ 1099511627776) :
    Calls Tryd.prog 85 #[.map (some b), .agg #[.int .i64 2, .int .i64 o, .int .i64 n, .string ⟨s.toArray⟩, .slice A ks.length c]] w fun e w' => e = .returned (.bool (fitB (.mk 2 o n s ks))) ∧ Below w.heap.size w w' := by
  have t0 := ht 2 0 _ _ rfl rfl
  have t1 := ht 2 1 _ _ rfl rfl
  have t2 := ht 2 2 _ _ rfl rfl
  have t3 := ht 2 3 _ _ rfl rfl
  have t4 := ht 2 4 _ _ rfl rfl
  simp [litV] at t0 t1 t2 t3 t4
  have hg := ht.lt
  have e : fitP (.mk 2 o n s ks) ↔ (0 ≤ o ∧ o ≤ 0 ∧ 0 ≤ n ∧ n ≤ 0 ∧ calP s true ∧ 0 ≤ ks.length ∧ ks.length ≤ 0) := by simp [fitP, fitK, X.k, X.o, X.n, X.s, X.ks]
  have HE := Lib.hid e
  have HC : Hid (∀ w2, Below w.heap.size w w2 → Calls Tryd.prog 107 #[.map (some b), .string ⟨s.toArray⟩, .bool true] w2 fun e w' => e = .returned (.bool (calB s true)) ∧ Below w2.heap.size w2 w') := fun w2 hb2 => called_any b s true w2 hs (hw.later hb2)
  have HQ1 : Hid (Row ((w.alloc (.cells #[.int .i64 2, .int .i64 o, .int .i64 n, .string ⟨s.toArray⟩, .slice A ks.length c] 61)).alloc (.cells #[.int .i64 0, .int .i64 0, .bool true, .int .i64 0, .int .i64 0] 157)) w.heap.size 61 #[.int .i64 2, .int .i64 o, .int .i64 n, .string ⟨s.toArray⟩, .slice A ks.length c]) := Lib.hid ((Row.made w 61 _).alloc _)
  have HQ2 : Hid (Row ((w.alloc (.cells #[.int .i64 2, .int .i64 o, .int .i64 n, .string ⟨s.toArray⟩, .slice A ks.length c] 61)).alloc (.cells #[.int .i64 0, .int .i64 0, .bool true, .int .i64 0, .int .i64 0] 157)) (w.heap.size + 1) 157 #[.int .i64 0, .int .i64 0, .bool true, .int .i64 0, .int .i64 0]) := by have := Row.made (w.alloc (.cells #[.int .i64 2, .int .i64 o, .int .i64 n, .string ⟨s.toArray⟩, .slice A ks.length c] 61)) 157 #[.int .i64 0, .int .i64 0, .bool true, .int .i64 0, .int .i64 0]; rw [World.size_alloc] at this; exact Lib.hid this
  clear e ht hw
  by_cases h1 : 0 ≤ o
  · by_cases h2 : o ≤ 0
    · by_cases h3 : 0 ≤ n
      · by_cases h4 : n ≤ 0
        · by_cases h5 : calB s true = true
          · have HN := Lib.hid h5
            rw [h5] at HC
            clear h5
            by_cases h7 : ks = []
            · subst h7
              have h70 : ([] : List X).length = 0 := rfl
              have HF : Hid (fitB (.mk 2 o n s []) = true) := fitB_true (HE.out.2 ⟨by omega, by omega, by omega, by omega, calB_iff.1 HN.out, by omega, by omega⟩)
              clear h70
              go_enter Tryd.func85, Tryd.ntmps85
              go_wp2_with (go_at_call 107; refine (HC.out _ (((Below.refl _ _).alloc (Nat.le_refl _) _).alloc (by simp) _)).mono ?_; rintro e w1 ⟨rfl, hb1⟩; have HB1 := Lib.hid hb1; clear hb1; have y4 := (HQ1.out.below HB1.out HQ1.out.lt).cell 4; have y5 := (HQ2.out.below HB1.out HQ2.out.lt).cell 3; have y6 := (HQ2.out.below HB1.out HQ2.out.lt).cell 4; simp at y4 y5 y6)
              go_ret
              exact ⟨ret_c HF.out.symm, (((Below.refl _ _).alloc (Nat.le_refl _) _).alloc (by simp) _).trans (HB1.out.mono (by simp; omega))⟩
            · have HF : Hid (fitB (.mk 2 o n s ks) = false) := fitB_false fun hp => by
                have hq := HE.out.1 hp
                exact h7 (List.eq_nil_of_length_eq_zero (by omega))
              go_enter Tryd.func85, Tryd.ntmps85
              go_wp2_with (go_at_call 107; refine (HC.out _ (((Below.refl _ _).alloc (Nat.le_refl _) _).alloc (by simp) _)).mono ?_; rintro e w1 ⟨rfl, hb1⟩; have HB1 := Lib.hid hb1; clear hb1; have y4 := (HQ1.out.below HB1.out HQ1.out.lt).cell 4; have y5 := (HQ2.out.below HB1.out HQ2.out.lt).cell 3; have y6 := (HQ2.out.below HB1.out HQ2.out.lt).cell 4; simp at y4 y5 y6)
              go_ret
              exact ⟨ret_c HF.out.symm, (((Below.refl _ _).alloc (Nat.le_refl _) _).alloc (by simp) _).trans (HB1.out.mono (by simp; omega))⟩
          · have HF : Hid (fitB (.mk 2 o n s ks) = false) := fitB_false fun hp => by
              have hq := HE.out.1 hp
              exact h5 (calB_iff.2 hq.2.2.2.2.1)
            have h5' : calB s true = false := by simpa using h5
            rw [h5'] at HC
            clear h5 h5'
            go_enter Tryd.func85, Tryd.ntmps85
            go_wp2_with (go_at_call 107; refine (HC.out _ (((Below.refl _ _).alloc (Nat.le_refl _) _).alloc (by simp) _)).mono ?_; rintro e w1 ⟨rfl, hb1⟩; have HB1 := Lib.hid hb1; clear hb1; have y4 := (HQ1.out.below HB1.out HQ1.out.lt).cell 4; have y5 := (HQ2.out.below HB1.out HQ2.out.lt).cell 3; have y6 := (HQ2.out.below HB1.out HQ2.out.lt).cell 4; simp at y4 y5 y6)
            go_ret
            exact ⟨ret_c HF.out.symm, (((Below.refl _ _).alloc (Nat.le_refl _) _).alloc (by simp) _).trans (HB1.out.mono (by simp; omega))⟩
        · have HF : Hid (fitB (.mk 2 o n s ks) = false) := fitB_false fun hp => by
            have hq := HE.out.1 hp
            omega
          go_enter Tryd.func85, Tryd.ntmps85
          go_wp2_with fail
          go_ret
          exact ⟨ret_c HF.out.symm, ((Below.refl _ _).alloc (Nat.le_refl _) _).alloc (by simp) _⟩
      · have HF : Hid (fitB (.mk 2 o n s ks) = false) := fitB_false fun hp => by
          have hq := HE.out.1 hp
          omega
        go_enter Tryd.func85, Tryd.ntmps85
        go_wp2_with fail
        go_ret
        exact ⟨ret_c HF.out.symm, ((Below.refl _ _).alloc (Nat.le_refl _) _).alloc (by simp) _⟩
    · have HF : Hid (fitB (.mk 2 o n s ks) = false) := fitB_false fun hp => by
        have hq := HE.out.1 hp
        omega
      go_enter Tryd.func85, Tryd.ntmps85
      go_wp2_with fail
      go_ret
      exact ⟨ret_c HF.out.symm, ((Below.refl _ _).alloc (Nat.le_refl _) _).alloc (by simp) _⟩
  · have HF : Hid (fitB (.mk 2 o n s ks) = false) := fitB_false fun hp => by
      have hq := HE.out.1 hp
      omega
    go_enter Tryd.func85, Tryd.ntmps85
    go_wp2_with fail
    go_ret
    exact ⟨ret_c HF.out.symm, ((Below.refl _ _).alloc (Nat.le_refl _) _).alloc (by simp) _⟩

set_option maxRecDepth 100000 in
set_option maxHeartbeats 1000000 in
theorem fits_3 (b : Nat) (o n : Int) (s : T) (ks : List X) (A : Option Addr) (c : Nat) (w : World) (hw : WM w b) (ht : ShapesAt w) (hn : n ≤ 9223372036854775807) (hs : s.length ≤ 1099511627776) (hk : ks.length ≤ 1099511627776) :
    Calls Tryd.prog 85 #[.map (some b), .agg #[.int .i64 3, .int .i64 o, .int .i64 n, .string ⟨s.toArray⟩, .slice A ks.length c]] w fun e w' => e = .returned (.bool (fitB (.mk 3 o n s ks))) ∧ Below w.heap.size w w' := by
  have t0 := ht 3 0 _ _ rfl rfl
  have t1 := ht 3 1 _ _ rfl rfl
  have t2 := ht 3 2 _ _ rfl rfl
  have t3 := ht 3 3 _ _ rfl rfl
  have t4 := ht 3 4 _ _ rfl rfl
  simp [litV] at t0 t1 t2 t3 t4
  have hg := ht.lt
  have e : fitP (.mk 3 o n s ks) ↔ (0 ≤ o ∧ o ≤ 2 ∧ 0 ≤ n ∧ n ≤ 0 ∧ calP s false ∧ 1 ≤ ks.length ∧ ks.length ≤ 1) := by simp [fitP, fitK, X.k, X.o, X.n, X.s, X.ks]
  have HE := Lib.hid e
  have HC : Hid (∀ w2, Below w.heap.size w w2 → Calls Tryd.prog 107 #[.map (some b), .string ⟨s.toArray⟩, .bool false] w2 fun e w' => e = .returned (.bool (calB s false)) ∧ Below w2.heap.size w2 w') := fun w2 hb2 => called_any b s false w2 hs (hw.later hb2)
  have HQ1 : Hid (Row ((w.alloc (.cells #[.int .i64 3, .int .i64 o, .int .i64 n, .string ⟨s.toArray⟩, .slice A ks.length c] 61)).alloc (.cells #[.int .i64 2, .int .i64 0, .bool false, .int .i64 1, .int .i64 1] 157)) w.heap.size 61 #[.int .i64 3, .int .i64 o, .int .i64 n, .string ⟨s.toArray⟩, .slice A ks.length c]) := Lib.hid ((Row.made w 61 _).alloc _)
  have HQ2 : Hid (Row ((w.alloc (.cells #[.int .i64 3, .int .i64 o, .int .i64 n, .string ⟨s.toArray⟩, .slice A ks.length c] 61)).alloc (.cells #[.int .i64 2, .int .i64 0, .bool false, .int .i64 1, .int .i64 1] 157)) (w.heap.size + 1) 157 #[.int .i64 2, .int .i64 0, .bool false, .int .i64 1, .int .i64 1]) := by have := Row.made (w.alloc (.cells #[.int .i64 3, .int .i64 o, .int .i64 n, .string ⟨s.toArray⟩, .slice A ks.length c] 61)) 157 #[.int .i64 2, .int .i64 0, .bool false, .int .i64 1, .int .i64 1]; rw [World.size_alloc] at this; exact Lib.hid this
  clear e ht hw
  by_cases h1 : 0 ≤ o
  · by_cases h2 : o ≤ 2
    · by_cases h3 : 0 ≤ n
      · by_cases h4 : n ≤ 0
        · by_cases h5 : calB s false = true
          · have HN := Lib.hid h5
            rw [h5] at HC
            clear h5
            by_cases h6 : (1 : Int) ≤ (ks.length : Int)
            · by_cases h7 : (ks.length : Int) ≤ 1
              · have HF : Hid (fitB (.mk 3 o n s ks) = true) := fitB_true (HE.out.2 ⟨by omega, by omega, by omega, by omega, calB_iff.1 HN.out, by omega, by omega⟩)
                go_enter Tryd.func85, Tryd.ntmps85
                go_wp2_with (go_at_call 107; refine (HC.out _ (((Below.refl _ _).alloc (Nat.le_refl _) _).alloc (by simp) _)).mono ?_; rintro e w1 ⟨rfl, hb1⟩; have HB1 := Lib.hid hb1; clear hb1; have y4 := (HQ1.out.below HB1.out HQ1.out.lt).cell 4; have y5 := (HQ2.out.below HB1.out HQ2.out.lt).cell 3; have y6 := (HQ2.out.below HB1.out HQ2.out.lt).cell 4; simp at y4 y5 y6)
                go_ret
                exact ⟨ret_c HF.out.symm, (((Below.refl _ _).alloc (Nat.le_refl _) _).alloc (by simp) _).trans (HB1.out.mono (by simp; omega))⟩
              · have HF : Hid (fitB (.mk 3 o n s ks) = false) := fitB_false fun hp => by
                  have hq := HE.out.1 hp
                  omega
                go_enter Tryd.func85, Tryd.ntmps85
                go_wp2_with (go_at_call 107; refine (HC.out _ (((Below.refl _ _).alloc (Nat.le_refl _) _).alloc (by simp) _)).mono ?_; rintro e w1 ⟨rfl, hb1⟩; have HB1 := Lib.hid hb1; clear hb1; have y4 := (HQ1.out.below HB1.out HQ1.out.lt).cell 4; have y5 := (HQ2.out.below HB1.out HQ2.out.lt).cell 3; have y6 := (HQ2.out.below HB1.out HQ2.out.lt).cell 4; simp at y4 y5 y6)
                go_ret
                exact ⟨ret_c ((decide_eq_false (by omega)).trans HF.out.symm), (((Below.refl _ _).alloc (Nat.le_refl _) _).alloc (by simp) _).trans (HB1.out.mono (by simp; omega))⟩
            · have HF : Hid (fitB (.mk 3 o n s ks) = false) := fitB_false fun hp => by
                have hq := HE.out.1 hp
                omega
              go_enter Tryd.func85, Tryd.ntmps85
              go_wp2_with (go_at_call 107; refine (HC.out _ (((Below.refl _ _).alloc (Nat.le_refl _) _).alloc (by simp) _)).mono ?_; rintro e w1 ⟨rfl, hb1⟩; have HB1 := Lib.hid hb1; clear hb1; have y4 := (HQ1.out.below HB1.out HQ1.out.lt).cell 4; have y5 := (HQ2.out.below HB1.out HQ2.out.lt).cell 3; have y6 := (HQ2.out.below HB1.out HQ2.out.lt).cell 4; simp at y4 y5 y6)
              go_ret
              exact ⟨ret_c HF.out.symm, (((Below.refl _ _).alloc (Nat.le_refl _) _).alloc (by simp) _).trans (HB1.out.mono (by simp; omega))⟩
          · have HF : Hid (fitB (.mk 3 o n s ks) = false) := fitB_false fun hp => by
              have hq := HE.out.1 hp
              exact h5 (calB_iff.2 hq.2.2.2.2.1)
            have h5' : calB s false = false := by simpa using h5
            rw [h5'] at HC
            clear h5 h5'
            go_enter Tryd.func85, Tryd.ntmps85
            go_wp2_with (go_at_call 107; refine (HC.out _ (((Below.refl _ _).alloc (Nat.le_refl _) _).alloc (by simp) _)).mono ?_; rintro e w1 ⟨rfl, hb1⟩; have HB1 := Lib.hid hb1; clear hb1; have y4 := (HQ1.out.below HB1.out HQ1.out.lt).cell 4; have y5 := (HQ2.out.below HB1.out HQ2.out.lt).cell 3; have y6 := (HQ2.out.below HB1.out HQ2.out.lt).cell 4; simp at y4 y5 y6)
            go_ret
            exact ⟨ret_c HF.out.symm, (((Below.refl _ _).alloc (Nat.le_refl _) _).alloc (by simp) _).trans (HB1.out.mono (by simp; omega))⟩
        · have HF : Hid (fitB (.mk 3 o n s ks) = false) := fitB_false fun hp => by
            have hq := HE.out.1 hp
            omega
          go_enter Tryd.func85, Tryd.ntmps85
          go_wp2_with fail
          go_ret
          exact ⟨ret_c HF.out.symm, ((Below.refl _ _).alloc (Nat.le_refl _) _).alloc (by simp) _⟩
      · have HF : Hid (fitB (.mk 3 o n s ks) = false) := fitB_false fun hp => by
          have hq := HE.out.1 hp
          omega
        go_enter Tryd.func85, Tryd.ntmps85
        go_wp2_with fail
        go_ret
        exact ⟨ret_c HF.out.symm, ((Below.refl _ _).alloc (Nat.le_refl _) _).alloc (by simp) _⟩
    · have HF : Hid (fitB (.mk 3 o n s ks) = false) := fitB_false fun hp => by
        have hq := HE.out.1 hp
        omega
      go_enter Tryd.func85, Tryd.ntmps85
      go_wp2_with fail
      go_ret
      exact ⟨ret_c HF.out.symm, ((Below.refl _ _).alloc (Nat.le_refl _) _).alloc (by simp) _⟩
  · have HF : Hid (fitB (.mk 3 o n s ks) = false) := fitB_false fun hp => by
      have hq := HE.out.1 hp
      omega
    go_enter Tryd.func85, Tryd.ntmps85
    go_wp2_with fail
    go_ret
    exact ⟨ret_c HF.out.symm, ((Below.refl _ _).alloc (Nat.le_refl _) _).alloc (by simp) _⟩

set_option maxRecDepth 100000 in
set_option maxHeartbeats 1000000 in
theorem fits_4 (b : Nat) (o n : Int) (s : T) (ks : List X) (A : Option Addr) (c : Nat) (w : World) (hw : WM w b) (ht : ShapesAt w) (hn : n ≤ 9223372036854775807) (hs : s.length ≤ 1099511627776) (hk : ks.length ≤ 1099511627776) :
    Calls Tryd.prog 85 #[.map (some b), .agg #[.int .i64 4, .int .i64 o, .int .i64 n, .string ⟨s.toArray⟩, .slice A ks.length c]] w fun e w' => e = .returned (.bool (fitB (.mk 4 o n s ks))) ∧ Below w.heap.size w w' := by
  have t0 := ht 4 0 _ _ rfl rfl
  have t1 := ht 4 1 _ _ rfl rfl
  have t2 := ht 4 2 _ _ rfl rfl
  have t3 := ht 4 3 _ _ rfl rfl
  have t4 := ht 4 4 _ _ rfl rfl
  simp [litV] at t0 t1 t2 t3 t4
  have hg := ht.lt
  have e : fitP (.mk 4 o n s ks) ↔ (0 ≤ o ∧ o ≤ 15 ∧ 0 ≤ n ∧ n ≤ 0 ∧ calP s false ∧ 2 ≤ ks.length ∧ ks.length ≤ 2) := by simp [fitP, fitK, X.k, X.o, X.n, X.s, X.ks]
  have HE := Lib.hid e
  have HC : Hid (∀ w2, Below w.heap.size w w2 → Calls Tryd.prog 107 #[.map (some b), .string ⟨s.toArray⟩, .bool false] w2 fun e w' => e = .returned (.bool (calB s false)) ∧ Below w2.heap.size w2 w') := fun w2 hb2 => called_any b s false w2 hs (hw.later hb2)
  have HQ1 : Hid (Row ((w.alloc (.cells #[.int .i64 4, .int .i64 o, .int .i64 n, .string ⟨s.toArray⟩, .slice A ks.length c] 61)).alloc (.cells #[.int .i64 15, .int .i64 0, .bool false, .int .i64 2, .int .i64 2] 157)) w.heap.size 61 #[.int .i64 4, .int .i64 o, .int .i64 n, .string ⟨s.toArray⟩, .slice A ks.length c]) := Lib.hid ((Row.made w 61 _).alloc _)
  have HQ2 : Hid (Row ((w.alloc (.cells #[.int .i64 4, .int .i64 o, .int .i64 n, .string ⟨s.toArray⟩, .slice A ks.length c] 61)).alloc (.cells #[.int .i64 15, .int .i64 0, .bool false, .int .i64 2, .int .i64 2] 157)) (w.heap.size + 1) 157 #[.int .i64 15, .int .i64 0, .bool false, .int .i64 2, .int .i64 2]) := by have := Row.made (w.alloc (.cells #[.int .i64 4, .int .i64 o, .int .i64 n, .string ⟨s.toArray⟩, .slice A ks.length c] 61)) 157 #[.int .i64 15, .int .i64 0, .bool false, .int .i64 2, .int .i64 2]; rw [World.size_alloc] at this; exact Lib.hid this
  clear e ht hw
  by_cases h1 : 0 ≤ o
  · by_cases h2 : o ≤ 15
    · by_cases h3 : 0 ≤ n
      · by_cases h4 : n ≤ 0
        · by_cases h5 : calB s false = true
          · have HN := Lib.hid h5
            rw [h5] at HC
            clear h5
            by_cases h6 : (2 : Int) ≤ (ks.length : Int)
            · by_cases h7 : (ks.length : Int) ≤ 2
              · have HF : Hid (fitB (.mk 4 o n s ks) = true) := fitB_true (HE.out.2 ⟨by omega, by omega, by omega, by omega, calB_iff.1 HN.out, by omega, by omega⟩)
                go_enter Tryd.func85, Tryd.ntmps85
                go_wp2_with (go_at_call 107; refine (HC.out _ (((Below.refl _ _).alloc (Nat.le_refl _) _).alloc (by simp) _)).mono ?_; rintro e w1 ⟨rfl, hb1⟩; have HB1 := Lib.hid hb1; clear hb1; have y4 := (HQ1.out.below HB1.out HQ1.out.lt).cell 4; have y5 := (HQ2.out.below HB1.out HQ2.out.lt).cell 3; have y6 := (HQ2.out.below HB1.out HQ2.out.lt).cell 4; simp at y4 y5 y6)
                go_ret
                exact ⟨ret_c HF.out.symm, (((Below.refl _ _).alloc (Nat.le_refl _) _).alloc (by simp) _).trans (HB1.out.mono (by simp; omega))⟩
              · have HF : Hid (fitB (.mk 4 o n s ks) = false) := fitB_false fun hp => by
                  have hq := HE.out.1 hp
                  omega
                go_enter Tryd.func85, Tryd.ntmps85
                go_wp2_with (go_at_call 107; refine (HC.out _ (((Below.refl _ _).alloc (Nat.le_refl _) _).alloc (by simp) _)).mono ?_; rintro e w1 ⟨rfl, hb1⟩; have HB1 := Lib.hid hb1; clear hb1; have y4 := (HQ1.out.below HB1.out HQ1.out.lt).cell 4; have y5 := (HQ2.out.below HB1.out HQ2.out.lt).cell 3; have y6 := (HQ2.out.below HB1.out HQ2.out.lt).cell 4; simp at y4 y5 y6)
                go_ret
                exact ⟨ret_c ((decide_eq_false (by omega)).trans HF.out.symm), (((Below.refl _ _).alloc (Nat.le_refl _) _).alloc (by simp) _).trans (HB1.out.mono (by simp; omega))⟩
            · have HF : Hid (fitB (.mk 4 o n s ks) = false) := fitB_false fun hp => by
                have hq := HE.out.1 hp
                omega
              go_enter Tryd.func85, Tryd.ntmps85
              go_wp2_with (go_at_call 107; refine (HC.out _ (((Below.refl _ _).alloc (Nat.le_refl _) _).alloc (by simp) _)).mono ?_; rintro e w1 ⟨rfl, hb1⟩; have HB1 := Lib.hid hb1; clear hb1; have y4 := (HQ1.out.below HB1.out HQ1.out.lt).cell 4; have y5 := (HQ2.out.below HB1.out HQ2.out.lt).cell 3; have y6 := (HQ2.out.below HB1.out HQ2.out.lt).cell 4; simp at y4 y5 y6)
              go_ret
              exact ⟨ret_c HF.out.symm, (((Below.refl _ _).alloc (Nat.le_refl _) _).alloc (by simp) _).trans (HB1.out.mono (by simp; omega))⟩
          · have HF : Hid (fitB (.mk 4 o n s ks) = false) := fitB_false fun hp => by
              have hq := HE.out.1 hp
              exact h5 (calB_iff.2 hq.2.2.2.2.1)
            have h5' : calB s false = false := by simpa using h5
            rw [h5'] at HC
            clear h5 h5'
            go_enter Tryd.func85, Tryd.ntmps85
            go_wp2_with (go_at_call 107; refine (HC.out _ (((Below.refl _ _).alloc (Nat.le_refl _) _).alloc (by simp) _)).mono ?_; rintro e w1 ⟨rfl, hb1⟩; have HB1 := Lib.hid hb1; clear hb1; have y4 := (HQ1.out.below HB1.out HQ1.out.lt).cell 4; have y5 := (HQ2.out.below HB1.out HQ2.out.lt).cell 3; have y6 := (HQ2.out.below HB1.out HQ2.out.lt).cell 4; simp at y4 y5 y6)
            go_ret
            exact ⟨ret_c HF.out.symm, (((Below.refl _ _).alloc (Nat.le_refl _) _).alloc (by simp) _).trans (HB1.out.mono (by simp; omega))⟩
        · have HF : Hid (fitB (.mk 4 o n s ks) = false) := fitB_false fun hp => by
            have hq := HE.out.1 hp
            omega
          go_enter Tryd.func85, Tryd.ntmps85
          go_wp2_with fail
          go_ret
          exact ⟨ret_c HF.out.symm, ((Below.refl _ _).alloc (Nat.le_refl _) _).alloc (by simp) _⟩
      · have HF : Hid (fitB (.mk 4 o n s ks) = false) := fitB_false fun hp => by
          have hq := HE.out.1 hp
          omega
        go_enter Tryd.func85, Tryd.ntmps85
        go_wp2_with fail
        go_ret
        exact ⟨ret_c HF.out.symm, ((Below.refl _ _).alloc (Nat.le_refl _) _).alloc (by simp) _⟩
    · have HF : Hid (fitB (.mk 4 o n s ks) = false) := fitB_false fun hp => by
        have hq := HE.out.1 hp
        omega
      go_enter Tryd.func85, Tryd.ntmps85
      go_wp2_with fail
      go_ret
      exact ⟨ret_c HF.out.symm, ((Below.refl _ _).alloc (Nat.le_refl _) _).alloc (by simp) _⟩
  · have HF : Hid (fitB (.mk 4 o n s ks) = false) := fitB_false fun hp => by
      have hq := HE.out.1 hp
      omega
    go_enter Tryd.func85, Tryd.ntmps85
    go_wp2_with fail
    go_ret
    exact ⟨ret_c HF.out.symm, ((Below.refl _ _).alloc (Nat.le_refl _) _).alloc (by simp) _⟩

set_option maxRecDepth 100000 in
set_option maxHeartbeats 1000000 in
theorem fits_5 (b : Nat) (o n : Int) (s : T) (ks : List X) (A : Option Addr) (c : Nat) (w : World) (hw : WM w b) (ht : ShapesAt w) (hn : n ≤ 9223372036854775807) (hs : s.length ≤ 1099511627776) (hk : ks.length ≤ 1099511627776) :
    Calls Tryd.prog 85 #[.map (some b), .agg #[.int .i64 5, .int .i64 o, .int .i64 n, .string ⟨s.toArray⟩, .slice A ks.length c]] w fun e w' => e = .returned (.bool (fitB (.mk 5 o n s ks))) ∧ Below w.heap.size w w' := by
  have t0 := ht 5 0 _ _ rfl rfl
  have t1 := ht 5 1 _ _ rfl rfl
  have t2 := ht 5 2 _ _ rfl rfl
  have t3 := ht 5 3 _ _ rfl rfl
  have t4 := ht 5 4 _ _ rfl rfl
  simp [litV] at t0 t1 t2 t3 t4
  have hg := ht.lt
  have e : fitP (.mk 5 o n s ks) ↔ (0 ≤ o ∧ o ≤ 0 ∧ 0 ≤ n ∧ n ≤ 0 ∧ calP s false ∧ 3 ≤ ks.length ∧ ks.length ≤ 3) := by simp [fitP, fitK, X.k, X.o, X.n, X.s, X.ks]
  have HE := Lib.hid e
  have HC : Hid (∀ w2, Below w.heap.size w w2 → Calls Tryd.prog 107 #[.map (some b), .string ⟨s.toArray⟩, .bool false] w2 fun e w' => e = .returned (.bool (calB s false)) ∧ Below w2.heap.size w2 w') := fun w2 hb2 => called_any b s false w2 hs (hw.later hb2)
  have HQ1 : Hid (Row ((w.alloc (.cells #[.int .i64 5, .int .i64 o, .int .i64 n, .string ⟨s.toArray⟩, .slice A ks.length c] 61)).alloc (.cells #[.int .i64 0, .int .i64 0, .bool false, .int .i64 3, .int .i64 3] 157)) w.heap.size 61 #[.int .i64 5, .int .i64 o, .int .i64 n, .string ⟨s.toArray⟩, .slice A ks.length c]) := Lib.hid ((Row.made w 61 _).alloc _)
  have HQ2 : Hid (Row ((w.alloc (.cells #[.int .i64 5, .int .i64 o, .int .i64 n, .string ⟨s.toArray⟩, .slice A ks.length c] 61)).alloc (.cells #[.int .i64 0, .int .i64 0, .bool false, .int .i64 3, .int .i64 3] 157)) (w.heap.size + 1) 157 #[.int .i64 0, .int .i64 0, .bool false, .int .i64 3, .int .i64 3]) := by have := Row.made (w.alloc (.cells #[.int .i64 5, .int .i64 o, .int .i64 n, .string ⟨s.toArray⟩, .slice A ks.length c] 61)) 157 #[.int .i64 0, .int .i64 0, .bool false, .int .i64 3, .int .i64 3]; rw [World.size_alloc] at this; exact Lib.hid this
  clear e ht hw
  by_cases h1 : 0 ≤ o
  · by_cases h2 : o ≤ 0
    · by_cases h3 : 0 ≤ n
      · by_cases h4 : n ≤ 0
        · by_cases h5 : calB s false = true
          · have HN := Lib.hid h5
            rw [h5] at HC
            clear h5
            by_cases h6 : (3 : Int) ≤ (ks.length : Int)
            · by_cases h7 : (ks.length : Int) ≤ 3
              · have HF : Hid (fitB (.mk 5 o n s ks) = true) := fitB_true (HE.out.2 ⟨by omega, by omega, by omega, by omega, calB_iff.1 HN.out, by omega, by omega⟩)
                go_enter Tryd.func85, Tryd.ntmps85
                go_wp2_with (go_at_call 107; refine (HC.out _ (((Below.refl _ _).alloc (Nat.le_refl _) _).alloc (by simp) _)).mono ?_; rintro e w1 ⟨rfl, hb1⟩; have HB1 := Lib.hid hb1; clear hb1; have y4 := (HQ1.out.below HB1.out HQ1.out.lt).cell 4; have y5 := (HQ2.out.below HB1.out HQ2.out.lt).cell 3; have y6 := (HQ2.out.below HB1.out HQ2.out.lt).cell 4; simp at y4 y5 y6)
                go_ret
                exact ⟨ret_c HF.out.symm, (((Below.refl _ _).alloc (Nat.le_refl _) _).alloc (by simp) _).trans (HB1.out.mono (by simp; omega))⟩
              · have HF : Hid (fitB (.mk 5 o n s ks) = false) := fitB_false fun hp => by
                  have hq := HE.out.1 hp
                  omega
                go_enter Tryd.func85, Tryd.ntmps85
                go_wp2_with (go_at_call 107; refine (HC.out _ (((Below.refl _ _).alloc (Nat.le_refl _) _).alloc (by simp) _)).mono ?_; rintro e w1 ⟨rfl, hb1⟩; have HB1 := Lib.hid hb1; clear hb1; have y4 := (HQ1.out.below HB1.out HQ1.out.lt).cell 4; have y5 := (HQ2.out.below HB1.out HQ2.out.lt).cell 3; have y6 := (HQ2.out.below HB1.out HQ2.out.lt).cell 4; simp at y4 y5 y6)
                go_ret
                exact ⟨ret_c ((decide_eq_false (by omega)).trans HF.out.symm), (((Below.refl _ _).alloc (Nat.le_refl _) _).alloc (by simp) _).trans (HB1.out.mono (by simp; omega))⟩
            · have HF : Hid (fitB (.mk 5 o n s ks) = false) := fitB_false fun hp => by
                have hq := HE.out.1 hp
                omega
              go_enter Tryd.func85, Tryd.ntmps85
              go_wp2_with (go_at_call 107; refine (HC.out _ (((Below.refl _ _).alloc (Nat.le_refl _) _).alloc (by simp) _)).mono ?_; rintro e w1 ⟨rfl, hb1⟩; have HB1 := Lib.hid hb1; clear hb1; have y4 := (HQ1.out.below HB1.out HQ1.out.lt).cell 4; have y5 := (HQ2.out.below HB1.out HQ2.out.lt).cell 3; have y6 := (HQ2.out.below HB1.out HQ2.out.lt).cell 4; simp at y4 y5 y6)
              go_ret
              exact ⟨ret_c HF.out.symm, (((Below.refl _ _).alloc (Nat.le_refl _) _).alloc (by simp) _).trans (HB1.out.mono (by simp; omega))⟩
          · have HF : Hid (fitB (.mk 5 o n s ks) = false) := fitB_false fun hp => by
              have hq := HE.out.1 hp
              exact h5 (calB_iff.2 hq.2.2.2.2.1)
            have h5' : calB s false = false := by simpa using h5
            rw [h5'] at HC
            clear h5 h5'
            go_enter Tryd.func85, Tryd.ntmps85
            go_wp2_with (go_at_call 107; refine (HC.out _ (((Below.refl _ _).alloc (Nat.le_refl _) _).alloc (by simp) _)).mono ?_; rintro e w1 ⟨rfl, hb1⟩; have HB1 := Lib.hid hb1; clear hb1; have y4 := (HQ1.out.below HB1.out HQ1.out.lt).cell 4; have y5 := (HQ2.out.below HB1.out HQ2.out.lt).cell 3; have y6 := (HQ2.out.below HB1.out HQ2.out.lt).cell 4; simp at y4 y5 y6)
            go_ret
            exact ⟨ret_c HF.out.symm, (((Below.refl _ _).alloc (Nat.le_refl _) _).alloc (by simp) _).trans (HB1.out.mono (by simp; omega))⟩
        · have HF : Hid (fitB (.mk 5 o n s ks) = false) := fitB_false fun hp => by
            have hq := HE.out.1 hp
            omega
          go_enter Tryd.func85, Tryd.ntmps85
          go_wp2_with fail
          go_ret
          exact ⟨ret_c HF.out.symm, ((Below.refl _ _).alloc (Nat.le_refl _) _).alloc (by simp) _⟩
      · have HF : Hid (fitB (.mk 5 o n s ks) = false) := fitB_false fun hp => by
          have hq := HE.out.1 hp
          omega
        go_enter Tryd.func85, Tryd.ntmps85
        go_wp2_with fail
        go_ret
        exact ⟨ret_c HF.out.symm, ((Below.refl _ _).alloc (Nat.le_refl _) _).alloc (by simp) _⟩
    · have HF : Hid (fitB (.mk 5 o n s ks) = false) := fitB_false fun hp => by
        have hq := HE.out.1 hp
        omega
      go_enter Tryd.func85, Tryd.ntmps85
      go_wp2_with fail
      go_ret
      exact ⟨ret_c HF.out.symm, ((Below.refl _ _).alloc (Nat.le_refl _) _).alloc (by simp) _⟩
  · have HF : Hid (fitB (.mk 5 o n s ks) = false) := fitB_false fun hp => by
      have hq := HE.out.1 hp
      omega
    go_enter Tryd.func85, Tryd.ntmps85
    go_wp2_with fail
    go_ret
    exact ⟨ret_c HF.out.symm, ((Below.refl _ _).alloc (Nat.le_refl _) _).alloc (by simp) _⟩

set_option maxRecDepth 100000 in
set_option maxHeartbeats 1000000 in
theorem fits_6 (b : Nat) (o n : Int) (s : T) (ks : List X) (A : Option Addr) (c : Nat) (w : World) (hw : WM w b) (ht : ShapesAt w) (hn : n ≤ 9223372036854775807) (hs : s.length ≤ 1099511627776) (hk : ks.length ≤ 1099511627776) :
    Calls Tryd.prog 85 #[.map (some b), .agg #[.int .i64 6, .int .i64 o, .int .i64 n, .string ⟨s.toArray⟩, .slice A ks.length c]] w fun e w' => e = .returned (.bool (fitB (.mk 6 o n s ks))) ∧ Below w.heap.size w w' := by
  have t0 := ht 6 0 _ _ rfl rfl
  have t1 := ht 6 1 _ _ rfl rfl
  have t2 := ht 6 2 _ _ rfl rfl
  have t3 := ht 6 3 _ _ rfl rfl
  have t4 := ht 6 4 _ _ rfl rfl
  simp [litV] at t0 t1 t2 t3 t4
  have hg := ht.lt
  have e : fitP (.mk 6 o n s ks) ↔ (0 ≤ o ∧ o ≤ 0 ∧ 0 ≤ n ∧ n ≤ 0 ∧ calP s true ∧ 0 ≤ ks.length ∧ ks.length ≤ 1000) := by simp [fitP, fitK, X.k, X.o, X.n, X.s, X.ks]
  have HE := Lib.hid e
  have HC : Hid (∀ w2, Below w.heap.size w w2 → Calls Tryd.prog 107 #[.map (some b), .string ⟨s.toArray⟩, .bool true] w2 fun e w' => e = .returned (.bool (calB s true)) ∧ Below w2.heap.size w2 w') := fun w2 hb2 => called_any b s true w2 hs (hw.later hb2)
  have HQ1 : Hid (Row ((w.alloc (.cells #[.int .i64 6, .int .i64 o, .int .i64 n, .string ⟨s.toArray⟩, .slice A ks.length c] 61)).alloc (.cells #[.int .i64 0, .int .i64 0, .bool true, .int .i64 0, .int .i64 1000] 157)) w.heap.size 61 #[.int .i64 6, .int .i64 o, .int .i64 n, .string ⟨s.toArray⟩, .slice A ks.length c]) := Lib.hid ((Row.made w 61 _).alloc _)
  have HQ2 : Hid (Row ((w.alloc (.cells #[.int .i64 6, .int .i64 o, .int .i64 n, .string ⟨s.toArray⟩, .slice A ks.length c] 61)).alloc (.cells #[.int .i64 0, .int .i64 0, .bool true, .int .i64 0, .int .i64 1000] 157)) (w.heap.size + 1) 157 #[.int .i64 0, .int .i64 0, .bool true, .int .i64 0, .int .i64 1000]) := by have := Row.made (w.alloc (.cells #[.int .i64 6, .int .i64 o, .int .i64 n, .string ⟨s.toArray⟩, .slice A ks.length c] 61)) 157 #[.int .i64 0, .int .i64 0, .bool true, .int .i64 0, .int .i64 1000]; rw [World.size_alloc] at this; exact Lib.hid this
  clear e ht hw
  by_cases h1 : 0 ≤ o
  · by_cases h2 : o ≤ 0
    · by_cases h3 : 0 ≤ n
      · by_cases h4 : n ≤ 0
        · by_cases h5 : calB s true = true
          · have HN := Lib.hid h5
            rw [h5] at HC
            clear h5
            by_cases h7 : (ks.length : Int) ≤ 1000
            · have HF : Hid (fitB (.mk 6 o n s ks) = true) := fitB_true (HE.out.2 ⟨by omega, by omega, by omega, by omega, calB_iff.1 HN.out, by omega, by omega⟩)
              go_enter Tryd.func85, Tryd.ntmps85
              go_wp2_with (go_at_call 107; refine (HC.out _ (((Below.refl _ _).alloc (Nat.le_refl _) _).alloc (by simp) _)).mono ?_; rintro e w1 ⟨rfl, hb1⟩; have HB1 := Lib.hid hb1; clear hb1; have y4 := (HQ1.out.below HB1.out HQ1.out.lt).cell 4; have y5 := (HQ2.out.below HB1.out HQ2.out.lt).cell 3; have y6 := (HQ2.out.below HB1.out HQ2.out.lt).cell 4; simp at y4 y5 y6)
              go_ret
              exact ⟨ret_c HF.out.symm, (((Below.refl _ _).alloc (Nat.le_refl _) _).alloc (by simp) _).trans (HB1.out.mono (by simp; omega))⟩
            · have HF : Hid (fitB (.mk 6 o n s ks) = false) := fitB_false fun hp => by
                have hq := HE.out.1 hp
                omega
              go_enter Tryd.func85, Tryd.ntmps85
              go_wp2_with (go_at_call 107; refine (HC.out _ (((Below.refl _ _).alloc (Nat.le_refl _) _).alloc (by simp) _)).mono ?_; rintro e w1 ⟨rfl, hb1⟩; have HB1 := Lib.hid hb1; clear hb1; have y4 := (HQ1.out.below HB1.out HQ1.out.lt).cell 4; have y5 := (HQ2.out.below HB1.out HQ2.out.lt).cell 3; have y6 := (HQ2.out.below HB1.out HQ2.out.lt).cell 4; simp at y4 y5 y6)
              go_ret
              exact ⟨ret_c ((decide_eq_false (by omega)).trans HF.out.symm), (((Below.refl _ _).alloc (Nat.le_refl _) _).alloc (by simp) _).trans (HB1.out.mono (by simp; omega))⟩
          · have HF : Hid (fitB (.mk 6 o n s ks) = false) := fitB_false fun hp => by
              have hq := HE.out.1 hp
              exact h5 (calB_iff.2 hq.2.2.2.2.1)
            have h5' : calB s true = false := by simpa using h5
            rw [h5'] at HC
            clear h5 h5'
            go_enter Tryd.func85, Tryd.ntmps85
            go_wp2_with (go_at_call 107; refine (HC.out _ (((Below.refl _ _).alloc (Nat.le_refl _) _).alloc (by simp) _)).mono ?_; rintro e w1 ⟨rfl, hb1⟩; have HB1 := Lib.hid hb1; clear hb1; have y4 := (HQ1.out.below HB1.out HQ1.out.lt).cell 4; have y5 := (HQ2.out.below HB1.out HQ2.out.lt).cell 3; have y6 := (HQ2.out.below HB1.out HQ2.out.lt).cell 4; simp at y4 y5 y6)
            go_ret
            exact ⟨ret_c HF.out.symm, (((Below.refl _ _).alloc (Nat.le_refl _) _).alloc (by simp) _).trans (HB1.out.mono (by simp; omega))⟩
        · have HF : Hid (fitB (.mk 6 o n s ks) = false) := fitB_false fun hp => by
            have hq := HE.out.1 hp
            omega
          go_enter Tryd.func85, Tryd.ntmps85
          go_wp2_with fail
          go_ret
          exact ⟨ret_c HF.out.symm, ((Below.refl _ _).alloc (Nat.le_refl _) _).alloc (by simp) _⟩
      · have HF : Hid (fitB (.mk 6 o n s ks) = false) := fitB_false fun hp => by
          have hq := HE.out.1 hp
          omega
        go_enter Tryd.func85, Tryd.ntmps85
        go_wp2_with fail
        go_ret
        exact ⟨ret_c HF.out.symm, ((Below.refl _ _).alloc (Nat.le_refl _) _).alloc (by simp) _⟩
    · have HF : Hid (fitB (.mk 6 o n s ks) = false) := fitB_false fun hp => by
        have hq := HE.out.1 hp
        omega
      go_enter Tryd.func85, Tryd.ntmps85
      go_wp2_with fail
      go_ret
      exact ⟨ret_c HF.out.symm, ((Below.refl _ _).alloc (Nat.le_refl _) _).alloc (by simp) _⟩
  · have HF : Hid (fitB (.mk 6 o n s ks) = false) := fitB_false fun hp => by
      have hq := HE.out.1 hp
      omega
    go_enter Tryd.func85, Tryd.ntmps85
    go_wp2_with fail
    go_ret
    exact ⟨ret_c HF.out.symm, ((Below.refl _ _).alloc (Nat.le_refl _) _).alloc (by simp) _⟩

set_option maxRecDepth 100000 in
theorem fits_any (b : Nat) (x : X) (A : Option Addr) (c : Nat) (w : World) (hw : WM w b) (ht : ShapesAt w) (hn : x.n ≤ 9223372036854775807) (hs : x.s.length ≤ 1099511627776) (hk : x.ks.length ≤ 1099511627776) :
    Calls Tryd.prog 85 #[.map (some b), ev x A c] w fun e w' => e = .returned (.bool (fitB x)) ∧ Below w.heap.size w w' := by
  obtain ⟨k, o, n, s, ks⟩ := x
  simp only [X.ks, ev, X.k, X.o, X.n, X.s] at hn hs hk ⊢
  by_cases h0 : k = 0
  · subst h0; exact fits_0 b o n s ks A c w hw ht hn hs hk
  by_cases h1 : k = 1
  · subst h1; exact fits_1 b o n s ks A c w hw ht hn hs hk
  by_cases h2 : k = 2
  · subst h2; exact fits_2 b o n s ks A c w hw ht hn hs hk
  by_cases h3 : k = 3
  · subst h3; exact fits_3 b o n s ks A c w hw ht hn hs hk
  by_cases h4 : k = 4
  · subst h4; exact fits_4 b o n s ks A c w hw ht hn hs hk
  by_cases h5 : k = 5
  · subst h5; exact fits_5 b o n s ks A c w hw ht hn hs hk
  by_cases h6 : k = 6
  · subst h6; exact fits_6 b o n s ks A c w hw ht hn hs hk
  have HF : Hid (fitB (.mk k o n s ks) = false) := fitB_false fun hp => by simp only [fitP, X.k] at hp; omega
  clear hw ht
  by_cases hk0 : k < 0
  · clear h0 h1 h2 h3 h4 h5 h6
    go_enter Tryd.func85, Tryd.ntmps85
    go_wp2_with fail
    go_ret
    exact ⟨ret_c HF.out.symm, (Below.refl _ _).alloc (Nat.le_refl _) _⟩
  · have hk7 : 7 ≤ k := by omega
    clear h0 h1 h2 h3 h4 h5 h6
    go_enter Tryd.func85, Tryd.ntmps85
    go_wp2_with fail
    go_ret
    exact ⟨ret_c HF.out.symm, (Below.refl _ _).alloc (Nat.le_refl _) _⟩

end Go.Proofs.YtfajnflfonechaaDoor
