/- Parts: Fits. -/
import Derived.Test.YtdabndiaflagpaaGreatDoorB03
set_option maxRecDepth 100000
set_option maxHeartbeats 4000000
set_option linter.unusedVariables false
namespace Go.Proofs.YtdabndiaflagpaaGreatDoor
open Go.RowKit

noncomputable def calB (s : T) (named : Bool) : Bool := if named = true then nameB s else decide (s = [])
theorem calB_iff {s : T} {named : Bool} : calB s named = true ↔ calP s named := by cases named <;> simp [calB, calP]
theorem ret_c {a b : Bool} (h : a = b) : Ending.returned (.bool a) = Ending.returned (.bool b) := by rw [h]

set_option maxRecDepth 100000 in
theorem called_any (b : Nat) (s : T) (named : Bool) (w : World) (hl : s.length ≤ 1099511627776) (hw : WM w b) : Calls Tryz.prog 138 #[.map (some b), .string ⟨s.toArray⟩, .bool named] w fun e w' => e = .returned (.bool (calB s named)) ∧ Below w.heap.size w w' := by
  cases named with
  | true =>
    go_enter Tryz.func138, Tryz.ntmps138
    go_wp2_with (go_at_call 88; refine (wname_any b s _ hl hw).mono ?_; rintro e w1 ⟨rfl, hb1⟩; have HB1 := Lib.hid hb1; clear hb1)
    go_ret
    exact ⟨rfl, HB1.out⟩
  | false =>
    clear hw
    by_cases h : s = []
    · subst h
      go_enter Tryz.func138, Tryz.ntmps138
      go_wp2_with fail
      go_ret
      exact ⟨rfl, Below.refl _ _⟩
    · have HE : Hid (calB s false = false) := Lib.hid (by simp [calB, h])
      have h1 : (s == []) = false := by cases s with | nil => exact absurd rfl h | cons a l => rfl
      have h2 : (!s.isEmpty) = true := by cases s with | nil => exact absurd rfl h | cons a l => rfl
      go_enter Tryz.func138, Tryz.ntmps138
      go_wp2_with fail
      go_ret
      exact ⟨ret_c HE.out.symm, Below.refl _ _⟩

set_option maxRecDepth 100000 in
set_option maxHeartbeats 4000000 in
theorem fits_k (b i : Nat) (o n lo g : Int) (nm : Bool) (few most : Nat) (s : T) (ks : List X) (A : Option Addr) (c : Nat) (w : World) (hi : i < 7) (hrow : shapesL[i]? = some [.int .i64 lo, .int .i64 g, .bool nm, .int .i64 few, .int .i64 most])
    (he : fitP (.mk i o n s ks) ↔ (0 ≤ o ∧ o ≤ lo ∧ 0 ≤ n ∧ n ≤ g ∧ calP s nm ∧ few ≤ ks.length ∧ ks.length ≤ most)) (hw : WM w b) (ht : ShapesAt w) (hs : s.length ≤ 1099511627776) (hk : ks.length ≤ 1099511627776) :
    Calls Tryz.prog 109 #[.map (some b), .agg #[.int .i64 (i : Int), .int .i64 o, .int .i64 n, .string ⟨s.toArray⟩, .slice A ks.length c]] w fun e w' => e = .returned (.bool (fitB (.mk i o n s ks))) ∧ Below w.heap.size w w' := by
  have t0 := ht i 0 _ _ hrow rfl
  have t1 := ht i 1 _ _ hrow rfl
  have t2 := ht i 2 _ _ hrow rfl
  have t3 := ht i 3 _ _ hrow rfl
  have t4 := ht i 4 _ _ hrow rfl
  simp [litV] at t0 t1 t2 t3 t4
  have hg := ht.lt
  have HC : Hid (∀ w2, Below w.heap.size w w2 → Calls Tryz.prog 138 #[.map (some b), .string ⟨s.toArray⟩, .bool nm] w2 fun e w' => e = .returned (.bool (calB s nm)) ∧ Below w2.heap.size w2 w') := fun w2 hb2 => called_any b s nm w2 hs (hw.later hb2)
  have HQ1 : Hid (Row ((w.alloc (.cells #[.int .i64 (i : Int), .int .i64 o, .int .i64 n, .string ⟨s.toArray⟩, .slice A ks.length c] 46)).alloc (.cells #[.int .i64 lo, .int .i64 g, .bool nm, .int .i64 (few : Int), .int .i64 (most : Int)] 202)) w.heap.size 46 #[.int .i64 (i : Int), .int .i64 o, .int .i64 n, .string ⟨s.toArray⟩, .slice A ks.length c]) := Lib.hid ((Row.made w 46 _).alloc _)
  have HQ2 : Hid (Row ((w.alloc (.cells #[.int .i64 (i : Int), .int .i64 o, .int .i64 n, .string ⟨s.toArray⟩, .slice A ks.length c] 46)).alloc (.cells #[.int .i64 lo, .int .i64 g, .bool nm, .int .i64 (few : Int), .int .i64 (most : Int)] 202)) (w.heap.size + 1) 202 #[.int .i64 lo, .int .i64 g, .bool nm, .int .i64 (few : Int), .int .i64 (most : Int)]) := by
    have := Row.made (w.alloc (.cells #[.int .i64 (i : Int), .int .i64 o, .int .i64 n, .string ⟨s.toArray⟩, .slice A ks.length c] 46)) 202 #[.int .i64 lo, .int .i64 g, .bool nm, .int .i64 (few : Int), .int .i64 (most : Int)]
    rw [World.size_alloc] at this
    exact Lib.hid this
  have hcal : calP s nm ↔ calB s nm = true := calB_iff.symm
  rw [hcal] at he
  obtain ⟨cb, hcb⟩ : ∃ cb, cb = calB s nm := ⟨_, rfl⟩
  rw [← hcb] at HC he
  have HE := Lib.hid he
  clear he hcal hcb ht hw hrow
  by_cases h : 0 ≤ o ∧ o ≤ lo ∧ 0 ≤ n ∧ n ≤ g
  · obtain ⟨h1, h2, h3, h4⟩ := h
    by_cases h6 : (few : Int) ≤ (ks.length : Int) <;> by_cases h7 : (ks.length : Int) ≤ (most : Int) <;> cases cb <;>
    ((first
      | have HF : Hid (fitB (.mk i o n s ks) = true) := fitB_true (HE.out.2 ⟨h1, h2, h3, h4, rfl, by omega, by omega⟩)
      | have HF : Hid (fitB (.mk i o n s ks) = false) := fitB_false fun hp => by have hq := HE.out.1 hp; first | omega | exact Bool.noConfusion hq.2.2.2.2.1)
     go_enter Tryz.func109, Tryz.ntmps109
     go_wp2_with (go_at_call 138; refine (HC.out _ (((Below.refl _ _).alloc (Nat.le_refl _) _).alloc (by simp) _)).mono ?_; rintro e w1 ⟨rfl, hb1⟩; have HB1 := Lib.hid hb1; clear hb1; have y4 := (HQ1.out.below HB1.out HQ1.out.lt).cell 4; have y5 := (HQ2.out.below HB1.out HQ2.out.lt).cell 3; have y6 := (HQ2.out.below HB1.out HQ2.out.lt).cell 4; simp at y4 y5 y6)
     go_ret
     first
     | exact ⟨ret_c HF.out.symm, (((Below.refl _ _).alloc (Nat.le_refl _) _).alloc (by simp) _).trans (HB1.out.mono (by simp; omega))⟩
     | exact ⟨ret_c ((decide_eq_false (by omega)).trans HF.out.symm), (((Below.refl _ _).alloc (Nat.le_refl _) _).alloc (by simp) _).trans (HB1.out.mono (by simp; omega))⟩
     | exact ⟨ret_c ((decide_eq_true (by omega)).trans HF.out.symm), (((Below.refl _ _).alloc (Nat.le_refl _) _).alloc (by simp) _).trans (HB1.out.mono (by simp; omega))⟩)
  · have HF : Hid (fitB (.mk i o n s ks) = false) := fitB_false fun hp => by have hq := HE.out.1 hp; omega
    have h : ¬ 0 ≤ o ∨ (0 ≤ o ∧ ¬ o ≤ lo) ∨ (0 ≤ o ∧ o ≤ lo ∧ ¬ 0 ≤ n) ∨ (0 ≤ o ∧ o ≤ lo ∧ 0 ≤ n ∧ ¬ n ≤ g) := by omega
    rcases h with h1 | ⟨h1, h2⟩ | ⟨h1, h2, h3⟩ | ⟨h1, h2, h3, h4⟩ <;>
    (go_enter Tryz.func109, Tryz.ntmps109
     go_wp2_with fail
     go_ret
     exact ⟨ret_c HF.out.symm, ((Below.refl _ _).alloc (Nat.le_refl _) _).alloc (by simp) _⟩)

set_option maxRecDepth 100000 in
theorem fits_any (b : Nat) (x : X) (A : Option Addr) (c : Nat) (w : World) (hw : WM w b) (ht : ShapesAt w) (hn : x.n ≤ 9223372036854775807) (hs : x.s.length ≤ 1099511627776) (hk : x.ks.length ≤ 1099511627776) :
    Calls Tryz.prog 109 #[.map (some b), ev x A c] w fun e w' => e = .returned (.bool (fitB x)) ∧ Below w.heap.size w w' := by
  obtain ⟨k, o, n, s, ks⟩ := x
  simp only [X.ks, ev, X.k, X.o, X.n, X.s] at hn hs hk ⊢
  by_cases h0 : k = 0
  · subst h0; exact fits_k b 0 o n _ _ _ _ _ s ks A c w (by decide) rfl (by simp [fitP, fitK, X.k, X.o, X.n, X.s, X.ks]) hw ht hs hk
  by_cases h1 : k = 1
  · subst h1; exact fits_k b 1 o n _ _ _ _ _ s ks A c w (by decide) rfl (by simp [fitP, fitK, X.k, X.o, X.n, X.s, X.ks]) hw ht hs hk
  by_cases h2 : k = 2
  · subst h2; exact fits_k b 2 o n _ _ _ _ _ s ks A c w (by decide) rfl (by simp [fitP, fitK, X.k, X.o, X.n, X.s, X.ks]) hw ht hs hk
  by_cases h3 : k = 3
  · subst h3; exact fits_k b 3 o n _ _ _ _ _ s ks A c w (by decide) rfl (by simp [fitP, fitK, X.k, X.o, X.n, X.s, X.ks]) hw ht hs hk
  by_cases h4 : k = 4
  · subst h4; exact fits_k b 4 o n _ _ _ _ _ s ks A c w (by decide) rfl (by simp [fitP, fitK, X.k, X.o, X.n, X.s, X.ks]) hw ht hs hk
  by_cases h5 : k = 5
  · subst h5; exact fits_k b 5 o n _ _ _ _ _ s ks A c w (by decide) rfl (by simp [fitP, fitK, X.k, X.o, X.n, X.s, X.ks]) hw ht hs hk
  by_cases h6 : k = 6
  · subst h6; exact fits_k b 6 o n _ _ _ _ _ s ks A c w (by decide) rfl (by simp [fitP, fitK, X.k, X.o, X.n, X.s, X.ks]) hw ht hs hk
  have HF : Hid (fitB (.mk k o n s ks) = false) := fitB_false fun hp => by simp only [fitP, X.k] at hp; omega
  clear hw ht
  by_cases hk0 : k < 0
  · clear h0 h1 h2 h3 h4 h5 h6
    go_enter Tryz.func109, Tryz.ntmps109
    go_wp2_with fail
    go_ret
    exact ⟨ret_c HF.out.symm, (Below.refl _ _).alloc (Nat.le_refl _) _⟩
  · have hk7 : 7 ≤ k := by omega
    clear h0 h1 h2 h3 h4 h5 h6
    go_enter Tryz.func109, Tryz.ntmps109
    go_wp2_with fail
    go_ret
    exact ⟨ret_c HF.out.symm, (Below.refl _ _).alloc (Nat.le_refl _) _⟩

end Go.Proofs.YtdabndiaflagpaaGreatDoor
