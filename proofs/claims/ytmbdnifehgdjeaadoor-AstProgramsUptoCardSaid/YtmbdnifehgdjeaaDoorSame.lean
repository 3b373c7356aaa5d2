/- DERIVED. Whether two expressions are the same: the code's Same, over slices.EqualFunc. -/
import Derived.Test.YtmbdnifehgdjeaaDoorEx1
namespace Go.Proofs.YtmbdnifehgdjeaaDoor
open Go.RowKit

def SameP (N : Nat) : Prop := ∀ (x y : X) (A B : Option Addr) (c d : Nat) (w : World) (S : Nat → Prop), x.size ≤ N → KS w S A x.ks → y.size ≤ 1099511627775 → KS w S B y.ks → (∀ b, S b → b < w.heap.size) →
    Calls Tryd.prog 15 #[ev x A c, ev y B d] w fun e w' => e = .returned (.bool (x.same y)) ∧ Below w.heap.size w w'

theorem ret_b {a b : Bool} (h : a = b) : Ending.returned (.bool a) = Ending.returned (.bool b) := by rw [h]
theorem X.kids_le {x : X} {M : Nat} (h : x.size ≤ M) : X.sizes x.ks + 1 ≤ M := by cases x; simp only [X.size, X.ks] at h ⊢; omega

set_option maxRecDepth 100000 in
set_option maxHeartbeats 1000000 in
theorem EqualFunc_any (N : Nat) (hP : SameP N) (hM : N ≤ 1099511627775) (xs ys : List X) (A B : Option Addr) (c d : Nat) (w : World) (S : Nat → Prop) (hx : X.sizes xs ≤ N) (hy : X.sizes ys ≤ 1099511627775) (hA : KS w S A xs) (hB : KS w S B ys) (hS : ∀ b, S b → b < w.heap.size) :
    Calls Tryd.prog 41 #[.slice A xs.length c, .slice B ys.length d, .func (.func 15) #[] #[]] w fun e w' => e = .returned (.bool (X.sames xs ys)) ∧ Below w.heap.size w w' := by
  have hxl := X.sizes_length xs
  have hyl := X.sizes_length ys
  have HA := Lib.hid hA
  have HB := Lib.hid hB
  clear hA hB
  by_cases hl : xs.length = ys.length
  · have HL := Lib.hid hl
    rw [← hl]
    clear hl hyl
    have HY := Lib.hid hy
    clear hy
    go_enter Tryd.func41, Tryd.ntmps41
    go_wp2_with fail
    go_loopw [6, 17] (fun r i wr => r = .bool false ∧ ∃ j : Nat, j ≤ xs.length ∧ i = .int .i64 j ∧ (∀ (q : Nat) x y, q < j → xs[q]? = some x → ys[q]? = some y → x.same y = true) ∧ Below w.heap.size w wr) (fun _ i _ => xs.length - (intOf i).toNat)
    case atStart => exact ⟨rfl, 0, by omega, rfl, fun q x y h => by omega, Below.refl _ _⟩
    case round =>
      obtain ⟨rfl, j, hj, rfl, hs, hbw⟩ := hrel
      have HSM := Lib.hid hs
      have HBW := Lib.hid hbw
      have hws := hbw.size
      clear hs
      by_cases hlt : j < xs.length
      · obtain ⟨x, hx1⟩ : ∃ x, xs[j]? = some x := ⟨_, List.getElem?_eq_getElem hlt⟩
        obtain ⟨y, hy1⟩ : ∃ y, ys[j]? = some y := ⟨_, List.getElem?_eq_getElem (by have := HL.out; omega)⟩
        obtain ⟨b, off, A', c', rfl, d0, d1, d2, d3, d4, hk, hbl⟩ := HA.out.kid_at hS hbw hx1
        obtain ⟨b2, off2, B', c2, rfl, e0, e1, e2, e3, e4, hk2, hbl2⟩ := HB.out.kid_at hS hbw hy1
        have hb1' : b < wr.heap.size := by omega
        have hb2' : b2 < wr.heap.size := by omega
        have HX := Lib.hid hx1
        have HY1 := Lib.hid hy1
        have HC : Hid (∀ w2, Below wr.heap.size wr w2 → Calls Tryd.prog 15 #[.agg #[.int .i64 x.k, .int .i64 x.o, .int .i64 x.n, .string ⟨x.s.toArray⟩, .slice A' x.ks.length c'], .agg #[.int .i64 y.k, .int .i64 y.o, .int .i64 y.n, .string ⟨y.s.toArray⟩, .slice B' y.ks.length c2]] w2 fun e w' => e = .returned (.bool (x.same y)) ∧ Below w2.heap.size w2 w') :=
          fun w2 hb2 => hP x y A' B' c' c2 w2 S (Nat.le_trans (X.sizes_at hx1) hx) (hk.later (fun b h => Nat.lt_of_lt_of_le (hS b h) hws) hb2) (Nat.le_trans (X.sizes_at hy1) HY.out) (hk2.later (fun b h => Nat.lt_of_lt_of_le (hS b h) hws) hb2) (fun b h => Nat.lt_of_lt_of_le (hS b h) (Nat.le_trans hws hb2.size))
        clear hx1 hy1 hk hk2 hbw
        by_cases he : x.same y = true
        · have HE := Lib.hid he
          rw [he] at HC
          clear he
          go_wp2_with (go_at_call 15; refine (HC.out _ (((Below.refl _ _).alloc (Nat.le_refl _) _).alloc (by simp) _)).mono ?_; rintro e w1 ⟨rfl, hb1⟩; have HB1 := Lib.hid hb1; clear hb1)
          go_roundw
          case rel => exact ⟨rfl, j + 1, by omega, by go_num, fun q u v hq hu hv => by
            by_cases e : q = j
            · subst e; rw [HX.out] at hu; rw [HY1.out] at hv; injection hu with hu; injection hv with hv; rw [← hu, ← hv]; exact HE.out
            · exact HSM.out q u v (by omega) hu hv, HBW.out.trans ((((Below.refl _ _).alloc hws _).alloc (by simp; omega) _).trans (HB1.out.mono (by simp; omega)))⟩
          case measure => simp [intOf]; omega
        · have he' : x.same y = false := by simpa using he
          have HE := Lib.hid he'
          rw [he'] at HC
          clear he he'
          go_wp2_with (go_at_call 15; refine (HC.out _ (((Below.refl _ _).alloc (Nat.le_refl _) _).alloc (by simp) _)).mono ?_; rintro e w1 ⟨rfl, hb1⟩; have HB1 := Lib.hid hb1; clear hb1)
          go_ret
          exact ⟨ret_b (X.sames_stop HX.out HY1.out HE.out).symm, HBW.out.trans ((((Below.refl _ _).alloc hws _).alloc (by simp; omega) _).trans (HB1.out.mono (by simp; omega)))⟩
      · have HE : Hid (X.sames xs ys = true) := X.sames_all HL.out fun q x y hx hy => HSM.out q x y (by
          rcases Nat.lt_or_ge q xs.length with h' | h'
          · omega
          · rw [List.getElem?_eq_none h'] at hx; cases hx) hx hy
        clear hbw
        go_wp2_with fail
        go_ret
        exact ⟨ret_b HE.out.symm, HBW.out⟩
  · have HE : Hid (X.sames xs ys = false) := X.sames_length hl
    have l1 : ((xs.length : Int) == (ys.length : Int)) = false := beq_eq_false_iff_ne.2 (by omega)
    have l2 : ((xs.length : Int) != (ys.length : Int)) = true := bne_iff_ne.2 (by omega)
    have l3 : (xs.length == ys.length) = false := by simpa using hl
    have l4 : (xs.length != ys.length) = true := by simpa using hl
    clear hl
    go_enter Tryd.func41, Tryd.ntmps41
    go_wp2_with fail
    go_ret
    exact ⟨ret_b HE.out.symm, Below.refl _ _⟩

set_option maxRecDepth 100000 in
set_option maxHeartbeats 1000000 in
theorem Same_all (N : Nat) (hM : N ≤ 1099511627775) : SameP N := by
  induction N with
  | zero => intro x y A B c d w S h; have := x.size_pos; omega
  | succ N ih0 =>
    have ih := ih0 (by omega)
    clear ih0
    intro x y A B c d w S hN hA hy hB hS
    obtain ⟨k, o, n, s, ks⟩ := x
    obtain ⟨k', o', n', s', ks'⟩ := y
    simp only [X.size, X.ks, ev, X.k, X.o, X.n, X.s] at hN hA hy hB ⊢
    by_cases hk : k = k'
    · subst hk
      by_cases ho : o = o'
      · subst ho
        by_cases hn : n = n'
        · subst hn
          by_cases hs : s = s'
          · subst hs
            have HA := Lib.hid hA
            have HB := Lib.hid hB
            have HC : Hid (∀ w2, Below w.heap.size w w2 → Calls Tryd.prog 41 #[.slice A ks.length c, .slice B ks'.length d, .func (.func 15) #[] #[]] w2 fun e w' => e = .returned (.bool (X.sames ks ks')) ∧ Below w2.heap.size w2 w') := fun w2 hb2 => EqualFunc_any N ih (by omega) ks ks' A B c d w2 S (by omega) (by omega) (hA.later hS hb2) (hB.later hS hb2) (fun b h => Nat.lt_of_lt_of_le (hS b h) hb2.size)
            have HE : Hid ((X.mk k o n s ks).same (.mk k o n s ks') = X.sames ks ks') := by simp [X.same, Hid]
            clear hA hB
            go_enter Tryd.func15, Tryd.ntmps15
            go_wp2_with (go_at_call 41; refine (HC.out _ (((Below.refl _ _).alloc (Nat.le_refl _) _).alloc (by simp) _)).mono ?_; rintro e w1 ⟨rfl, hb1⟩; have HB1 := Lib.hid hb1; clear hb1)
            go_ret
            exact ⟨ret_b HE.out.symm, (((Below.refl _ _).alloc (Nat.le_refl _) _).alloc (by simp) _).trans (HB1.out.mono (by simp; omega))⟩
          · have q1 : (s == s') = false := by simpa using hs
            have q2 : (s != s') = true := by simpa using hs
            have HE : Hid ((X.mk k o n s ks).same (.mk k o n s' ks') = false) := Lib.hid (by simp [X.same, hs])
            clear hs
            go_enter Tryd.func15, Tryd.ntmps15
            go_wp2_with fail
            go_ret
            exact ⟨ret_b HE.out.symm, ((Below.refl _ _).alloc (Nat.le_refl _) _).alloc (by simp) _⟩
        · have q1 : (n == n') = false := by simpa using hn
          have q2 : (n != n') = true := by simpa using hn
          have HE : Hid ((X.mk k o n s ks).same (.mk k o n' s' ks') = false) := Lib.hid (by simp [X.same, hn])
          clear hn
          go_enter Tryd.func15, Tryd.ntmps15
          go_wp2_with fail
          go_ret
          exact ⟨ret_b HE.out.symm, ((Below.refl _ _).alloc (Nat.le_refl _) _).alloc (by simp) _⟩
      · have q1 : (o == o') = false := by simpa using ho
        have q2 : (o != o') = true := by simpa using ho
        have HE : Hid ((X.mk k o n s ks).same (.mk k o' n' s' ks') = false) := Lib.hid (by simp [X.same, ho])
        clear ho
        go_enter Tryd.func15, Tryd.ntmps15
        go_wp2_with fail
        go_ret
        exact ⟨ret_b HE.out.symm, ((Below.refl _ _).alloc (Nat.le_refl _) _).alloc (by simp) _⟩
    · have q1 : (k == k') = false := by simpa using hk
      have q2 : (k != k') = true := by simpa using hk
      have HE : Hid ((X.mk k o n s ks).same (.mk k' o' n' s' ks') = false) := Lib.hid (by simp [X.same, hk])
      clear hk
      go_enter Tryd.func15, Tryd.ntmps15
      go_wp2_with fail
      go_ret
      exact ⟨ret_b HE.out.symm, ((Below.refl _ _).alloc (Nat.le_refl _) _).alloc (by simp) _⟩

end Go.Proofs.YtmbdnifehgdjeaaDoor
