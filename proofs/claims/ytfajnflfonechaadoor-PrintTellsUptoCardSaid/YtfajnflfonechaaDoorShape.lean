/- DERIVED. The document's shape: is an expression right, but for its depth? -/
import Derived.Test.YtfajnflfonechaaDoorTable
import Derived.Test.YtfajnflfonechaaDoorEx1
namespace Go.Proofs.YtfajnflfonechaaDoor
open Go.RowKit

theorem ret_d {a b : Bool} (h : a = b) : Ending.returned (.bool a) = Ending.returned (.bool b) := by rw [h]

set_option maxRecDepth 100000 in
set_option maxHeartbeats 20000000 in
theorem shape_any (N : Nat) (hM : N ≤ 1099511627775) : ∀ (x : X) (A : Option Addr) (c : Nat) (w : World) (S : Nat → Prop), x.size ≤ N → x.ok → KS w S A x.ks → (∀ b, S b → b < w.heap.size) →
    Calls Tryd.prog 35 #[ev x A c] w fun e w' => e = .returned (.bool x.shape) ∧ Below w.heap.size w w' := by
  induction N with
  | zero => intro x A c w S h; have := x.size_pos; omega
  | succ N ih0 =>
    have ih := ih0 (by omega)
    clear ih0
    intro x A c w S hN hok hk hS
    obtain ⟨k, o, n, s, ks⟩ := x
    simp only [X.size, X.ks, ev, X.k, X.o, X.n, X.s] at hN hk ⊢
    unfold X.ok at hok
    obtain ⟨hn9, hs9, hoks⟩ := hok
    have hr0 := Row.made w 46 #[.int .i64 k, .int .i64 o, .int .i64 n, .string ⟨s.toArray⟩, .slice A ks.length c]
    have hlen := X.sizes_length ks
    have HK := Lib.hid hk
    have HR := Lib.hid hr0
    have HOK := Lib.hid hoks
    clear hk hr0 hoks
    go_enter Tryd.func35, Tryd.ntmps35
    go_wp2_with fail
    go_loopw [2, 3] (fun r i wr => r = .bool false ∧ ∃ j : Nat, j ≤ ks.length ∧ i = .int .i64 j ∧ (∀ (q : Nat) y, q < j → ks[q]? = some y → y.shape = true) ∧ Below (w.heap.size + 1) (w.alloc (.cells #[.int .i64 k, .int .i64 o, .int .i64 n, .string ⟨s.toArray⟩, .slice A ks.length c] 46)) wr)
      (fun _ i _ => ks.length - (intOf i).toNat)
    case atStart => exact ⟨rfl, 0, by omega, rfl, fun q y h => by omega, Below.refl _ _⟩
    case round =>
      obtain ⟨rfl, j, hj, rfl, hs, hb⟩ := hrel
      have hr1 := HR.out.below hb (by omega)
      have c4 := hr1.cell 4
      simp at c4
      have hbw : Below w.heap.size w wr := ((Below.refl _ w).alloc (Nat.le_refl _) _).trans (hb.mono (by omega))
      have hws := hbw.size
      have HSM := Lib.hid hs
      have HBW := Lib.hid hbw
      have HB := Lib.hid hb
      clear hs
      by_cases hlt : j < ks.length
      · obtain ⟨y, hy⟩ : ∃ y, ks[j]? = some y := ⟨_, List.getElem?_eq_getElem hlt⟩
        obtain ⟨b, off, A', c', rfl, d0, d1, d2, d3, d4, hk', hbl⟩ := HK.out.kid_at hS hbw hy
        have CL := ih y A' c' wr S (by have := X.sizes_at hy; omega) (X.oks_at hy HOK.out) hk' (fun b h => Nat.lt_of_lt_of_le (hS b h) hws)
        simp only [ev] at CL
        have HY := Lib.hid hy
        by_cases he : y.shape = true
        · rw [he] at CL
          have HC := Lib.hid CL
          have HE := Lib.hid he
          clear CL hy hb hk' hbw hr1 he
          go_wp2_with (go_at_call 35; refine HC.out.mono ?_; rintro e w1 ⟨rfl, hb1⟩; have HB1 := Lib.hid hb1; clear hb1)
          go_roundw
          case rel => exact ⟨rfl, j + 1, by omega, by go_num, fun q u hq hu => by
            by_cases e : q = j
            · subst e; rw [HY.out] at hu; injection hu with hu; rw [← hu]; exact HE.out
            · exact HSM.out q u (by omega) hu, HB.out.trans (HB1.out.mono (by have := HB.out.size; simp at this; omega))⟩
          case measure => simp [intOf]; omega
        · have he' : y.shape = false := by simpa using he
          rw [he'] at CL
          have HC := Lib.hid CL
          have HE : Hid ((X.mk k o n s ks).shape = false) := Lib.hid (by simp [X.shape, X.shapes_at hy he'])
          clear CL hy hb hk' hbw hr1 he he'
          go_wp2_with (go_at_call 35; refine HC.out.mono ?_; rintro e w1 ⟨rfl, hb1⟩; have HB1 := Lib.hid hb1; clear hb1)
          go_ret
          exact ⟨ret_d HE.out.symm, HBW.out.trans (HB1.out.mono hws)⟩
      · have hE : (X.mk k o n s ks).shape = fitB (.mk k o n s ks) := by
          have := X.shapes_all (xs := ks) fun q x hx => HSM.out q x (by
            rcases Nat.lt_or_ge q ks.length with h' | h'
            · omega
            · rw [List.getElem?_eq_none h'] at hx; cases hx) hx
          simp [X.shape, this]
        have HE := Lib.hid hE
        have c0 := hr1.cell 0
        have c1 := hr1.cell 1
        have c2 := hr1.cell 2
        have c3 := hr1.cell 3
        simp at c0 c1 c2 c3
        obtain rfl : j = ks.length := by omega
        clear hE hb hbw hr1 ih hlt hj
        by_cases hk0 : k = 0
        · subst hk0
          have HX : Hid (fitP (.mk 0 o n s ks) ↔ (0 ≤ o ∧ o ≤ 0 ∧ 0 ≤ n ∧ n ≤ 9223372036854775807 ∧ calP s false ∧ 0 ≤ ks.length ∧ ks.length ≤ 0)) := Lib.hid (by simp [fitP, fitK, X.k, X.o, X.n, X.s, X.ks])
          by_cases hs0 : s = []
          · subst hs0
            by_cases ho0 : o = 0
            · subst ho0
              by_cases hnN : 0 ≤ n
              · by_cases hl1 : ks.length = 0
                · have hl1' : (ks.length : Int) = 0 := by omega
                  have HF : Hid (fitB (.mk 0 0 n [] ks) = true) := fitB_true (HX.out.2 ⟨by omega, by omega, by omega, by omega, rfl, by omega, by omega⟩)
                  go_wp2_with fail
                  go_ret
                  exact ⟨ret_d (HE.out.trans HF.out).symm, HBW.out⟩
                · have l1 : ((ks.length : Int) == 0) = false := beq_eq_false_iff_ne.2 (by omega)
                  have l2 : (ks.length == 0) = false := by simpa using hl1
                  have HF : Hid (fitB (.mk 0 0 n [] ks) = false) := fitB_false fun hp => by have hq := HX.out.1 hp; omega
                  go_wp2_with fail
                  go_ret
                  exact ⟨ret_d (HE.out.trans HF.out).symm, HBW.out⟩
              · have HF : Hid (fitB (.mk 0 0 n [] ks) = false) := fitB_false fun hp => by have hq := HX.out.1 hp; omega
                go_wp2_with fail
                go_ret
                exact ⟨ret_d (HE.out.trans HF.out).symm, HBW.out⟩
            · have q1 : (o == 0) = false := by simpa using ho0
              have q2 : (o != 0) = true := by simpa using ho0
              have HF : Hid (fitB (.mk 0 o n [] ks) = false) := fitB_false fun hp => by have hq := HX.out.1 hp; omega
              go_wp2_with fail
              go_ret
              exact ⟨ret_d (HE.out.trans HF.out).symm, HBW.out⟩
          · have q1 : (s == []) = false := by simpa using hs0
            have q2 : (s != []) = true := by simpa using hs0
            have q3 : (!s.isEmpty) = true := by cases s with | nil => exact absurd rfl hs0 | cons a l => rfl
            have HS0 := Lib.hid hs0
            clear hs0
            have HF : Hid (fitB (.mk 0 o n s ks) = false) := fitB_false fun hp => by have hq := HX.out.1 hp; exact HS0.out hq.2.2.2.2.1
            go_wp2_with fail
            go_ret
            exact ⟨ret_d (HE.out.trans HF.out).symm, HBW.out⟩
        by_cases hk1 : k = 1
        · subst hk1
          have HX : Hid (fitP (.mk 1 o n s ks) ↔ (0 ≤ o ∧ o ≤ 0 ∧ 0 ≤ n ∧ n ≤ 1 ∧ calP s false ∧ 0 ≤ ks.length ∧ ks.length ≤ 0)) := Lib.hid (by simp [fitP, fitK, X.k, X.o, X.n, X.s, X.ks])
          clear hk0
          by_cases hs0 : s = []
          · subst hs0
            by_cases ho0 : o = 0
            · subst ho0
              by_cases hnN : 0 ≤ n
              · by_cases hl1 : ks.length = 0
                · have hl1' : (ks.length : Int) = 0 := by omega
                  by_cases hx1 : n ≤ 1
                  · have HF : Hid (fitB (.mk 1 0 n [] ks) = true) := fitB_true (HX.out.2 ⟨by omega, by omega, by omega, by omega, rfl, by omega, by omega⟩)
                    go_wp2_with fail
                    go_ret
                    exact ⟨ret_d (HE.out.trans HF.out).symm, HBW.out⟩
                  · have HF : Hid (fitB (.mk 1 0 n [] ks) = false) := fitB_false fun hp => by have hq := HX.out.1 hp; omega
                    go_wp2_with fail
                    go_ret
                    exact ⟨ret_d (HE.out.trans HF.out).symm, HBW.out⟩
                · have l1 : ((ks.length : Int) == 0) = false := beq_eq_false_iff_ne.2 (by omega)
                  have l2 : (ks.length == 0) = false := by simpa using hl1
                  have HF : Hid (fitB (.mk 1 0 n [] ks) = false) := fitB_false fun hp => by have hq := HX.out.1 hp; omega
                  go_wp2_with fail
                  go_ret
                  exact ⟨ret_d (HE.out.trans HF.out).symm, HBW.out⟩
              · have HF : Hid (fitB (.mk 1 0 n [] ks) = false) := fitB_false fun hp => by have hq := HX.out.1 hp; omega
                go_wp2_with fail
                go_ret
                exact ⟨ret_d (HE.out.trans HF.out).symm, HBW.out⟩
            · have q1 : (o == 0) = false := by simpa using ho0
              have q2 : (o != 0) = true := by simpa using ho0
              have HF : Hid (fitB (.mk 1 o n [] ks) = false) := fitB_false fun hp => by have hq := HX.out.1 hp; omega
              go_wp2_with fail
              go_ret
              exact ⟨ret_d (HE.out.trans HF.out).symm, HBW.out⟩
          · have q1 : (s == []) = false := by simpa using hs0
            have q2 : (s != []) = true := by simpa using hs0
            have q3 : (!s.isEmpty) = true := by cases s with | nil => exact absurd rfl hs0 | cons a l => rfl
            have HS0 := Lib.hid hs0
            clear hs0
            have HF : Hid (fitB (.mk 1 o n s ks) = false) := fitB_false fun hp => by have hq := HX.out.1 hp; exact HS0.out hq.2.2.2.2.1
            go_wp2_with fail
            go_ret
            exact ⟨ret_d (HE.out.trans HF.out).symm, HBW.out⟩
        by_cases hk2 : k = 2
        · subst hk2
          have HX : Hid (fitP (.mk 2 o n s ks) ↔ (0 ≤ o ∧ o ≤ 0 ∧ 0 ≤ n ∧ n ≤ 0 ∧ calP s true ∧ 0 ≤ ks.length ∧ ks.length ≤ 0)) := Lib.hid (by simp [fitP, fitK, X.k, X.o, X.n, X.s, X.ks])
          clear hk0
          clear hk1
          by_cases hn0 : n = 0
          · subst hn0
            by_cases ho0 : o = 0
            · subst ho0
              by_cases hl1 : ks.length = 0
              · have hl1' : (ks.length : Int) = 0 := by omega
                have HC0 : Hid (∀ w2, Below wr.heap.size wr w2 → Calls Tryd.prog 56 #[.string ⟨s.toArray⟩] w2 fun e w' => e = .returned (.bool (nameB s)) ∧ Below w2.heap.size w2 w') := fun w2 _ => refName_any s w2 hs9
                by_cases hx1 : nameB s = true
                · have HC : Hid (∀ w2, Below wr.heap.size wr w2 → Calls Tryd.prog 56 #[.string ⟨s.toArray⟩] w2 fun e w' => e = .returned (.bool true) ∧ Below w2.heap.size w2 w') := fun w2 h => by rw [← hx1]; exact HC0.out w2 h
                  have HF : Hid (fitB (.mk 2 0 0 s ks) = true) := fitB_true (HX.out.2 ⟨by omega, by omega, by omega, by omega, hx1, by omega, by omega⟩)
                  clear hx1 HC0
                  go_wp2_with (go_at_call 56; refine (HC.out _ (Below.refl _ _)).mono ?_; rintro e w1 ⟨rfl, hb1⟩; have HB1 := Lib.hid hb1; clear hb1)
                  go_ret
                  exact ⟨ret_d (HE.out.trans HF.out).symm, HBW.out.trans (HB1.out.mono hws)⟩
                · have hx2 : nameB s = false := by simpa using hx1
                  have HC : Hid (∀ w2, Below wr.heap.size wr w2 → Calls Tryd.prog 56 #[.string ⟨s.toArray⟩] w2 fun e w' => e = .returned (.bool false) ∧ Below w2.heap.size w2 w') := fun w2 h => by rw [← hx2]; exact HC0.out w2 h
                  have HF : Hid (fitB (.mk 2 0 0 s ks) = false) := fitB_false fun hp => hx1 (HX.out.1 hp).2.2.2.2.1
                  clear hx1 hx2 HC0
                  go_wp2_with (go_at_call 56; refine (HC.out _ (Below.refl _ _)).mono ?_; rintro e w1 ⟨rfl, hb1⟩; have HB1 := Lib.hid hb1; clear hb1)
                  go_ret
                  exact ⟨ret_d (HE.out.trans HF.out).symm, HBW.out.trans (HB1.out.mono hws)⟩
              · have l1 : ((ks.length : Int) == 0) = false := beq_eq_false_iff_ne.2 (by omega)
                have l2 : (ks.length == 0) = false := by simpa using hl1
                have HF : Hid (fitB (.mk 2 0 0 s ks) = false) := fitB_false fun hp => by have hq := HX.out.1 hp; omega
                go_wp2_with fail
                go_ret
                exact ⟨ret_d (HE.out.trans HF.out).symm, HBW.out⟩
            · have q1 : (o == 0) = false := by simpa using ho0
              have q2 : (o != 0) = true := by simpa using ho0
              have HF : Hid (fitB (.mk 2 o 0 s ks) = false) := fitB_false fun hp => by have hq := HX.out.1 hp; omega
              go_wp2_with fail
              go_ret
              exact ⟨ret_d (HE.out.trans HF.out).symm, HBW.out⟩
          · have q1 : (n == 0) = false := by simpa using hn0
            have q2 : (n != 0) = true := by simpa using hn0
            have HF : Hid (fitB (.mk 2 o n s ks) = false) := fitB_false fun hp => by have hq := HX.out.1 hp; omega
            go_wp2_with fail
            go_ret
            exact ⟨ret_d (HE.out.trans HF.out).symm, HBW.out⟩
        by_cases hk3 : k = 3
        · subst hk3
          have HX : Hid (fitP (.mk 3 o n s ks) ↔ (0 ≤ o ∧ o ≤ 2 ∧ 0 ≤ n ∧ n ≤ 0 ∧ calP s false ∧ 1 ≤ ks.length ∧ ks.length ≤ 1)) := Lib.hid (by simp [fitP, fitK, X.k, X.o, X.n, X.s, X.ks])
          clear hk0
          clear hk1
          clear hk2
          by_cases hn0 : n = 0
          · subst hn0
            by_cases hs0 : s = []
            · subst hs0
              by_cases hoN : 0 ≤ o
              · by_cases hl1 : ks.length = 1
                · have hl1' : (ks.length : Int) = 1 := by omega
                  by_cases hx1 : o ≤ 2
                  · have HF : Hid (fitB (.mk 3 o 0 [] ks) = true) := fitB_true (HX.out.2 ⟨by omega, by omega, by omega, by omega, rfl, by omega, by omega⟩)
                    go_wp2_with fail
                    go_ret
                    exact ⟨ret_d (HE.out.trans HF.out).symm, HBW.out⟩
                  · have HF : Hid (fitB (.mk 3 o 0 [] ks) = false) := fitB_false fun hp => by have hq := HX.out.1 hp; omega
                    go_wp2_with fail
                    go_ret
                    exact ⟨ret_d (HE.out.trans HF.out).symm, HBW.out⟩
                · have l1 : ((ks.length : Int) == 1) = false := beq_eq_false_iff_ne.2 (by omega)
                  have l2 : (ks.length == 1) = false := by simpa using hl1
                  have HF : Hid (fitB (.mk 3 o 0 [] ks) = false) := fitB_false fun hp => by have hq := HX.out.1 hp; omega
                  go_wp2_with fail
                  go_ret
                  exact ⟨ret_d (HE.out.trans HF.out).symm, HBW.out⟩
              · have HF : Hid (fitB (.mk 3 o 0 [] ks) = false) := fitB_false fun hp => by have hq := HX.out.1 hp; omega
                go_wp2_with fail
                go_ret
                exact ⟨ret_d (HE.out.trans HF.out).symm, HBW.out⟩
            · have q1 : (s == []) = false := by simpa using hs0
              have q2 : (s != []) = true := by simpa using hs0
              have q3 : (!s.isEmpty) = true := by cases s with | nil => exact absurd rfl hs0 | cons a l => rfl
              have HS0 := Lib.hid hs0
              clear hs0
              have HF : Hid (fitB (.mk 3 o 0 s ks) = false) := fitB_false fun hp => by have hq := HX.out.1 hp; exact HS0.out hq.2.2.2.2.1
              go_wp2_with fail
              go_ret
              exact ⟨ret_d (HE.out.trans HF.out).symm, HBW.out⟩
          · have q1 : (n == 0) = false := by simpa using hn0
            have q2 : (n != 0) = true := by simpa using hn0
            have HF : Hid (fitB (.mk 3 o n s ks) = false) := fitB_false fun hp => by have hq := HX.out.1 hp; omega
            go_wp2_with fail
            go_ret
            exact ⟨ret_d (HE.out.trans HF.out).symm, HBW.out⟩
        by_cases hk4 : k = 4
        · subst hk4
          have HX : Hid (fitP (.mk 4 o n s ks) ↔ (0 ≤ o ∧ o ≤ 15 ∧ 0 ≤ n ∧ n ≤ 0 ∧ calP s false ∧ 2 ≤ ks.length ∧ ks.length ≤ 2)) := Lib.hid (by simp [fitP, fitK, X.k, X.o, X.n, X.s, X.ks])
          clear hk0
          clear hk1
          clear hk2
          clear hk3
          by_cases hn0 : n = 0
          · subst hn0
            by_cases hs0 : s = []
            · subst hs0
              by_cases hoN : 0 ≤ o
              · by_cases hl1 : ks.length = 2
                · have hl1' : (ks.length : Int) = 2 := by omega
                  by_cases hx1 : o ≤ 15
                  · have HF : Hid (fitB (.mk 4 o 0 [] ks) = true) := fitB_true (HX.out.2 ⟨by omega, by omega, by omega, by omega, rfl, by omega, by omega⟩)
                    go_wp2_with fail
                    go_ret
                    exact ⟨ret_d (HE.out.trans HF.out).symm, HBW.out⟩
                  · have HF : Hid (fitB (.mk 4 o 0 [] ks) = false) := fitB_false fun hp => by have hq := HX.out.1 hp; omega
                    go_wp2_with fail
                    go_ret
                    exact ⟨ret_d (HE.out.trans HF.out).symm, HBW.out⟩
                · have l1 : ((ks.length : Int) == 2) = false := beq_eq_false_iff_ne.2 (by omega)
                  have l2 : (ks.length == 2) = false := by simpa using hl1
                  have HF : Hid (fitB (.mk 4 o 0 [] ks) = false) := fitB_false fun hp => by have hq := HX.out.1 hp; omega
                  go_wp2_with fail
                  go_ret
                  exact ⟨ret_d (HE.out.trans HF.out).symm, HBW.out⟩
              · have HF : Hid (fitB (.mk 4 o 0 [] ks) = false) := fitB_false fun hp => by have hq := HX.out.1 hp; omega
                go_wp2_with fail
                go_ret
                exact ⟨ret_d (HE.out.trans HF.out).symm, HBW.out⟩
            · have q1 : (s == []) = false := by simpa using hs0
              have q2 : (s != []) = true := by simpa using hs0
              have q3 : (!s.isEmpty) = true := by cases s with | nil => exact absurd rfl hs0 | cons a l => rfl
              have HS0 := Lib.hid hs0
              clear hs0
              have HF : Hid (fitB (.mk 4 o 0 s ks) = false) := fitB_false fun hp => by have hq := HX.out.1 hp; exact HS0.out hq.2.2.2.2.1
              go_wp2_with fail
              go_ret
              exact ⟨ret_d (HE.out.trans HF.out).symm, HBW.out⟩
          · have q1 : (n == 0) = false := by simpa using hn0
            have q2 : (n != 0) = true := by simpa using hn0
            have HF : Hid (fitB (.mk 4 o n s ks) = false) := fitB_false fun hp => by have hq := HX.out.1 hp; omega
            go_wp2_with fail
            go_ret
            exact ⟨ret_d (HE.out.trans HF.out).symm, HBW.out⟩
        by_cases hk5 : k = 5
        · subst hk5
          have HX : Hid (fitP (.mk 5 o n s ks) ↔ (0 ≤ o ∧ o ≤ 0 ∧ 0 ≤ n ∧ n ≤ 0 ∧ calP s false ∧ 3 ≤ ks.length ∧ ks.length ≤ 3)) := Lib.hid (by simp [fitP, fitK, X.k, X.o, X.n, X.s, X.ks])
          clear hk0
          clear hk1
          clear hk2
          clear hk3
          clear hk4
          by_cases hn0 : n = 0
          · subst hn0
            by_cases hs0 : s = []
            · subst hs0
              by_cases ho0 : o = 0
              · subst ho0
                by_cases hl1 : ks.length = 3
                · have hl1' : (ks.length : Int) = 3 := by omega
                  have HF : Hid (fitB (.mk 5 0 0 [] ks) = true) := fitB_true (HX.out.2 ⟨by omega, by omega, by omega, by omega, rfl, by omega, by omega⟩)
                  go_wp2_with fail
                  go_ret
                  exact ⟨ret_d (HE.out.trans HF.out).symm, HBW.out⟩
                · have l1 : ((ks.length : Int) == 3) = false := beq_eq_false_iff_ne.2 (by omega)
                  have l2 : (ks.length == 3) = false := by simpa using hl1
                  have HF : Hid (fitB (.mk 5 0 0 [] ks) = false) := fitB_false fun hp => by have hq := HX.out.1 hp; omega
                  go_wp2_with fail
                  go_ret
                  exact ⟨ret_d (HE.out.trans HF.out).symm, HBW.out⟩
              · have q1 : (o == 0) = false := by simpa using ho0
                have q2 : (o != 0) = true := by simpa using ho0
                have HF : Hid (fitB (.mk 5 o 0 [] ks) = false) := fitB_false fun hp => by have hq := HX.out.1 hp; omega
                go_wp2_with fail
                go_ret
                exact ⟨ret_d (HE.out.trans HF.out).symm, HBW.out⟩
            · have q1 : (s == []) = false := by simpa using hs0
              have q2 : (s != []) = true := by simpa using hs0
              have q3 : (!s.isEmpty) = true := by cases s with | nil => exact absurd rfl hs0 | cons a l => rfl
              have HS0 := Lib.hid hs0
              clear hs0
              have HF : Hid (fitB (.mk 5 o 0 s ks) = false) := fitB_false fun hp => by have hq := HX.out.1 hp; exact HS0.out hq.2.2.2.2.1
              go_wp2_with fail
              go_ret
              exact ⟨ret_d (HE.out.trans HF.out).symm, HBW.out⟩
          · have q1 : (n == 0) = false := by simpa using hn0
            have q2 : (n != 0) = true := by simpa using hn0
            have HF : Hid (fitB (.mk 5 o n s ks) = false) := fitB_false fun hp => by have hq := HX.out.1 hp; omega
            go_wp2_with fail
            go_ret
            exact ⟨ret_d (HE.out.trans HF.out).symm, HBW.out⟩
        by_cases hk6 : k = 6
        · subst hk6
          have HX : Hid (fitP (.mk 6 o n s ks) ↔ (0 ≤ o ∧ o ≤ 0 ∧ 0 ≤ n ∧ n ≤ 0 ∧ calP s true ∧ 0 ≤ ks.length ∧ ks.length ≤ 1000)) := Lib.hid (by simp [fitP, fitK, X.k, X.o, X.n, X.s, X.ks])
          clear hk0
          clear hk1
          clear hk2
          clear hk3
          clear hk4
          clear hk5
          by_cases hn0 : n = 0
          · subst hn0
            by_cases ho0 : o = 0
            · subst ho0
              by_cases hl1 : (ks.length : Int) ≤ 1000
              · have HC0 : Hid (∀ w2, Below wr.heap.size wr w2 → Calls Tryd.prog 56 #[.string ⟨s.toArray⟩] w2 fun e w' => e = .returned (.bool (nameB s)) ∧ Below w2.heap.size w2 w') := fun w2 _ => refName_any s w2 hs9
                by_cases hx1 : nameB s = true
                · have HC : Hid (∀ w2, Below wr.heap.size wr w2 → Calls Tryd.prog 56 #[.string ⟨s.toArray⟩] w2 fun e w' => e = .returned (.bool true) ∧ Below w2.heap.size w2 w') := fun w2 h => by rw [← hx1]; exact HC0.out w2 h
                  have HF : Hid (fitB (.mk 6 0 0 s ks) = true) := fitB_true (HX.out.2 ⟨by omega, by omega, by omega, by omega, hx1, by omega, by omega⟩)
                  clear hx1 HC0
                  go_wp2_with (go_at_call 56; refine (HC.out _ (Below.refl _ _)).mono ?_; rintro e w1 ⟨rfl, hb1⟩; have HB1 := Lib.hid hb1; clear hb1)
                  go_ret
                  exact ⟨ret_d (HE.out.trans HF.out).symm, HBW.out.trans (HB1.out.mono hws)⟩
                · have hx2 : nameB s = false := by simpa using hx1
                  have HC : Hid (∀ w2, Below wr.heap.size wr w2 → Calls Tryd.prog 56 #[.string ⟨s.toArray⟩] w2 fun e w' => e = .returned (.bool false) ∧ Below w2.heap.size w2 w') := fun w2 h => by rw [← hx2]; exact HC0.out w2 h
                  have HF : Hid (fitB (.mk 6 0 0 s ks) = false) := fitB_false fun hp => hx1 (HX.out.1 hp).2.2.2.2.1
                  clear hx1 hx2 HC0
                  go_wp2_with (go_at_call 56; refine (HC.out _ (Below.refl _ _)).mono ?_; rintro e w1 ⟨rfl, hb1⟩; have HB1 := Lib.hid hb1; clear hb1)
                  go_ret
                  exact ⟨ret_d (HE.out.trans HF.out).symm, HBW.out.trans (HB1.out.mono hws)⟩
              · have HF : Hid (fitB (.mk 6 0 0 s ks) = false) := fitB_false fun hp => by have hq := HX.out.1 hp; omega
                go_wp2_with fail
                go_ret
                exact ⟨ret_d (HE.out.trans HF.out).symm, HBW.out⟩
            · have q1 : (o == 0) = false := by simpa using ho0
              have q2 : (o != 0) = true := by simpa using ho0
              have HF : Hid (fitB (.mk 6 o 0 s ks) = false) := fitB_false fun hp => by have hq := HX.out.1 hp; omega
              go_wp2_with fail
              go_ret
              exact ⟨ret_d (HE.out.trans HF.out).symm, HBW.out⟩
          · have q1 : (n == 0) = false := by simpa using hn0
            have q2 : (n != 0) = true := by simpa using hn0
            have HF : Hid (fitB (.mk 6 o n s ks) = false) := fitB_false fun hp => by have hq := HX.out.1 hp; omega
            go_wp2_with fail
            go_ret
            exact ⟨ret_d (HE.out.trans HF.out).symm, HBW.out⟩
        have HX : Hid (fitP (.mk k o n s ks) ↔ False) := Lib.hid ⟨fun hp => by simp only [fitP, X.k] at hp; omega, fun h => h.elim⟩
        have HF : Hid (fitB (.mk k o n s ks) = false) := fitB_false fun hp => HX.out.1 hp
        by_cases hneg : k < 0
        · have hkk : k ≤ 1 := by omega
          have g0 : (k == 0) = false := by simpa using hk0
          have g0' : (k != 0) = true := by simpa using hk0
          have g1 : (k == 1) = false := by simpa using hk1
          have g1' : (k != 1) = true := by simpa using hk1
          have g2 : (k == 2) = false := by simpa using hk2
          have g2' : (k != 2) = true := by simpa using hk2
          have g3 : (k == 3) = false := by simpa using hk3
          have g3' : (k != 3) = true := by simpa using hk3
          have g4 : (k == 4) = false := by simpa using hk4
          have g4' : (k != 4) = true := by simpa using hk4
          have g5 : (k == 5) = false := by simpa using hk5
          have g5' : (k != 5) = true := by simpa using hk5
          have g6 : (k == 6) = false := by simpa using hk6
          have g6' : (k != 6) = true := by simpa using hk6
          clear hk0 hk1 hk2 hk3 hk4 hk5 hk6 hneg
          by_cases hs0 : s = []
          · subst hs0
            by_cases ho0 : o = 0
            · subst ho0
              by_cases hnN : 0 ≤ n
              · go_wp2_with fail
                go_ret
                exact ⟨ret_d (HE.out.trans HF.out).symm, HBW.out⟩
              · go_wp2_with fail
                go_ret
                exact ⟨ret_d (HE.out.trans HF.out).symm, HBW.out⟩
            · have q1 : (o == 0) = false := by simpa using ho0
              have q2 : (o != 0) = true := by simpa using ho0
              go_wp2_with fail
              go_ret
              exact ⟨ret_d (HE.out.trans HF.out).symm, HBW.out⟩
          · have q1 : (s == []) = false := by simpa using hs0
            have q2 : (s != []) = true := by simpa using hs0
            have q3 : (!s.isEmpty) = true := by cases s with | nil => exact absurd rfl hs0 | cons a l => rfl
            have HS0 := Lib.hid hs0
            clear hs0
            go_wp2_with fail
            go_ret
            exact ⟨ret_d (HE.out.trans HF.out).symm, HBW.out⟩
        · have hkk : 7 ≤ k := by omega
          have g0 : (k == 0) = false := by simpa using hk0
          have g0' : (k != 0) = true := by simpa using hk0
          have g1 : (k == 1) = false := by simpa using hk1
          have g1' : (k != 1) = true := by simpa using hk1
          have g2 : (k == 2) = false := by simpa using hk2
          have g2' : (k != 2) = true := by simpa using hk2
          have g3 : (k == 3) = false := by simpa using hk3
          have g3' : (k != 3) = true := by simpa using hk3
          have g4 : (k == 4) = false := by simpa using hk4
          have g4' : (k != 4) = true := by simpa using hk4
          have g5 : (k == 5) = false := by simpa using hk5
          have g5' : (k != 5) = true := by simpa using hk5
          have g6 : (k == 6) = false := by simpa using hk6
          have g6' : (k != 6) = true := by simpa using hk6
          clear hk0 hk1 hk2 hk3 hk4 hk5 hk6 hneg
          by_cases hn0 : n = 0
          · subst hn0
            by_cases hs0 : s = []
            · subst hs0
              by_cases ho0 : o = 0
              · subst ho0
                go_wp2_with fail
                go_ret
                exact ⟨ret_d (HE.out.trans HF.out).symm, HBW.out⟩
              · have q1 : (o == 0) = false := by simpa using ho0
                have q2 : (o != 0) = true := by simpa using ho0
                go_wp2_with fail
                go_ret
                exact ⟨ret_d (HE.out.trans HF.out).symm, HBW.out⟩
            · have q1 : (s == []) = false := by simpa using hs0
              have q2 : (s != []) = true := by simpa using hs0
              have q3 : (!s.isEmpty) = true := by cases s with | nil => exact absurd rfl hs0 | cons a l => rfl
              have HS0 := Lib.hid hs0
              clear hs0
              go_wp2_with fail
              go_ret
              exact ⟨ret_d (HE.out.trans HF.out).symm, HBW.out⟩
          · have q1 : (n == 0) = false := by simpa using hn0
            have q2 : (n != 0) = true := by simpa using hn0
            go_wp2_with fail
            go_ret
            exact ⟨ret_d (HE.out.trans HF.out).symm, HBW.out⟩

end Go.Proofs.YtfajnflfonechaaDoor
