/- Parts: Pe0, Same, Br. -/
import Derived.Test.YtdabndiaflagpaaGreatDoorB26
import Derived.Test.YtdabndiaflagpaaGreatDoorB20
import Derived.Test.YtdabndiaflagpaaGreatDoorB25
import Derived.Test.YtdabndiaflagpaaGreatDoorB10
import Derived.Test.YtdabndiaflagpaaGreatDoorB24
import Derived.Test.YtdabndiaflagpaaGreatDoorB04
import Derived.Test.YtdabndiaflagpaaGreatDoorB16
set_option maxRecDepth 100000
set_option maxHeartbeats 4000000
set_option linter.unusedVariables false
namespace Go.Proofs.YtdabndiaflagpaaGreatDoor
open Go.RowKit

theorem PrEnv.up {B B' : Nat} {w : World} (h : PrEnv B w) (hB : B ≤ B') : PrEnv B' w := by
  obtain ⟨g1, g2, g4⟩ := h.lt_
  exact ⟨h.ops_, h.levs_, h.pre_, h.tab_, by omega, by omega, by omega⟩

set_option maxRecDepth 100000 in
set_option maxHeartbeats 2000000 in
theorem pexpr_any (x : X) (A : Option Addr) (c : Nat) (w : World) (S : Nat → Prop) (ht : ShapesAt w) (hok : x.ok) (hsz : x.size ≤ 1000000) (hk : KS w S A x.ks) (hS : ∀ b, S b → b < w.heap.size) (he : PrEnv w.heap.size w) :
    Calls Tryz.prog 20 #[ev x A c] w fun e w' => e = .returned (.string ⟨(if rightB x then x.txt else []).toArray⟩) ∧ Below w.heap.size w w' := by
  obtain ⟨w0, hw0⟩ : ∃ w0, w0 = w.alloc (.cells #[.int .i64 x.k, .int .i64 x.o, .int .i64 x.n, .string ⟨x.s.toArray⟩, .slice A x.ks.length c] 46) := ⟨_, rfl⟩
  have hb0 : Below w.heap.size w w0 := by rw [hw0]; exact (Below.refl _ _).alloc (Nat.le_refl _) _
  have HR0 : Hid (Row w0 w.heap.size 46 #[.int .i64 x.k, .int .i64 x.o, .int .i64 x.n, .string ⟨x.s.toArray⟩, .slice A x.ks.length c]) := Lib.hid (by rw [hw0]; exact Row.made _ _ _)
  have hk0 := hk.later hS hb0
  have hS0 := stay_lt hS hb0
  have HC := Lib.hid (Right_any x A c w0 S (ht.later hb0) hok (by omega) hk0 hS0)
  have HB0 := Lib.hid hb0
  have HK0 := Lib.hid hk0
  have HS := Lib.hid hS
  have HE0 : Hid (PrEnv w.heap.size w0) := Lib.hid (he.later hb0)
  have HX := Lib.hid (expr_all x.size x (Nat.le_refl _))
  have HZ := Lib.hid hsz
  have HRT : Hid (rightB x = true → x.shape = true) := Lib.hid fun h => by
    have : (inB x.depth 200 && x.shape) = true := h
    rw [Bool.and_eq_true] at this
    exact this.2
  clear hk hk0 hS0 hS ht hok hsz hb0 he
  obtain ⟨r, hr⟩ : ∃ r, r = rightB x := ⟨_, rfl⟩
  have HRR := Lib.hid hr
  rw [← hr] at HC HRT ⊢
  clear hr
  go_enter Tryz.func20, Tryz.ntmps20
  simp only [ev]
  simp only [ev] at HC
  go_upto_region 1 with fail
  rw [← hw0]
  clear hw0
  have c0 := HR0.out.cell 0
  have c1 := HR0.out.cell 1
  have c2 := HR0.out.cell 2
  have c3 := HR0.out.cell 3
  have c4 := HR0.out.cell 4
  simp at c0 c1 c2 c3 c4
  cases r with
  | false =>
    go_wp2_with (go_at_call 39; refine HC.out.mono ?_; rintro e w1 ⟨rfl, hb1⟩; have HB1 := Lib.hid hb1; clear hb1 HC)
    go_ret
    exact ⟨rfl, HB0.out.trans (HB1.out.mono HB0.out.size)⟩
  | true =>
    go_upto_region 3 with (go_at_call 39; refine HC.out.mono ?_; rintro e w1 ⟨rfl, hb1⟩; have HB1 := Lib.hid hb1; clear hb1 HC)
    clear c0 c1 c2 c3 c4
    have hbw : Below w.heap.size w w1 := HB0.out.trans (HB1.out.mono HB0.out.size)
    have HBW := Lib.hid hbw
    obtain ⟨w2, hw2⟩ : ∃ w2, w2 = w1.alloc (.cells #[.pointer none, .slice none 0 0] 87) := ⟨_, rfl⟩
    have hb2 : Below w1.heap.size w1 w2 := by rw [hw2]; exact (Below.refl _ _).alloc (Nat.le_refl _) _
    have hr2 := (HR0.out.below HB1.out HR0.out.lt).below hb2 (HR0.out.below HB1.out HR0.out.lt).lt
    have c0 := hr2.cell 0
    have c1 := hr2.cell 1
    have c2 := hr2.cell 2
    have c3 := hr2.cell 3
    have c4 := hr2.cell 4
    simp at c0 c1 c2 c3 c4
    have hws : WS w1.heap.size w1.heap.size [] w2 := by rw [hw2]; exact WS.made w1
    have hk2 : KS w2 S A x.ks := (HK0.out.later (stay_lt HS.out HB0.out) HB1.out).later (fun b hb => stay_lt HS.out hbw b hb) hb2
    have he2 : PrEnv w1.heap.size w2 := ((HE0.out.later (HB1.out.mono HB0.out.size)).up hbw.size).later hb2
    have HX2 := Lib.hid (HX.out w1.heap.size w1.heap.size [] A c w2 S (by first | exact HRT.out rfl | exact HRT.out trivial | exact HRT.out) hk2 (fun q hq => stay_lt HS.out hbw q hq) hws he2 hb2.size (by have := HZ.out; simp; omega))
    have HB2 := Lib.hid hb2
    clear hws hk2 he2 hr2 hbw hb2
    simp only [ev] at HX2
    go_upto_region 4 with fail
    rw [← hw2]
    clear hw2
    have hpz : 1 = 1 := rfl
    go_wp2_with (first | (go_at_call 40; refine HX2.out.mono ?_; rintro e w3 ⟨rfl, h3, h4⟩; have HW3 := Lib.hid h3; have HF3 := Lib.hid h4; clear h3 h4 c0 c1 c2 c3 c4) | (go_at_call 30; refine (wstr_any w1.heap.size w1.heap.size _ w3 HW3.out (Nat.le_trans HB2.out.size HF3.out.below_.size)).mono ?_; rintro e w4 ⟨rfl, h5⟩; have HB4 := Lib.hid h5; clear h5))
    go_ret
    exact ⟨rfl, HBW.out.trans ((HB2.out.trans (HF3.out.below_.trans HB4.out)).mono HBW.out.size)⟩

end Go.Proofs.YtdabndiaflagpaaGreatDoor
namespace Go.Proofs.YtdabndiaflagpaaGreatDoor
open Go.RowKit

def SameP (N : Nat) : Prop := ∀ (x y : X) (A B : Option Addr) (c d : Nat) (w : World) (S : Nat → Prop), x.size ≤ N → KS w S A x.ks → y.size ≤ 1099511627775 → KS w S B y.ks → (∀ b, S b → b < w.heap.size) →
    Calls Tryz.prog 21 #[ev x A c, ev y B d] w fun e w' => e = .returned (.bool (x.same y)) ∧ Below w.heap.size w w'


set_option maxRecDepth 100000 in
set_option maxHeartbeats 1000000 in
theorem EqualFunc_any (N : Nat) (hP : SameP N) (hM : N ≤ 1099511627775) (xs ys : List X) (A B : Option Addr) (c d : Nat) (w : World) (S : Nat → Prop) (hx : X.sizes xs ≤ N) (hy : X.sizes ys ≤ 1099511627775) (hA : KS w S A xs) (hB : KS w S B ys) (hS : ∀ b, S b → b < w.heap.size) :
    Calls Tryz.prog 41 #[.slice A xs.length c, .slice B ys.length d, .func (.func 21) #[] #[]] w fun e w' => e = .returned (.bool (X.sames xs ys)) ∧ Below w.heap.size w w' := by
  have hxl := X.sizes_length xs
  have hyl := X.sizes_length ys
  have HA := Lib.hid hA
  have HB := Lib.hid hB
  clear hA hB
  by_cases hl : xs.length = ys.length
  · have HL := Lib.hid hl
    rw [← hl]
    clear hl hyl
    have HY := Lib.hid hy
    clear hy
    go_enter Tryz.func41, Tryz.ntmps41
    go_wp2_with fail
    go_loopw [6, 17] (fun r i wr => r = .bool false ∧ ∃ j : Nat, j ≤ xs.length ∧ i = .int .i64 j ∧ (∀ (q : Nat) x y, q < j → xs[q]? = some x → ys[q]? = some y → x.same y = true) ∧ Below w.heap.size w wr) (fun _ i _ => xs.length - (intOf i).toNat)
    case atStart => exact ⟨rfl, 0, by omega, rfl, fun q x y h => by omega, Below.refl _ _⟩
    case round =>
      obtain ⟨rfl, j, hj, rfl, hs, hbw⟩ := hrel
      have HSM := Lib.hid hs
      have HBW := Lib.hid hbw
      have hws := hbw.size
      clear hs
      by_cases hlt : j < xs.length
      · obtain ⟨x, hx1⟩ : ∃ x, xs[j]? = some x := ⟨_, List.getElem?_eq_getElem hlt⟩
        obtain ⟨y, hy1⟩ : ∃ y, ys[j]? = some y := ⟨_, List.getElem?_eq_getElem (by have := HL.out; omega)⟩
        obtain ⟨b, off, A', c', rfl, d0, d1, d2, d3, d4, hk, hbl⟩ := HA.out.kid_at hS hbw hx1
        obtain ⟨b2, off2, B', c2, rfl, e0, e1, e2, e3, e4, hk2, hbl2⟩ := HB.out.kid_at hS hbw hy1
        have hb1' : b < wr.heap.size := by omega
        have hb2' : b2 < wr.heap.size := by omega
        have HX := Lib.hid hx1
        have HY1 := Lib.hid hy1
        have HC : Hid (∀ w2, Below wr.heap.size wr w2 → Calls Tryz.prog 21 #[.agg #[.int .i64 x.k, .int .i64 x.o, .int .i64 x.n, .string ⟨x.s.toArray⟩, .slice A' x.ks.length c'], .agg #[.int .i64 y.k, .int .i64 y.o, .int .i64 y.n, .string ⟨y.s.toArray⟩, .slice B' y.ks.length c2]] w2 fun e w' => e = .returned (.bool (x.same y)) ∧ Below w2.heap.size w2 w') :=
          fun w2 hb2 => hP x y A' B' c' c2 w2 S (Nat.le_trans (X.sizes_at hx1) hx) (hk.later (fun b h => Nat.lt_of_lt_of_le (hS b h) hws) hb2) (Nat.le_trans (X.sizes_at hy1) HY.out) (hk2.later (fun b h => Nat.lt_of_lt_of_le (hS b h) hws) hb2) (fun b h => Nat.lt_of_lt_of_le (hS b h) (Nat.le_trans hws hb2.size))
        clear hx1 hy1 hk hk2 hbw
        by_cases he : x.same y = true
        · have HE := Lib.hid he
          rw [he] at HC
          clear he
          go_wp2_with (go_at_call 21; refine (HC.out _ (((Below.refl _ _).alloc (Nat.le_refl _) _).alloc (by simp) _)).mono ?_; rintro e w1 ⟨rfl, hb1⟩; have HB1 := Lib.hid hb1; clear hb1)
          go_roundw
          case rel => exact ⟨rfl, j + 1, by omega, by go_num, fun q u v hq hu hv => by
            by_cases e : q = j
            · subst e; rw [HX.out] at hu; rw [HY1.out] at hv; injection hu with hu; injection hv with hv; rw [← hu, ← hv]; exact HE.out
            · exact HSM.out q u v (by omega) hu hv, HBW.out.trans ((((Below.refl _ _).alloc hws _).alloc (by simp; omega) _).trans (HB1.out.mono (by simp; omega)))⟩
          case measure => simp [intOf]; omega
        · have he' : x.same y = false := by simpa using he
          have HE := Lib.hid he'
          rw [he'] at HC
          clear he he'
          go_wp2_with (go_at_call 21; refine (HC.out _ (((Below.refl _ _).alloc (Nat.le_refl _) _).alloc (by simp) _)).mono ?_; rintro e w1 ⟨rfl, hb1⟩; have HB1 := Lib.hid hb1; clear hb1)
          go_ret
          exact ⟨ret_b (X.sames_stop HX.out HY1.out HE.out).symm, HBW.out.trans ((((Below.refl _ _).alloc hws _).alloc (by simp; omega) _).trans (HB1.out.mono (by simp; omega)))⟩
      · have HE : Hid (X.sames xs ys = true) := X.sames_all HL.out fun q x y hx hy => HSM.out q x y (by
          rcases Nat.lt_or_ge q xs.length with h' | h'
          · omega
          · rw [List.getElem?_eq_none h'] at hx; cases hx) hx hy
        clear hbw
        go_wp2_with fail
        go_ret
        exact ⟨ret_b HE.out.symm, HBW.out⟩
  · have HE : Hid (X.sames xs ys = false) := X.sames_length hl
    have l1 : ((xs.length : Int) == (ys.length : Int)) = false := beq_eq_false_iff_ne.2 (by omega)
    have l2 : ((xs.length : Int) != (ys.length : Int)) = true := bne_iff_ne.2 (by omega)
    have l3 : (xs.length == ys.length) = false := by simpa using hl
    have l4 : (xs.length != ys.length) = true := by simpa using hl
    clear hl
    go_enter Tryz.func41, Tryz.ntmps41
    go_wp2_with fail
    go_ret
    exact ⟨ret_b HE.out.symm, Below.refl _ _⟩

set_option maxRecDepth 100000 in
set_option maxHeartbeats 1000000 in
theorem Same_all (N : Nat) (hM : N ≤ 1099511627775) : SameP N := by
  induction N with
  | zero => intro x y A B c d w S h; have := x.size_pos; omega
  | succ N ih0 =>
    have ih := ih0 (by omega)
    clear ih0
    intro x y A B c d w S hN hA hy hB hS
    obtain ⟨k, o, n, s, ks⟩ := x
    obtain ⟨k', o', n', s', ks'⟩ := y
    simp only [X.size, X.ks, ev, X.k, X.o, X.n, X.s] at hN hA hy hB ⊢
    by_cases hk : k = k'
    · subst hk
      by_cases ho : o = o'
      · subst ho
        by_cases hn : n = n'
        · subst hn
          by_cases hs : s = s'
          · subst hs
            have HA := Lib.hid hA
            have HB := Lib.hid hB
            have HC : Hid (∀ w2, Below w.heap.size w w2 → Calls Tryz.prog 41 #[.slice A ks.length c, .slice B ks'.length d, .func (.func 21) #[] #[]] w2 fun e w' => e = .returned (.bool (X.sames ks ks')) ∧ Below w2.heap.size w2 w') := fun w2 hb2 => EqualFunc_any N ih (by omega) ks ks' A B c d w2 S (by omega) (by omega) (hA.later hS hb2) (hB.later hS hb2) (fun b h => Nat.lt_of_lt_of_le (hS b h) hb2.size)
            have HE : Hid ((X.mk k o n s ks).same (.mk k o n s ks') = X.sames ks ks') := by simp [X.same, Hid]
            clear hA hB
            go_enter Tryz.func21, Tryz.ntmps21
            go_wp2_with (go_at_call 41; refine (HC.out _ (((Below.refl _ _).alloc (Nat.le_refl _) _).alloc (by simp) _)).mono ?_; rintro e w1 ⟨rfl, hb1⟩; have HB1 := Lib.hid hb1; clear hb1)
            go_ret
            exact ⟨ret_b HE.out.symm, (((Below.refl _ _).alloc (Nat.le_refl _) _).alloc (by simp) _).trans (HB1.out.mono (by simp; omega))⟩
          · have q1 : (s == s') = false := by simpa using hs
            have q2 : (s != s') = true := by simpa using hs
            have HE : Hid ((X.mk k o n s ks).same (.mk k o n s' ks') = false) := Lib.hid (by simp [X.same, hs])
            clear hs
            go_enter Tryz.func21, Tryz.ntmps21
            go_wp2_with fail
            go_ret
            exact ⟨ret_b HE.out.symm, ((Below.refl _ _).alloc (Nat.le_refl _) _).alloc (by simp) _⟩
        · have q1 : (n == n') = false := by simpa using hn
          have q2 : (n != n') = true := by simpa using hn
          have HE : Hid ((X.mk k o n s ks).same (.mk k o n' s' ks') = false) := Lib.hid (by simp [X.same, hn])
          clear hn
          go_enter Tryz.func21, Tryz.ntmps21
          go_wp2_with fail
          go_ret
          exact ⟨ret_b HE.out.symm, ((Below.refl _ _).alloc (Nat.le_refl _) _).alloc (by simp) _⟩
      · have q1 : (o == o') = false := by simpa using ho
        have q2 : (o != o') = true := by simpa using ho
        have HE : Hid ((X.mk k o n s ks).same (.mk k o' n' s' ks') = false) := Lib.hid (by simp [X.same, ho])
        clear ho
        go_enter Tryz.func21, Tryz.ntmps21
        go_wp2_with fail
        go_ret
        exact ⟨ret_b HE.out.symm, ((Below.refl _ _).alloc (Nat.le_refl _) _).alloc (by simp) _⟩
    · have q1 : (k == k') = false := by simpa using hk
      have q2 : (k != k') = true := by simpa using hk
      have HE : Hid ((X.mk k o n s ks).same (.mk k' o' n' s' ks') = false) := Lib.hid (by simp [X.same, hk])
      clear hk
      go_enter Tryz.func21, Tryz.ntmps21
      go_wp2_with fail
      go_ret
      exact ⟨ret_b HE.out.symm, ((Below.refl _ _).alloc (Nat.le_refl _) _).alloc (by simp) _⟩

end Go.Proofs.YtdabndiaflagpaaGreatDoor
namespace Go.Proofs.YtdabndiaflagpaaGreatDoor
open Go.RowKit
attribute [local go_sem] Tame.Op Tame.upon

mutual
theorem X.eq_of_same : ∀ (x y : X), x.same y = true → x = y
  | .mk k o n s ks, .mk k' o' n' s' ks', h => by
    simp only [X.same, Bool.and_eq_true, decide_eq_true_eq] at h
    obtain ⟨⟨⟨⟨h1, h2⟩, h3⟩, h4⟩, h5⟩ := h
    rw [h1, h2, h3, h4, X.eq_of_sames ks ks' h5]
theorem X.eq_of_sames : ∀ (xs ys : List X), X.sames xs ys = true → xs = ys
  | [], [], _ => rfl
  | [], _ :: _, h => by simp [X.sames] at h
  | _ :: _, [], h => by simp [X.sames] at h
  | x :: xs, y :: ys, h => by
    simp only [X.sames, Bool.and_eq_true] at h
    rw [X.eq_of_same x y h.1, X.eq_of_sames xs ys h.2]
end
theorem str_app6 (a b : T) : (⟨a.toArray⟩ : ByteArray) ++ ⟨b.toArray⟩ = ⟨(a ++ b).toArray⟩ := by
  apply ByteArray.ext
  simp
theorem br_arg (t : T) : ((⟨#[110, 111, 100, 101, 32, 102, 40, 41, 32, 114, 101, 116, 117, 114, 110, 115, 32, 40, 98, 58, 32, 105, 110, 116, 41, 59, 32, 108, 101, 116, 32, 98, 32, 61, 32]⟩ : ByteArray) ++ ⟨t.toArray⟩) ++ ⟨#[59, 32, 116, 101, 108]⟩ = ⟨(hdB ++ (t ++ tlB)).toArray⟩ := by
  have h1 : (⟨#[110, 111, 100, 101, 32, 102, 40, 41, 32, 114, 101, 116, 117, 114, 110, 115, 32, 40, 98, 58, 32, 105, 110, 116, 41, 59, 32, 108, 101, 116, 32, 98, 32, 61, 32]⟩ : ByteArray) = ⟨hdB.toArray⟩ := rfl
  have h2 : (⟨#[59, 32, 116, 101, 108]⟩ : ByteArray) = ⟨tlB.toArray⟩ := rfl
  rw [h1, h2, str_app6, str_app6, List.append_assoc]
/-- What Parse says of the text without a pair of brackets. -/
def BrBad (t : T) (w : World) : Prop := ∃ z1 z2 k, k ≠ 0 ∧ Calls Tryz.prog 15 #[.string ⟨(hdB ++ (t ++ tlB)).toArray⟩] w fun e w' => e = .returned (.tuple #[.agg #[.slice none 0 0], .agg #[.int .i64 z1, .int .i64 z2], .int .i64 k]) ∧ Below w.heap.size w w'
def BrOk (x : X) (t : T) (w : World) : Prop := ∃ n q ns r, n.eqs = q :: r ∧ q.rhs.same x = false ∧ okQ q ∧ Calls Tryz.prog 15 #[.string ⟨(hdB ++ (t ++ tlB)).toArray⟩] w fun e w' => ∃ A c, e = .returned (.tuple #[.agg #[.slice A (List.length ns + 1) c], .agg #[.int .i64 0, .int .i64 0], .int .i64 0]) ∧ NS w' (Old w') A (n :: ns) ∧ Below w.heap.size w w'
theorem brP_any (x : X) (s t : T) (w : World) (hs : cO s = cO t + 1) (hx : s = x.txt) (hl : t.length ≤ 100000) (he : LexEnv w) (hpe : PaEnv w.heap.size w) : BrBad t w ∨ BrOk x t w := by
  have hz : (hdB ++ (t ++ tlB)).length ≤ 999999 := by simp [hdB, tlB]; omega
  rcases lexA_cases (hdB ++ (t ++ tlB)) with ⟨ts, h⟩ | ⟨a, code, h, hc⟩
  · have hw := lexA_wf h (by omega)
    cases hp : progF (ts.length + 1) [] ts with
    | ok ns L =>
      obtain ⟨n, q, r, r', rfl, hq, hct⟩ := need_brackets h hp hl
      obtain ⟨_, hok, _⟩ := progF_right hw.1 (by omega) hp
      refine .inr ⟨n, q, r, r', hq, ?_, ?_, (parse_ok h hp w hz he hpe).mono fun e w' ⟨A, c, he, hb, hn⟩ => ⟨A, c, he, hn.move fun b hb => ⟨hb.2, rfl⟩, hb⟩⟩
      · cases hsm : q.rhs.same x with
        | false => rfl
        | true =>
          have := X.eq_of_same _ _ hsm
          rw [this] at hct
          unfold ct at hct
          rw [← hx] at hct
          omega
      · exact (hok.2 n (List.mem_cons_self ..)).2.2.2.2.2 q (by rw [hq]; exact List.mem_cons_self ..)
    | bad k a =>
      have hk := (progF_bad (N := (hdB ++ (t ++ tlB)).length) (lexA_ends h).2 hp).1
      exact .inl ⟨_, _, k, hk, parse_bad h hp w hz he hpe⟩
  · exact .inl ⟨_, _, code, hc, parse_no hc h w (by omega) he⟩

end Go.Proofs.YtdabndiaflagpaaGreatDoor
