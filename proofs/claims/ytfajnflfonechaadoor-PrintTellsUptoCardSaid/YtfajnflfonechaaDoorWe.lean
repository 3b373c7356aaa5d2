/- DERIVED. The printer's expressions: the code. -/
import Derived.Test.YtfajnflfonechaaDoorWr
import Derived.Test.YtfajnflfonechaaDoorTx
import Derived.Deep.CutRange
import Derived.Lib.AppendIntMem
namespace Go.Proofs.YtfajnflfonechaaDoor
open Go.RowKit

/-- What the printer reads of package-level variables, in blocks below B. -/
structure PrEnv (B : Nat) (w : World) : Prop where
  ops_ : ∀ (i : Nat) t, opS[i]? = some t → w.cell? ⟨3, i * 2, none⟩ = some (.string ⟨t.toArray⟩)
  levs_ : ∀ (i : Nat) z, levL[i]? = some z → w.cell? ⟨3, i * 2 + 1, none⟩ = some (.int .i64 z)
  pre_ : ∀ (i : Nat) t, preS[i]? = some t → w.cell? ⟨2, i, none⟩ = some (.string ⟨t.toArray⟩)
  types_ : ∀ (i : Nat) t, ([[105, 110, 116], [98, 111, 111, 108]] : List T)[i]? = some t → w.cell? ⟨1, i, none⟩ = some (.string ⟨t.toArray⟩)
  tab_ : Lib.TabIs Tryd.prog w "internal/strconv.uint64pow10" .u64 Lib.pow10Tab
  lt_ : 3 < B ∧ 2 < B ∧ 1 < B ∧ 5 < B
theorem gPow : Tryd.prog.globalNamed "internal/strconv.uint64pow10" = some 5 := by kernel_rfl
theorem PrEnv.later {B : Nat} {w w' : World} (h : PrEnv B w) (hb : Below B w w') : PrEnv B w' := by
  obtain ⟨g1, g2, g3, g4⟩ := h.lt_
  refine ⟨fun i t hi => (hb.cell (p := ⟨3, _, none⟩) g1).trans (h.ops_ i t hi), fun i z hi => (hb.cell (p := ⟨3, _, none⟩) g1).trans (h.levs_ i z hi), fun i t hi => (hb.cell (p := ⟨2, _, none⟩) g2).trans (h.pre_ i t hi), fun i t hi => (hb.cell (p := ⟨1, _, none⟩) g3).trans (h.types_ i t hi), ?_, h.lt_⟩
  have ht := h.tab_
  unfold Lib.TabIs World.var? at ht ⊢
  rw [gPow] at ht ⊢
  simp only [Option.bind_some] at ht ⊢
  rw [hb.block 5 g4]
  exact ht

theorem fmt_any (n : Int) (h0 : 0 ≤ n) (h1 : n ≤ 9223372036854775807) (B : Nat) (w : World) (he : PrEnv B w) : Calls Tryd.prog 60 #[.int .i64 n, .int .i64 10] w fun e w' => e = .returned (.string ⟨(Lib.decDigits n.toNat).toArray⟩) ∧ Below w.heap.size w w' :=
  (Tryd.strconv_FormatInt_10 n (by omega) h1 w he.tab_).mono fun e w' ⟨h, k, os, hw⟩ => by
    refine ⟨by rw [h]; unfold Lib.itoa; rw [if_neg (by omega)], ?_⟩
    subst hw
    exact Lib.below_grow _ w (Nat.le_refl _) k os
theorem fmtB_any (n : Int) (w : World) : Calls Tryd.prog 61 #[.bool (n == 1)] w fun e w' => e = .returned (.string ⟨(boolS n).toArray⟩) ∧ w = w' :=
  (Tryd.strconv_FormatBool (n == 1) w).mono fun e w' ⟨h, hw⟩ => by
    refine ⟨?_, hw.symm⟩
    rw [h]
    unfold boolS Lib.formatBool
    by_cases hn : n = 1
    · rw [if_pos hn, if_pos (by simpa using hn)]; rfl
    · rw [if_neg hn, if_neg (by simpa using hn)]; rfl

/-- put of a new row of texts. -/
theorem put_lit (B b : Nat) (l : T) (ts : List T) (n c : Nat) (w : World) (h : WS B b l w) (hn : ts.length = n) (hlen : l.length + ts.flatten.length ≤ 1000000000) (hfew : n ≤ 1000) (hBw : B ≤ w.heap.size) :
    Calls Tryd.prog 53 #[.pointer (some ⟨b, 0, none⟩), .slice (some ⟨w.heap.size, 0, none⟩) n c] (w.alloc (.cells (txs ts) 9)) fun e w' => e = .returned (.tuple #[]) ∧ WS B b (l ++ ts.flatten) w' ∧ Wrote B w w' := by
  subst hn
  have hb : Below w.heap.size w (w.alloc (.cells (txs ts) 9)) := (Below.refl _ _).alloc (Nat.le_refl _) _
  exact (put_any B b l ts w.heap.size c _ (h.later hb) hlen hfew (Nat.le_trans hBw hb.size) (Row.made _ _ _)).mono fun e w' ⟨h1, h2, h3⟩ => ⟨h1, h2, (Wrote.later hBw hb).trans h3⟩

set_option maxRecDepth 100000 in
set_option maxHeartbeats 2000000 in
theorem asked_any (n : Int) (h0 : 0 ≤ n) (h1 : n ≤ 6) (w : World) : Calls Tryd.prog 90 #[.int .i64 n] w fun e w' => e = .returned (.tuple #[.int .i64 (askL n), .int .i64 (askR n)]) ∧ w = w' := by
  have : n = 0 ∨ n = 1 ∨ n = 2 ∨ n = 3 ∨ n = 4 ∨ n = 5 ∨ n = 6 := by omega
  rcases this with rfl | rfl | rfl | rfl | rfl | rfl | rfl
  all_goals
    go_enter Tryd.func90, Tryd.ntmps90
    go_wp2_with fail
    go_ret2
    exact ⟨rfl, rfl⟩

theorem lev_other {x : X} (h5 : x.k ≠ 5) (h4 : x.k ≠ 4) (h3 : x.k ≠ 3) : x.lev = 8 := by unfold X.lev; rw [if_neg h5, if_neg h4, if_neg h3]
theorem levL_at {i : Nat} (h : i < 16) : levL[i]? = some (levOf (i : Int)) ∧ 0 ≤ levOf (i : Int) ∧ levOf (i : Int) ≤ 6 := by
  have : ∀ i : Fin 16, levL[i.1]? = some (levOf (i.1 : Int)) ∧ 0 ≤ levOf (i.1 : Int) ∧ levOf (i.1 : Int) ≤ 6 := by decide
  exact this ⟨i, h⟩
theorem opS_at {i : Nat} (h : i < 16) : opS[i]? = some (opS.getD i []) := by
  have : ∀ i : Fin 16, opS[i.1]? = some (opS.getD i.1 []) := by decide
  exact this ⟨i, h⟩
theorem preS_at {i : Nat} (h : i < 3) : preS[i]? = some (preS.getD i []) := by
  have : ∀ i : Fin 3, preS[i.1]? = some (preS.getD i.1 []) := by decide
  exact this ⟨i, h⟩

set_option maxRecDepth 100000 in
set_option maxHeartbeats 4000000 in
theorem lev_any (x : X) (A : Option Addr) (c B : Nat) (w : World) (hx : x.shape = true) (he : PrEnv B w) (hB : B ≤ w.heap.size) : Calls Tryd.prog 112 #[ev x A c] w fun e w' => e = .returned (.int .i64 x.lev) ∧ Below w.heap.size w w' := by
  have hf := (shape_open hx).1
  clear hx
  cases x with
  | mk k o n s ks =>
    have hb : Below w.heap.size w (w.alloc (.cells #[.int .i64 k, .int .i64 o, .int .i64 n, .string ⟨s.toArray⟩, .slice A ks.length c] 61)) := (Below.refl _ _).alloc (Nat.le_refl _) _
    have hr : Row (w.alloc (.cells #[.int .i64 k, .int .i64 o, .int .i64 n, .string ⟨s.toArray⟩, .slice A ks.length c] 61)) w.heap.size 61 #[.int .i64 k, .int .i64 o, .int .i64 n, .string ⟨s.toArray⟩, .slice A ks.length c] := Row.made _ _ _
    have he2 := he.later (hb.mono hB)
    have HR := Lib.hid hr
    have HB := Lib.hid hb
    have HE := Lib.hid he2
    clear hb hr he2 he hB
    go_enter Tryd.func112, Tryd.ntmps112
    simp only [ev, X.k, X.o, X.n, X.s, X.ks]
    go_upto_region 1 with fail
    generalize w.alloc (.cells #[.int .i64 k, .int .i64 o, .int .i64 n, .string ⟨s.toArray⟩, .slice A ks.length c] 61) = w0 at HR HB HE ⊢
    have c0 := HR.out.cell 0
    have c1 := HR.out.cell 1
    simp at c0 c1
    by_cases h4 : k = 4
    · subst h4
      have ho : 0 ≤ o ∧ o ≤ 15 := by
        rcases hf with ⟨h1, _⟩ | ⟨h1, _⟩ | ⟨h1, _⟩ | ⟨h1, _⟩ | ⟨h1, h2⟩ | ⟨h1, _⟩ | ⟨h1, _⟩
        · exact absurd h1 (by simp [X.k])
        · exact absurd h1 (by simp [X.k])
        · exact absurd h1 (by simp [X.k])
        · exact absurd h1 (by simp [X.k])
        · exact ⟨h2.1, h2.2.1⟩
        · exact absurd h1 (by simp [X.k])
        · exact absurd h1 (by simp [X.k])
      obtain ⟨i, rfl⟩ : ∃ i : Nat, o = (i : Int) := ⟨o.toNat, by omega⟩
      have hi : i < 16 := by omega
      have c2 := HE.out.levs_ i _ (levL_at hi).1
      go_wp2_with fail
      go_ret
      exact ⟨rfl, HB.out⟩
    · have h4' : (k == 4) = false := by simpa using h4
      by_cases h5 : k = 5
      · subst h5
        go_wp2_with fail
        go_ret
        exact ⟨rfl, HB.out⟩
      · have h5' : (k == 5) = false := by simpa using h5
        by_cases h3 : k = 3
        · subst h3
          go_wp2_with fail
          go_ret
          exact ⟨rfl, HB.out⟩
        · have h3' : (k == 3) = false := by simpa using h3
          have HL : Hid ((X.mk k o n s ks).lev = 8) := Lib.hid (lev_other h5 h4 h3)
          clear h3 h4 h5 hf
          go_wp2_with fail
          go_ret
          exact ⟨congrArg (fun z => Ending.returned (.int .i64 z)) HL.out.symm, HB.out⟩

set_option maxRecDepth 100000 in
set_option maxHeartbeats 4000000 in
theorem neg_any (x : X) (A : Option Addr) (c : Nat) (w : World) : Calls Tryd.prog 88 #[ev x A c] w fun e w' => e = .returned (.bool (negB x)) ∧ Below w.heap.size w w' := by
  cases x with
  | mk k o n s ks =>
    have hb : Below w.heap.size w (w.alloc (.cells #[.int .i64 k, .int .i64 o, .int .i64 n, .string ⟨s.toArray⟩, .slice A ks.length c] 61)) := (Below.refl _ _).alloc (Nat.le_refl _) _
    have hr : Row (w.alloc (.cells #[.int .i64 k, .int .i64 o, .int .i64 n, .string ⟨s.toArray⟩, .slice A ks.length c] 61)) w.heap.size 61 #[.int .i64 k, .int .i64 o, .int .i64 n, .string ⟨s.toArray⟩, .slice A ks.length c] := Row.made _ _ _
    have HR := Lib.hid hr
    have HB := Lib.hid hb
    clear hb hr
    go_enter Tryd.func88, Tryd.ntmps88
    simp only [ev, X.k, X.o, X.n, X.s, X.ks]
    go_upto_region 1 with fail
    generalize w.alloc (.cells #[.int .i64 k, .int .i64 o, .int .i64 n, .string ⟨s.toArray⟩, .slice A ks.length c] 61) = w0 at HR HB ⊢
    have c0 := HR.out.cell 0
    have c1 := HR.out.cell 1
    simp at c0 c1
    by_cases h3 : k = 3
    · subst h3
      by_cases h0 : o = 0
      · subst h0
        go_wp2_with fail
        go_ret
        exact ⟨rfl, HB.out⟩
      · have h0' : (o == 0) = false := by simpa using h0
        have HL : Hid (negB (X.mk 3 o n s ks) = false) := Lib.hid (decide_eq_false fun h => h0 h.2)
        clear h0
        go_wp2_with fail
        go_ret
        exact ⟨ret_bool HL.out.symm, HB.out⟩
    · have h3' : (k == 3) = false := by simpa using h3
      have HL : Hid (negB (X.mk k o n s ks) = false) := Lib.hid (decide_eq_false fun h => h3 h.1)
      clear h3
      go_wp2_with fail
      go_ret
      exact ⟨ret_bool HL.out.symm, HB.out⟩

end Go.Proofs.YtfajnflfonechaaDoor
