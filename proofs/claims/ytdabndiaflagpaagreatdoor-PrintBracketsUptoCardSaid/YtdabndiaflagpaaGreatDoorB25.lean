/- Parts: Wf0, SameB. -/
import Derived.Test.YtdabndiaflagpaaGreatDoorB12
import Derived.Test.YtdabndiaflagpaaGreatDoorB00
set_option maxRecDepth 100000
set_option maxHeartbeats 4000000
set_option linter.unusedVariables false
namespace Go.Proofs.YtdabndiaflagpaaGreatDoor
open Go.RowKit

/-- The code writes this expression's text. -/
def ExprOk (x : X) : Prop := ∀ (B b : Nat) (l : T) (A : Option Addr) (c : Nat) (w : World) (S : Nat → Prop), x.shape = true → KS w S A x.ks → (∀ q, S q → q < B) → WS B b l w → PrEnv B w → B ≤ w.heap.size → l.length + 100 * x.size ≤ 1000000000 →
  Calls Tryz.prog 40 #[.pointer (some ⟨b, 0, none⟩), ev x A c] w fun e w' => e = .returned (.tuple #[]) ∧ WS B b (l ++ x.txt) w' ∧ Wrote B w w'
theorem Wrote.ks {B : Nat} {w w' : World} {S : Nat → Prop} {A : Option Addr} {ks : List X} (h : Wrote B w w') (hk : KS w S A ks) (hS : ∀ q, S q → q < B) : KS w' S A ks := hk.move fun q hq => ⟨hq, h.below_.block q (hS q hq)⟩
/-- One kid of those that lie at A. -/
theorem KS.at {w : World} {S : Nat → Prop} {A : Option Addr} {ks : List X} (hk : KS w S A ks) {i : Nat} {a : X} (hi : ks[i]? = some a) : ∃ g off A2 c2, A = some ⟨g, off, none⟩ ∧ w.cell? ⟨g, off + i * 5, none⟩ = some (.int .i64 a.k) ∧ w.cell? ⟨g, off + i * 5 + 1, none⟩ = some (.int .i64 a.o) ∧ w.cell? ⟨g, off + i * 5 + 2, none⟩ = some (.int .i64 a.n) ∧ w.cell? ⟨g, off + i * 5 + 3, none⟩ = some (.string ⟨a.s.toArray⟩) ∧ w.cell? ⟨g, off + i * 5 + 4, none⟩ = some (.slice A2 a.ks.length c2) ∧ KS w S A2 a.ks := by
  obtain ⟨g, off, hA, he⟩ := hk.kid hi
  obtain ⟨A2, c2, h0, h1, h2, h3, h4, h5⟩ := he.ev
  exact ⟨g, off, A2, c2, hA, h0, h1, h2, h3, h4, h5⟩

theorem KS.cells {w : World} {S : Nat → Prop} {g off : Nat} {ks : List X} (hk : KS w S (some ⟨g, off, none⟩) ks) {i : Nat} {a : X} (hi : ks[i]? = some a) : ∃ A2 c2, w.cell? ⟨g, off + i * 5, none⟩ = some (.int .i64 a.k) ∧ w.cell? ⟨g, off + i * 5 + 1, none⟩ = some (.int .i64 a.o) ∧ w.cell? ⟨g, off + i * 5 + 2, none⟩ = some (.int .i64 a.n) ∧ w.cell? ⟨g, off + i * 5 + 3, none⟩ = some (.string ⟨a.s.toArray⟩) ∧ w.cell? ⟨g, off + i * 5 + 4, none⟩ = some (.slice A2 a.ks.length c2) ∧ KS w S A2 a.ks := by
  obtain ⟨g', off', A2, c2, hA, h⟩ := hk.at hi
  injection hA with hA
  injection hA with h1 h2
  subst h1 h2
  exact ⟨A2, c2, h⟩

set_option maxRecDepth 100000 in
set_option maxHeartbeats 4000000 in
theorem operand_any (x : X) (asks : Int) (hok : ExprOk x) (B b : Nat) (l : T) (A : Option Addr) (c : Nat) (w : World) (S : Nat → Prop) (hx : x.shape = true) (hk : KS w S A x.ks) (hS : ∀ q, S q → q < B) (hw : WS B b l w) (he : PrEnv B w) (hB : B ≤ w.heap.size) (hlen : l.length + 100 * x.size + 2 ≤ 1000000000) :
    Calls Tryz.prog 113 #[.pointer (some ⟨b, 0, none⟩), ev x A c, .int .i64 asks] w fun e w' => e = .returned (.tuple #[]) ∧ WS B b (l ++ inT x.lev asks x.txt) w' ∧ Wrote B w w' := by
  have htl := x.txt_len hx
  have HOK := Lib.hid hok
  clear hok
  have hb : Below w.heap.size w (w.alloc (.cells #[.int .i64 x.k, .int .i64 x.o, .int .i64 x.n, .string ⟨x.s.toArray⟩, .slice A x.ks.length c] 46)) := (Below.refl _ _).alloc (Nat.le_refl _) _
  have HR0 : Hid (Row (w.alloc (.cells #[.int .i64 x.k, .int .i64 x.o, .int .i64 x.n, .string ⟨x.s.toArray⟩, .slice A x.ks.length c] 46)) w.heap.size 46 #[.int .i64 x.k, .int .i64 x.o, .int .i64 x.n, .string ⟨x.s.toArray⟩, .slice A x.ks.length c]) := Lib.hid (Row.made _ _ _)
  have HF0 : Hid (Wrote B w (w.alloc (.cells #[.int .i64 x.k, .int .i64 x.o, .int .i64 x.n, .string ⟨x.s.toArray⟩, .slice A x.ks.length c] 46))) := Lib.hid (Wrote.later hB hb)
  have HW0 : Hid (WS B b l (w.alloc (.cells #[.int .i64 x.k, .int .i64 x.o, .int .i64 x.n, .string ⟨x.s.toArray⟩, .slice A x.ks.length c] 46))) := Lib.hid (hw.later hb)
  have HE0 := Lib.hid (he.later (hb.mono hB))
  have HK0 : Hid (KS (w.alloc (.cells #[.int .i64 x.k, .int .i64 x.o, .int .i64 x.n, .string ⟨x.s.toArray⟩, .slice A x.ks.length c] 46)) S A x.ks) := Lib.hid (KS.move hk fun q hq => ⟨hq, hb.block q (Nat.lt_of_lt_of_le (hS q hq) hB)⟩)
  have HS := Lib.hid hS
  have HX := Lib.hid hx
  have hB0 : B ≤ (w.alloc (.cells #[.int .i64 x.k, .int .i64 x.o, .int .i64 x.n, .string ⟨x.s.toArray⟩, .slice A x.ks.length c] 46)).heap.size := Nat.le_trans hB hb.size
  clear hb hw he hk hS hx
  go_enter Tryz.func113, Tryz.ntmps113
  simp only [ev]
  go_upto_region 1 with fail
  generalize w.alloc (.cells #[.int .i64 x.k, .int .i64 x.o, .int .i64 x.n, .string ⟨x.s.toArray⟩, .slice A x.ks.length c] 46) = w0 at HR0 HF0 HW0 HE0 HK0 hB0 ⊢
  have c0 := HR0.out.cell 0
  have c1 := HR0.out.cell 1
  have c2 := HR0.out.cell 2
  have c3 := HR0.out.cell 3
  have c4 := HR0.out.cell 4
  simp at c0 c1 c2 c3 c4
  have HLV := Lib.hid (lev_any x A c B w0 HX.out HE0.out hB0)
  unfold ev at HLV
  go_upto_if 9 with (go_at_call 143; refine HLV.out.mono ?_; rintro e w1 ⟨rfl, h1⟩; have h2 := HW0.out.later h1; have h3 := Wrote.later hB0 h1; clear h1 HLV; have HW1 : Hid (WS B b (l) w1) := Lib.hid h2; have HR1 : Hid (Row w1 w.heap.size 46 #[.int .i64 x.k, .int .i64 x.o, .int .i64 x.n, .string ⟨x.s.toArray⟩, .slice A x.ks.length c]) := Lib.hid (h3.row HR0.out); have HF1 : Hid (Wrote B w w1) := Lib.hid (HF0.out.trans h3); have hB1 : B ≤ w1.heap.size := Nat.le_trans hB0 h3.below_.size; have HE1 : Hid (PrEnv B w1) := Lib.hid (HE0.out.later h3.below_); have HK1 : Hid (KS w1 S A x.ks) := Lib.hid (h3.ks HK0.out HS.out); clear h2 h3 c0 c1 c2 c3 c4; have c0 := HR1.out.cell 0; have c1 := HR1.out.cell 1; have c2 := HR1.out.cell 2; have c3 := HR1.out.cell 3; have c4 := HR1.out.cell 4; simp at c0 c1 c2 c3 c4)
  by_cases hlv : asks ≤ x.lev
  · have HT : Hid (inT x.lev asks x.txt = x.txt) := Lib.hid (by unfold inT; rw [if_neg (by omega)])
    have HC := HOK.out B b l A c w1 S HX.out HK1.out HS.out HW1.out HE1.out hB1 (by omega)
    unfold ev at HC
    have HCC := Lib.hid HC
    clear HC
    go_wp2_with (go_at_call 40; refine HCC.out.mono ?_; rintro e w2 ⟨rfl, h2, h3⟩; have HW2 : Hid (WS B b (l ++ x.txt) w2) := Lib.hid h2; have HR2 : Hid (Row w2 w.heap.size 46 #[.int .i64 x.k, .int .i64 x.o, .int .i64 x.n, .string ⟨x.s.toArray⟩, .slice A x.ks.length c]) := Lib.hid (h3.row HR1.out); have HF2 : Hid (Wrote B w w2) := Lib.hid (HF1.out.trans h3); have hB2 : B ≤ w2.heap.size := Nat.le_trans hB1 h3.below_.size; have HE2 : Hid (PrEnv B w2) := Lib.hid (HE1.out.later h3.below_); have HK2 : Hid (KS w2 S A x.ks) := Lib.hid (h3.ks HK1.out HS.out); clear h2 h3 c0 c1 c2 c3 c4; have c0 := HR2.out.cell 0; have c1 := HR2.out.cell 1; have c2 := HR2.out.cell 2; have c3 := HR2.out.cell 3; have c4 := HR2.out.cell 4; simp at c0 c1 c2 c3 c4)
    (try simp only [Exit.inBlock, Exit.then])
    refine bodyPost_ret (results_none rfl _ _ _) rfl ?_
    exact ⟨rfl, by rw [HT.out]; exact HW2.out, HF2.out⟩
  · have HT : Hid (inT x.lev asks x.txt = [40] ++ (x.txt ++ [41])) := Lib.hid (by unfold inT; rw [if_pos (by omega)])
    have hlv2 : x.lev < asks := by omega
    clear hlv
    go_upto_region 4 with (go_at_call 56; refine (put_lit B b (l) [[40]] 1 1 w1 HW1.out rfl (by simp; omega) (by omega) hB1).mono ?_; rintro e w2 ⟨rfl, h2, h3⟩; have HW2 : Hid (WS B b (l ++ [40]) w2) := Lib.hid h2; have HR2 : Hid (Row w2 w.heap.size 46 #[.int .i64 x.k, .int .i64 x.o, .int .i64 x.n, .string ⟨x.s.toArray⟩, .slice A x.ks.length c]) := Lib.hid (h3.row HR1.out); have HF2 : Hid (Wrote B w w2) := Lib.hid (HF1.out.trans h3); have hB2 : B ≤ w2.heap.size := Nat.le_trans hB1 h3.below_.size; have HE2 : Hid (PrEnv B w2) := Lib.hid (HE1.out.later h3.below_); have HK2 : Hid (KS w2 S A x.ks) := Lib.hid (h3.ks HK1.out HS.out); clear h2 h3 c0 c1 c2 c3 c4; have c0 := HR2.out.cell 0; have c1 := HR2.out.cell 1; have c2 := HR2.out.cell 2; have c3 := HR2.out.cell 3; have c4 := HR2.out.cell 4; simp at c0 c1 c2 c3 c4)
    have HC := HOK.out B b (l ++ [40]) A c w2 S HX.out HK2.out HS.out HW2.out HE2.out hB2 (by simp; omega)
    unfold ev at HC
    have HCC := Lib.hid HC
    clear HC
    go_upto_region 5 with (go_at_call 40; refine HCC.out.mono ?_; rintro e w3 ⟨rfl, h2, h3⟩; clear HCC; have HW3 : Hid (WS B b ((l ++ [40]) ++ x.txt) w3) := Lib.hid h2; have HR3 : Hid (Row w3 w.heap.size 46 #[.int .i64 x.k, .int .i64 x.o, .int .i64 x.n, .string ⟨x.s.toArray⟩, .slice A x.ks.length c]) := Lib.hid (h3.row HR2.out); have HF3 : Hid (Wrote B w w3) := Lib.hid (HF2.out.trans h3); have hB3 : B ≤ w3.heap.size := Nat.le_trans hB2 h3.below_.size; have HE3 : Hid (PrEnv B w3) := Lib.hid (HE2.out.later h3.below_); have HK3 : Hid (KS w3 S A x.ks) := Lib.hid (h3.ks HK2.out HS.out); clear h2 h3 c0 c1 c2 c3 c4; have c0 := HR3.out.cell 0; have c1 := HR3.out.cell 1; have c2 := HR3.out.cell 2; have c3 := HR3.out.cell 3; have c4 := HR3.out.cell 4; simp at c0 c1 c2 c3 c4)
    go_wp2_with (go_at_call 56; refine (put_lit B b ((l ++ [40]) ++ x.txt) [[41]] 1 1 w3 HW3.out rfl (by simp; omega) (by omega) hB3).mono ?_; rintro e w4 ⟨rfl, h2, h3⟩; have HW4 : Hid (WS B b (((l ++ [40]) ++ x.txt) ++ [41]) w4) := Lib.hid h2; have HR4 : Hid (Row w4 w.heap.size 46 #[.int .i64 x.k, .int .i64 x.o, .int .i64 x.n, .string ⟨x.s.toArray⟩, .slice A x.ks.length c]) := Lib.hid (h3.row HR3.out); have HF4 : Hid (Wrote B w w4) := Lib.hid (HF3.out.trans h3); have hB4 : B ≤ w4.heap.size := Nat.le_trans hB3 h3.below_.size; have HE4 : Hid (PrEnv B w4) := Lib.hid (HE3.out.later h3.below_); have HK4 : Hid (KS w4 S A x.ks) := Lib.hid (h3.ks HK3.out HS.out); clear h2 h3 c0 c1 c2 c3 c4; have c0 := HR4.out.cell 0; have c1 := HR4.out.cell 1; have c2 := HR4.out.cell 2; have c3 := HR4.out.cell 3; have c4 := HR4.out.cell 4; simp at c0 c1 c2 c3 c4)
    go_end0
    exact ⟨rfl, by rw [HT.out]; have := HW4.out; simpa using this, HF4.out⟩


set_option maxRecDepth 100000 in
set_option maxHeartbeats 4000000 in
theorem prefixed_any (x a : X) (h3 : x.k = 3) (hks : x.ks = [a]) (ho : 0 ≤ x.o ∧ x.o ≤ 2) (hok : ExprOk a) (B b : Nat) (l : T) (A : Option Addr) (c : Nat) (w : World) (S : Nat → Prop) (hx : x.shape = true) (hk : KS w S A x.ks) (hS : ∀ q, S q → q < B) (hw : WS B b l w) (he : PrEnv B w) (hB : B ≤ w.heap.size) (hlen : l.length + 100 * x.size ≤ 1000000000) :
    Calls Tryz.prog 72 #[.pointer (some ⟨b, 0, none⟩), ev x A c] w fun e w' => e = .returned (.tuple #[]) ∧ WS B b (l ++ x.txt) w' ∧ Wrote B w w' := by
  have HXa : Hid (a.shape = true) := Lib.hid (shapes_kid (shape_open hx).2 (i := 0) (by rw [hks]; rfl))
  have hsz : x.size = 1 + a.size := by cases x; simp only [X.ks] at hks; subst hks; simp [X.size, X.sizes]
  have htl := a.txt_len HXa.out
  have HT := Lib.hid (txt_un h3 hks)
  have HOKa := Lib.hid hok
  have HKS := Lib.hid hks
  clear hok hks h3
  have hb : Below w.heap.size w (w.alloc (.cells #[.int .i64 x.k, .int .i64 x.o, .int .i64 x.n, .string ⟨x.s.toArray⟩, .slice A x.ks.length c] 46)) := (Below.refl _ _).alloc (Nat.le_refl _) _
  have HR0 : Hid (Row (w.alloc (.cells #[.int .i64 x.k, .int .i64 x.o, .int .i64 x.n, .string ⟨x.s.toArray⟩, .slice A x.ks.length c] 46)) w.heap.size 46 #[.int .i64 x.k, .int .i64 x.o, .int .i64 x.n, .string ⟨x.s.toArray⟩, .slice A x.ks.length c]) := Lib.hid (Row.made _ _ _)
  have HF0 : Hid (Wrote B w (w.alloc (.cells #[.int .i64 x.k, .int .i64 x.o, .int .i64 x.n, .string ⟨x.s.toArray⟩, .slice A x.ks.length c] 46))) := Lib.hid (Wrote.later hB hb)
  have HW0 : Hid (WS B b l (w.alloc (.cells #[.int .i64 x.k, .int .i64 x.o, .int .i64 x.n, .string ⟨x.s.toArray⟩, .slice A x.ks.length c] 46))) := Lib.hid (hw.later hb)
  have HE0 := Lib.hid (he.later (hb.mono hB))
  have HK0 : Hid (KS (w.alloc (.cells #[.int .i64 x.k, .int .i64 x.o, .int .i64 x.n, .string ⟨x.s.toArray⟩, .slice A x.ks.length c] 46)) S A x.ks) := Lib.hid (KS.move hk fun q hq => ⟨hq, hb.block q (Nat.lt_of_lt_of_le (hS q hq) hB)⟩)
  have HS := Lib.hid hS
  have HX := Lib.hid hx
  have hB0 : B ≤ (w.alloc (.cells #[.int .i64 x.k, .int .i64 x.o, .int .i64 x.n, .string ⟨x.s.toArray⟩, .slice A x.ks.length c] 46)).heap.size := Nat.le_trans hB hb.size
  clear hb hw he hk hS hx
  go_enter Tryz.func72, Tryz.ntmps72
  simp only [ev]
  go_upto_region 1 with fail
  generalize w.alloc (.cells #[.int .i64 x.k, .int .i64 x.o, .int .i64 x.n, .string ⟨x.s.toArray⟩, .slice A x.ks.length c] 46) = w0 at HR0 HF0 HW0 HE0 HK0 hB0 ⊢
  have c0 := HR0.out.cell 0
  have c1 := HR0.out.cell 1
  have c2 := HR0.out.cell 2
  have c3 := HR0.out.cell 3
  have c4 := HR0.out.cell 4
  simp at c0 c1 c2 c3 c4
  have hkl : x.ks.length = 1 := by rw [HKS.out]; rfl
  obtain ⟨g, off, A2, m2, rfl, k0, k1, k2, k3, k4, hka⟩ := KS.at HK0.out (i := 0) (a := a) (by rw [HKS.out]; rfl)
  rw [Nat.zero_mul, Nat.add_zero] at k0 k1 k2 k3 k4
  have HKA0 := Lib.hid hka
  clear hka
  go_upto_region 2 with fail
  have hb1 : Below w0.heap.size w0 (w0.alloc (.cells #[.int .i64 a.k, .int .i64 a.o, .int .i64 a.n, .string ⟨a.s.toArray⟩, .slice A2 a.ks.length m2] 46)) := (Below.refl _ _).alloc (Nat.le_refl _) _
  have h2 := HW0.out.later hb1
  have h3 := Wrote.later hB0 hb1
  have HQ1 : Hid (Row (w0.alloc (.cells #[.int .i64 a.k, .int .i64 a.o, .int .i64 a.n, .string ⟨a.s.toArray⟩, .slice A2 a.ks.length m2] 46)) w0.heap.size 46 #[.int .i64 a.k, .int .i64 a.o, .int .i64 a.n, .string ⟨a.s.toArray⟩, .slice A2 a.ks.length m2]) := Lib.hid (Row.made _ _ _)
  clear hb1 k0 k1 k2 k3 k4
  obtain ⟨w1, hw1⟩ : ∃ w1, w1 = w0.alloc (.cells #[.int .i64 a.k, .int .i64 a.o, .int .i64 a.n, .string ⟨a.s.toArray⟩, .slice A2 a.ks.length m2] 46) := ⟨_, rfl⟩
  rw [← hw1] at h2 h3 HQ1 ⊢
  clear hw1
  have HW1 : Hid (WS B b (l) w1) := Lib.hid h2; have HF1 : Hid (Wrote B w w1) := Lib.hid (HF0.out.trans h3); have hB1 : B ≤ w1.heap.size := Nat.le_trans hB0 h3.below_.size; have HE1 : Hid (PrEnv B w1) := Lib.hid (HE0.out.later h3.below_); have HR1 : Hid (Row w1 w.heap.size 46 #[.int .i64 x.k, .int .i64 x.o, .int .i64 x.n, .string ⟨x.s.toArray⟩, .slice (some ⟨g, off, none⟩) x.ks.length c]) := Lib.hid (h3.row HR0.out); have HKA1 : Hid (KS w1 S A2 a.ks) := Lib.hid (h3.ks HKA0.out HS.out); clear h2 h3; clear c0 c1 c2 c3 c4; have c0 := HR1.out.cell 0; have c1 := HR1.out.cell 1; have c2 := HR1.out.cell 2; have c3 := HR1.out.cell 3; have c4 := HR1.out.cell 4; simp at c0 c1 c2 c3 c4
  have d0 := HQ1.out.cell 0
  have d1 := HQ1.out.cell 1
  have d2 := HQ1.out.cell 2
  have d3 := HQ1.out.cell 3
  have d4 := HQ1.out.cell 4
  simp at d0 d1 d2 d3 d4
  have HNG : Hid (∀ w9, Calls Tryz.prog 112 #[.agg #[.int .i64 a.k, .int .i64 a.o, .int .i64 a.n, .string ⟨a.s.toArray⟩, .slice A2 a.ks.length m2]] w9 fun e w' => e = .returned (.bool (negB a)) ∧ Below w9.heap.size w9 w') := Lib.hid fun w9 => neg_any a A2 m2 w9
  obtain ⟨i, hi⟩ : ∃ i : Nat, x.o = (i : Int) := ⟨x.o.toNat, by omega⟩
  have hi3 : i < 3 := by omega
  have p0 := HE1.out.pre_ i _ (preS_at hi3)
  have hpl := preS_len i
  have HI := Lib.hid hi
  obtain ⟨pre, hpre⟩ : ∃ pre, pre = preS.getD i [] := ⟨_, rfl⟩
  rw [← hpre] at p0 hpl
  have HPRE := Lib.hid hpre
  clear hpre ho
  go_upto_region 3 with (go_at_call 56; refine (put_lit B b (l) [pre] 1 1 w1 HW1.out rfl (by simp; omega) (by omega) hB1).mono ?_; rintro e w2 ⟨rfl, h2, h3⟩; have HW2 : Hid (WS B b (l ++ [pre].flatten) w2) := Lib.hid h2; have HF2 : Hid (Wrote B w w2) := Lib.hid (HF1.out.trans h3); have hB2 : B ≤ w2.heap.size := Nat.le_trans hB1 h3.below_.size; have HE2 : Hid (PrEnv B w2) := Lib.hid (HE1.out.later h3.below_); have HR2 : Hid (Row w2 w.heap.size 46 #[.int .i64 x.k, .int .i64 x.o, .int .i64 x.n, .string ⟨x.s.toArray⟩, .slice (some ⟨g, off, none⟩) x.ks.length c]) := Lib.hid (h3.row HR1.out); have HQ2 : Hid (Row w2 w0.heap.size 46 #[.int .i64 a.k, .int .i64 a.o, .int .i64 a.n, .string ⟨a.s.toArray⟩, .slice A2 a.ks.length m2]) := Lib.hid (h3.row HQ1.out); have HKA2 : Hid (KS w2 S A2 a.ks) := Lib.hid (h3.ks HKA1.out HS.out); clear h2 h3; clear c0 c1 c2 c3 c4; clear d0 d1 d2 d3 d4; have c0 := HR2.out.cell 0; have c1 := HR2.out.cell 1; have c2 := HR2.out.cell 2; have c3 := HR2.out.cell 3; have c4 := HR2.out.cell 4; simp at c0 c1 c2 c3 c4; have d0 := HQ2.out.cell 0; have d1 := HQ2.out.cell 1; have d2 := HQ2.out.cell 2; have d3 := HQ2.out.cell 3; have d4 := HQ2.out.cell 4; simp at d0 d1 d2 d3 d4)
  by_cases h0 : i = 0
  · subst h0
    by_cases hng : negB a = true
    · have HTX : Hid (x.txt = pre ++ ([32] ++ inT a.lev 7 a.txt)) := Lib.hid (by rw [HT.out, HI.out]; simp [hng, HPRE.out])
      rw [hng] at HNG
      go_upto_region 4 with (go_at_call 112; refine (HNG.out _).mono ?_; rintro e w3 ⟨rfl, h1⟩; have h2 := HW2.out.later h1; have h3 := Wrote.later hB2 h1; clear h1 HNG; have HW3 : Hid (WS B b (l ++ [pre].flatten) w3) := Lib.hid h2; have HF3 : Hid (Wrote B w w3) := Lib.hid (HF2.out.trans h3); have hB3 : B ≤ w3.heap.size := Nat.le_trans hB2 h3.below_.size; have HE3 : Hid (PrEnv B w3) := Lib.hid (HE2.out.later h3.below_); have HR3 : Hid (Row w3 w.heap.size 46 #[.int .i64 x.k, .int .i64 x.o, .int .i64 x.n, .string ⟨x.s.toArray⟩, .slice (some ⟨g, off, none⟩) x.ks.length c]) := Lib.hid (h3.row HR2.out); have HQ3 : Hid (Row w3 w0.heap.size 46 #[.int .i64 a.k, .int .i64 a.o, .int .i64 a.n, .string ⟨a.s.toArray⟩, .slice A2 a.ks.length m2]) := Lib.hid (h3.row HQ2.out); have HKA3 : Hid (KS w3 S A2 a.ks) := Lib.hid (h3.ks HKA2.out HS.out); clear h2 h3; clear c0 c1 c2 c3 c4; clear d0 d1 d2 d3 d4; have c0 := HR3.out.cell 0; have c1 := HR3.out.cell 1; have c2 := HR3.out.cell 2; have c3 := HR3.out.cell 3; have c4 := HR3.out.cell 4; simp at c0 c1 c2 c3 c4; have d0 := HQ3.out.cell 0; have d1 := HQ3.out.cell 1; have d2 := HQ3.out.cell 2; have d3 := HQ3.out.cell 3; have d4 := HQ3.out.cell 4; simp at d0 d1 d2 d3 d4)
      go_upto_region 5 with (go_at_call 56; refine (put_lit B b (l ++ [pre].flatten) [[32]] 1 1 w3 HW3.out rfl (by simp; omega) (by omega) hB3).mono ?_; rintro e w4 ⟨rfl, h2, h3⟩; have HW4 : Hid (WS B b ((l ++ [pre].flatten) ++ [[32]].flatten) w4) := Lib.hid h2; have HF4 : Hid (Wrote B w w4) := Lib.hid (HF3.out.trans h3); have hB4 : B ≤ w4.heap.size := Nat.le_trans hB3 h3.below_.size; have HE4 : Hid (PrEnv B w4) := Lib.hid (HE3.out.later h3.below_); have HR4 : Hid (Row w4 w.heap.size 46 #[.int .i64 x.k, .int .i64 x.o, .int .i64 x.n, .string ⟨x.s.toArray⟩, .slice (some ⟨g, off, none⟩) x.ks.length c]) := Lib.hid (h3.row HR3.out); have HQ4 : Hid (Row w4 w0.heap.size 46 #[.int .i64 a.k, .int .i64 a.o, .int .i64 a.n, .string ⟨a.s.toArray⟩, .slice A2 a.ks.length m2]) := Lib.hid (h3.row HQ3.out); have HKA4 : Hid (KS w4 S A2 a.ks) := Lib.hid (h3.ks HKA3.out HS.out); clear h2 h3; clear c0 c1 c2 c3 c4; clear d0 d1 d2 d3 d4; have c0 := HR4.out.cell 0; have c1 := HR4.out.cell 1; have c2 := HR4.out.cell 2; have c3 := HR4.out.cell 3; have c4 := HR4.out.cell 4; simp at c0 c1 c2 c3 c4; have d0 := HQ4.out.cell 0; have d1 := HQ4.out.cell 1; have d2 := HQ4.out.cell 2; have d3 := HQ4.out.cell 3; have d4 := HQ4.out.cell 4; simp at d0 d1 d2 d3 d4)
      have HOC := operand_any a (7) HOKa.out B b ((l ++ [pre].flatten) ++ [[32]].flatten) A2 m2 w4 S HXa.out HKA4.out HS.out HW4.out HE4.out hB4 (by (try simp); omega)
      unfold ev at HOC
      have HOC := Lib.hid HOC
      go_wp2_with (go_at_call 113; refine HOC.out.mono ?_; rintro e w5 ⟨rfl, h2, h3⟩; clear HOC; have HW5 : Hid (WS B b (((l ++ [pre].flatten) ++ [[32]].flatten) ++ inT a.lev 7 a.txt) w5) := Lib.hid h2; have HF5 : Hid (Wrote B w w5) := Lib.hid (HF4.out.trans h3); have hB5 : B ≤ w5.heap.size := Nat.le_trans hB4 h3.below_.size; have HE5 : Hid (PrEnv B w5) := Lib.hid (HE4.out.later h3.below_); have HR5 : Hid (Row w5 w.heap.size 46 #[.int .i64 x.k, .int .i64 x.o, .int .i64 x.n, .string ⟨x.s.toArray⟩, .slice (some ⟨g, off, none⟩) x.ks.length c]) := Lib.hid (h3.row HR4.out); have HQ5 : Hid (Row w5 w0.heap.size 46 #[.int .i64 a.k, .int .i64 a.o, .int .i64 a.n, .string ⟨a.s.toArray⟩, .slice A2 a.ks.length m2]) := Lib.hid (h3.row HQ4.out); have HKA5 : Hid (KS w5 S A2 a.ks) := Lib.hid (h3.ks HKA4.out HS.out); clear h2 h3; clear c0 c1 c2 c3 c4; clear d0 d1 d2 d3 d4; have c0 := HR5.out.cell 0; have c1 := HR5.out.cell 1; have c2 := HR5.out.cell 2; have c3 := HR5.out.cell 3; have c4 := HR5.out.cell 4; simp at c0 c1 c2 c3 c4; have d0 := HQ5.out.cell 0; have d1 := HQ5.out.cell 1; have d2 := HQ5.out.cell 2; have d3 := HQ5.out.cell 3; have d4 := HQ5.out.cell 4; simp at d0 d1 d2 d3 d4)
      go_end0
      exact ⟨rfl, by rw [HTX.out]; have := HW5.out; simpa using this, HF5.out⟩
    · have hng' : negB a = false := (Bool.not_eq_true _).mp hng
      have HTX : Hid (x.txt = pre ++ inT a.lev 7 a.txt) := Lib.hid (by rw [HT.out, HI.out]; simp [hng', HPRE.out])
      rw [hng'] at HNG
      clear hng hng'
      go_upto_region 5 with (go_at_call 112; refine (HNG.out _).mono ?_; rintro e w3 ⟨rfl, h1⟩; have h2 := HW2.out.later h1; have h3 := Wrote.later hB2 h1; clear h1 HNG; have HW3 : Hid (WS B b (l ++ [pre].flatten) w3) := Lib.hid h2; have HF3 : Hid (Wrote B w w3) := Lib.hid (HF2.out.trans h3); have hB3 : B ≤ w3.heap.size := Nat.le_trans hB2 h3.below_.size; have HE3 : Hid (PrEnv B w3) := Lib.hid (HE2.out.later h3.below_); have HR3 : Hid (Row w3 w.heap.size 46 #[.int .i64 x.k, .int .i64 x.o, .int .i64 x.n, .string ⟨x.s.toArray⟩, .slice (some ⟨g, off, none⟩) x.ks.length c]) := Lib.hid (h3.row HR2.out); have HQ3 : Hid (Row w3 w0.heap.size 46 #[.int .i64 a.k, .int .i64 a.o, .int .i64 a.n, .string ⟨a.s.toArray⟩, .slice A2 a.ks.length m2]) := Lib.hid (h3.row HQ2.out); have HKA3 : Hid (KS w3 S A2 a.ks) := Lib.hid (h3.ks HKA2.out HS.out); clear h2 h3; clear c0 c1 c2 c3 c4; clear d0 d1 d2 d3 d4; have c0 := HR3.out.cell 0; have c1 := HR3.out.cell 1; have c2 := HR3.out.cell 2; have c3 := HR3.out.cell 3; have c4 := HR3.out.cell 4; simp at c0 c1 c2 c3 c4; have d0 := HQ3.out.cell 0; have d1 := HQ3.out.cell 1; have d2 := HQ3.out.cell 2; have d3 := HQ3.out.cell 3; have d4 := HQ3.out.cell 4; simp at d0 d1 d2 d3 d4)
      have HOC := operand_any a (7) HOKa.out B b (l ++ [pre].flatten) A2 m2 w3 S HXa.out HKA3.out HS.out HW3.out HE3.out hB3 (by (try simp); omega)
      unfold ev at HOC
      have HOC := Lib.hid HOC
      go_wp2_with (go_at_call 113; refine HOC.out.mono ?_; rintro e w4 ⟨rfl, h2, h3⟩; clear HOC; have HW4 : Hid (WS B b ((l ++ [pre].flatten) ++ inT a.lev 7 a.txt) w4) := Lib.hid h2; have HF4 : Hid (Wrote B w w4) := Lib.hid (HF3.out.trans h3); have hB4 : B ≤ w4.heap.size := Nat.le_trans hB3 h3.below_.size; have HE4 : Hid (PrEnv B w4) := Lib.hid (HE3.out.later h3.below_); have HR4 : Hid (Row w4 w.heap.size 46 #[.int .i64 x.k, .int .i64 x.o, .int .i64 x.n, .string ⟨x.s.toArray⟩, .slice (some ⟨g, off, none⟩) x.ks.length c]) := Lib.hid (h3.row HR3.out); have HQ4 : Hid (Row w4 w0.heap.size 46 #[.int .i64 a.k, .int .i64 a.o, .int .i64 a.n, .string ⟨a.s.toArray⟩, .slice A2 a.ks.length m2]) := Lib.hid (h3.row HQ3.out); have HKA4 : Hid (KS w4 S A2 a.ks) := Lib.hid (h3.ks HKA3.out HS.out); clear h2 h3; clear c0 c1 c2 c3 c4; clear d0 d1 d2 d3 d4; have c0 := HR4.out.cell 0; have c1 := HR4.out.cell 1; have c2 := HR4.out.cell 2; have c3 := HR4.out.cell 3; have c4 := HR4.out.cell 4; simp at c0 c1 c2 c3 c4; have d0 := HQ4.out.cell 0; have d1 := HQ4.out.cell 1; have d2 := HQ4.out.cell 2; have d3 := HQ4.out.cell 3; have d4 := HQ4.out.cell 4; simp at d0 d1 d2 d3 d4)
      go_end0
      exact ⟨rfl, by rw [HTX.out]; have := HW4.out; simpa using this, HF4.out⟩
  · have h0' : ((i : Int) == 0) = false := by simpa using h0
    have h0'' : ((i : Int) != 0) = true := by simpa using h0
    have h00 : ¬ (i : Int) = 0 := by omega
    have HTX : Hid (x.txt = pre ++ ([32] ++ inT a.lev 7 a.txt)) := Lib.hid (by rw [HT.out, HI.out]; simp [h0, HPRE.out])
    clear h0
    go_upto_region 5 with (go_at_call 56; refine (put_lit B b (l ++ [pre].flatten) [[32]] 1 1 w2 HW2.out rfl (by simp; omega) (by omega) hB2).mono ?_; rintro e w3 ⟨rfl, h2, h3⟩; have HW3 : Hid (WS B b ((l ++ [pre].flatten) ++ [[32]].flatten) w3) := Lib.hid h2; have HF3 : Hid (Wrote B w w3) := Lib.hid (HF2.out.trans h3); have hB3 : B ≤ w3.heap.size := Nat.le_trans hB2 h3.below_.size; have HE3 : Hid (PrEnv B w3) := Lib.hid (HE2.out.later h3.below_); have HR3 : Hid (Row w3 w.heap.size 46 #[.int .i64 x.k, .int .i64 x.o, .int .i64 x.n, .string ⟨x.s.toArray⟩, .slice (some ⟨g, off, none⟩) x.ks.length c]) := Lib.hid (h3.row HR2.out); have HQ3 : Hid (Row w3 w0.heap.size 46 #[.int .i64 a.k, .int .i64 a.o, .int .i64 a.n, .string ⟨a.s.toArray⟩, .slice A2 a.ks.length m2]) := Lib.hid (h3.row HQ2.out); have HKA3 : Hid (KS w3 S A2 a.ks) := Lib.hid (h3.ks HKA2.out HS.out); clear h2 h3; clear c0 c1 c2 c3 c4; clear d0 d1 d2 d3 d4; have c0 := HR3.out.cell 0; have c1 := HR3.out.cell 1; have c2 := HR3.out.cell 2; have c3 := HR3.out.cell 3; have c4 := HR3.out.cell 4; simp at c0 c1 c2 c3 c4; have d0 := HQ3.out.cell 0; have d1 := HQ3.out.cell 1; have d2 := HQ3.out.cell 2; have d3 := HQ3.out.cell 3; have d4 := HQ3.out.cell 4; simp at d0 d1 d2 d3 d4)
    have HOC := operand_any a (7) HOKa.out B b ((l ++ [pre].flatten) ++ [[32]].flatten) A2 m2 w3 S HXa.out HKA3.out HS.out HW3.out HE3.out hB3 (by (try simp); omega)
    unfold ev at HOC
    have HOC := Lib.hid HOC
    go_wp2_with (go_at_call 113; refine HOC.out.mono ?_; rintro e w4 ⟨rfl, h2, h3⟩; clear HOC; have HW4 : Hid (WS B b (((l ++ [pre].flatten) ++ [[32]].flatten) ++ inT a.lev 7 a.txt) w4) := Lib.hid h2; have HF4 : Hid (Wrote B w w4) := Lib.hid (HF3.out.trans h3); have hB4 : B ≤ w4.heap.size := Nat.le_trans hB3 h3.below_.size; have HE4 : Hid (PrEnv B w4) := Lib.hid (HE3.out.later h3.below_); have HR4 : Hid (Row w4 w.heap.size 46 #[.int .i64 x.k, .int .i64 x.o, .int .i64 x.n, .string ⟨x.s.toArray⟩, .slice (some ⟨g, off, none⟩) x.ks.length c]) := Lib.hid (h3.row HR3.out); have HQ4 : Hid (Row w4 w0.heap.size 46 #[.int .i64 a.k, .int .i64 a.o, .int .i64 a.n, .string ⟨a.s.toArray⟩, .slice A2 a.ks.length m2]) := Lib.hid (h3.row HQ3.out); have HKA4 : Hid (KS w4 S A2 a.ks) := Lib.hid (h3.ks HKA3.out HS.out); clear h2 h3; clear c0 c1 c2 c3 c4; clear d0 d1 d2 d3 d4; have c0 := HR4.out.cell 0; have c1 := HR4.out.cell 1; have c2 := HR4.out.cell 2; have c3 := HR4.out.cell 3; have c4 := HR4.out.cell 4; simp at c0 c1 c2 c3 c4; have d0 := HQ4.out.cell 0; have d1 := HQ4.out.cell 1; have d2 := HQ4.out.cell 2; have d3 := HQ4.out.cell 3; have d4 := HQ4.out.cell 4; simp at d0 d1 d2 d3 d4)
    go_end0
    exact ⟨rfl, by rw [HTX.out]; have := HW4.out; simpa using this, HF4.out⟩


set_option maxRecDepth 100000 in
set_option maxHeartbeats 4000000 in
theorem joined_any (x a a' : X) (h4 : x.k = 4) (hks : x.ks = [a, a']) (ho : 0 ≤ x.o ∧ x.o ≤ 15) (hoka : ExprOk a) (hokb : ExprOk a') (B b : Nat) (l : T) (A : Option Addr) (c : Nat) (w : World) (S : Nat → Prop) (hx : x.shape = true) (hk : KS w S A x.ks) (hS : ∀ q, S q → q < B) (hw : WS B b l w) (he : PrEnv B w) (hB : B ≤ w.heap.size) (hlen : l.length + 100 * x.size ≤ 1000000000) :
    Calls Tryz.prog 73 #[.pointer (some ⟨b, 0, none⟩), ev x A c] w fun e w' => e = .returned (.tuple #[]) ∧ WS B b (l ++ x.txt) w' ∧ Wrote B w w' := by
  have HXa : Hid (a.shape = true) := Lib.hid (shapes_kid (shape_open hx).2 (i := 0) (by rw [hks]; rfl))
  have HXa' : Hid (a'.shape = true) := Lib.hid (shapes_kid (shape_open hx).2 (i := 1) (by rw [hks]; rfl))
  have hsz : x.size = 1 + (a.size + a'.size) := by cases x; simp only [X.ks] at hks; subst hks; simp [X.size, X.sizes]
  have htl := a.txt_len HXa.out
  have htl' := a'.txt_len HXa'.out
  have HT := Lib.hid (txt_bin h4 hks)
  have HOKa := Lib.hid hoka
  have HOKa' := Lib.hid hokb
  have HKS := Lib.hid hks
  clear hoka hokb hks h4
  have hb : Below w.heap.size w (w.alloc (.cells #[.int .i64 x.k, .int .i64 x.o, .int .i64 x.n, .string ⟨x.s.toArray⟩, .slice A x.ks.length c] 46)) := (Below.refl _ _).alloc (Nat.le_refl _) _
  have HR0 : Hid (Row (w.alloc (.cells #[.int .i64 x.k, .int .i64 x.o, .int .i64 x.n, .string ⟨x.s.toArray⟩, .slice A x.ks.length c] 46)) w.heap.size 46 #[.int .i64 x.k, .int .i64 x.o, .int .i64 x.n, .string ⟨x.s.toArray⟩, .slice A x.ks.length c]) := Lib.hid (Row.made _ _ _)
  have HF0 : Hid (Wrote B w (w.alloc (.cells #[.int .i64 x.k, .int .i64 x.o, .int .i64 x.n, .string ⟨x.s.toArray⟩, .slice A x.ks.length c] 46))) := Lib.hid (Wrote.later hB hb)
  have HW0 : Hid (WS B b l (w.alloc (.cells #[.int .i64 x.k, .int .i64 x.o, .int .i64 x.n, .string ⟨x.s.toArray⟩, .slice A x.ks.length c] 46))) := Lib.hid (hw.later hb)
  have HE0 := Lib.hid (he.later (hb.mono hB))
  have HK0 : Hid (KS (w.alloc (.cells #[.int .i64 x.k, .int .i64 x.o, .int .i64 x.n, .string ⟨x.s.toArray⟩, .slice A x.ks.length c] 46)) S A x.ks) := Lib.hid (KS.move hk fun q hq => ⟨hq, hb.block q (Nat.lt_of_lt_of_le (hS q hq) hB)⟩)
  have HS := Lib.hid hS
  have HX := Lib.hid hx
  have hB0 : B ≤ (w.alloc (.cells #[.int .i64 x.k, .int .i64 x.o, .int .i64 x.n, .string ⟨x.s.toArray⟩, .slice A x.ks.length c] 46)).heap.size := Nat.le_trans hB hb.size
  clear hb hw he hk hS hx
  go_enter Tryz.func73, Tryz.ntmps73
  simp only [ev]
  go_upto_region 1 with fail
  generalize w.alloc (.cells #[.int .i64 x.k, .int .i64 x.o, .int .i64 x.n, .string ⟨x.s.toArray⟩, .slice A x.ks.length c] 46) = w0 at HR0 HF0 HW0 HE0 HK0 hB0 ⊢
  have c0 := HR0.out.cell 0
  have c1 := HR0.out.cell 1
  have c2 := HR0.out.cell 2
  have c3 := HR0.out.cell 3
  have c4 := HR0.out.cell 4
  simp at c0 c1 c2 c3 c4
  have hkl : x.ks.length = 2 := by rw [HKS.out]; rfl
  obtain ⟨g, off, _, _, rfl, _⟩ := KS.at HK0.out (i := 0) (a := a) (by rw [HKS.out]; rfl)
  obtain ⟨i, hi⟩ : ∃ i : Nat, x.o = (i : Int) := ⟨x.o.toNat, by omega⟩
  have hi16 : i < 16 := by omega
  have p0 := HE0.out.ops_ i _ (opS_at hi16)
  have p1 := HE0.out.levs_ i _ (levL_at hi16).1
  have hlv := (levL_at hi16).2
  have hol := opS_len i
  obtain ⟨op, hop⟩ : ∃ op, op = opS.getD i [] := ⟨_, rfl⟩
  obtain ⟨lv, hlv2⟩ : ∃ lv, lv = levOf (i : Int) := ⟨_, rfl⟩
  have HTX : Hid (x.txt = inT a.lev (askL lv) a.txt ++ (([32] ++ (op ++ [32])) ++ inT a'.lev (askR lv) a'.txt)) := Lib.hid (by rw [HT.out, hi, hlv2, hop]; rfl)
  rw [← hop] at p0 hol
  rw [← hlv2] at p1 hlv
  have hin := inT_len a.lev (askL lv) a.txt
  have HAS := Lib.hid (asked_any lv hlv.1 hlv.2)
  clear hop hlv2 HT ho hlv
  go_upto_region 2 with fail
  have hb1 : Below w0.heap.size w0 (w0.alloc (.cells #[.string ⟨op.toArray⟩, .int .i64 lv] 181)) := (Below.refl _ _).alloc (Nat.le_refl _) _
  have h2 := HW0.out.later hb1
  have h3 := Wrote.later hB0 hb1
  have HQ1 : Hid (Row (w0.alloc (.cells #[.string ⟨op.toArray⟩, .int .i64 lv] 181)) w0.heap.size 181 #[.string ⟨op.toArray⟩, .int .i64 lv]) := Lib.hid (Row.made _ _ _)
  obtain ⟨w1, hw1⟩ : ∃ w1, w1 = w0.alloc (.cells #[.string ⟨op.toArray⟩, .int .i64 lv] 181) := ⟨_, rfl⟩
  rw [← hw1] at h2 h3 HQ1 ⊢
  clear hw1 hb1 p0 p1
  have HW1 : Hid (WS B b (l) w1) := Lib.hid h2; have HF1 : Hid (Wrote B w w1) := Lib.hid (HF0.out.trans h3); have hB1 : B ≤ w1.heap.size := Nat.le_trans hB0 h3.below_.size; have HE1 : Hid (PrEnv B w1) := Lib.hid (HE0.out.later h3.below_); have HR1 : Hid (Row w1 w.heap.size 46 #[.int .i64 x.k, .int .i64 x.o, .int .i64 x.n, .string ⟨x.s.toArray⟩, .slice (some ⟨g, off, none⟩) x.ks.length c]) := Lib.hid (h3.row HR0.out); have HK1 : Hid (KS w1 S (some ⟨g, off, none⟩) x.ks) := Lib.hid (h3.ks HK0.out HS.out); clear h2 h3; clear c0 c1 c2 c3 c4; have c0 := HR1.out.cell 0; have c1 := HR1.out.cell 1; have c2 := HR1.out.cell 2; have c3 := HR1.out.cell 3; have c4 := HR1.out.cell 4; simp at c0 c1 c2 c3 c4
  have d0 := HQ1.out.cell 0
  have d1 := HQ1.out.cell 1
  simp at d0 d1
  obtain ⟨A2, m2, k0, k1, k2, k3, k4, hka⟩ := KS.cells HK1.out (i := 0) (a := a) (by rw [HKS.out]; rfl)
  simp at k0 k1 k2 k3 k4
  have HKA1 := Lib.hid hka
  clear hka
  have HOC := operand_any a (askL lv) HOKa.out B b (l) A2 m2 w1 S HXa.out HKA1.out HS.out HW1.out HE1.out hB1 (by (try simp); omega)
  unfold ev at HOC
  have HOC := Lib.hid HOC
  go_upto_region 4 with (first | (go_at_call 114; refine (HAS.out _).mono ?_; rintro e w9 ⟨rfl, rfl⟩) | (go_at_call 113; refine HOC.out.mono ?_; rintro e w2 ⟨rfl, h2, h3⟩; clear HOC k0 k1 k2 k3 k4; have HW2 : Hid (WS B b (l ++ inT a.lev (askL lv) a.txt) w2) := Lib.hid h2; have HF2 : Hid (Wrote B w w2) := Lib.hid (HF1.out.trans h3); have hB2 : B ≤ w2.heap.size := Nat.le_trans hB1 h3.below_.size; have HE2 : Hid (PrEnv B w2) := Lib.hid (HE1.out.later h3.below_); have HR2 : Hid (Row w2 w.heap.size 46 #[.int .i64 x.k, .int .i64 x.o, .int .i64 x.n, .string ⟨x.s.toArray⟩, .slice (some ⟨g, off, none⟩) x.ks.length c]) := Lib.hid (h3.row HR1.out); have HQ2 : Hid (Row w2 w0.heap.size 181 #[.string ⟨op.toArray⟩, .int .i64 lv]) := Lib.hid (h3.row HQ1.out); have HK2 : Hid (KS w2 S (some ⟨g, off, none⟩) x.ks) := Lib.hid (h3.ks HK1.out HS.out); clear h2 h3; clear c0 c1 c2 c3 c4; clear d0 d1; have c0 := HR2.out.cell 0; have c1 := HR2.out.cell 1; have c2 := HR2.out.cell 2; have c3 := HR2.out.cell 3; have c4 := HR2.out.cell 4; simp at c0 c1 c2 c3 c4; have d0 := HQ2.out.cell 0; have d1 := HQ2.out.cell 1; simp at d0 d1))
  go_upto_region 5 with (go_at_call 56; refine (put_lit B b (l ++ inT a.lev (askL lv) a.txt) [[32], op, [32]] 3 3 w2 HW2.out rfl (by simp; omega) (by omega) hB2).mono ?_; rintro e w3 ⟨rfl, h2, h3⟩; have HW3 : Hid (WS B b ((l ++ inT a.lev (askL lv) a.txt) ++ [[32], op, [32]].flatten) w3) := Lib.hid h2; have HF3 : Hid (Wrote B w w3) := Lib.hid (HF2.out.trans h3); have hB3 : B ≤ w3.heap.size := Nat.le_trans hB2 h3.below_.size; have HE3 : Hid (PrEnv B w3) := Lib.hid (HE2.out.later h3.below_); have HR3 : Hid (Row w3 w.heap.size 46 #[.int .i64 x.k, .int .i64 x.o, .int .i64 x.n, .string ⟨x.s.toArray⟩, .slice (some ⟨g, off, none⟩) x.ks.length c]) := Lib.hid (h3.row HR2.out); have HQ3 : Hid (Row w3 w0.heap.size 181 #[.string ⟨op.toArray⟩, .int .i64 lv]) := Lib.hid (h3.row HQ2.out); have HK3 : Hid (KS w3 S (some ⟨g, off, none⟩) x.ks) := Lib.hid (h3.ks HK2.out HS.out); clear h2 h3; clear c0 c1 c2 c3 c4; clear d0 d1; have c0 := HR3.out.cell 0; have c1 := HR3.out.cell 1; have c2 := HR3.out.cell 2; have c3 := HR3.out.cell 3; have c4 := HR3.out.cell 4; simp at c0 c1 c2 c3 c4; have d0 := HQ3.out.cell 0; have d1 := HQ3.out.cell 1; simp at d0 d1)
  obtain ⟨A3, m3, k0, k1, k2, k3, k4, hka⟩ := KS.cells HK3.out (i := 1) (a := a') (by rw [HKS.out]; rfl)
  simp at k0 k1 k2 k3 k4
  have HKB3 := Lib.hid hka
  clear hka
  have HOC := operand_any a' (askR lv) HOKa'.out B b ((l ++ inT a.lev (askL lv) a.txt) ++ [[32], op, [32]].flatten) A3 m3 w3 S HXa'.out HKB3.out HS.out HW3.out HE3.out hB3 (by (try simp); omega)
  unfold ev at HOC
  have HOC := Lib.hid HOC
  go_wp2_with (go_at_call 113; refine HOC.out.mono ?_; rintro e w4 ⟨rfl, h2, h3⟩; clear HOC; have HW4 : Hid (WS B b (((l ++ inT a.lev (askL lv) a.txt) ++ [[32], op, [32]].flatten) ++ inT a'.lev (askR lv) a'.txt) w4) := Lib.hid h2; have HF4 : Hid (Wrote B w w4) := Lib.hid (HF3.out.trans h3); have hB4 : B ≤ w4.heap.size := Nat.le_trans hB3 h3.below_.size; have HE4 : Hid (PrEnv B w4) := Lib.hid (HE3.out.later h3.below_); have HR4 : Hid (Row w4 w.heap.size 46 #[.int .i64 x.k, .int .i64 x.o, .int .i64 x.n, .string ⟨x.s.toArray⟩, .slice (some ⟨g, off, none⟩) x.ks.length c]) := Lib.hid (h3.row HR3.out); have HQ4 : Hid (Row w4 w0.heap.size 181 #[.string ⟨op.toArray⟩, .int .i64 lv]) := Lib.hid (h3.row HQ3.out); have HK4 : Hid (KS w4 S (some ⟨g, off, none⟩) x.ks) := Lib.hid (h3.ks HK3.out HS.out); clear h2 h3; clear c0 c1 c2 c3 c4; clear d0 d1; have c0 := HR4.out.cell 0; have c1 := HR4.out.cell 1; have c2 := HR4.out.cell 2; have c3 := HR4.out.cell 3; have c4 := HR4.out.cell 4; simp at c0 c1 c2 c3 c4; have d0 := HQ4.out.cell 0; have d1 := HQ4.out.cell 1; simp at d0 d1)
  go_end0
  exact ⟨rfl, by rw [HTX.out]; have := HW4.out; simpa using this, HF4.out⟩


def ifS : List T := [[105, 102, 32], [32, 116, 104, 101, 110, 32], [32, 101, 108, 115, 101, 32]]
def ifV : Array Value := #[.string ⟨#[105, 102, 32]⟩, .string ⟨#[32, 116, 104, 101, 110, 32]⟩, .string ⟨#[32, 101, 108, 115, 101, 32]⟩]
theorem idx3_any (i : Nat) (y : T) (w : World) (hi : i < 3) (h : ifS[i]? = some y) : (Instr.index 178 (.agg ifV) (.int .i64 (i : Int))).run Tryz.prog w = .ok (.string ⟨y.toArray⟩) w := by
  have hv : ifV[i]? = some (.string ⟨y.toArray⟩) := by
    have : i = 0 ∨ i = 1 ∨ i = 2 := by omega
    rcases this with rfl | rfl | rfl <;> (obtain rfl := Option.some.inj h; rfl)
  have hu : Tryz.prog.underlying 178 = some (.array 3 9) := by kernel_rfl
  simp [Instr.index, run_underlying hu, asIntOf, go_sem, hv, hi]
def partS (ts : List T) (i : Nat) : T := (((ifS.zip ts).take i).map fun p => p.1 ++ p.2).flatten
theorem partS_snoc {ts : List T} {i : Nat} {u t : T} (h1 : ifS[i]? = some u) (h2 : ts[i]? = some t) : partS ts (i + 1) = partS ts i ++ (u ++ t) := by
  unfold partS
  rw [List.take_add_one, List.getElem?_zip_eq_some (z := (u, t)) |>.2 ⟨h1, h2⟩]
  simp
set_option maxRecDepth 100000 in
set_option maxHeartbeats 4000000 in
theorem choice_any (x a a' a'' : X) (h5 : x.k = 5) (hks : x.ks = [a, a', a'']) (hok : ∀ (i : Nat) y, x.ks[i]? = some y → ExprOk y) (B b : Nat) (l : T) (A : Option Addr) (c : Nat) (w : World) (S : Nat → Prop) (hx : x.shape = true) (hk : KS w S A x.ks) (hS : ∀ q, S q → q < B) (hw : WS B b l w) (he : PrEnv B w) (hB : B ≤ w.heap.size) (hlen : l.length + 100 * x.size ≤ 1000000000) :
    Calls Tryz.prog 74 #[.pointer (some ⟨b, 0, none⟩), ev x A c] w fun e w' => e = .returned (.tuple #[]) ∧ WS B b (l ++ x.txt) w' ∧ Wrote B w w' := by
  have HXK : Hid (∀ (i : Nat) y, x.ks[i]? = some y → y.shape = true) := Lib.hid fun i y h => shapes_kid (shape_open hx).2 h
  have hsz : x.size = 1 + X.sizes x.ks := by cases x; simp only [X.size, X.ks]
  have htl := X.txt_len x hx
  have HT := Lib.hid (txt_if h5 hks)
  have HOK := Lib.hid hok
  have HKS := Lib.hid hks
  clear hok hks h5
  have hb : Below w.heap.size w (w.alloc (.cells #[.int .i64 x.k, .int .i64 x.o, .int .i64 x.n, .string ⟨x.s.toArray⟩, .slice A x.ks.length c] 46)) := (Below.refl _ _).alloc (Nat.le_refl _) _
  have HR0 : Hid (Row (w.alloc (.cells #[.int .i64 x.k, .int .i64 x.o, .int .i64 x.n, .string ⟨x.s.toArray⟩, .slice A x.ks.length c] 46)) w.heap.size 46 #[.int .i64 x.k, .int .i64 x.o, .int .i64 x.n, .string ⟨x.s.toArray⟩, .slice A x.ks.length c]) := Lib.hid (Row.made _ _ _)
  have HF0 : Hid (Wrote B w (w.alloc (.cells #[.int .i64 x.k, .int .i64 x.o, .int .i64 x.n, .string ⟨x.s.toArray⟩, .slice A x.ks.length c] 46))) := Lib.hid (Wrote.later hB hb)
  have HW0 : Hid (WS B b l (w.alloc (.cells #[.int .i64 x.k, .int .i64 x.o, .int .i64 x.n, .string ⟨x.s.toArray⟩, .slice A x.ks.length c] 46))) := Lib.hid (hw.later hb)
  have HE0 := Lib.hid (he.later (hb.mono hB))
  have HK0 : Hid (KS (w.alloc (.cells #[.int .i64 x.k, .int .i64 x.o, .int .i64 x.n, .string ⟨x.s.toArray⟩, .slice A x.ks.length c] 46)) S A x.ks) := Lib.hid (KS.move hk fun q hq => ⟨hq, hb.block q (Nat.lt_of_lt_of_le (hS q hq) hB)⟩)
  have HS := Lib.hid hS
  have HX := Lib.hid hx
  have hB0 : B ≤ (w.alloc (.cells #[.int .i64 x.k, .int .i64 x.o, .int .i64 x.n, .string ⟨x.s.toArray⟩, .slice A x.ks.length c] 46)).heap.size := Nat.le_trans hB hb.size
  clear hb hw he hk hS hx
  go_enter Tryz.func74, Tryz.ntmps74
  simp only [ev]
  go_upto_region 1 with fail
  generalize w.alloc (.cells #[.int .i64 x.k, .int .i64 x.o, .int .i64 x.n, .string ⟨x.s.toArray⟩, .slice A x.ks.length c] 46) = w0 at HR0 HF0 HW0 HE0 HK0 hB0 ⊢
  have c0 := HR0.out.cell 0
  have c1 := HR0.out.cell 1
  have c2 := HR0.out.cell 2
  have c3 := HR0.out.cell 3
  have c4 := HR0.out.cell 4
  simp at c0 c1 c2 c3 c4
  have HKL : Hid (x.ks.length = 3) := Lib.hid (by rw [HKS.out]; rfl)
  obtain ⟨g, off, _, _, rfl, _⟩ := KS.at HK0.out (i := 0) (a := a) (by rw [HKS.out]; rfl)
  obtain ⟨ts, hts⟩ : ∃ ts : List T, ts = x.ks.map X.txt := ⟨_, rfl⟩
  have HTX : Hid (x.txt = partS ts 3) := Lib.hid (by rw [HT.out, hts, HKS.out]; simp [partS, ifS])
  have HTS := Lib.hid hts
  have HPL : Hid (∀ (i : Nat) u y, ifS[i]? = some u → x.ks[i]? = some y → (partS ts i).length + u.length + 100 * y.size ≤ 100 * x.size) := Lib.hid fun i u y h1 h2 => by
    have hsh := HXK.out
    rw [HKS.out] at h2 hsh hsz hts
    have e0 := a.txt_len (hsh 0 a rfl)
    have e1 := a'.txt_len (hsh 1 a' rfl)
    have e2 := a''.txt_len (hsh 2 a'' rfl)
    simp only [X.sizes] at hsz
    simp only [List.map_cons, List.map_nil] at hts
    subst hts
    match i, h1, h2 with
    | 0, h1, h2 => injection h1 with h1; injection h2 with h2; subst h1 h2; simp [partS]; omega
    | 1, h1, h2 => injection h1 with h1; injection h2 with h2; subst h1 h2; simp [partS, ifS]; omega
    | 2, h1, h2 => injection h1 with h1; injection h2 with h2; subst h1 h2; simp [partS, ifS]; omega
    | i + 3, h1, _ => simp [ifS] at h1
  clear hts HT
  go_wp2_with fail
  clear c0 c1 c2 c3 c4
  go_loopg [7] 3 (fun g' k wr => ∃ i : Nat, i + g' = 3 ∧ k = .int .i64 (i : Int) ∧ WS B b (l ++ partS ts i) wr ∧ Wrote B w wr ∧ Wrote B w0 wr)
  case atStart => exact ⟨0, by omega, rfl, by simpa [partS] using HW0.out, HF0.out, Wrote.refl _ _⟩
  case round =>
    obtain ⟨i, hi, rfl, hws, hwr, hwr0⟩ := hrel
    obtain ⟨w1, rfl⟩ : ∃ w1, w1 = wr := ⟨wr, rfl⟩
    have HW1 := Lib.hid hws
    have HF1 := Lib.hid hwr
    have hB1 : B ≤ w1.heap.size := Nat.le_trans hB hwr.below_.size
    have HF01 := Lib.hid hwr0
    have HR1 : Hid (Row w1 w.heap.size 46 #[.int .i64 x.k, .int .i64 x.o, .int .i64 x.n, .string ⟨x.s.toArray⟩, .slice (some ⟨g, off, none⟩) x.ks.length c]) := Lib.hid (HF01.out.row HR0.out)
    have HE1 : Hid (PrEnv B w1) := Lib.hid (HE0.out.later HF01.out.below_)
    have HK1 : Hid (KS w1 S (some ⟨g, off, none⟩) x.ks) := Lib.hid (HF01.out.ks HK0.out HS.out)
    clear hws hwr hwr0
    have c0 := HR1.out.cell 0
    have c1 := HR1.out.cell 1
    have c2 := HR1.out.cell 2
    have c3 := HR1.out.cell 3
    have c4 := HR1.out.cell 4
    simp at c0 c1 c2 c3 c4
    by_cases hi3 : i < 3
    · have hil : i < x.ks.length := by have := HKL.out; omega
      obtain ⟨y, hy⟩ : ∃ y, x.ks[i]? = some y := ⟨_, List.getElem?_eq_getElem hil⟩
      obtain ⟨u, hu⟩ : ∃ u, ifS[i]? = some u := ⟨_, List.getElem?_eq_getElem (show i < ifS.length from hi3)⟩
      have hidx := fun w9 => idx3_any i u w9 hi3 hu
      unfold ifV at hidx
      have hpl := HPL.out i u y hu hy
      have HSN : Hid (partS ts (i + 1) = partS ts i ++ (u ++ y.txt)) := Lib.hid (partS_snoc hu (by rw [HTS.out, List.getElem?_map, hy]; rfl))
      have HOKy := Lib.hid (HOK.out i y hy)
      have HXy := Lib.hid (HXK.out i y hy)
      have HY := Lib.hid hy
      clear hy hu
      go_upto_region 5 with (go_at_call 56; refine (put_lit B b (l ++ partS ts i) [u] 1 1 w1 HW1.out rfl (by simp; omega) (by omega) hB1).mono ?_; rintro e w2 ⟨rfl, h2, h3⟩; have HF12 := Lib.hid h3; have HW2 : Hid (WS B b ((l ++ partS ts i) ++ [u].flatten) w2) := Lib.hid h2; have HF2 : Hid (Wrote B w w2) := Lib.hid (HF1.out.trans h3); have hB2 : B ≤ w2.heap.size := Nat.le_trans hB1 h3.below_.size; have HE2 : Hid (PrEnv B w2) := Lib.hid (HE1.out.later h3.below_); have HR2 : Hid (Row w2 w.heap.size 46 #[.int .i64 x.k, .int .i64 x.o, .int .i64 x.n, .string ⟨x.s.toArray⟩, .slice (some ⟨g, off, none⟩) x.ks.length c]) := Lib.hid (h3.row HR1.out); have HK2 : Hid (KS w2 S (some ⟨g, off, none⟩) x.ks) := Lib.hid (h3.ks HK1.out HS.out); clear h2 h3; clear c0 c1 c2 c3 c4; have c0 := HR2.out.cell 0; have c1 := HR2.out.cell 1; have c2 := HR2.out.cell 2; have c3 := HR2.out.cell 3; have c4 := HR2.out.cell 4; simp at c0 c1 c2 c3 c4)
      obtain ⟨A2, m2, k0, k1, k2, k3, k4, hka⟩ := KS.cells HK2.out HY.out
      have hC := HOKy.out B b ((l ++ partS ts i) ++ [u].flatten) A2 m2 w2 S HXy.out hka HS.out HW2.out HE2.out hB2 (by (try simp); omega)
      unfold ev at hC
      have HC := Lib.hid hC
      clear hka hC
      go_wp2_with (go_at_call 40; refine HC.out.mono ?_; rintro e w3 ⟨rfl, h2, h3⟩; clear HC k0 k1 k2 k3 k4; have HF23 := Lib.hid (HF12.out.trans h3); have HW3 : Hid (WS B b (((l ++ partS ts i) ++ [u].flatten) ++ y.txt) w3) := Lib.hid h2; have HF3 : Hid (Wrote B w w3) := Lib.hid (HF2.out.trans h3); have hB3 : B ≤ w3.heap.size := Nat.le_trans hB2 h3.below_.size; have HE3 : Hid (PrEnv B w3) := Lib.hid (HE2.out.later h3.below_); have HR3 : Hid (Row w3 w.heap.size 46 #[.int .i64 x.k, .int .i64 x.o, .int .i64 x.n, .string ⟨x.s.toArray⟩, .slice (some ⟨g, off, none⟩) x.ks.length c]) := Lib.hid (h3.row HR2.out); have HK3 : Hid (KS w3 S (some ⟨g, off, none⟩) x.ks) := Lib.hid (h3.ks HK2.out HS.out); clear h2 h3; clear c0 c1 c2 c3 c4; have c0 := HR3.out.cell 0; have c1 := HR3.out.cell 1; have c2 := HR3.out.cell 2; have c3 := HR3.out.cell 3; have c4 := HR3.out.cell 4; simp at c0 c1 c2 c3 c4)
      go_roundg (3 - (i + 1))
      case rel => exact ⟨i + 1, by omega, by go_num, by rw [HSN.out]; have := HW3.out; simpa using this, HF3.out, HF01.out.trans HF23.out⟩
      case measure => omega
    · obtain rfl : i = 3 := by omega
      go_wp2_with fail
      go_end0
      exact ⟨rfl, by rw [HTX.out]; exact HW1.out, HF1.out⟩


theorem comma_snoc {ts : List T} {i : Nat} {t : T} (h : ts[i]? = some t) : commaS (ts.take (i + 1)) = commaS (ts.take i) ++ ((if i = 0 then [] else [44, 32]) ++ t) := by
  rw [List.take_add_one, h]
  have : ∀ l : List T, commaS (l ++ [t]) = commaS l ++ ((if l = [] then [] else [44, 32]) ++ t) := by
    intro l
    cases l with
    | nil => simp [commaS]
    | cons y ys => simp [commaS]
  have hl : ts.take i = [] ↔ i = 0 := by
    have hi : i < ts.length := (List.getElem?_eq_some_iff.1 h).1
    constructor
    · intro e
      have := congrArg List.length e
      rw [List.length_take] at this
      simp only [List.length_nil] at this
      omega
    · intro e; subst e; rfl
  refine (this _).trans ?_
  by_cases h0 : i = 0
  · rw [if_pos h0, if_pos (hl.2 h0)]
  · rw [if_neg h0, if_neg fun e => h0 (hl.1 e)]
theorem shapes_take {xs : List X} (h : X.shapes xs = true) (i : Nat) : X.shapes (xs.take i) = true := X.shapes_all fun j x hj => by
  rw [List.getElem?_take] at hj
  split at hj
  · exact shapes_kid h hj
  · cases hj
theorem comma_take {xs : List X} (h : X.shapes xs = true) (i : Nat) : (commaS ((xs.map X.txt).take i)).length ≤ 100 * X.sizes (xs.take i) := by
  rw [← List.map_take, ← X.txts_map]
  exact Nat.le_trans (comma_len _) (X.txts_len _ (shapes_take h i))
set_option maxRecDepth 100000 in
set_option maxHeartbeats 4000000 in
theorem call_any (x : X) (h6 : x.k = 6) (hok : ∀ (i : Nat) y, x.ks[i]? = some y → ExprOk y) (B b : Nat) (l : T) (A : Option Addr) (c : Nat) (w : World) (S : Nat → Prop) (hx : x.shape = true) (hk : KS w S A x.ks) (hS : ∀ q, S q → q < B) (hw : WS B b l w) (he : PrEnv B w) (hB : B ≤ w.heap.size) (hlen : l.length + 100 * x.size ≤ 1000000000) :
    Calls Tryz.prog 75 #[.pointer (some ⟨b, 0, none⟩), ev x A c] w fun e w' => e = .returned (.tuple #[]) ∧ WS B b (l ++ x.txt) w' ∧ Wrote B w w' := by
  have hsz : x.size = 1 + X.sizes x.ks := by cases x; simp only [X.size, X.ks]
  have htl := X.txt_len x hx
  have hnm : x.s.length ≤ 60 := by
    rcases (shape_open hx).1 with ⟨h1, _⟩ | ⟨h1, _⟩ | ⟨h1, _⟩ | ⟨h1, _⟩ | ⟨h1, _⟩ | ⟨h1, _⟩ | ⟨_, h2⟩
    · omega
    · omega
    · omega
    · omega
    · omega
    · omega
    · exact name_len (by simpa [calP] using h2.2.2.2.2.1)
  have HXK : Hid (∀ (i : Nat) y, x.ks[i]? = some y → y.shape = true) := Lib.hid fun i y h => shapes_kid (shape_open hx).2 h
  have HCT : Hid (∀ i, (commaS ((x.ks.map X.txt).take i)).length ≤ 100 * X.sizes (x.ks.take i)) := Lib.hid fun i => comma_take (shape_open hx).2 i
  have hkb : x.ks.length ≤ 10000000 := by have := X.sizes_length x.ks; omega
  have HT : Hid (x.txt = (x.s ++ [40]) ++ (commaS (x.ks.map X.txt) ++ [41])) := Lib.hid (txt_call h6)
  have HOK := Lib.hid hok
  clear hok h6
  have hb : Below w.heap.size w (w.alloc (.cells #[.int .i64 x.k, .int .i64 x.o, .int .i64 x.n, .string ⟨x.s.toArray⟩, .slice A x.ks.length c] 46)) := (Below.refl _ _).alloc (Nat.le_refl _) _
  have HR0 : Hid (Row (w.alloc (.cells #[.int .i64 x.k, .int .i64 x.o, .int .i64 x.n, .string ⟨x.s.toArray⟩, .slice A x.ks.length c] 46)) w.heap.size 46 #[.int .i64 x.k, .int .i64 x.o, .int .i64 x.n, .string ⟨x.s.toArray⟩, .slice A x.ks.length c]) := Lib.hid (Row.made _ _ _)
  have HF0 : Hid (Wrote B w (w.alloc (.cells #[.int .i64 x.k, .int .i64 x.o, .int .i64 x.n, .string ⟨x.s.toArray⟩, .slice A x.ks.length c] 46))) := Lib.hid (Wrote.later hB hb)
  have HW0 : Hid (WS B b l (w.alloc (.cells #[.int .i64 x.k, .int .i64 x.o, .int .i64 x.n, .string ⟨x.s.toArray⟩, .slice A x.ks.length c] 46))) := Lib.hid (hw.later hb)
  have HE0 := Lib.hid (he.later (hb.mono hB))
  have HK0 : Hid (KS (w.alloc (.cells #[.int .i64 x.k, .int .i64 x.o, .int .i64 x.n, .string ⟨x.s.toArray⟩, .slice A x.ks.length c] 46)) S A x.ks) := Lib.hid (KS.move hk fun q hq => ⟨hq, hb.block q (Nat.lt_of_lt_of_le (hS q hq) hB)⟩)
  have HS := Lib.hid hS
  have HX := Lib.hid hx
  have hB0 : B ≤ (w.alloc (.cells #[.int .i64 x.k, .int .i64 x.o, .int .i64 x.n, .string ⟨x.s.toArray⟩, .slice A x.ks.length c] 46)).heap.size := Nat.le_trans hB hb.size
  clear hb hw he hk hS hx
  go_enter Tryz.func75, Tryz.ntmps75
  simp only [ev]
  go_upto_region 1 with fail
  generalize w.alloc (.cells #[.int .i64 x.k, .int .i64 x.o, .int .i64 x.n, .string ⟨x.s.toArray⟩, .slice A x.ks.length c] 46) = w0 at HR0 HF0 HW0 HE0 HK0 hB0 ⊢
  have c0 := HR0.out.cell 0
  have c1 := HR0.out.cell 1
  have c2 := HR0.out.cell 2
  have c3 := HR0.out.cell 3
  have c4 := HR0.out.cell 4
  simp at c0 c1 c2 c3 c4
  obtain ⟨ts, hts⟩ : ∃ ts : List T, ts = x.ks.map X.txt := ⟨_, rfl⟩
  have HTS := Lib.hid hts
  rw [← hts] at HCT HT
  clear hts
  go_upto_region 2 with (go_at_call 56; refine (put_lit B b l [x.s, [40]] 2 2 w0 HW0.out rfl (by simp; omega) (by omega) hB0).mono ?_; rintro e w1 ⟨rfl, h2, h3⟩; have HF01 := Lib.hid h3; have HW1 : Hid (WS B b (l ++ [x.s, [40]].flatten) w1) := Lib.hid h2; have HF1 : Hid (Wrote B w w1) := Lib.hid (HF0.out.trans h3); have hB1 : B ≤ w1.heap.size := Nat.le_trans hB0 h3.below_.size; have HE1 : Hid (PrEnv B w1) := Lib.hid (HE0.out.later h3.below_); have HR1 : Hid (Row w1 w.heap.size 46 #[.int .i64 x.k, .int .i64 x.o, .int .i64 x.n, .string ⟨x.s.toArray⟩, .slice A x.ks.length c]) := Lib.hid (h3.row HR0.out); have HK1 : Hid (KS w1 S A x.ks) := Lib.hid (h3.ks HK0.out HS.out); clear h2 h3; clear c0 c1 c2 c3 c4; have c0 := HR1.out.cell 0; have c1 := HR1.out.cell 1; have c2 := HR1.out.cell 2; have c3 := HR1.out.cell 3; have c4 := HR1.out.cell 4; simp at c0 c1 c2 c3 c4)
  go_wp2_with fail
  clear c0 c1 c2 c3 c4
  obtain ⟨ws, hws⟩ : ∃ ws, ws = w1 := ⟨_, rfl⟩
  subst hws
  go_loopg [14] x.ks.length (fun g' k wr => ∃ i : Nat, i + g' = x.ks.length ∧ k = .int .i64 (i : Int) ∧ WS B b ((l ++ (x.s ++ [40])) ++ commaS (ts.take i)) wr ∧ Wrote B w wr ∧ Wrote B w0 wr)
  case atStart => exact ⟨0, by omega, rfl, by have := HW1.out; simpa [commaS] using this, HF1.out, HF01.out⟩
  case round =>
    obtain ⟨i, hi, rfl, hws, hwr, hwr0⟩ := hrel
    obtain ⟨w1, rfl⟩ : ∃ w1, w1 = wr := ⟨wr, rfl⟩
    have HW1 := Lib.hid hws
    have HF1 := Lib.hid hwr
    have hB1 : B ≤ w1.heap.size := Nat.le_trans hB hwr.below_.size
    have HF01 := Lib.hid hwr0
    have HR1 : Hid (Row w1 w.heap.size 46 #[.int .i64 x.k, .int .i64 x.o, .int .i64 x.n, .string ⟨x.s.toArray⟩, .slice A x.ks.length c]) := Lib.hid (HF01.out.row HR0.out)
    have HE1 : Hid (PrEnv B w1) := Lib.hid (HE0.out.later HF01.out.below_)
    have HK1 : Hid (KS w1 S A x.ks) := Lib.hid (HF01.out.ks HK0.out HS.out)
    clear hws hwr hwr0
    have c0 := HR1.out.cell 0
    have c1 := HR1.out.cell 1
    have c2 := HR1.out.cell 2
    have c3 := HR1.out.cell 3
    have c4 := HR1.out.cell 4
    simp at c0 c1 c2 c3 c4
    by_cases hil : i < x.ks.length
    · obtain ⟨y, hy⟩ : ∃ y, x.ks[i]? = some y := ⟨_, List.getElem?_eq_getElem hil⟩
      have hty : ts[i]? = some y.txt := by rw [HTS.out, List.getElem?_map, hy]; rfl
      have HSN := Lib.hid (comma_snoc hty)
      have HOKy := Lib.hid (HOK.out i y hy)
      have HXy := Lib.hid (HXK.out i y hy)
      have hst := X.sizes_take hy
      have hstl := X.sizes_take_le x.ks (i + 1)
      have hct := HCT.out i
      obtain ⟨g, off, A2, m2, hA, k0, k1, k2, k3, k4, hka⟩ := KS.at HK1.out hy
      subst hA
      have HKY1 := Lib.hid hka
      have hlen2 : (l ++ (x.s ++ [40])).length + (commaS (ts.take i)).length + 2 + 100 * y.size ≤ 1000000000 := by simp only [List.length_append, List.length_cons, List.length_nil]; omega
      obtain ⟨pre, hpre⟩ : ∃ pre, pre = (l ++ (x.s ++ [40])) ++ commaS (ts.take i) := ⟨_, rfl⟩
      have hpl : pre.length + 2 + 100 * y.size ≤ 1000000000 := by rw [hpre, List.length_append]; omega
      have HPRE := Lib.hid hpre
      rw [← hpre] at HW1
      clear hy hty hka hst hstl hct hlen2 hpre
      go_upto_if 20 with fail
      have hb1 : Below w1.heap.size w1 (w1.alloc (.cells #[.int .i64 y.k, .int .i64 y.o, .int .i64 y.n, .string ⟨y.s.toArray⟩, .slice A2 y.ks.length m2] 46)) := (Below.refl _ _).alloc (Nat.le_refl _) _
      have h2 := HW1.out.later hb1
      have h3 := Wrote.later hB1 hb1
      have HQ2 : Hid (Row (w1.alloc (.cells #[.int .i64 y.k, .int .i64 y.o, .int .i64 y.n, .string ⟨y.s.toArray⟩, .slice A2 y.ks.length m2] 46)) w1.heap.size 46 #[.int .i64 y.k, .int .i64 y.o, .int .i64 y.n, .string ⟨y.s.toArray⟩, .slice A2 y.ks.length m2]) := Lib.hid (Row.made _ _ _)
      obtain ⟨w2, hw2⟩ : ∃ w2, w2 = w1.alloc (.cells #[.int .i64 y.k, .int .i64 y.o, .int .i64 y.n, .string ⟨y.s.toArray⟩, .slice A2 y.ks.length m2] 46) := ⟨_, rfl⟩
      rw [← hw2] at h2 h3 HQ2 ⊢
      have HG2 := Lib.hid (HF01.out.trans h3)
      clear hw2 hb1 k0 k1 k2 k3 k4
      have HW2 : Hid (WS B b (pre) w2) := Lib.hid h2; have HF2 : Hid (Wrote B w w2) := Lib.hid (HF1.out.trans h3); have hB2 : B ≤ w2.heap.size := Nat.le_trans hB1 h3.below_.size; have HE2 : Hid (PrEnv B w2) := Lib.hid (HE1.out.later h3.below_); have HR2 : Hid (Row w2 w.heap.size 46 #[.int .i64 x.k, .int .i64 x.o, .int .i64 x.n, .string ⟨x.s.toArray⟩, .slice (some ⟨g, off, none⟩) x.ks.length c]) := Lib.hid (h3.row HR1.out); have HK2 : Hid (KS w2 S (some ⟨g, off, none⟩) x.ks) := Lib.hid (h3.ks HK1.out HS.out); have HKY2 : Hid (KS w2 S A2 y.ks) := Lib.hid (h3.ks HKY1.out HS.out); clear h2 h3; clear c0 c1 c2 c3 c4; have c0 := HR2.out.cell 0; have c1 := HR2.out.cell 1; have c2 := HR2.out.cell 2; have c3 := HR2.out.cell 3; have c4 := HR2.out.cell 4; simp at c0 c1 c2 c3 c4
      have d0 := HQ2.out.cell 0
      have d1 := HQ2.out.cell 1
      have d2 := HQ2.out.cell 2
      have d3 := HQ2.out.cell 3
      have d4 := HQ2.out.cell 4
      simp at d0 d1 d2 d3 d4
      by_cases hi0 : i = 0
      · subst hi0
        have hC := HOKy.out B b pre A2 m2 w2 S HXy.out HKY2.out HS.out HW2.out HE2.out hB2 (by omega)
        unfold ev at hC
        have HC := Lib.hid hC
        clear hC
        go_wp2_with (go_at_call 40; refine HC.out.mono ?_; rintro e w3 ⟨rfl, h2, h3⟩; clear HC; have HG3 := Lib.hid (HG2.out.trans h3); have HW3 : Hid (WS B b (pre ++ y.txt) w3) := Lib.hid h2; have HF3 : Hid (Wrote B w w3) := Lib.hid (HF2.out.trans h3); have hB3 : B ≤ w3.heap.size := Nat.le_trans hB2 h3.below_.size; have HE3 : Hid (PrEnv B w3) := Lib.hid (HE2.out.later h3.below_); have HR3 : Hid (Row w3 w.heap.size 46 #[.int .i64 x.k, .int .i64 x.o, .int .i64 x.n, .string ⟨x.s.toArray⟩, .slice (some ⟨g, off, none⟩) x.ks.length c]) := Lib.hid (h3.row HR2.out); have HQ3 : Hid (Row w3 w1.heap.size 46 #[.int .i64 y.k, .int .i64 y.o, .int .i64 y.n, .string ⟨y.s.toArray⟩, .slice A2 y.ks.length m2]) := Lib.hid (h3.row HQ2.out); have HK3 : Hid (KS w3 S (some ⟨g, off, none⟩) x.ks) := Lib.hid (h3.ks HK2.out HS.out); have HKY3 : Hid (KS w3 S A2 y.ks) := Lib.hid (h3.ks HKY2.out HS.out); clear h2 h3; clear c0 c1 c2 c3 c4; clear d0 d1 d2 d3 d4; have c0 := HR3.out.cell 0; have c1 := HR3.out.cell 1; have c2 := HR3.out.cell 2; have c3 := HR3.out.cell 3; have c4 := HR3.out.cell 4; simp at c0 c1 c2 c3 c4; have d0 := HQ3.out.cell 0; have d1 := HQ3.out.cell 1; have d2 := HQ3.out.cell 2; have d3 := HQ3.out.cell 3; have d4 := HQ3.out.cell 4; simp at d0 d1 d2 d3 d4)
        go_roundg (x.ks.length - (0 + 1))
        case rel => exact ⟨0 + 1, by omega, by go_num, by rw [HSN.out, if_pos trivial, List.nil_append, ← List.append_assoc, ← HPRE.out]; exact HW3.out, HF3.out, HG3.out⟩
        case measure => omega
      · have hi1 : (0 : Int) < (i : Int) := by omega
        go_upto_region 7 with (go_at_call 56; refine (put_lit B b (pre) [[44, 32]] 1 1 w2 HW2.out rfl (by simp; omega) (by omega) hB2).mono ?_; rintro e w3 ⟨rfl, h2, h3⟩; have HG3 := Lib.hid (HG2.out.trans h3); have HW3 : Hid (WS B b (pre ++ [[44, 32]].flatten) w3) := Lib.hid h2; have HF3 : Hid (Wrote B w w3) := Lib.hid (HF2.out.trans h3); have hB3 : B ≤ w3.heap.size := Nat.le_trans hB2 h3.below_.size; have HE3 : Hid (PrEnv B w3) := Lib.hid (HE2.out.later h3.below_); have HR3 : Hid (Row w3 w.heap.size 46 #[.int .i64 x.k, .int .i64 x.o, .int .i64 x.n, .string ⟨x.s.toArray⟩, .slice (some ⟨g, off, none⟩) x.ks.length c]) := Lib.hid (h3.row HR2.out); have HQ3 : Hid (Row w3 w1.heap.size 46 #[.int .i64 y.k, .int .i64 y.o, .int .i64 y.n, .string ⟨y.s.toArray⟩, .slice A2 y.ks.length m2]) := Lib.hid (h3.row HQ2.out); have HK3 : Hid (KS w3 S (some ⟨g, off, none⟩) x.ks) := Lib.hid (h3.ks HK2.out HS.out); have HKY3 : Hid (KS w3 S A2 y.ks) := Lib.hid (h3.ks HKY2.out HS.out); clear h2 h3; clear c0 c1 c2 c3 c4; clear d0 d1 d2 d3 d4; have c0 := HR3.out.cell 0; have c1 := HR3.out.cell 1; have c2 := HR3.out.cell 2; have c3 := HR3.out.cell 3; have c4 := HR3.out.cell 4; simp at c0 c1 c2 c3 c4; have d0 := HQ3.out.cell 0; have d1 := HQ3.out.cell 1; have d2 := HQ3.out.cell 2; have d3 := HQ3.out.cell 3; have d4 := HQ3.out.cell 4; simp at d0 d1 d2 d3 d4)
        have hC := HOKy.out B b (pre ++ [[44, 32]].flatten) A2 m2 w3 S HXy.out HKY3.out HS.out HW3.out HE3.out hB3 (by (try simp); omega)
        unfold ev at hC
        have HC := Lib.hid hC
        clear hC
        go_wp2_with (go_at_call 40; refine HC.out.mono ?_; rintro e w4 ⟨rfl, h2, h3⟩; clear HC; have HG4 := Lib.hid (HG3.out.trans h3); have HW4 : Hid (WS B b ((pre ++ [[44, 32]].flatten) ++ y.txt) w4) := Lib.hid h2; have HF4 : Hid (Wrote B w w4) := Lib.hid (HF3.out.trans h3); have hB4 : B ≤ w4.heap.size := Nat.le_trans hB3 h3.below_.size; have HE4 : Hid (PrEnv B w4) := Lib.hid (HE3.out.later h3.below_); have HR4 : Hid (Row w4 w.heap.size 46 #[.int .i64 x.k, .int .i64 x.o, .int .i64 x.n, .string ⟨x.s.toArray⟩, .slice (some ⟨g, off, none⟩) x.ks.length c]) := Lib.hid (h3.row HR3.out); have HQ4 : Hid (Row w4 w1.heap.size 46 #[.int .i64 y.k, .int .i64 y.o, .int .i64 y.n, .string ⟨y.s.toArray⟩, .slice A2 y.ks.length m2]) := Lib.hid (h3.row HQ3.out); have HK4 : Hid (KS w4 S (some ⟨g, off, none⟩) x.ks) := Lib.hid (h3.ks HK3.out HS.out); have HKY4 : Hid (KS w4 S A2 y.ks) := Lib.hid (h3.ks HKY3.out HS.out); clear h2 h3; clear c0 c1 c2 c3 c4; clear d0 d1 d2 d3 d4; have c0 := HR4.out.cell 0; have c1 := HR4.out.cell 1; have c2 := HR4.out.cell 2; have c3 := HR4.out.cell 3; have c4 := HR4.out.cell 4; simp at c0 c1 c2 c3 c4; have d0 := HQ4.out.cell 0; have d1 := HQ4.out.cell 1; have d2 := HQ4.out.cell 2; have d3 := HQ4.out.cell 3; have d4 := HQ4.out.cell 4; simp at d0 d1 d2 d3 d4)
        go_roundg (x.ks.length - (i + 1))
        case rel => exact ⟨i + 1, by omega, by go_num, by rw [HSN.out, if_neg hi0, ← List.append_assoc, ← HPRE.out]; have := HW4.out; simpa using this, HF4.out, HG4.out⟩
        case measure => omega
    · obtain rfl : i = x.ks.length := by omega
      have hfull : ts.take x.ks.length = ts := by rw [List.take_of_length_le (by rw [HTS.out]; simp)]
      rw [hfull] at HW1
      have hcl : (commaS ts).length ≤ 100 * X.sizes x.ks := by have := HCT.out x.ks.length; rw [hfull, List.take_length] at this; exact this
      go_wp2_with (go_at_call 56; refine (put_lit B b ((l ++ (x.s ++ [40])) ++ commaS ts) [[41]] 1 1 w1 HW1.out rfl (by simp; omega) (by omega) hB1).mono ?_; rintro e w2 ⟨rfl, h2, h3⟩; have HH2 := Lib.hid h2; have HH3 := Lib.hid h3; clear h2 h3)
      go_end0
      exact ⟨rfl, by rw [HT.out]; have := HH2.out; simpa using this, HF1.out.trans HH3.out⟩

end Go.Proofs.YtdabndiaflagpaaGreatDoor
namespace Go.Proofs.YtdabndiaflagpaaGreatDoor
open Go.RowKit

theorem ret_b {a b : Bool} (h : a = b) : Ending.returned (.bool a) = Ending.returned (.bool b) := by rw [h]
end Go.Proofs.YtdabndiaflagpaaGreatDoor
