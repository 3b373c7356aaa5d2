/- Parts: Wx0. -/
import Derived.Test.YtdabndiaflagpaaGreatDoorB25
set_option maxRecDepth 100000
set_option maxHeartbeats 4000000
set_option linter.unusedVariables false
namespace Go.Proofs.YtdabndiaflagpaaGreatDoor
open Go.RowKit

set_option maxRecDepth 100000 in
set_option maxHeartbeats 1000000 in
theorem expr_step (x : X) (hok : ∀ (i : Nat) y, x.ks[i]? = some y → ExprOk y) : ExprOk x := by
  intro B b l A c w S hx hk hS hw he hB hlen
  have hf := (shape_open hx).1
  have htl := X.txt_len x hx
  have HLN := Lib.hid hlen
  rcases hf with ⟨h1, hf2⟩ | ⟨h1, hf2⟩ | ⟨h1, hf2⟩ | ⟨h1, hf2⟩ | ⟨h1, hf2⟩ | ⟨h1, hf2⟩ | ⟨h1, hf2⟩
  · have HT := Lib.hid (txt_int h1)
    have HFM := Lib.hid fun w9 => fmt_any x.n hf2.2.2.1 hf2.2.2.2.1 B w9
    have htl2 : (Lib.decDigits x.n.toNat).length + 4 ≤ 100 * x.size := by rw [← HT.out]; exact htl
    obtain ⟨d, hd⟩ : ∃ d, d = Lib.decDigits x.n.toNat := ⟨_, rfl⟩
    rw [← hd] at HT HFM htl2
    clear hok htl hf2 hd
    have HKK := Lib.hid h1
    clear h1
    have hb : Below w.heap.size w (w.alloc (.cells #[.int .i64 x.k, .int .i64 x.o, .int .i64 x.n, .string ⟨x.s.toArray⟩, .slice A x.ks.length c] 46)) := (Below.refl _ _).alloc (Nat.le_refl _) _
    have HR0 : Hid (Row (w.alloc (.cells #[.int .i64 x.k, .int .i64 x.o, .int .i64 x.n, .string ⟨x.s.toArray⟩, .slice A x.ks.length c] 46)) w.heap.size 46 #[.int .i64 x.k, .int .i64 x.o, .int .i64 x.n, .string ⟨x.s.toArray⟩, .slice A x.ks.length c]) := Lib.hid (Row.made _ _ _)
    have HF0 : Hid (Wrote B w (w.alloc (.cells #[.int .i64 x.k, .int .i64 x.o, .int .i64 x.n, .string ⟨x.s.toArray⟩, .slice A x.ks.length c] 46))) := Lib.hid (Wrote.later hB hb)
    have HW0 : Hid (WS B b l (w.alloc (.cells #[.int .i64 x.k, .int .i64 x.o, .int .i64 x.n, .string ⟨x.s.toArray⟩, .slice A x.ks.length c] 46))) := Lib.hid (hw.later hb)
    have HE0 := Lib.hid (he.later (hb.mono hB))
    have HK0 : Hid (KS (w.alloc (.cells #[.int .i64 x.k, .int .i64 x.o, .int .i64 x.n, .string ⟨x.s.toArray⟩, .slice A x.ks.length c] 46)) S A x.ks) := Lib.hid (KS.move hk fun q hq => ⟨hq, hb.block q (Nat.lt_of_lt_of_le (hS q hq) hB)⟩)
    have HS := Lib.hid hS
    have HX := Lib.hid hx
    have hB0 : B ≤ (w.alloc (.cells #[.int .i64 x.k, .int .i64 x.o, .int .i64 x.n, .string ⟨x.s.toArray⟩, .slice A x.ks.length c] 46)).heap.size := Nat.le_trans hB hb.size
    clear hb hw he hk hS hx
    go_enter Tryz.func40, Tryz.ntmps40
    simp only [ev]
    go_upto_region 1 with fail
    generalize w.alloc (.cells #[.int .i64 x.k, .int .i64 x.o, .int .i64 x.n, .string ⟨x.s.toArray⟩, .slice A x.ks.length c] 46) = w0 at HR0 HF0 HW0 HE0 HK0 hB0 ⊢
    have c0 := HR0.out.cell 0
    have c1 := HR0.out.cell 1
    have c2 := HR0.out.cell 2
    have c3 := HR0.out.cell 3
    have c4 := HR0.out.cell 4
    simp at c0 c1 c2 c3 c4

    have hkk := HKK.out
    go_wp2_with (first | (go_at_call 70; refine (HFM.out _ HE0.out).mono ?_; rintro e w1 ⟨rfl, h1⟩; have h2 := HW0.out.later h1; have h3 := Wrote.later hB0 h1; clear h1 HFM; have HW1 : Hid (WS B b (l) w1) := Lib.hid h2; have HF1 : Hid (Wrote B w w1) := Lib.hid (HF0.out.trans h3); have hB1 : B ≤ w1.heap.size := Nat.le_trans hB0 h3.below_.size; have HE1 : Hid (PrEnv B w1) := Lib.hid (HE0.out.later h3.below_); have HR1 : Hid (Row w1 w.heap.size 46 #[.int .i64 x.k, .int .i64 x.o, .int .i64 x.n, .string ⟨x.s.toArray⟩, .slice A x.ks.length c]) := Lib.hid (h3.row HR0.out); have HK1 : Hid (KS w1 S A x.ks) := Lib.hid (h3.ks HK0.out HS.out); clear h2 h3; clear c0 c1 c2 c3 c4; have c0 := HR1.out.cell 0; have c1 := HR1.out.cell 1; have c2 := HR1.out.cell 2; have c3 := HR1.out.cell 3; have c4 := HR1.out.cell 4; simp at c0 c1 c2 c3 c4) | (go_at_call 56; refine (put_lit B b (l) [d] 1 1 w1 HW1.out rfl (by simp; omega) (by omega) hB1).mono ?_; rintro e w2 ⟨rfl, h2, h3⟩; have HW2 : Hid (WS B b (l ++ [d].flatten) w2) := Lib.hid h2; have HF2 : Hid (Wrote B w w2) := Lib.hid (HF1.out.trans h3); have hB2 : B ≤ w2.heap.size := Nat.le_trans hB1 h3.below_.size; have HE2 : Hid (PrEnv B w2) := Lib.hid (HE1.out.later h3.below_); have HR2 : Hid (Row w2 w.heap.size 46 #[.int .i64 x.k, .int .i64 x.o, .int .i64 x.n, .string ⟨x.s.toArray⟩, .slice A x.ks.length c]) := Lib.hid (h3.row HR1.out); have HK2 : Hid (KS w2 S A x.ks) := Lib.hid (h3.ks HK1.out HS.out); clear h2 h3; clear c0 c1 c2 c3 c4; have c0 := HR2.out.cell 0; have c1 := HR2.out.cell 1; have c2 := HR2.out.cell 2; have c3 := HR2.out.cell 3; have c4 := HR2.out.cell 4; simp at c0 c1 c2 c3 c4))
    go_end0
    exact ⟨rfl, by rw [HT.out]; have := HW2.out; simpa using this, HF2.out⟩
  · have HT := Lib.hid (txt_bool h1)
    have HFM := Lib.hid fun w9 => fmtB_any x.n w9
    have htl2 : (boolS x.n).length + 4 ≤ 100 * x.size := by rw [← HT.out]; exact htl
    obtain ⟨d, hd⟩ : ∃ d, d = boolS x.n := ⟨_, rfl⟩
    rw [← hd] at HT HFM htl2
    clear hok htl hf2 hd
    have HKK := Lib.hid h1
    clear h1
    have hb : Below w.heap.size w (w.alloc (.cells #[.int .i64 x.k, .int .i64 x.o, .int .i64 x.n, .string ⟨x.s.toArray⟩, .slice A x.ks.length c] 46)) := (Below.refl _ _).alloc (Nat.le_refl _) _
    have HR0 : Hid (Row (w.alloc (.cells #[.int .i64 x.k, .int .i64 x.o, .int .i64 x.n, .string ⟨x.s.toArray⟩, .slice A x.ks.length c] 46)) w.heap.size 46 #[.int .i64 x.k, .int .i64 x.o, .int .i64 x.n, .string ⟨x.s.toArray⟩, .slice A x.ks.length c]) := Lib.hid (Row.made _ _ _)
    have HF0 : Hid (Wrote B w (w.alloc (.cells #[.int .i64 x.k, .int .i64 x.o, .int .i64 x.n, .string ⟨x.s.toArray⟩, .slice A x.ks.length c] 46))) := Lib.hid (Wrote.later hB hb)
    have HW0 : Hid (WS B b l (w.alloc (.cells #[.int .i64 x.k, .int .i64 x.o, .int .i64 x.n, .string ⟨x.s.toArray⟩, .slice A x.ks.length c] 46))) := Lib.hid (hw.later hb)
    have HE0 := Lib.hid (he.later (hb.mono hB))
    have HK0 : Hid (KS (w.alloc (.cells #[.int .i64 x.k, .int .i64 x.o, .int .i64 x.n, .string ⟨x.s.toArray⟩, .slice A x.ks.length c] 46)) S A x.ks) := Lib.hid (KS.move hk fun q hq => ⟨hq, hb.block q (Nat.lt_of_lt_of_le (hS q hq) hB)⟩)
    have HS := Lib.hid hS
    have HX := Lib.hid hx
    have hB0 : B ≤ (w.alloc (.cells #[.int .i64 x.k, .int .i64 x.o, .int .i64 x.n, .string ⟨x.s.toArray⟩, .slice A x.ks.length c] 46)).heap.size := Nat.le_trans hB hb.size
    clear hb hw he hk hS hx
    go_enter Tryz.func40, Tryz.ntmps40
    simp only [ev]
    go_upto_region 1 with fail
    generalize w.alloc (.cells #[.int .i64 x.k, .int .i64 x.o, .int .i64 x.n, .string ⟨x.s.toArray⟩, .slice A x.ks.length c] 46) = w0 at HR0 HF0 HW0 HE0 HK0 hB0 ⊢
    have c0 := HR0.out.cell 0
    have c1 := HR0.out.cell 1
    have c2 := HR0.out.cell 2
    have c3 := HR0.out.cell 3
    have c4 := HR0.out.cell 4
    simp at c0 c1 c2 c3 c4

    have hkk := HKK.out
    go_wp2_with (first | (go_at_call 71; refine (HFM.out _).mono ?_; rintro e w9 ⟨rfl, rfl⟩; clear HFM) | (go_at_call 56; refine (put_lit B b (l) [d] 1 1 w0 HW0.out rfl (by simp; omega) (by omega) hB0).mono ?_; rintro e w1 ⟨rfl, h2, h3⟩; have HW1 : Hid (WS B b (l ++ [d].flatten) w1) := Lib.hid h2; have HF1 : Hid (Wrote B w w1) := Lib.hid (HF0.out.trans h3); have hB1 : B ≤ w1.heap.size := Nat.le_trans hB0 h3.below_.size; have HE1 : Hid (PrEnv B w1) := Lib.hid (HE0.out.later h3.below_); have HR1 : Hid (Row w1 w.heap.size 46 #[.int .i64 x.k, .int .i64 x.o, .int .i64 x.n, .string ⟨x.s.toArray⟩, .slice A x.ks.length c]) := Lib.hid (h3.row HR0.out); have HK1 : Hid (KS w1 S A x.ks) := Lib.hid (h3.ks HK0.out HS.out); clear h2 h3; clear c0 c1 c2 c3 c4; have c0 := HR1.out.cell 0; have c1 := HR1.out.cell 1; have c2 := HR1.out.cell 2; have c3 := HR1.out.cell 3; have c4 := HR1.out.cell 4; simp at c0 c1 c2 c3 c4))
    go_end0
    exact ⟨rfl, by rw [HT.out]; have := HW1.out; simpa using this, HF1.out⟩
  · have HT := Lib.hid (txt_var h1)
    have htl2 : x.s.length + 4 ≤ 100 * x.size := by rw [← HT.out]; exact htl
    clear hok htl hf2
    have HKK := Lib.hid h1
    clear h1
    have hb : Below w.heap.size w (w.alloc (.cells #[.int .i64 x.k, .int .i64 x.o, .int .i64 x.n, .string ⟨x.s.toArray⟩, .slice A x.ks.length c] 46)) := (Below.refl _ _).alloc (Nat.le_refl _) _
    have HR0 : Hid (Row (w.alloc (.cells #[.int .i64 x.k, .int .i64 x.o, .int .i64 x.n, .string ⟨x.s.toArray⟩, .slice A x.ks.length c] 46)) w.heap.size 46 #[.int .i64 x.k, .int .i64 x.o, .int .i64 x.n, .string ⟨x.s.toArray⟩, .slice A x.ks.length c]) := Lib.hid (Row.made _ _ _)
    have HF0 : Hid (Wrote B w (w.alloc (.cells #[.int .i64 x.k, .int .i64 x.o, .int .i64 x.n, .string ⟨x.s.toArray⟩, .slice A x.ks.length c] 46))) := Lib.hid (Wrote.later hB hb)
    have HW0 : Hid (WS B b l (w.alloc (.cells #[.int .i64 x.k, .int .i64 x.o, .int .i64 x.n, .string ⟨x.s.toArray⟩, .slice A x.ks.length c] 46))) := Lib.hid (hw.later hb)
    have HE0 := Lib.hid (he.later (hb.mono hB))
    have HK0 : Hid (KS (w.alloc (.cells #[.int .i64 x.k, .int .i64 x.o, .int .i64 x.n, .string ⟨x.s.toArray⟩, .slice A x.ks.length c] 46)) S A x.ks) := Lib.hid (KS.move hk fun q hq => ⟨hq, hb.block q (Nat.lt_of_lt_of_le (hS q hq) hB)⟩)
    have HS := Lib.hid hS
    have HX := Lib.hid hx
    have hB0 : B ≤ (w.alloc (.cells #[.int .i64 x.k, .int .i64 x.o, .int .i64 x.n, .string ⟨x.s.toArray⟩, .slice A x.ks.length c] 46)).heap.size := Nat.le_trans hB hb.size
    clear hb hw he hk hS hx
    go_enter Tryz.func40, Tryz.ntmps40
    simp only [ev]
    go_upto_region 1 with fail
    generalize w.alloc (.cells #[.int .i64 x.k, .int .i64 x.o, .int .i64 x.n, .string ⟨x.s.toArray⟩, .slice A x.ks.length c] 46) = w0 at HR0 HF0 HW0 HE0 HK0 hB0 ⊢
    have c0 := HR0.out.cell 0
    have c1 := HR0.out.cell 1
    have c2 := HR0.out.cell 2
    have c3 := HR0.out.cell 3
    have c4 := HR0.out.cell 4
    simp at c0 c1 c2 c3 c4

    have hkk := HKK.out
    go_wp2_with (go_at_call 56; refine (put_lit B b (l) [x.s] 1 1 w0 HW0.out rfl (by simp; omega) (by omega) hB0).mono ?_; rintro e w1 ⟨rfl, h2, h3⟩; have HW1 : Hid (WS B b (l ++ [x.s].flatten) w1) := Lib.hid h2; have HF1 : Hid (Wrote B w w1) := Lib.hid (HF0.out.trans h3); have hB1 : B ≤ w1.heap.size := Nat.le_trans hB0 h3.below_.size; have HE1 : Hid (PrEnv B w1) := Lib.hid (HE0.out.later h3.below_); have HR1 : Hid (Row w1 w.heap.size 46 #[.int .i64 x.k, .int .i64 x.o, .int .i64 x.n, .string ⟨x.s.toArray⟩, .slice A x.ks.length c]) := Lib.hid (h3.row HR0.out); have HK1 : Hid (KS w1 S A x.ks) := Lib.hid (h3.ks HK0.out HS.out); clear h2 h3; clear c0 c1 c2 c3 c4; have c0 := HR1.out.cell 0; have c1 := HR1.out.cell 1; have c2 := HR1.out.cell 2; have c3 := HR1.out.cell 3; have c4 := HR1.out.cell 4; simp at c0 c1 c2 c3 c4)
    go_end0
    exact ⟨rfl, by rw [HT.out]; have := HW1.out; simpa using this, HF1.out⟩
  · obtain ⟨a, hks⟩ := one_of_len (show x.ks.length = 1 from Nat.le_antisymm hf2.2.2.2.2.2.2 hf2.2.2.2.2.2.1)
    have HC : Hid (∀ w0, KS w0 S A x.ks → WS B b l w0 → PrEnv B w0 → B ≤ w0.heap.size → Calls Tryz.prog 72 #[.pointer (some ⟨b, 0, none⟩), .agg #[.int .i64 x.k, .int .i64 x.o, .int .i64 x.n, .string ⟨x.s.toArray⟩, .slice A x.ks.length c]] w0 fun e w' => e = .returned (.tuple #[]) ∧ WS B b (l ++ x.txt) w' ∧ Wrote B w0 w') := Lib.hid fun w0 g1 g2 g3 g4 => prefixed_any x a h1 hks ⟨hf2.1, hf2.2.1⟩ (hok 0 a (by rw [hks]; rfl)) B b l A c w0 S hx g1 hS g2 g3 g4 HLN.out
    clear hok hf2 hks
    have HKK := Lib.hid h1
    clear h1
    have hb : Below w.heap.size w (w.alloc (.cells #[.int .i64 x.k, .int .i64 x.o, .int .i64 x.n, .string ⟨x.s.toArray⟩, .slice A x.ks.length c] 46)) := (Below.refl _ _).alloc (Nat.le_refl _) _
    have HR0 : Hid (Row (w.alloc (.cells #[.int .i64 x.k, .int .i64 x.o, .int .i64 x.n, .string ⟨x.s.toArray⟩, .slice A x.ks.length c] 46)) w.heap.size 46 #[.int .i64 x.k, .int .i64 x.o, .int .i64 x.n, .string ⟨x.s.toArray⟩, .slice A x.ks.length c]) := Lib.hid (Row.made _ _ _)
    have HF0 : Hid (Wrote B w (w.alloc (.cells #[.int .i64 x.k, .int .i64 x.o, .int .i64 x.n, .string ⟨x.s.toArray⟩, .slice A x.ks.length c] 46))) := Lib.hid (Wrote.later hB hb)
    have HW0 : Hid (WS B b l (w.alloc (.cells #[.int .i64 x.k, .int .i64 x.o, .int .i64 x.n, .string ⟨x.s.toArray⟩, .slice A x.ks.length c] 46))) := Lib.hid (hw.later hb)
    have HE0 := Lib.hid (he.later (hb.mono hB))
    have HK0 : Hid (KS (w.alloc (.cells #[.int .i64 x.k, .int .i64 x.o, .int .i64 x.n, .string ⟨x.s.toArray⟩, .slice A x.ks.length c] 46)) S A x.ks) := Lib.hid (KS.move hk fun q hq => ⟨hq, hb.block q (Nat.lt_of_lt_of_le (hS q hq) hB)⟩)
    have HS := Lib.hid hS
    have HX := Lib.hid hx
    have hB0 : B ≤ (w.alloc (.cells #[.int .i64 x.k, .int .i64 x.o, .int .i64 x.n, .string ⟨x.s.toArray⟩, .slice A x.ks.length c] 46)).heap.size := Nat.le_trans hB hb.size
    clear hb hw he hk hS hx
    go_enter Tryz.func40, Tryz.ntmps40
    simp only [ev]
    go_upto_region 1 with fail
    generalize w.alloc (.cells #[.int .i64 x.k, .int .i64 x.o, .int .i64 x.n, .string ⟨x.s.toArray⟩, .slice A x.ks.length c] 46) = w0 at HR0 HF0 HW0 HE0 HK0 hB0 ⊢
    have c0 := HR0.out.cell 0
    have c1 := HR0.out.cell 1
    have c2 := HR0.out.cell 2
    have c3 := HR0.out.cell 3
    have c4 := HR0.out.cell 4
    simp at c0 c1 c2 c3 c4

    have hkk := HKK.out
    rw [hkk] at HC
    go_wp2_with (go_at_call 72; refine (HC.out _ HK0.out HW0.out HE0.out hB0).mono ?_; rintro e w1 ⟨rfl, h2, h3⟩; have H2 := Lib.hid h2; have H3 := Lib.hid h3; clear h2 h3)
    go_end0
    exact ⟨rfl, H2.out, HF0.out.trans H3.out⟩
  · obtain ⟨a, a', hks⟩ := two_of_len (show x.ks.length = 2 from Nat.le_antisymm hf2.2.2.2.2.2.2 hf2.2.2.2.2.2.1)
    have HC : Hid (∀ w0, KS w0 S A x.ks → WS B b l w0 → PrEnv B w0 → B ≤ w0.heap.size → Calls Tryz.prog 73 #[.pointer (some ⟨b, 0, none⟩), .agg #[.int .i64 x.k, .int .i64 x.o, .int .i64 x.n, .string ⟨x.s.toArray⟩, .slice A x.ks.length c]] w0 fun e w' => e = .returned (.tuple #[]) ∧ WS B b (l ++ x.txt) w' ∧ Wrote B w0 w') := Lib.hid fun w0 g1 g2 g3 g4 => joined_any x a a' h1 hks ⟨hf2.1, hf2.2.1⟩ (hok 0 a (by rw [hks]; rfl)) (hok 1 a' (by rw [hks]; rfl)) B b l A c w0 S hx g1 hS g2 g3 g4 HLN.out
    clear hok hf2 hks
    have HKK := Lib.hid h1
    clear h1
    have hb : Below w.heap.size w (w.alloc (.cells #[.int .i64 x.k, .int .i64 x.o, .int .i64 x.n, .string ⟨x.s.toArray⟩, .slice A x.ks.length c] 46)) := (Below.refl _ _).alloc (Nat.le_refl _) _
    have HR0 : Hid (Row (w.alloc (.cells #[.int .i64 x.k, .int .i64 x.o, .int .i64 x.n, .string ⟨x.s.toArray⟩, .slice A x.ks.length c] 46)) w.heap.size 46 #[.int .i64 x.k, .int .i64 x.o, .int .i64 x.n, .string ⟨x.s.toArray⟩, .slice A x.ks.length c]) := Lib.hid (Row.made _ _ _)
    have HF0 : Hid (Wrote B w (w.alloc (.cells #[.int .i64 x.k, .int .i64 x.o, .int .i64 x.n, .string ⟨x.s.toArray⟩, .slice A x.ks.length c] 46))) := Lib.hid (Wrote.later hB hb)
    have HW0 : Hid (WS B b l (w.alloc (.cells #[.int .i64 x.k, .int .i64 x.o, .int .i64 x.n, .string ⟨x.s.toArray⟩, .slice A x.ks.length c] 46))) := Lib.hid (hw.later hb)
    have HE0 := Lib.hid (he.later (hb.mono hB))
    have HK0 : Hid (KS (w.alloc (.cells #[.int .i64 x.k, .int .i64 x.o, .int .i64 x.n, .string ⟨x.s.toArray⟩, .slice A x.ks.length c] 46)) S A x.ks) := Lib.hid (KS.move hk fun q hq => ⟨hq, hb.block q (Nat.lt_of_lt_of_le (hS q hq) hB)⟩)
    have HS := Lib.hid hS
    have HX := Lib.hid hx
    have hB0 : B ≤ (w.alloc (.cells #[.int .i64 x.k, .int .i64 x.o, .int .i64 x.n, .string ⟨x.s.toArray⟩, .slice A x.ks.length c] 46)).heap.size := Nat.le_trans hB hb.size
    clear hb hw he hk hS hx
    go_enter Tryz.func40, Tryz.ntmps40
    simp only [ev]
    go_upto_region 1 with fail
    generalize w.alloc (.cells #[.int .i64 x.k, .int .i64 x.o, .int .i64 x.n, .string ⟨x.s.toArray⟩, .slice A x.ks.length c] 46) = w0 at HR0 HF0 HW0 HE0 HK0 hB0 ⊢
    have c0 := HR0.out.cell 0
    have c1 := HR0.out.cell 1
    have c2 := HR0.out.cell 2
    have c3 := HR0.out.cell 3
    have c4 := HR0.out.cell 4
    simp at c0 c1 c2 c3 c4

    have hkk := HKK.out
    rw [hkk] at HC
    go_wp2_with (go_at_call 73; refine (HC.out _ HK0.out HW0.out HE0.out hB0).mono ?_; rintro e w1 ⟨rfl, h2, h3⟩; have H2 := Lib.hid h2; have H3 := Lib.hid h3; clear h2 h3)
    go_end0
    exact ⟨rfl, H2.out, HF0.out.trans H3.out⟩
  · obtain ⟨a, a', a'', hks⟩ := three_of_len (show x.ks.length = 3 from Nat.le_antisymm hf2.2.2.2.2.2.2 hf2.2.2.2.2.2.1)
    have HC : Hid (∀ w0, KS w0 S A x.ks → WS B b l w0 → PrEnv B w0 → B ≤ w0.heap.size → Calls Tryz.prog 74 #[.pointer (some ⟨b, 0, none⟩), .agg #[.int .i64 x.k, .int .i64 x.o, .int .i64 x.n, .string ⟨x.s.toArray⟩, .slice A x.ks.length c]] w0 fun e w' => e = .returned (.tuple #[]) ∧ WS B b (l ++ x.txt) w' ∧ Wrote B w0 w') := Lib.hid fun w0 g1 g2 g3 g4 => choice_any x a a' a'' h1 hks hok B b l A c w0 S hx g1 hS g2 g3 g4 HLN.out
    clear hok hf2 hks
    have HKK := Lib.hid h1
    clear h1
    have hb : Below w.heap.size w (w.alloc (.cells #[.int .i64 x.k, .int .i64 x.o, .int .i64 x.n, .string ⟨x.s.toArray⟩, .slice A x.ks.length c] 46)) := (Below.refl _ _).alloc (Nat.le_refl _) _
    have HR0 : Hid (Row (w.alloc (.cells #[.int .i64 x.k, .int .i64 x.o, .int .i64 x.n, .string ⟨x.s.toArray⟩, .slice A x.ks.length c] 46)) w.heap.size 46 #[.int .i64 x.k, .int .i64 x.o, .int .i64 x.n, .string ⟨x.s.toArray⟩, .slice A x.ks.length c]) := Lib.hid (Row.made _ _ _)
    have HF0 : Hid (Wrote B w (w.alloc (.cells #[.int .i64 x.k, .int .i64 x.o, .int .i64 x.n, .string ⟨x.s.toArray⟩, .slice A x.ks.length c] 46))) := Lib.hid (Wrote.later hB hb)
    have HW0 : Hid (WS B b l (w.alloc (.cells #[.int .i64 x.k, .int .i64 x.o, .int .i64 x.n, .string ⟨x.s.toArray⟩, .slice A x.ks.length c] 46))) := Lib.hid (hw.later hb)
    have HE0 := Lib.hid (he.later (hb.mono hB))
    have HK0 : Hid (KS (w.alloc (.cells #[.int .i64 x.k, .int .i64 x.o, .int .i64 x.n, .string ⟨x.s.toArray⟩, .slice A x.ks.length c] 46)) S A x.ks) := Lib.hid (KS.move hk fun q hq => ⟨hq, hb.block q (Nat.lt_of_lt_of_le (hS q hq) hB)⟩)
    have HS := Lib.hid hS
    have HX := Lib.hid hx
    have hB0 : B ≤ (w.alloc (.cells #[.int .i64 x.k, .int .i64 x.o, .int .i64 x.n, .string ⟨x.s.toArray⟩, .slice A x.ks.length c] 46)).heap.size := Nat.le_trans hB hb.size
    clear hb hw he hk hS hx
    go_enter Tryz.func40, Tryz.ntmps40
    simp only [ev]
    go_upto_region 1 with fail
    generalize w.alloc (.cells #[.int .i64 x.k, .int .i64 x.o, .int .i64 x.n, .string ⟨x.s.toArray⟩, .slice A x.ks.length c] 46) = w0 at HR0 HF0 HW0 HE0 HK0 hB0 ⊢
    have c0 := HR0.out.cell 0
    have c1 := HR0.out.cell 1
    have c2 := HR0.out.cell 2
    have c3 := HR0.out.cell 3
    have c4 := HR0.out.cell 4
    simp at c0 c1 c2 c3 c4

    have hkk := HKK.out
    rw [hkk] at HC
    go_wp2_with (go_at_call 74; refine (HC.out _ HK0.out HW0.out HE0.out hB0).mono ?_; rintro e w1 ⟨rfl, h2, h3⟩; have H2 := Lib.hid h2; have H3 := Lib.hid h3; clear h2 h3)
    go_end0
    exact ⟨rfl, H2.out, HF0.out.trans H3.out⟩
  · have HC : Hid (∀ w0, KS w0 S A x.ks → WS B b l w0 → PrEnv B w0 → B ≤ w0.heap.size → Calls Tryz.prog 75 #[.pointer (some ⟨b, 0, none⟩), .agg #[.int .i64 x.k, .int .i64 x.o, .int .i64 x.n, .string ⟨x.s.toArray⟩, .slice A x.ks.length c]] w0 fun e w' => e = .returned (.tuple #[]) ∧ WS B b (l ++ x.txt) w' ∧ Wrote B w0 w') := Lib.hid fun w0 g1 g2 g3 g4 => call_any x h1 hok B b l A c w0 S hx g1 hS g2 g3 g4 HLN.out
    clear hok hf2
    have HKK := Lib.hid h1
    clear h1
    have hb : Below w.heap.size w (w.alloc (.cells #[.int .i64 x.k, .int .i64 x.o, .int .i64 x.n, .string ⟨x.s.toArray⟩, .slice A x.ks.length c] 46)) := (Below.refl _ _).alloc (Nat.le_refl _) _
    have HR0 : Hid (Row (w.alloc (.cells #[.int .i64 x.k, .int .i64 x.o, .int .i64 x.n, .string ⟨x.s.toArray⟩, .slice A x.ks.length c] 46)) w.heap.size 46 #[.int .i64 x.k, .int .i64 x.o, .int .i64 x.n, .string ⟨x.s.toArray⟩, .slice A x.ks.length c]) := Lib.hid (Row.made _ _ _)
    have HF0 : Hid (Wrote B w (w.alloc (.cells #[.int .i64 x.k, .int .i64 x.o, .int .i64 x.n, .string ⟨x.s.toArray⟩, .slice A x.ks.length c] 46))) := Lib.hid (Wrote.later hB hb)
    have HW0 : Hid (WS B b l (w.alloc (.cells #[.int .i64 x.k, .int .i64 x.o, .int .i64 x.n, .string ⟨x.s.toArray⟩, .slice A x.ks.length c] 46))) := Lib.hid (hw.later hb)
    have HE0 := Lib.hid (he.later (hb.mono hB))
    have HK0 : Hid (KS (w.alloc (.cells #[.int .i64 x.k, .int .i64 x.o, .int .i64 x.n, .string ⟨x.s.toArray⟩, .slice A x.ks.length c] 46)) S A x.ks) := Lib.hid (KS.move hk fun q hq => ⟨hq, hb.block q (Nat.lt_of_lt_of_le (hS q hq) hB)⟩)
    have HS := Lib.hid hS
    have HX := Lib.hid hx
    have hB0 : B ≤ (w.alloc (.cells #[.int .i64 x.k, .int .i64 x.o, .int .i64 x.n, .string ⟨x.s.toArray⟩, .slice A x.ks.length c] 46)).heap.size := Nat.le_trans hB hb.size
    clear hb hw he hk hS hx
    go_enter Tryz.func40, Tryz.ntmps40
    simp only [ev]
    go_upto_region 1 with fail
    generalize w.alloc (.cells #[.int .i64 x.k, .int .i64 x.o, .int .i64 x.n, .string ⟨x.s.toArray⟩, .slice A x.ks.length c] 46) = w0 at HR0 HF0 HW0 HE0 HK0 hB0 ⊢
    have c0 := HR0.out.cell 0
    have c1 := HR0.out.cell 1
    have c2 := HR0.out.cell 2
    have c3 := HR0.out.cell 3
    have c4 := HR0.out.cell 4
    simp at c0 c1 c2 c3 c4

    have hkk := HKK.out
    rw [hkk] at HC
    go_wp2_with (go_at_call 75; refine (HC.out _ HK0.out HW0.out HE0.out hB0).mono ?_; rintro e w1 ⟨rfl, h2, h3⟩; have H2 := Lib.hid h2; have H3 := Lib.hid h3; clear h2 h3)
    go_end0
    exact ⟨rfl, H2.out, HF0.out.trans H3.out⟩
theorem expr_all : ∀ (n : Nat) (x : X), x.size ≤ n → ExprOk x := by
  intro n
  induction n with
  | zero => intro x h; have := x.size_pos; omega
  | succ n ih =>
    intro x h
    refine expr_step x fun i y hy => ih y ?_
    have hs := X.sizes_at hy
    cases x with
    | mk k o m s ks => simp only [X.size, X.ks] at h hs; omega

end Go.Proofs.YtdabndiaflagpaaGreatDoor
