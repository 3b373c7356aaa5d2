/- DERIVED. The document's expressions' texts: calls, leaves, all. -/
import Derived.Test.YtfajnflfonechaaDoorRh
namespace Go.Proofs.YtfajnflfonechaaDoor
open Go.RowKit
theorem str_app3 (a b : T) (c : ByteArray) : ((⟨a.toArray⟩ : ByteArray) ++ ⟨b.toArray⟩) ++ c = ⟨(a ++ b).toArray⟩ ++ c := congrArg (· ++ c) (str_app2 a b)

theorem comma_snoc2 {ts : List T} {i : Nat} {t : T} (h : ts[i]? = some t) : commaS (ts.take (i + 1)) = commaS (ts.take i) ++ ((if i = 0 then [] else [44, 32]) ++ t) := by
  rw [List.take_add_one, h]
  have : ∀ l : List T, commaS (l ++ [t]) = commaS l ++ ((if l = [] then [] else [44, 32]) ++ t) := by
    intro l
    cases l with
    | nil => simp [commaS]
    | cons y ys => simp [commaS]
  have hl : ts.take i = [] ↔ i = 0 := by
    have hi : i < ts.length := (List.getElem?_eq_some_iff.1 h).1
    constructor
    · intro e
      have := congrArg List.length e
      rw [List.length_take] at this
      simp only [List.length_nil] at this
      omega
    · intro e; subst e; rfl
  refine (this _).trans ?_
  by_cases h0 : i = 0
  · rw [if_pos h0, if_pos (hl.2 h0)]
  · rw [if_neg h0, if_neg fun e => h0 (hl.1 e)]
theorem comma_take2 {xs : List X} (h : X.shapes xs = true) (i : Nat) : (commaS ((xs.map X.txt).take i)).length ≤ 100 * X.sizes (xs.take i) := by
  rw [← List.map_take, ← X.txts_map]
  refine Nat.le_trans (comma_len _) (X.txts_len _ (X.shapes_all fun j x hj => ?_))
  rw [List.getElem?_take] at hj
  split at hj
  · exact shapes_kid h hj
  · cases hj
set_option maxRecDepth 100000 in
set_option maxHeartbeats 2000000 in
theorem refCall_any (x : X) (hk6 : x.k = 6) (hok : ∀ (i : Nat) y, x.ks[i]? = some y → RefTx y) (A : Option Addr) (c : Nat) (w : World) (S : Nat → Prop) (hx : x.shape = true) (hk : KS w S A x.ks) (hS : ∀ q, S q → q < w.heap.size) (hz : x.size ≤ 10000000) :
    Calls Tryd.prog 17 #[ev x A c] w fun e w' => e = .returned (.string ⟨x.txt.toArray⟩) ∧ Below w.heap.size w w' := by
  have hsz : x.size = 1 + X.sizes x.ks := by cases x; simp only [X.size, X.ks]
  have hnm : x.s.length ≤ 60 := by
    rcases (shape_open hx).1 with ⟨h1, _⟩ | ⟨h1, _⟩ | ⟨h1, _⟩ | ⟨h1, _⟩ | ⟨h1, _⟩ | ⟨h1, _⟩ | ⟨_, h2⟩
    · omega
    · omega
    · omega
    · omega
    · omega
    · omega
    · exact name_len (by simpa [calP] using h2.2.2.2.2.1)
  have HXK : Hid (∀ (i : Nat) y, x.ks[i]? = some y → y.shape = true) := Lib.hid fun i y h => shapes_kid (shape_open hx).2 h
  have HCT : Hid (∀ i, (commaS ((x.ks.map X.txt).take i)).length ≤ 100 * X.sizes (x.ks.take i)) := Lib.hid fun i => comma_take2 (shape_open hx).2 i
  have hkb : x.ks.length ≤ 10000000 := by have := X.sizes_length x.ks; omega
  have HT : Hid (x.txt = (x.s ++ [40]) ++ (commaS (x.ks.map X.txt) ++ [41])) := Lib.hid (txt_call hk6)
  have HOK := Lib.hid hok
  have HKK := Lib.hid hk6
  obtain ⟨ts, hts⟩ : ∃ ts : List T, ts = x.ks.map X.txt := ⟨_, rfl⟩
  have HTS := Lib.hid hts
  rw [← hts] at HCT HT
  clear hok hk6 hts
  have hb : Below w.heap.size w (w.alloc (.cells #[.int .i64 x.k, .int .i64 x.o, .int .i64 x.n, .string ⟨x.s.toArray⟩, .slice A x.ks.length c] 46)) := (Below.refl _ _).alloc (Nat.le_refl _) _
  have HR0 : Hid (Row (w.alloc (.cells #[.int .i64 x.k, .int .i64 x.o, .int .i64 x.n, .string ⟨x.s.toArray⟩, .slice A x.ks.length c] 46)) w.heap.size 46 #[.int .i64 x.k, .int .i64 x.o, .int .i64 x.n, .string ⟨x.s.toArray⟩, .slice A x.ks.length c]) := Lib.hid (Row.made _ _ _)
  have HB0 := Lib.hid hb
  have HK0 : Hid (KS (w.alloc (.cells #[.int .i64 x.k, .int .i64 x.o, .int .i64 x.n, .string ⟨x.s.toArray⟩, .slice A x.ks.length c] 46)) S A x.ks) := Lib.hid (KS.later hk hS hb)
  have HS0 : Hid (∀ q, S q → q < (w.alloc (.cells #[.int .i64 x.k, .int .i64 x.o, .int .i64 x.n, .string ⟨x.s.toArray⟩, .slice A x.ks.length c] 46)).heap.size) := Lib.hid fun q hq => Nat.lt_of_lt_of_le (hS q hq) hb.size
  have HX := Lib.hid hx
  clear hb hk hS hx
  go_enter Tryd.func17, Tryd.ntmps17
  simp only [ev]
  go_upto_region 1 with fail
  generalize w.alloc (.cells #[.int .i64 x.k, .int .i64 x.o, .int .i64 x.n, .string ⟨x.s.toArray⟩, .slice A x.ks.length c] 46) = w0 at HR0 HB0 HK0 HS0 ⊢
  have c0 := HR0.out.cell 0
  have c1 := HR0.out.cell 1
  have c2 := HR0.out.cell 2
  have c3 := HR0.out.cell 3
  have c4 := HR0.out.cell 4
  simp at c0 c1 c2 c3 c4
  go_upto_region 2 with fail
  rw [HKK.out]
  go_wp2_with fail
  clear c0 c1 c2 c3 c4
  go_loopg [7, 8] x.ks.length (fun g' sv k wr => ∃ i : Nat, i + g' = x.ks.length ∧ k = .int .i64 (i : Int) ∧ sv = .string ⟨((x.s ++ [40]) ++ commaS (ts.take i)).toArray⟩ ∧ Below w0.heap.size w0 wr)
  case atStart => exact ⟨0, by omega, rfl, by rw [str_app2]; simp [commaS], Below.refl _ _⟩
  case round =>
    obtain ⟨i, hi, rfl, rfl, hbel⟩ := hrel
    have HBL := Lib.hid hbel
    have HRr : Hid (Row wr w.heap.size 46 #[.int .i64 x.k, .int .i64 x.o, .int .i64 x.n, .string ⟨x.s.toArray⟩, .slice A x.ks.length c]) := Lib.hid (HR0.out.below hbel HR0.out.lt)
    have HKr : Hid (KS wr S A x.ks) := Lib.hid (HK0.out.later HS0.out hbel)
    have HSr : Hid (∀ q, S q → q < wr.heap.size) := Lib.hid fun q hq => Nat.lt_of_lt_of_le (HS0.out q hq) hbel.size
    clear hbel
    have c3 := HRr.out.cell 3
    have c4 := HRr.out.cell 4
    simp at c3 c4
    have hct := HCT.out i
    have hstl := X.sizes_take_le x.ks i
    obtain ⟨pre, hpre⟩ : ∃ pre, pre = (x.s ++ [40]) ++ commaS (ts.take i) := ⟨_, rfl⟩
    have hpl : pre.length ≤ 2000000000 := by rw [hpre]; simp only [List.length_append, List.length_cons, List.length_nil]; omega
    have HPRE := Lib.hid hpre
    rw [← hpre]
    clear hpre hct hstl
    by_cases hil : i < x.ks.length
    · obtain ⟨y, hy⟩ : ∃ y, x.ks[i]? = some y := ⟨_, List.getElem?_eq_getElem hil⟩
      have hty : ts[i]? = some y.txt := by rw [HTS.out, List.getElem?_map, hy]; rfl
      have HSN := Lib.hid (comma_snoc2 hty)
      have hys := X.sizes_at hy
      have hyl := y.txt_len (HXK.out i y hy)
      obtain ⟨g, off, A2, m2, hA, hSg, k0, k1, k2, k3, k4, hka⟩ := KS.rat HKr.out hy
      have hC := HOK.out i y hy A2 m2 wr S (HXK.out i y hy) hka HSr.out (by omega)
      unfold ev at hC
      have HC := Lib.hid hC
      subst hA
      clear hC hka hSg hty hy
      by_cases hi0 : i = 0
      · subst hi0
        simp at k0 k1 k2 k3 k4
        go_wp2_with (go_at_call 17; refine HC.out.mono ?_; rintro e w3 ⟨rfl, h1⟩; have H1 := Lib.hid h1; clear h1 HC)
        go_roundg (x.ks.length - (0 + 1))
        case rel => exact ⟨0 + 1, by omega, by go_num, by rw [str_app2, HSN.out, if_pos trivial, List.nil_append, HPRE.out, List.append_assoc], HBL.out.trans (H1.out.mono HBL.out.size)⟩
        case measure => omega
      · have hi1 : (0 : Int) < (i : Int) := by omega
        go_wp2_with (go_at_call 17; refine HC.out.mono ?_; rintro e w3 ⟨rfl, h1⟩; have H1 := Lib.hid h1; clear h1 HC)
        go_roundg (x.ks.length - (i + 1))
        case rel => exact ⟨i + 1, by omega, by go_num, by rw [str_app3, str_app2, HSN.out, if_neg hi0, HPRE.out]; simp, HBL.out.trans (H1.out.mono HBL.out.size)⟩
        case measure => omega
    · obtain rfl : i = x.ks.length := by omega
      have hfull : ts.take x.ks.length = ts := by rw [List.take_of_length_le (by rw [HTS.out]; simp)]
      go_wp2_with fail
      go_ret
      refine ⟨?_, HB0.out.trans (HBL.out.mono HB0.out.size)⟩
      have e1 : (⟨pre.toArray⟩ : ByteArray) ++ ⟨([41] : T).toArray⟩ = ⟨x.txt.toArray⟩ := by rw [str_app2, HT.out, HPRE.out, hfull, List.append_assoc]
      exact ret_str e1

set_option maxRecDepth 100000 in
set_option maxHeartbeats 2000000 in
theorem ref_step (x : X) (hok : ∀ (i : Nat) y, x.ks[i]? = some y → RefTx y) : RefTx x := by
  intro A c w S hx hk hS hz
  have hf := (shape_open hx).1
  rcases hf with ⟨h1, hf2⟩ | ⟨h1, hf2⟩ | ⟨h1, hf2⟩ | ⟨h1, hf2⟩ | ⟨h1, hf2⟩ | ⟨h1, hf2⟩ | ⟨h1, hf2⟩
  · have HT := Lib.hid (txt_int h1)
    have HNM := Lib.hid fun w9 => num_any x.n hf2.2.2.1 hf2.2.2.2.1 w9
    have HKK := Lib.hid h1
    clear hok h1 hf2
    have hb : Below w.heap.size w (w.alloc (.cells #[.int .i64 x.k, .int .i64 x.o, .int .i64 x.n, .string ⟨x.s.toArray⟩, .slice A x.ks.length c] 46)) := (Below.refl _ _).alloc (Nat.le_refl _) _
    have HR0 : Hid (Row (w.alloc (.cells #[.int .i64 x.k, .int .i64 x.o, .int .i64 x.n, .string ⟨x.s.toArray⟩, .slice A x.ks.length c] 46)) w.heap.size 46 #[.int .i64 x.k, .int .i64 x.o, .int .i64 x.n, .string ⟨x.s.toArray⟩, .slice A x.ks.length c]) := Lib.hid (Row.made _ _ _)
    have HB0 := Lib.hid hb
    have HK0 : Hid (KS (w.alloc (.cells #[.int .i64 x.k, .int .i64 x.o, .int .i64 x.n, .string ⟨x.s.toArray⟩, .slice A x.ks.length c] 46)) S A x.ks) := Lib.hid (KS.later hk hS hb)
    have HS0 : Hid (∀ q, S q → q < (w.alloc (.cells #[.int .i64 x.k, .int .i64 x.o, .int .i64 x.n, .string ⟨x.s.toArray⟩, .slice A x.ks.length c] 46)).heap.size) := Lib.hid fun q hq => Nat.lt_of_lt_of_le (hS q hq) hb.size
    have HX := Lib.hid hx
    clear hb hk hS hx
    go_enter Tryd.func17, Tryd.ntmps17
    simp only [ev]
    go_upto_region 1 with fail
    generalize w.alloc (.cells #[.int .i64 x.k, .int .i64 x.o, .int .i64 x.n, .string ⟨x.s.toArray⟩, .slice A x.ks.length c] 46) = w0 at HR0 HB0 HK0 HS0 ⊢
    have c0 := HR0.out.cell 0
    have c1 := HR0.out.cell 1
    have c2 := HR0.out.cell 2
    have c3 := HR0.out.cell 3
    have c4 := HR0.out.cell 4
    simp at c0 c1 c2 c3 c4

    go_upto_region 2 with fail
    rw [HKK.out]
    go_wp2_with (go_at_call 37; refine (HNM.out _).mono ?_; rintro e w1 ⟨rfl, h1⟩; have H1 := Lib.hid h1; clear h1)
    go_ret
    exact ⟨ret_str (by rw [HT.out]), HB0.out.trans (H1.out.mono HB0.out.size)⟩
  · have HT := Lib.hid (txt_bool h1)
    have HKK := Lib.hid h1
    clear hok h1 hf2
    have hb : Below w.heap.size w (w.alloc (.cells #[.int .i64 x.k, .int .i64 x.o, .int .i64 x.n, .string ⟨x.s.toArray⟩, .slice A x.ks.length c] 46)) := (Below.refl _ _).alloc (Nat.le_refl _) _
    have HR0 : Hid (Row (w.alloc (.cells #[.int .i64 x.k, .int .i64 x.o, .int .i64 x.n, .string ⟨x.s.toArray⟩, .slice A x.ks.length c] 46)) w.heap.size 46 #[.int .i64 x.k, .int .i64 x.o, .int .i64 x.n, .string ⟨x.s.toArray⟩, .slice A x.ks.length c]) := Lib.hid (Row.made _ _ _)
    have HB0 := Lib.hid hb
    have HK0 : Hid (KS (w.alloc (.cells #[.int .i64 x.k, .int .i64 x.o, .int .i64 x.n, .string ⟨x.s.toArray⟩, .slice A x.ks.length c] 46)) S A x.ks) := Lib.hid (KS.later hk hS hb)
    have HS0 : Hid (∀ q, S q → q < (w.alloc (.cells #[.int .i64 x.k, .int .i64 x.o, .int .i64 x.n, .string ⟨x.s.toArray⟩, .slice A x.ks.length c] 46)).heap.size) := Lib.hid fun q hq => Nat.lt_of_lt_of_le (hS q hq) hb.size
    have HX := Lib.hid hx
    clear hb hk hS hx
    go_enter Tryd.func17, Tryd.ntmps17
    simp only [ev]
    go_upto_region 1 with fail
    generalize w.alloc (.cells #[.int .i64 x.k, .int .i64 x.o, .int .i64 x.n, .string ⟨x.s.toArray⟩, .slice A x.ks.length c] 46) = w0 at HR0 HB0 HK0 HS0 ⊢
    have c0 := HR0.out.cell 0
    have c1 := HR0.out.cell 1
    have c2 := HR0.out.cell 2
    have c3 := HR0.out.cell 3
    have c4 := HR0.out.cell 4
    simp at c0 c1 c2 c3 c4

    go_upto_region 2 with fail
    rw [HKK.out]
    by_cases hn : x.n = 1
    · have HTX : Hid (x.txt = [116, 114, 117, 101]) := Lib.hid (by rw [HT.out]; unfold boolS; rw [if_pos hn])
      rw [hn] at c2
      clear hn
      go_wp2_with fail
      go_ret
      exact ⟨ret_str (by rw [HTX.out]), HB0.out⟩
    · have hn' : (x.n == 1) = false := by simpa using hn
      have HTX : Hid (x.txt = [102, 97, 108, 115, 101]) := Lib.hid (by rw [HT.out]; unfold boolS; rw [if_neg hn])
      clear hn
      go_wp2_with fail
      go_ret
      exact ⟨ret_str (by rw [HTX.out]), HB0.out⟩
  · have HT := Lib.hid (txt_var h1)
    have HKK := Lib.hid h1
    clear hok h1 hf2
    have hb : Below w.heap.size w (w.alloc (.cells #[.int .i64 x.k, .int .i64 x.o, .int .i64 x.n, .string ⟨x.s.toArray⟩, .slice A x.ks.length c] 46)) := (Below.refl _ _).alloc (Nat.le_refl _) _
    have HR0 : Hid (Row (w.alloc (.cells #[.int .i64 x.k, .int .i64 x.o, .int .i64 x.n, .string ⟨x.s.toArray⟩, .slice A x.ks.length c] 46)) w.heap.size 46 #[.int .i64 x.k, .int .i64 x.o, .int .i64 x.n, .string ⟨x.s.toArray⟩, .slice A x.ks.length c]) := Lib.hid (Row.made _ _ _)
    have HB0 := Lib.hid hb
    have HK0 : Hid (KS (w.alloc (.cells #[.int .i64 x.k, .int .i64 x.o, .int .i64 x.n, .string ⟨x.s.toArray⟩, .slice A x.ks.length c] 46)) S A x.ks) := Lib.hid (KS.later hk hS hb)
    have HS0 : Hid (∀ q, S q → q < (w.alloc (.cells #[.int .i64 x.k, .int .i64 x.o, .int .i64 x.n, .string ⟨x.s.toArray⟩, .slice A x.ks.length c] 46)).heap.size) := Lib.hid fun q hq => Nat.lt_of_lt_of_le (hS q hq) hb.size
    have HX := Lib.hid hx
    clear hb hk hS hx
    go_enter Tryd.func17, Tryd.ntmps17
    simp only [ev]
    go_upto_region 1 with fail
    generalize w.alloc (.cells #[.int .i64 x.k, .int .i64 x.o, .int .i64 x.n, .string ⟨x.s.toArray⟩, .slice A x.ks.length c] 46) = w0 at HR0 HB0 HK0 HS0 ⊢
    have c0 := HR0.out.cell 0
    have c1 := HR0.out.cell 1
    have c2 := HR0.out.cell 2
    have c3 := HR0.out.cell 3
    have c4 := HR0.out.cell 4
    simp at c0 c1 c2 c3 c4

    go_upto_region 2 with fail
    rw [HKK.out]
    go_wp2_with fail
    go_ret
    exact ⟨ret_str (by rw [HT.out]), HB0.out⟩
  · obtain ⟨a, hks⟩ := one_of_len (show x.ks.length = 1 from Nat.le_antisymm hf2.2.2.2.2.2.2 hf2.2.2.2.2.2.1)
    exact refUn_any x a h1 hks ⟨hf2.1, hf2.2.1⟩ (hok 0 a (by rw [hks]; rfl)) A c w S hx hk hS hz
  · obtain ⟨a, a', hks⟩ := two_of_len (show x.ks.length = 2 from Nat.le_antisymm hf2.2.2.2.2.2.2 hf2.2.2.2.2.2.1)
    exact refBin_any x a a' h1 hks ⟨hf2.1, hf2.2.1⟩ (hok 0 a (by rw [hks]; rfl)) (hok 1 a' (by rw [hks]; rfl)) A c w S hx hk hS hz
  · obtain ⟨a, a', a'', hks⟩ := three_of_len (show x.ks.length = 3 from Nat.le_antisymm hf2.2.2.2.2.2.2 hf2.2.2.2.2.2.1)
    exact refIf_any x a a' a'' h1 hks (hok 0 a (by rw [hks]; rfl)) (hok 1 a' (by rw [hks]; rfl)) (hok 2 a'' (by rw [hks]; rfl)) A c w S hx hk hS hz
  · exact refCall_any x h1 hok A c w S hx hk hS hz
theorem refTx_all : ∀ (n : Nat) (x : X), x.size ≤ n → RefTx x := by
  intro n
  induction n with
  | zero => intro x h; have := x.size_pos; omega
  | succ n ih =>
    intro x h
    refine ref_step x fun i y hy => ih y ?_
    have hs := X.sizes_at hy
    cases x with
    | mk k o m s ks => simp only [X.size, X.ks] at h hs; omega

end Go.Proofs.YtfajnflfonechaaDoor
