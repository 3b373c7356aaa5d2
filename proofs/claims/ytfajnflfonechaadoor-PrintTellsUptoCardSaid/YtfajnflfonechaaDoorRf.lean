/- DERIVED. The document's expressions' texts. -/
import Derived.Test.YtfajnflfonechaaDoorRe
namespace Go.Proofs.YtfajnflfonechaaDoor
open Go.RowKit
attribute [local go_sem] Tame.Op Tame.upon

/-- The reference tells this expression's text. -/
def RefTx (x : X) : Prop := ∀ (A : Option Addr) (c : Nat) (w : World) (S : Nat → Prop), x.shape = true → KS w S A x.ks → (∀ q, S q → q < w.heap.size) → x.size ≤ 10000000 → Calls Tryd.prog 17 #[ev x A c] w fun e w' => e = .returned (.string ⟨x.txt.toArray⟩) ∧ Below w.heap.size w w'
theorem later_drew' {B : Nat} {W w2 : World} (hL : Tame.Later W.drew w2) (h : B ≤ W.heap.size) : Below B W w2 := ((Below.refl B W).drew).trans (Below.mono hL h)
theorem KS.rat {w : World} {S : Nat → Prop} {A : Option Addr} {ks : List X} (hk : KS w S A ks) {i : Nat} {a : X} (hi : ks[i]? = some a) : ∃ g off A2 c2, A = some ⟨g, off, none⟩ ∧ S g ∧ w.cell? ⟨g, off + i * 5, none⟩ = some (.int .i64 a.k) ∧ w.cell? ⟨g, off + i * 5 + 1, none⟩ = some (.int .i64 a.o) ∧ w.cell? ⟨g, off + i * 5 + 2, none⟩ = some (.int .i64 a.n) ∧ w.cell? ⟨g, off + i * 5 + 3, none⟩ = some (.string ⟨a.s.toArray⟩) ∧ w.cell? ⟨g, off + i * 5 + 4, none⟩ = some (.slice A2 a.ks.length c2) ∧ KS w S A2 a.ks := by
  obtain ⟨g, off, hA, he⟩ := hk.kid hi
  obtain ⟨A2, c2, h0, h1, h2, h3, h4, h5⟩ := he.ev
  exact ⟨g, off, A2, c2, hA, he.block, h0, h1, h2, h3, h4, h5⟩
theorem KS.rcells {w : World} {S : Nat → Prop} {g off : Nat} {ks : List X} (hk : KS w S (some ⟨g, off, none⟩) ks) {i : Nat} {a : X} (hi : ks[i]? = some a) : ∃ A2 c2, S g ∧ w.cell? ⟨g, off + i * 5, none⟩ = some (.int .i64 a.k) ∧ w.cell? ⟨g, off + i * 5 + 1, none⟩ = some (.int .i64 a.o) ∧ w.cell? ⟨g, off + i * 5 + 2, none⟩ = some (.int .i64 a.n) ∧ w.cell? ⟨g, off + i * 5 + 3, none⟩ = some (.string ⟨a.s.toArray⟩) ∧ w.cell? ⟨g, off + i * 5 + 4, none⟩ = some (.slice A2 a.ks.length c2) ∧ KS w S A2 a.ks := by
  obtain ⟨g', off', A2, c2, hA, h⟩ := hk.rat hi
  injection hA with hA
  injection hA with h1 h2
  subst h1 h2
  exact ⟨A2, c2, h⟩

set_option maxRecDepth 100000 in
set_option maxHeartbeats 1000000 in
theorem refIn_any (x : X) (asks : Int) (hok : RefTx x) (A : Option Addr) (c : Nat) (w : World) (S : Nat → Prop) (hx : x.shape = true) (hk : KS w S A x.ks) (hS : ∀ q, S q → q < w.heap.size) (hz : x.size ≤ 10000000) :
    Calls Tryd.prog 38 #[ev x A c, .int .i64 asks] w fun e w' => e = .returned (.string ⟨(inT x.lev asks x.txt).toArray⟩) ∧ Below w.heap.size w w' := by
  have htl := x.txt_len hx
  have HOK := Lib.hid hok
  clear hok
  have hb : Below w.heap.size w (w.alloc (.cells #[.int .i64 x.k, .int .i64 x.o, .int .i64 x.n, .string ⟨x.s.toArray⟩, .slice A x.ks.length c] 46)) := (Below.refl _ _).alloc (Nat.le_refl _) _
  have HR0 : Hid (Row (w.alloc (.cells #[.int .i64 x.k, .int .i64 x.o, .int .i64 x.n, .string ⟨x.s.toArray⟩, .slice A x.ks.length c] 46)) w.heap.size 46 #[.int .i64 x.k, .int .i64 x.o, .int .i64 x.n, .string ⟨x.s.toArray⟩, .slice A x.ks.length c]) := Lib.hid (Row.made _ _ _)
  have HB0 := Lib.hid hb
  have HK0 : Hid (KS (w.alloc (.cells #[.int .i64 x.k, .int .i64 x.o, .int .i64 x.n, .string ⟨x.s.toArray⟩, .slice A x.ks.length c] 46)) S A x.ks) := Lib.hid (KS.later hk hS hb)
  have HS0 : Hid (∀ q, S q → q < (w.alloc (.cells #[.int .i64 x.k, .int .i64 x.o, .int .i64 x.n, .string ⟨x.s.toArray⟩, .slice A x.ks.length c] 46)).heap.size) := Lib.hid fun q hq => Nat.lt_of_lt_of_le (hS q hq) hb.size
  have HX := Lib.hid hx
  clear hb hk hS hx
  go_enter Tryd.func38, Tryd.ntmps38
  simp only [ev]
  go_upto_region 1 with fail
  generalize w.alloc (.cells #[.int .i64 x.k, .int .i64 x.o, .int .i64 x.n, .string ⟨x.s.toArray⟩, .slice A x.ks.length c] 46) = w0 at HR0 HB0 HK0 HS0 ⊢
  have c0 := HR0.out.cell 0
  have c1 := HR0.out.cell 1
  have c2 := HR0.out.cell 2
  have c3 := HR0.out.cell 3
  have c4 := HR0.out.cell 4
  simp at c0 c1 c2 c3 c4
  have HLV := Lib.hid (refLev_any x A c w0 HX.out)
  unfold ev at HLV
  go_upto_if 8 with (go_at_call 58; refine HLV.out.mono ?_; rintro e w1 ⟨rfl, h1⟩; clear HLV; have HL1 := Lib.hid h1; have HB1 : Hid (Below w.heap.size w w1) := Lib.hid (HB0.out.trans (h1.mono HB0.out.size)); have HR1 : Hid (Row w1 w.heap.size 46 #[.int .i64 x.k, .int .i64 x.o, .int .i64 x.n, .string ⟨x.s.toArray⟩, .slice A x.ks.length c]) := Lib.hid (HR0.out.below h1 HR0.out.lt); have HK1 : Hid (KS w1 S A x.ks) := Lib.hid (HK0.out.later HS0.out h1); have HS1 : Hid (∀ q, S q → q < w1.heap.size) := Lib.hid fun q hq => Nat.lt_of_lt_of_le (HS0.out q hq) h1.size; clear h1 c0 c1 c2 c3 c4; have c0 := HR1.out.cell 0; have c1 := HR1.out.cell 1; have c2 := HR1.out.cell 2; have c3 := HR1.out.cell 3; have c4 := HR1.out.cell 4; simp at c0 c1 c2 c3 c4)
  have hC := HOK.out A c w1 S HX.out HK1.out HS1.out hz
  unfold ev at hC
  have HC := Lib.hid hC
  clear hC
  by_cases hlv : x.lev < asks
  · have HT : Hid (inT x.lev asks x.txt = [40] ++ (x.txt ++ [41])) := Lib.hid (by unfold inT; rw [if_pos hlv])
    go_wp2_with (go_at_call 17; refine HC.out.mono ?_; rintro e w2 ⟨rfl, h1⟩; have H2 := Lib.hid h1; clear h1)
    go_ret
    refine ⟨?_, HB1.out.trans (H2.out.mono HB1.out.size)⟩
    have e1 : ((⟨([40] : T).toArray⟩ : ByteArray) ++ ⟨x.txt.toArray⟩) ++ ⟨([41] : T).toArray⟩ = ⟨(inT x.lev asks x.txt).toArray⟩ := by rw [HT.out, str_app2, str_app2, List.append_assoc]
    exact ret_str e1
  · have HT : Hid (inT x.lev asks x.txt = x.txt) := Lib.hid (by unfold inT; rw [if_neg hlv])
    go_wp2_with (go_at_call 17; refine HC.out.mono ?_; rintro e w2 ⟨rfl, h1⟩; have H2 := Lib.hid h1; clear h1)
    go_ret
    exact ⟨ret_str (by rw [HT.out]), HB1.out.trans (H2.out.mono HB1.out.size)⟩


set_option maxRecDepth 100000 in
set_option maxHeartbeats 2000000 in
theorem refIf_any (x a a' a'' : X) (hk5 : x.k = 5) (hks : x.ks = [a, a', a'']) (hoka : RefTx a) (hokb : RefTx a') (hokc : RefTx a'') (A : Option Addr) (c : Nat) (w : World) (S : Nat → Prop) (hx : x.shape = true) (hk : KS w S A x.ks) (hS : ∀ q, S q → q < w.heap.size) (hz : x.size ≤ 10000000) :
    Calls Tryd.prog 17 #[ev x A c] w fun e w' => e = .returned (.string ⟨x.txt.toArray⟩) ∧ Below w.heap.size w w' := by
  have HXa : Hid (a.shape = true) := Lib.hid (shapes_kid (shape_open hx).2 (i := 0) (by rw [hks]; rfl))
  have HXb : Hid (a'.shape = true) := Lib.hid (shapes_kid (shape_open hx).2 (i := 1) (by rw [hks]; rfl))
  have HXc : Hid (a''.shape = true) := Lib.hid (shapes_kid (shape_open hx).2 (i := 2) (by rw [hks]; rfl))
  have hsz : x.size = 1 + (a.size + (a'.size + a''.size)) := by cases x; simp only [X.ks] at hks; subst hks; simp [X.size, X.sizes]
  have hta := a.txt_len HXa.out
  have htb := a'.txt_len HXb.out
  have htc := a''.txt_len HXc.out
  have HT := Lib.hid (txt_if hk5 hks)
  have HOKa := Lib.hid hoka
  have HOKb := Lib.hid hokb
  have HOKc := Lib.hid hokc
  have HKS := Lib.hid hks
  have HKK := Lib.hid hk5
  clear hoka hokb hokc hks hk5
  have hb : Below w.heap.size w (w.alloc (.cells #[.int .i64 x.k, .int .i64 x.o, .int .i64 x.n, .string ⟨x.s.toArray⟩, .slice A x.ks.length c] 46)) := (Below.refl _ _).alloc (Nat.le_refl _) _
  have HR0 : Hid (Row (w.alloc (.cells #[.int .i64 x.k, .int .i64 x.o, .int .i64 x.n, .string ⟨x.s.toArray⟩, .slice A x.ks.length c] 46)) w.heap.size 46 #[.int .i64 x.k, .int .i64 x.o, .int .i64 x.n, .string ⟨x.s.toArray⟩, .slice A x.ks.length c]) := Lib.hid (Row.made _ _ _)
  have HB0 := Lib.hid hb
  have HK0 : Hid (KS (w.alloc (.cells #[.int .i64 x.k, .int .i64 x.o, .int .i64 x.n, .string ⟨x.s.toArray⟩, .slice A x.ks.length c] 46)) S A x.ks) := Lib.hid (KS.later hk hS hb)
  have HS0 : Hid (∀ q, S q → q < (w.alloc (.cells #[.int .i64 x.k, .int .i64 x.o, .int .i64 x.n, .string ⟨x.s.toArray⟩, .slice A x.ks.length c] 46)).heap.size) := Lib.hid fun q hq => Nat.lt_of_lt_of_le (hS q hq) hb.size
  have HX := Lib.hid hx
  clear hb hk hS hx
  go_enter Tryd.func17, Tryd.ntmps17
  simp only [ev]
  go_upto_region 1 with fail
  generalize w.alloc (.cells #[.int .i64 x.k, .int .i64 x.o, .int .i64 x.n, .string ⟨x.s.toArray⟩, .slice A x.ks.length c] 46) = w0 at HR0 HB0 HK0 HS0 ⊢
  have c0 := HR0.out.cell 0
  have c1 := HR0.out.cell 1
  have c2 := HR0.out.cell 2
  have c3 := HR0.out.cell 3
  have c4 := HR0.out.cell 4
  simp at c0 c1 c2 c3 c4
  have hkk := HKK.out
  have hkl : x.ks.length = 3 := by rw [HKS.out]; rfl
  obtain ⟨g, off, _, _, rfl, hrest⟩ := KS.rat HK0.out (i := 0) (a := a) (by rw [HKS.out]; rfl)
  clear hrest
  obtain ⟨A2, m2, hSg, k0, k1, k2, k3, k4, hka⟩ := KS.rcells HK0.out (i := 0) (a := a) (by rw [HKS.out]; rfl)
  have hgwa : g < w0.heap.size := HS0.out g hSg
  have Ka0 := Lib.hid k0
  have Ka1 := Lib.hid k1
  have Ka2 := Lib.hid k2
  have Ka3 := Lib.hid k3
  have Ka4 := Lib.hid k4
  have HKYa := Lib.hid hka
  clear k0 k1 k2 k3 k4 hka hSg
  obtain ⟨A3, m3, hSg, k0, k1, k2, k3, k4, hka⟩ := KS.rcells HK0.out (i := 1) (a := a') (by rw [HKS.out]; rfl)
  have hgwb : g < w0.heap.size := HS0.out g hSg
  have Kb0 := Lib.hid k0
  have Kb1 := Lib.hid k1
  have Kb2 := Lib.hid k2
  have Kb3 := Lib.hid k3
  have Kb4 := Lib.hid k4
  have HKYb := Lib.hid hka
  clear k0 k1 k2 k3 k4 hka hSg
  obtain ⟨A4, m4, hSg, k0, k1, k2, k3, k4, hka⟩ := KS.rcells HK0.out (i := 2) (a := a'') (by rw [HKS.out]; rfl)
  have hgwc : g < w0.heap.size := HS0.out g hSg
  have Kc0 := Lib.hid k0
  have Kc1 := Lib.hid k1
  have Kc2 := Lib.hid k2
  have Kc3 := Lib.hid k3
  have Kc4 := Lib.hid k4
  have HKYc := Lib.hid hka
  clear k0 k1 k2 k3 k4 hka hSg
  have HIa : Hid (∀ w2, Below w0.heap.size w0 w2 → Calls Tryd.prog 17 #[.agg #[.int .i64 a.k, .int .i64 a.o, .int .i64 a.n, .string ⟨a.s.toArray⟩, .slice A2 a.ks.length m2]] w2 fun e w' => e = .returned (.string ⟨(a.txt).toArray⟩) ∧ Below w2.heap.size w2 w') := Lib.hid fun w2 hb => HOKa.out A2 m2 w2 S HXa.out (HKYa.out.later HS0.out hb) (fun q hq => Nat.lt_of_lt_of_le (HS0.out q hq) hb.size) (by omega)
  have HIb : Hid (∀ w2, Below w0.heap.size w0 w2 → Calls Tryd.prog 17 #[.agg #[.int .i64 a'.k, .int .i64 a'.o, .int .i64 a'.n, .string ⟨a'.s.toArray⟩, .slice A3 a'.ks.length m3]] w2 fun e w' => e = .returned (.string ⟨(a'.txt).toArray⟩) ∧ Below w2.heap.size w2 w') := Lib.hid fun w2 hb => HOKb.out A3 m3 w2 S HXb.out (HKYb.out.later HS0.out hb) (fun q hq => Nat.lt_of_lt_of_le (HS0.out q hq) hb.size) (by omega)
  have HIc : Hid (∀ w2, Below w0.heap.size w0 w2 → Calls Tryd.prog 17 #[.agg #[.int .i64 a''.k, .int .i64 a''.o, .int .i64 a''.n, .string ⟨a''.s.toArray⟩, .slice A4 a''.ks.length m4]] w2 fun e w' => e = .returned (.string ⟨(a''.txt).toArray⟩) ∧ Below w2.heap.size w2 w') := Lib.hid fun w2 hb => HOKc.out A4 m4 w2 S HXc.out (HKYc.out.later HS0.out hb) (fun q hq => Nat.lt_of_lt_of_le (HS0.out q hq) hb.size) (by omega)
  go_upto_region 26 with fail
  clear c0 c1 c2 c3 c4 hkk
  refine Tame.wp_region_tame (by kernel_rfl) (by kernel_rfl) Tame.Later.refl Tame.Later.trans ?_
  repeat
    ((first
      | (refine Tame.walk_known (o := ⟨some 104, _, _, _, _, _⟩) (fun _ => rfl) ?_; apply Exists.intro; refine ⟨fun vals w2 hL hd => ?_, ?_⟩; (focus (have hb2 : Below w0.heap.size w0 w2 := later_drew' hL (Nat.le_refl _); have r := HR0.out.below hb2 HR0.out.lt; have c4 := r.cell 4; clear hd hL hb2 r; simp at c4; go_simp; exact Tame.Is.mk (Tame.Later.refl _))))
      | (refine Tame.walk_known (o := ⟨some 111, _, _, _, _, _⟩) (fun _ => rfl) ?_; apply Exists.intro; refine ⟨fun vals w2 hL hd => ?_, ?_⟩; (focus (have hb2 : Below w0.heap.size w0 w2 := later_drew' hL (Nat.le_refl _); have r := HR0.out.below hb2 HR0.out.lt; have c4 := r.cell 4; clear hd hL hb2 r; simp at c4; go_simp; exact Tame.Is.mk (Tame.Later.refl _))))
      | (refine Tame.walk_known (o := ⟨some 118, _, _, _, _, _⟩) (fun _ => rfl) ?_; apply Exists.intro; refine ⟨fun vals w2 hL hd => ?_, ?_⟩; (focus (have hb2 : Below w0.heap.size w0 w2 := later_drew' hL (Nat.le_refl _); have r := HR0.out.below hb2 HR0.out.lt; have c4 := r.cell 4; clear hd hL hb2 r; simp at c4; go_simp; exact Tame.Is.mk (Tame.Later.refl _))))
      | (refine Tame.walk_known (o := ⟨some 106, _, _, _, _, _⟩) (fun _ => rfl) ?_; apply Exists.intro; refine ⟨fun vals w2 hL hd => ?_, ?_⟩; (focus (have hb2 : Below w0.heap.size w0 w2 := later_drew' hL (Nat.le_refl _); have e0 := (hb2.cell (p := ⟨g, off + 0 * 5, none⟩) (by show g < _; omega)).trans Ka0.out; have e1 := (hb2.cell (p := ⟨g, off + 0 * 5 + 1, none⟩) (by show g < _; omega)).trans Ka1.out; have e2 := (hb2.cell (p := ⟨g, off + 0 * 5 + 2, none⟩) (by show g < _; omega)).trans Ka2.out; have e3 := (hb2.cell (p := ⟨g, off + 0 * 5 + 3, none⟩) (by show g < _; omega)).trans Ka3.out; have e4 := (hb2.cell (p := ⟨g, off + 0 * 5 + 4, none⟩) (by show g < _; omega)).trans Ka4.out; clear hd hL hb2; simp at e0 e1 e2 e3 e4; go_simp; exact Tame.Is.mk (Tame.Later.refl _))))
      | (refine Tame.walk_known (o := ⟨some 113, _, _, _, _, _⟩) (fun _ => rfl) ?_; apply Exists.intro; refine ⟨fun vals w2 hL hd => ?_, ?_⟩; (focus (have hb2 : Below w0.heap.size w0 w2 := later_drew' hL (Nat.le_refl _); have e0 := (hb2.cell (p := ⟨g, off + 1 * 5, none⟩) (by show g < _; omega)).trans Kb0.out; have e1 := (hb2.cell (p := ⟨g, off + 1 * 5 + 1, none⟩) (by show g < _; omega)).trans Kb1.out; have e2 := (hb2.cell (p := ⟨g, off + 1 * 5 + 2, none⟩) (by show g < _; omega)).trans Kb2.out; have e3 := (hb2.cell (p := ⟨g, off + 1 * 5 + 3, none⟩) (by show g < _; omega)).trans Kb3.out; have e4 := (hb2.cell (p := ⟨g, off + 1 * 5 + 4, none⟩) (by show g < _; omega)).trans Kb4.out; clear hd hL hb2; simp at e0 e1 e2 e3 e4; go_simp; exact Tame.Is.mk (Tame.Later.refl _))))
      | (refine Tame.walk_known (o := ⟨some 120, _, _, _, _, _⟩) (fun _ => rfl) ?_; apply Exists.intro; refine ⟨fun vals w2 hL hd => ?_, ?_⟩; (focus (have hb2 : Below w0.heap.size w0 w2 := later_drew' hL (Nat.le_refl _); have e0 := (hb2.cell (p := ⟨g, off + 2 * 5, none⟩) (by show g < _; omega)).trans Kc0.out; have e1 := (hb2.cell (p := ⟨g, off + 2 * 5 + 1, none⟩) (by show g < _; omega)).trans Kc1.out; have e2 := (hb2.cell (p := ⟨g, off + 2 * 5 + 2, none⟩) (by show g < _; omega)).trans Kc2.out; have e3 := (hb2.cell (p := ⟨g, off + 2 * 5 + 3, none⟩) (by show g < _; omega)).trans Kc3.out; have e4 := (hb2.cell (p := ⟨g, off + 2 * 5 + 4, none⟩) (by show g < _; omega)).trans Kc4.out; clear hd hL hb2; simp at e0 e1 e2 e3 e4; go_simp; exact Tame.Is.mk (Tame.Later.refl _))))
      | (refine Tame.walk_known (o := ⟨some 107, _, _, _, _, _⟩) (fun _ => rfl) ?_; apply Exists.intro; refine ⟨fun vals w2 hL hd => ?_, ?_⟩; (focus (have hb2 : Below w0.heap.size w0 w2 := later_drew' hL (Nat.le_refl _); have HCC := Lib.hid (HIa.out w2 hb2); clear hd hL hb2; go_simp; exact Tame.known HCC.out)))
      | (refine Tame.walk_known (o := ⟨some 114, _, _, _, _, _⟩) (fun _ => rfl) ?_; apply Exists.intro; refine ⟨fun vals w2 hL hd => ?_, ?_⟩; (focus (have hb2 : Below w0.heap.size w0 w2 := later_drew' hL (Nat.le_refl _); have HCC := Lib.hid (HIb.out w2 hb2); clear hd hL hb2; go_simp; exact Tame.known HCC.out)))
      | (refine Tame.walk_known (o := ⟨some 121, _, _, _, _, _⟩) (fun _ => rfl) ?_; apply Exists.intro; refine ⟨fun vals w2 hL hd => ?_, ?_⟩; (focus (have hb2 : Below w0.heap.size w0 w2 := later_drew' hL (Nat.le_refl _); have HCC := Lib.hid (HIc.out w2 hb2); clear hd hL hb2; go_simp; exact Tame.known HCC.out)))
      | (refine Tame.walk_known (fun _ => rfl) ?_; apply Exists.intro; refine ⟨fun vals w2 hL hd => ?_, ?_⟩; (focus (go_simp; first | exact Tame.Is.mk (Tame.Later.refl _) | (rw [if_neg]; (focus exact Tame.Is.mk (Tame.Later.refl _)); omega)))))
     simp only [Act.put, List.setIfInBounds_toArray, List.set_cons_zero, List.set_cons_succ, List.nil_append, List.cons_append])
  refine Tame.walk_end fun vals w2 hL _ => ?_
  have HB2 : Hid (Below w0.heap.size w0 w2) := Lib.hid (later_drew' hL (Nat.le_refl _))
  clear hL
  go_wp2_with fail
  go_ret
  refine ⟨?_, HB0.out.trans (HB2.out.mono HB0.out.size)⟩
  have e1 : ((((((⟨([105, 102, 32] : T).toArray⟩ : ByteArray) ++ ⟨a.txt.toArray⟩) ++ ⟨([32, 116, 104, 101, 110, 32] : T).toArray⟩) ++ ⟨a'.txt.toArray⟩) ++ ⟨([32, 101, 108, 115, 101, 32] : T).toArray⟩) ++ ⟨a''.txt.toArray⟩) = ⟨x.txt.toArray⟩ := by rw [HT.out, str_app2, str_app2, str_app2, str_app2, str_app2]; simp
  exact ret_str e1

end Go.Proofs.YtfajnflfonechaaDoor
