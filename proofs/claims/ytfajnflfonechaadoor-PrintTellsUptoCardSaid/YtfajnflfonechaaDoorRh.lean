/- DERIVED. The document's expressions' texts: ops of two. -/
import Derived.Test.YtfajnflfonechaaDoorRg
namespace Go.Proofs.YtfajnflfonechaaDoor
open Go.RowKit
attribute [local go_sem] Tame.Op Tame.upon

set_option maxRecDepth 100000 in
set_option maxHeartbeats 6000000 in
theorem refBin_any (x a a' : X) (hk4 : x.k = 4) (hks : x.ks = [a, a']) (ho : 0 ≤ x.o ∧ x.o ≤ 15) (hoka : RefTx a) (hokb : RefTx a') (A : Option Addr) (c : Nat) (w : World) (S : Nat → Prop) (hx : x.shape = true) (hk : KS w S A x.ks) (hS : ∀ q, S q → q < w.heap.size) (hz : x.size ≤ 10000000) :
    Calls Tryd.prog 17 #[ev x A c] w fun e w' => e = .returned (.string ⟨x.txt.toArray⟩) ∧ Below w.heap.size w w' := by
  have HXa : Hid (a.shape = true) := Lib.hid (shapes_kid (shape_open hx).2 (i := 0) (by rw [hks]; rfl))
  have HXb : Hid (a'.shape = true) := Lib.hid (shapes_kid (shape_open hx).2 (i := 1) (by rw [hks]; rfl))
  have hsz : x.size = 1 + (a.size + a'.size) := by cases x; simp only [X.ks] at hks; subst hks; simp [X.size, X.sizes]
  have hta := a.txt_len HXa.out
  have htb := a'.txt_len HXb.out
  have HT := Lib.hid (txt_bin hk4 hks)
  have HOKa := Lib.hid hoka
  have HOKb := Lib.hid hokb
  have HKS := Lib.hid hks
  have HKK := Lib.hid hk4
  obtain ⟨i, hi⟩ : ∃ i : Nat, x.o = (i : Int) := ⟨x.o.toNat, by omega⟩
  have hi16 : i < 16 := by omega
  have HI := Lib.hid hi
  have hlv := levOf_at hi16
  have hpl := opS_len i
  obtain ⟨op, hop⟩ : ∃ op, op = opS.getD i [] := ⟨_, rfl⟩
  have HPC : Hid ((txs opS)[i]? = some (.string ⟨op.toArray⟩)) := Lib.hid (by simp only [txs]; rw [List.getElem?_toArray, List.getElem?_map, opS_get hi16, hop]; rfl)
  obtain ⟨lv, hlve⟩ : ∃ lv, lv = levOf (i : Int) := ⟨_, rfl⟩
  have HTX : Hid (x.txt = inT a.lev (askL lv) a.txt ++ (([32] ++ (op ++ [32])) ++ inT a'.lev (askR lv) a'.txt)) := Lib.hid (by rw [HT.out, hi, hlve, hop]; rfl)
  have HLL : Hid (∀ w9, Calls Tryd.prog 40 #[.int .i64 (i : Int)] w9 fun e w' => e = .returned (.int .i64 lv) ∧ Below w9.heap.size w9 w') := Lib.hid fun w9 => by rw [hlve]; exact refLevel_any (i : Int) (by omega) (by omega) w9
  rw [← hop] at hpl
  rw [← hlve] at hlv
  have hila := inT_len a.lev (askL lv) a.txt
  have hilb := inT_len a'.lev (askR lv) a'.txt
  have hib : (i : Int) < 16 := by omega
  clear hoka hokb hks hk4 ho hi hop hlve HT
  have hb : Below w.heap.size w (w.alloc (.cells #[.int .i64 x.k, .int .i64 x.o, .int .i64 x.n, .string ⟨x.s.toArray⟩, .slice A x.ks.length c] 46)) := (Below.refl _ _).alloc (Nat.le_refl _) _
  have HR0 : Hid (Row (w.alloc (.cells #[.int .i64 x.k, .int .i64 x.o, .int .i64 x.n, .string ⟨x.s.toArray⟩, .slice A x.ks.length c] 46)) w.heap.size 46 #[.int .i64 x.k, .int .i64 x.o, .int .i64 x.n, .string ⟨x.s.toArray⟩, .slice A x.ks.length c]) := Lib.hid (Row.made _ _ _)
  have HB0 := Lib.hid hb
  have HK0 : Hid (KS (w.alloc (.cells #[.int .i64 x.k, .int .i64 x.o, .int .i64 x.n, .string ⟨x.s.toArray⟩, .slice A x.ks.length c] 46)) S A x.ks) := Lib.hid (KS.later hk hS hb)
  have HS0 : Hid (∀ q, S q → q < (w.alloc (.cells #[.int .i64 x.k, .int .i64 x.o, .int .i64 x.n, .string ⟨x.s.toArray⟩, .slice A x.ks.length c] 46)).heap.size) := Lib.hid fun q hq => Nat.lt_of_lt_of_le (hS q hq) hb.size
  have HX := Lib.hid hx
  clear hb hk hS hx
  go_enter Tryd.func17, Tryd.ntmps17
  simp only [ev]
  go_upto_region 1 with fail
  generalize w.alloc (.cells #[.int .i64 x.k, .int .i64 x.o, .int .i64 x.n, .string ⟨x.s.toArray⟩, .slice A x.ks.length c] 46) = w0 at HR0 HB0 HK0 HS0 ⊢
  have c0 := HR0.out.cell 0
  have c1 := HR0.out.cell 1
  have c2 := HR0.out.cell 2
  have c3 := HR0.out.cell 3
  have c4 := HR0.out.cell 4
  simp at c0 c1 c2 c3 c4
  have hkk := HKK.out
  have hi := HI.out
  have hkl : x.ks.length = 2 := by rw [HKS.out]; rfl
  obtain ⟨g, off, _, _, rfl, hrest⟩ := KS.rat HK0.out (i := 0) (a := a) (by rw [HKS.out]; rfl)
  clear hrest
  go_upto_region 20 with (go_at_call 40; refine (HLL.out _).mono ?_; rintro e w1 ⟨rfl, h1⟩; clear HLL; have HL1 := Lib.hid h1; have HB1 : Hid (Below w.heap.size w w1) := Lib.hid (HB0.out.trans (h1.mono HB0.out.size)); have HR1 : Hid (Row w1 w.heap.size 46 #[.int .i64 x.k, .int .i64 x.o, .int .i64 x.n, .string ⟨x.s.toArray⟩, .slice (some ⟨g, off, none⟩) x.ks.length c]) := Lib.hid (HR0.out.below h1 HR0.out.lt); have HK1 : Hid (KS w1 S (some ⟨g, off, none⟩) x.ks) := Lib.hid (HK0.out.later HS0.out h1); have HS1 : Hid (∀ q, S q → q < w1.heap.size) := Lib.hid fun q hq => Nat.lt_of_lt_of_le (HS0.out q hq) h1.size; clear h1 c0 c1 c2 c3 c4; have c0 := HR1.out.cell 0; have c1 := HR1.out.cell 1; have c2 := HR1.out.cell 2; have c3 := HR1.out.cell 3; have c4 := HR1.out.cell 4; simp at c0 c1 c2 c3 c4)
  obtain ⟨A2, m2, hSg, k0, k1, k2, k3, k4, hka⟩ := KS.rcells HK1.out (i := 0) (a := a) (by rw [HKS.out]; rfl)
  have hgwa : g < w1.heap.size := HS1.out g hSg
  have Ka0 := Lib.hid k0
  have Ka1 := Lib.hid k1
  have Ka2 := Lib.hid k2
  have Ka3 := Lib.hid k3
  have Ka4 := Lib.hid k4
  have HKYa := Lib.hid hka
  clear k0 k1 k2 k3 k4 hka hSg
  obtain ⟨A3, m3, hSg, k0, k1, k2, k3, k4, hka⟩ := KS.rcells HK1.out (i := 1) (a := a') (by rw [HKS.out]; rfl)
  have hgwb : g < w1.heap.size := HS1.out g hSg
  have Kb0 := Lib.hid k0
  have Kb1 := Lib.hid k1
  have Kb2 := Lib.hid k2
  have Kb3 := Lib.hid k3
  have Kb4 := Lib.hid k4
  have HKYb := Lib.hid hka
  clear k0 k1 k2 k3 k4 hka hSg
  have HIa : Hid (∀ w2, Below w1.heap.size w1 w2 → Calls Tryd.prog 38 #[.agg #[.int .i64 a.k, .int .i64 a.o, .int .i64 a.n, .string ⟨a.s.toArray⟩, .slice A2 a.ks.length m2], .int .i64 (askL lv)] w2 fun e w' => e = .returned (.string ⟨(inT a.lev (askL lv) a.txt).toArray⟩) ∧ Below w2.heap.size w2 w') := Lib.hid fun w2 hb => refIn_any a (askL lv) HOKa.out A2 m2 w2 S HXa.out (HKYa.out.later HS1.out hb) (fun q hq => Nat.lt_of_lt_of_le (HS1.out q hq) hb.size) (by omega)
  have HIb : Hid (∀ w2, Below w1.heap.size w1 w2 → Calls Tryd.prog 38 #[.agg #[.int .i64 a'.k, .int .i64 a'.o, .int .i64 a'.n, .string ⟨a'.s.toArray⟩, .slice A3 a'.ks.length m3], .int .i64 (askR lv)] w2 fun e w' => e = .returned (.string ⟨(inT a'.lev (askR lv) a'.txt).toArray⟩) ∧ Below w2.heap.size w2 w') := Lib.hid fun w2 hb => refIn_any a' (askR lv) HOKb.out A3 m3 w2 S HXb.out (HKYb.out.later HS1.out hb) (fun q hq => Nat.lt_of_lt_of_le (HS1.out q hq) hb.size) (by omega)
  obtain ⟨ta, hta2⟩ : ∃ t, t = inT a.lev (askL lv) a.txt := ⟨_, rfl⟩
  obtain ⟨tb, htb2⟩ : ∃ t, t = inT a'.lev (askR lv) a'.txt := ⟨_, rfl⟩
  rw [← hta2] at HIa hila HTX
  rw [← htb2] at HIb hilb HTX
  have HG : Hid (∀ (u v : Value) (w' : World), True) := Lib.hid fun _ _ _ => trivial
  clear hta2 htb2 HG
  by_cases l0 : lv = 0
  · subst l0
    have HI1 : Hid (∀ w2, Below w1.heap.size w1 w2 → Calls Tryd.prog 38 #[.agg #[.int .i64 a.k, .int .i64 a.o, .int .i64 a.n, .string ⟨a.s.toArray⟩, .slice A2 a.ks.length m2], .int .i64 1] w2 fun e w' => e = .returned (.string ⟨ta.toArray⟩) ∧ Below w2.heap.size w2 w') := HIa
    have HI2 : Hid (∀ w2, Below w1.heap.size w1 w2 → Calls Tryd.prog 38 #[.agg #[.int .i64 a'.k, .int .i64 a'.o, .int .i64 a'.n, .string ⟨a'.s.toArray⟩, .slice A3 a'.ks.length m3], .int .i64 0] w2 fun e w' => e = .returned (.string ⟨tb.toArray⟩) ∧ Below w2.heap.size w2 w') := HIb
    clear HIa HIb
    clear c0 c1 c2 c3 c4
    go_upto_region 24 with fail
    refine Tame.wp_region_tame (by kernel_rfl) (by kernel_rfl) Tame.Later.refl Tame.Later.trans ?_
    repeat
      ((first
        | (refine Tame.walk_some (o := ⟨some 87, _, _, _, _, _⟩) (NewTxs opS) (fun _ => rfl) (fun v w w' hl h => h.later hl) (fun vals w2 hL hd => ?_) ?_; (focus (have HCC := Lib.hid (refTexts_any w2); clear hd hL; go_simp; refine HCC.out.mono ?_; rintro e w' ⟨v, rfl, hb, hn⟩; exact ⟨_, rfl, hb, hn⟩)))
        | (refine Tame.walk_some (o := ⟨some 90, _, _, _, _, _⟩) (TxP opS i) (fun _ => rfl) (fun v w w' hl h => h.later hl) (fun vals w2 hL hd => ?_) ?_; (focus (have hn : NewTxs opS (vals 7) w2 := hd ⟨7, .data⟩ (by simp) rfl _ rfl; clear hd hL; obtain ⟨g3, hv1, hr⟩ := hn; have hv := (show vals 7 = Value.slice (some ⟨g3, 0, none⟩) 16 16 from hv1); have HRR := Lib.hid hr; clear hr hv1; go_simp; exact Tame.Has.mk (Tame.Later.refl _) ⟨g3, rfl, HRR.out⟩)))
        | (refine Tame.walk_known (o := ⟨some 91, _, _, _, _, _⟩) (fun _ => rfl) ?_; apply Exists.intro; refine ⟨fun vals w2 hL hd => ?_, ?_⟩; (focus (have hn : TxP opS i (vals 10) w2 := hd ⟨10, .data⟩ (by simp) rfl _ rfl; clear hd hL; obtain ⟨g3, hv, hr⟩ := hn; have p0 := hr.cell i; rw [HPC.out] at p0; clear hr; go_simp; exact Tame.Is.mk (Tame.Later.refl _))))
        | (refine Tame.walk_known (o := ⟨some 81, _, _, _, _, _⟩) (fun _ => rfl) ?_; apply Exists.intro; refine ⟨fun vals w2 hL hd => ?_, ?_⟩; (focus (have hb2 : Below w1.heap.size w1 w2 := later_drew' hL (Nat.le_refl _); have r := HR1.out.below hb2 HR1.out.lt; have c4 := r.cell 4; clear hd hL hb2 r; simp at c4; go_simp; exact Tame.Is.mk (Tame.Later.refl _))))
        | (refine Tame.walk_known (o := ⟨some 95, _, _, _, _, _⟩) (fun _ => rfl) ?_; apply Exists.intro; refine ⟨fun vals w2 hL hd => ?_, ?_⟩; (focus (have hb2 : Below w1.heap.size w1 w2 := later_drew' hL (Nat.le_refl _); have r := HR1.out.below hb2 HR1.out.lt; have c4 := r.cell 4; clear hd hL hb2 r; simp at c4; go_simp; exact Tame.Is.mk (Tame.Later.refl _))))
        | (refine Tame.walk_known (o := ⟨some 89, _, _, _, _, _⟩) (fun _ => rfl) ?_; apply Exists.intro; refine ⟨fun vals w2 hL hd => ?_, ?_⟩; (focus (have hb2 : Below w1.heap.size w1 w2 := later_drew' hL (Nat.le_refl _); have r := HR1.out.below hb2 HR1.out.lt; have c1 := r.cell 1; clear hd hL hb2 r; simp at c1; go_simp; exact Tame.Is.mk (Tame.Later.refl _))))
        | (refine Tame.walk_known (o := ⟨some 83, _, _, _, _, _⟩) (fun _ => rfl) ?_; apply Exists.intro; refine ⟨fun vals w2 hL hd => ?_, ?_⟩; (focus (have hb2 : Below w1.heap.size w1 w2 := later_drew' hL (Nat.le_refl _); have e0 := (hb2.cell (p := ⟨g, off + 0 * 5, none⟩) (by show g < _; omega)).trans Ka0.out; have e1 := (hb2.cell (p := ⟨g, off + 0 * 5 + 1, none⟩) (by show g < _; omega)).trans Ka1.out; have e2 := (hb2.cell (p := ⟨g, off + 0 * 5 + 2, none⟩) (by show g < _; omega)).trans Ka2.out; have e3 := (hb2.cell (p := ⟨g, off + 0 * 5 + 3, none⟩) (by show g < _; omega)).trans Ka3.out; have e4 := (hb2.cell (p := ⟨g, off + 0 * 5 + 4, none⟩) (by show g < _; omega)).trans Ka4.out; clear hd hL hb2; simp at e0 e1 e2 e3 e4; go_simp; exact Tame.Is.mk (Tame.Later.refl _))))
        | (refine Tame.walk_known (o := ⟨some 97, _, _, _, _, _⟩) (fun _ => rfl) ?_; apply Exists.intro; refine ⟨fun vals w2 hL hd => ?_, ?_⟩; (focus (have hb2 : Below w1.heap.size w1 w2 := later_drew' hL (Nat.le_refl _); have e0 := (hb2.cell (p := ⟨g, off + 1 * 5, none⟩) (by show g < _; omega)).trans Kb0.out; have e1 := (hb2.cell (p := ⟨g, off + 1 * 5 + 1, none⟩) (by show g < _; omega)).trans Kb1.out; have e2 := (hb2.cell (p := ⟨g, off + 1 * 5 + 2, none⟩) (by show g < _; omega)).trans Kb2.out; have e3 := (hb2.cell (p := ⟨g, off + 1 * 5 + 3, none⟩) (by show g < _; omega)).trans Kb3.out; have e4 := (hb2.cell (p := ⟨g, off + 1 * 5 + 4, none⟩) (by show g < _; omega)).trans Kb4.out; clear hd hL hb2; simp at e0 e1 e2 e3 e4; go_simp; exact Tame.Is.mk (Tame.Later.refl _))))
        | (refine Tame.walk_known (o := ⟨some 85, _, _, _, _, _⟩) (fun _ => rfl) ?_; apply Exists.intro; refine ⟨fun vals w2 hL hd => ?_, ?_⟩; (focus (have hb2 : Below w1.heap.size w1 w2 := later_drew' hL (Nat.le_refl _); have HCC := Lib.hid (HI1.out w2 hb2); clear hd hL hb2; go_simp; exact Tame.known HCC.out)))
        | (refine Tame.walk_known (o := ⟨some 99, _, _, _, _, _⟩) (fun _ => rfl) ?_; apply Exists.intro; refine ⟨fun vals w2 hL hd => ?_, ?_⟩; (focus (have hb2 : Below w1.heap.size w1 w2 := later_drew' hL (Nat.le_refl _); have HCC := Lib.hid (HI2.out w2 hb2); clear hd hL hb2; go_simp; exact Tame.known HCC.out)))
        | (refine Tame.walk_known (fun _ => rfl) ?_; apply Exists.intro; refine ⟨fun vals w2 hL hd => ?_, ?_⟩; (focus (go_simp; first | exact Tame.Is.mk (Tame.Later.refl _) | (rw [if_neg]; (focus exact Tame.Is.mk (Tame.Later.refl _)); omega)))))
       simp only [Act.put, List.setIfInBounds_toArray, List.set_cons_zero, List.set_cons_succ, List.nil_append, List.cons_append, List.length_cons, List.length_nil, Nat.zero_add, Nat.reduceAdd])
    refine Tame.walk_end fun vals w2 hL _ => ?_
    have HB2 : Hid (Below w1.heap.size w1 w2) := Lib.hid (later_drew' hL (Nat.le_refl _))
    clear hL
    go_wp2_with fail
    go_ret
    refine ⟨?_, HB1.out.trans (HB2.out.mono HB1.out.size)⟩
    have e1 : ((((((⟨ta.toArray⟩ : ByteArray) ++ ⟨([32] : T).toArray⟩) ++ ⟨op.toArray⟩) ++ ⟨([32] : T).toArray⟩)) ++ ⟨tb.toArray⟩) = ⟨x.txt.toArray⟩ := by rw [HTX.out, str_app2, str_app2, str_app2, str_app2]; simp
    exact ret_str e1
  have l0' : (lv == 0) = false := by simpa using l0
  by_cases l1 : lv = 1
  · subst l1
    clear l0 l0'
    have HI1 : Hid (∀ w2, Below w1.heap.size w1 w2 → Calls Tryd.prog 38 #[.agg #[.int .i64 a.k, .int .i64 a.o, .int .i64 a.n, .string ⟨a.s.toArray⟩, .slice A2 a.ks.length m2], .int .i64 2] w2 fun e w' => e = .returned (.string ⟨ta.toArray⟩) ∧ Below w2.heap.size w2 w') := HIa
    have HI2 : Hid (∀ w2, Below w1.heap.size w1 w2 → Calls Tryd.prog 38 #[.agg #[.int .i64 a'.k, .int .i64 a'.o, .int .i64 a'.n, .string ⟨a'.s.toArray⟩, .slice A3 a'.ks.length m3], .int .i64 1] w2 fun e w' => e = .returned (.string ⟨tb.toArray⟩) ∧ Below w2.heap.size w2 w') := HIb
    clear HIa HIb
    clear c0 c1 c2 c3 c4
    go_upto_region 24 with fail
    refine Tame.wp_region_tame (by kernel_rfl) (by kernel_rfl) Tame.Later.refl Tame.Later.trans ?_
    repeat
      ((first
        | (refine Tame.walk_some (o := ⟨some 87, _, _, _, _, _⟩) (NewTxs opS) (fun _ => rfl) (fun v w w' hl h => h.later hl) (fun vals w2 hL hd => ?_) ?_; (focus (have HCC := Lib.hid (refTexts_any w2); clear hd hL; go_simp; refine HCC.out.mono ?_; rintro e w' ⟨v, rfl, hb, hn⟩; exact ⟨_, rfl, hb, hn⟩)))
        | (refine Tame.walk_some (o := ⟨some 90, _, _, _, _, _⟩) (TxP opS i) (fun _ => rfl) (fun v w w' hl h => h.later hl) (fun vals w2 hL hd => ?_) ?_; (focus (have hn : NewTxs opS (vals 7) w2 := hd ⟨7, .data⟩ (by simp) rfl _ rfl; clear hd hL; obtain ⟨g3, hv1, hr⟩ := hn; have hv := (show vals 7 = Value.slice (some ⟨g3, 0, none⟩) 16 16 from hv1); have HRR := Lib.hid hr; clear hr hv1; go_simp; exact Tame.Has.mk (Tame.Later.refl _) ⟨g3, rfl, HRR.out⟩)))
        | (refine Tame.walk_known (o := ⟨some 91, _, _, _, _, _⟩) (fun _ => rfl) ?_; apply Exists.intro; refine ⟨fun vals w2 hL hd => ?_, ?_⟩; (focus (have hn : TxP opS i (vals 10) w2 := hd ⟨10, .data⟩ (by simp) rfl _ rfl; clear hd hL; obtain ⟨g3, hv, hr⟩ := hn; have p0 := hr.cell i; rw [HPC.out] at p0; clear hr; go_simp; exact Tame.Is.mk (Tame.Later.refl _))))
        | (refine Tame.walk_known (o := ⟨some 81, _, _, _, _, _⟩) (fun _ => rfl) ?_; apply Exists.intro; refine ⟨fun vals w2 hL hd => ?_, ?_⟩; (focus (have hb2 : Below w1.heap.size w1 w2 := later_drew' hL (Nat.le_refl _); have r := HR1.out.below hb2 HR1.out.lt; have c4 := r.cell 4; clear hd hL hb2 r; simp at c4; go_simp; exact Tame.Is.mk (Tame.Later.refl _))))
        | (refine Tame.walk_known (o := ⟨some 95, _, _, _, _, _⟩) (fun _ => rfl) ?_; apply Exists.intro; refine ⟨fun vals w2 hL hd => ?_, ?_⟩; (focus (have hb2 : Below w1.heap.size w1 w2 := later_drew' hL (Nat.le_refl _); have r := HR1.out.below hb2 HR1.out.lt; have c4 := r.cell 4; clear hd hL hb2 r; simp at c4; go_simp; exact Tame.Is.mk (Tame.Later.refl _))))
        | (refine Tame.walk_known (o := ⟨some 89, _, _, _, _, _⟩) (fun _ => rfl) ?_; apply Exists.intro; refine ⟨fun vals w2 hL hd => ?_, ?_⟩; (focus (have hb2 : Below w1.heap.size w1 w2 := later_drew' hL (Nat.le_refl _); have r := HR1.out.below hb2 HR1.out.lt; have c1 := r.cell 1; clear hd hL hb2 r; simp at c1; go_simp; exact Tame.Is.mk (Tame.Later.refl _))))
        | (refine Tame.walk_known (o := ⟨some 83, _, _, _, _, _⟩) (fun _ => rfl) ?_; apply Exists.intro; refine ⟨fun vals w2 hL hd => ?_, ?_⟩; (focus (have hb2 : Below w1.heap.size w1 w2 := later_drew' hL (Nat.le_refl _); have e0 := (hb2.cell (p := ⟨g, off + 0 * 5, none⟩) (by show g < _; omega)).trans Ka0.out; have e1 := (hb2.cell (p := ⟨g, off + 0 * 5 + 1, none⟩) (by show g < _; omega)).trans Ka1.out; have e2 := (hb2.cell (p := ⟨g, off + 0 * 5 + 2, none⟩) (by show g < _; omega)).trans Ka2.out; have e3 := (hb2.cell (p := ⟨g, off + 0 * 5 + 3, none⟩) (by show g < _; omega)).trans Ka3.out; have e4 := (hb2.cell (p := ⟨g, off + 0 * 5 + 4, none⟩) (by show g < _; omega)).trans Ka4.out; clear hd hL hb2; simp at e0 e1 e2 e3 e4; go_simp; exact Tame.Is.mk (Tame.Later.refl _))))
        | (refine Tame.walk_known (o := ⟨some 97, _, _, _, _, _⟩) (fun _ => rfl) ?_; apply Exists.intro; refine ⟨fun vals w2 hL hd => ?_, ?_⟩; (focus (have hb2 : Below w1.heap.size w1 w2 := later_drew' hL (Nat.le_refl _); have e0 := (hb2.cell (p := ⟨g, off + 1 * 5, none⟩) (by show g < _; omega)).trans Kb0.out; have e1 := (hb2.cell (p := ⟨g, off + 1 * 5 + 1, none⟩) (by show g < _; omega)).trans Kb1.out; have e2 := (hb2.cell (p := ⟨g, off + 1 * 5 + 2, none⟩) (by show g < _; omega)).trans Kb2.out; have e3 := (hb2.cell (p := ⟨g, off + 1 * 5 + 3, none⟩) (by show g < _; omega)).trans Kb3.out; have e4 := (hb2.cell (p := ⟨g, off + 1 * 5 + 4, none⟩) (by show g < _; omega)).trans Kb4.out; clear hd hL hb2; simp at e0 e1 e2 e3 e4; go_simp; exact Tame.Is.mk (Tame.Later.refl _))))
        | (refine Tame.walk_known (o := ⟨some 85, _, _, _, _, _⟩) (fun _ => rfl) ?_; apply Exists.intro; refine ⟨fun vals w2 hL hd => ?_, ?_⟩; (focus (have hb2 : Below w1.heap.size w1 w2 := later_drew' hL (Nat.le_refl _); have HCC := Lib.hid (HI1.out w2 hb2); clear hd hL hb2; go_simp; exact Tame.known HCC.out)))
        | (refine Tame.walk_known (o := ⟨some 99, _, _, _, _, _⟩) (fun _ => rfl) ?_; apply Exists.intro; refine ⟨fun vals w2 hL hd => ?_, ?_⟩; (focus (have hb2 : Below w1.heap.size w1 w2 := later_drew' hL (Nat.le_refl _); have HCC := Lib.hid (HI2.out w2 hb2); clear hd hL hb2; go_simp; exact Tame.known HCC.out)))
        | (refine Tame.walk_known (fun _ => rfl) ?_; apply Exists.intro; refine ⟨fun vals w2 hL hd => ?_, ?_⟩; (focus (go_simp; first | exact Tame.Is.mk (Tame.Later.refl _) | (rw [if_neg]; (focus exact Tame.Is.mk (Tame.Later.refl _)); omega)))))
       simp only [Act.put, List.setIfInBounds_toArray, List.set_cons_zero, List.set_cons_succ, List.nil_append, List.cons_append, List.length_cons, List.length_nil, Nat.zero_add, Nat.reduceAdd])
    refine Tame.walk_end fun vals w2 hL _ => ?_
    have HB2 : Hid (Below w1.heap.size w1 w2) := Lib.hid (later_drew' hL (Nat.le_refl _))
    clear hL
    go_wp2_with fail
    go_ret
    refine ⟨?_, HB1.out.trans (HB2.out.mono HB1.out.size)⟩
    have e1 : ((((((⟨ta.toArray⟩ : ByteArray) ++ ⟨([32] : T).toArray⟩) ++ ⟨op.toArray⟩) ++ ⟨([32] : T).toArray⟩)) ++ ⟨tb.toArray⟩) = ⟨x.txt.toArray⟩ := by rw [HTX.out, str_app2, str_app2, str_app2, str_app2]; simp
    exact ret_str e1
  have l1' : (lv == 1) = false := by simpa using l1
  by_cases l4 : lv = 4
  · subst l4
    clear l0 l0' l1 l1'
    have HI1 : Hid (∀ w2, Below w1.heap.size w1 w2 → Calls Tryd.prog 38 #[.agg #[.int .i64 a.k, .int .i64 a.o, .int .i64 a.n, .string ⟨a.s.toArray⟩, .slice A2 a.ks.length m2], .int .i64 5] w2 fun e w' => e = .returned (.string ⟨ta.toArray⟩) ∧ Below w2.heap.size w2 w') := HIa
    have HI2 : Hid (∀ w2, Below w1.heap.size w1 w2 → Calls Tryd.prog 38 #[.agg #[.int .i64 a'.k, .int .i64 a'.o, .int .i64 a'.n, .string ⟨a'.s.toArray⟩, .slice A3 a'.ks.length m3], .int .i64 5] w2 fun e w' => e = .returned (.string ⟨tb.toArray⟩) ∧ Below w2.heap.size w2 w') := HIb
    clear HIa HIb
    clear c0 c1 c2 c3 c4
    go_upto_region 24 with fail
    refine Tame.wp_region_tame (by kernel_rfl) (by kernel_rfl) Tame.Later.refl Tame.Later.trans ?_
    repeat
      ((first
        | (refine Tame.walk_some (o := ⟨some 87, _, _, _, _, _⟩) (NewTxs opS) (fun _ => rfl) (fun v w w' hl h => h.later hl) (fun vals w2 hL hd => ?_) ?_; (focus (have HCC := Lib.hid (refTexts_any w2); clear hd hL; go_simp; refine HCC.out.mono ?_; rintro e w' ⟨v, rfl, hb, hn⟩; exact ⟨_, rfl, hb, hn⟩)))
        | (refine Tame.walk_some (o := ⟨some 90, _, _, _, _, _⟩) (TxP opS i) (fun _ => rfl) (fun v w w' hl h => h.later hl) (fun vals w2 hL hd => ?_) ?_; (focus (have hn : NewTxs opS (vals 7) w2 := hd ⟨7, .data⟩ (by simp) rfl _ rfl; clear hd hL; obtain ⟨g3, hv1, hr⟩ := hn; have hv := (show vals 7 = Value.slice (some ⟨g3, 0, none⟩) 16 16 from hv1); have HRR := Lib.hid hr; clear hr hv1; go_simp; exact Tame.Has.mk (Tame.Later.refl _) ⟨g3, rfl, HRR.out⟩)))
        | (refine Tame.walk_known (o := ⟨some 91, _, _, _, _, _⟩) (fun _ => rfl) ?_; apply Exists.intro; refine ⟨fun vals w2 hL hd => ?_, ?_⟩; (focus (have hn : TxP opS i (vals 10) w2 := hd ⟨10, .data⟩ (by simp) rfl _ rfl; clear hd hL; obtain ⟨g3, hv, hr⟩ := hn; have p0 := hr.cell i; rw [HPC.out] at p0; clear hr; go_simp; exact Tame.Is.mk (Tame.Later.refl _))))
        | (refine Tame.walk_known (o := ⟨some 81, _, _, _, _, _⟩) (fun _ => rfl) ?_; apply Exists.intro; refine ⟨fun vals w2 hL hd => ?_, ?_⟩; (focus (have hb2 : Below w1.heap.size w1 w2 := later_drew' hL (Nat.le_refl _); have r := HR1.out.below hb2 HR1.out.lt; have c4 := r.cell 4; clear hd hL hb2 r; simp at c4; go_simp; exact Tame.Is.mk (Tame.Later.refl _))))
        | (refine Tame.walk_known (o := ⟨some 95, _, _, _, _, _⟩) (fun _ => rfl) ?_; apply Exists.intro; refine ⟨fun vals w2 hL hd => ?_, ?_⟩; (focus (have hb2 : Below w1.heap.size w1 w2 := later_drew' hL (Nat.le_refl _); have r := HR1.out.below hb2 HR1.out.lt; have c4 := r.cell 4; clear hd hL hb2 r; simp at c4; go_simp; exact Tame.Is.mk (Tame.Later.refl _))))
        | (refine Tame.walk_known (o := ⟨some 89, _, _, _, _, _⟩) (fun _ => rfl) ?_; apply Exists.intro; refine ⟨fun vals w2 hL hd => ?_, ?_⟩; (focus (have hb2 : Below w1.heap.size w1 w2 := later_drew' hL (Nat.le_refl _); have r := HR1.out.below hb2 HR1.out.lt; have c1 := r.cell 1; clear hd hL hb2 r; simp at c1; go_simp; exact Tame.Is.mk (Tame.Later.refl _))))
        | (refine Tame.walk_known (o := ⟨some 83, _, _, _, _, _⟩) (fun _ => rfl) ?_; apply Exists.intro; refine ⟨fun vals w2 hL hd => ?_, ?_⟩; (focus (have hb2 : Below w1.heap.size w1 w2 := later_drew' hL (Nat.le_refl _); have e0 := (hb2.cell (p := ⟨g, off + 0 * 5, none⟩) (by show g < _; omega)).trans Ka0.out; have e1 := (hb2.cell (p := ⟨g, off + 0 * 5 + 1, none⟩) (by show g < _; omega)).trans Ka1.out; have e2 := (hb2.cell (p := ⟨g, off + 0 * 5 + 2, none⟩) (by show g < _; omega)).trans Ka2.out; have e3 := (hb2.cell (p := ⟨g, off + 0 * 5 + 3, none⟩) (by show g < _; omega)).trans Ka3.out; have e4 := (hb2.cell (p := ⟨g, off + 0 * 5 + 4, none⟩) (by show g < _; omega)).trans Ka4.out; clear hd hL hb2; simp at e0 e1 e2 e3 e4; go_simp; exact Tame.Is.mk (Tame.Later.refl _))))
        | (refine Tame.walk_known (o := ⟨some 97, _, _, _, _, _⟩) (fun _ => rfl) ?_; apply Exists.intro; refine ⟨fun vals w2 hL hd => ?_, ?_⟩; (focus (have hb2 : Below w1.heap.size w1 w2 := later_drew' hL (Nat.le_refl _); have e0 := (hb2.cell (p := ⟨g, off + 1 * 5, none⟩) (by show g < _; omega)).trans Kb0.out; have e1 := (hb2.cell (p := ⟨g, off + 1 * 5 + 1, none⟩) (by show g < _; omega)).trans Kb1.out; have e2 := (hb2.cell (p := ⟨g, off + 1 * 5 + 2, none⟩) (by show g < _; omega)).trans Kb2.out; have e3 := (hb2.cell (p := ⟨g, off + 1 * 5 + 3, none⟩) (by show g < _; omega)).trans Kb3.out; have e4 := (hb2.cell (p := ⟨g, off + 1 * 5 + 4, none⟩) (by show g < _; omega)).trans Kb4.out; clear hd hL hb2; simp at e0 e1 e2 e3 e4; go_simp; exact Tame.Is.mk (Tame.Later.refl _))))
        | (refine Tame.walk_known (o := ⟨some 85, _, _, _, _, _⟩) (fun _ => rfl) ?_; apply Exists.intro; refine ⟨fun vals w2 hL hd => ?_, ?_⟩; (focus (have hb2 : Below w1.heap.size w1 w2 := later_drew' hL (Nat.le_refl _); have HCC := Lib.hid (HI1.out w2 hb2); clear hd hL hb2; go_simp; exact Tame.known HCC.out)))
        | (refine Tame.walk_known (o := ⟨some 99, _, _, _, _, _⟩) (fun _ => rfl) ?_; apply Exists.intro; refine ⟨fun vals w2 hL hd => ?_, ?_⟩; (focus (have hb2 : Below w1.heap.size w1 w2 := later_drew' hL (Nat.le_refl _); have HCC := Lib.hid (HI2.out w2 hb2); clear hd hL hb2; go_simp; exact Tame.known HCC.out)))
        | (refine Tame.walk_known (fun _ => rfl) ?_; apply Exists.intro; refine ⟨fun vals w2 hL hd => ?_, ?_⟩; (focus (go_simp; first | exact Tame.Is.mk (Tame.Later.refl _) | (rw [if_neg]; (focus exact Tame.Is.mk (Tame.Later.refl _)); omega)))))
       simp only [Act.put, List.setIfInBounds_toArray, List.set_cons_zero, List.set_cons_succ, List.nil_append, List.cons_append, List.length_cons, List.length_nil, Nat.zero_add, Nat.reduceAdd])
    refine Tame.walk_end fun vals w2 hL _ => ?_
    have HB2 : Hid (Below w1.heap.size w1 w2) := Lib.hid (later_drew' hL (Nat.le_refl _))
    clear hL
    go_wp2_with fail
    go_ret
    refine ⟨?_, HB1.out.trans (HB2.out.mono HB1.out.size)⟩
    have e1 : ((((((⟨ta.toArray⟩ : ByteArray) ++ ⟨([32] : T).toArray⟩) ++ ⟨op.toArray⟩) ++ ⟨([32] : T).toArray⟩)) ++ ⟨tb.toArray⟩) = ⟨x.txt.toArray⟩ := by rw [HTX.out, str_app2, str_app2, str_app2, str_app2]; simp
    exact ret_str e1
  · have l4' : (lv == 4) = false := by simpa using l4
    have HI1 : Hid (∀ w2, Below w1.heap.size w1 w2 → Calls Tryd.prog 38 #[.agg #[.int .i64 a.k, .int .i64 a.o, .int .i64 a.n, .string ⟨a.s.toArray⟩, .slice A2 a.ks.length m2], .int .i64 lv] w2 fun e w' => e = .returned (.string ⟨ta.toArray⟩) ∧ Below w2.heap.size w2 w') := by have := HIa; rw [show askL lv = lv by unfold askL; rw [if_neg (by omega)]] at this; exact this
    have HI2 : Hid (∀ w2, Below w1.heap.size w1 w2 → Calls Tryd.prog 38 #[.agg #[.int .i64 a'.k, .int .i64 a'.o, .int .i64 a'.n, .string ⟨a'.s.toArray⟩, .slice A3 a'.ks.length m3], .int .i64 (lv + 1)] w2 fun e w' => e = .returned (.string ⟨tb.toArray⟩) ∧ Below w2.heap.size w2 w') := by have := HIb; rw [show askR lv = lv + 1 by unfold askR; rw [if_neg (by omega)]] at this; exact this
    clear HIa HIb l0 l1 l4
    clear c0 c1 c2 c3 c4
    go_upto_region 24 with fail
    refine Tame.wp_region_tame (by kernel_rfl) (by kernel_rfl) Tame.Later.refl Tame.Later.trans ?_
    repeat
      ((first
        | (refine Tame.walk_some (o := ⟨some 87, _, _, _, _, _⟩) (NewTxs opS) (fun _ => rfl) (fun v w w' hl h => h.later hl) (fun vals w2 hL hd => ?_) ?_; (focus (have HCC := Lib.hid (refTexts_any w2); clear hd hL; go_simp; refine HCC.out.mono ?_; rintro e w' ⟨v, rfl, hb, hn⟩; exact ⟨_, rfl, hb, hn⟩)))
        | (refine Tame.walk_some (o := ⟨some 90, _, _, _, _, _⟩) (TxP opS i) (fun _ => rfl) (fun v w w' hl h => h.later hl) (fun vals w2 hL hd => ?_) ?_; (focus (have hn : NewTxs opS (vals 7) w2 := hd ⟨7, .data⟩ (by simp) rfl _ rfl; clear hd hL; obtain ⟨g3, hv1, hr⟩ := hn; have hv := (show vals 7 = Value.slice (some ⟨g3, 0, none⟩) 16 16 from hv1); have HRR := Lib.hid hr; clear hr hv1; go_simp; exact Tame.Has.mk (Tame.Later.refl _) ⟨g3, rfl, HRR.out⟩)))
        | (refine Tame.walk_known (o := ⟨some 91, _, _, _, _, _⟩) (fun _ => rfl) ?_; apply Exists.intro; refine ⟨fun vals w2 hL hd => ?_, ?_⟩; (focus (have hn : TxP opS i (vals 10) w2 := hd ⟨10, .data⟩ (by simp) rfl _ rfl; clear hd hL; obtain ⟨g3, hv, hr⟩ := hn; have p0 := hr.cell i; rw [HPC.out] at p0; clear hr; go_simp; exact Tame.Is.mk (Tame.Later.refl _))))
        | (refine Tame.walk_known (o := ⟨some 81, _, _, _, _, _⟩) (fun _ => rfl) ?_; apply Exists.intro; refine ⟨fun vals w2 hL hd => ?_, ?_⟩; (focus (have hb2 : Below w1.heap.size w1 w2 := later_drew' hL (Nat.le_refl _); have r := HR1.out.below hb2 HR1.out.lt; have c4 := r.cell 4; clear hd hL hb2 r; simp at c4; go_simp; exact Tame.Is.mk (Tame.Later.refl _))))
        | (refine Tame.walk_known (o := ⟨some 95, _, _, _, _, _⟩) (fun _ => rfl) ?_; apply Exists.intro; refine ⟨fun vals w2 hL hd => ?_, ?_⟩; (focus (have hb2 : Below w1.heap.size w1 w2 := later_drew' hL (Nat.le_refl _); have r := HR1.out.below hb2 HR1.out.lt; have c4 := r.cell 4; clear hd hL hb2 r; simp at c4; go_simp; exact Tame.Is.mk (Tame.Later.refl _))))
        | (refine Tame.walk_known (o := ⟨some 89, _, _, _, _, _⟩) (fun _ => rfl) ?_; apply Exists.intro; refine ⟨fun vals w2 hL hd => ?_, ?_⟩; (focus (have hb2 : Below w1.heap.size w1 w2 := later_drew' hL (Nat.le_refl _); have r := HR1.out.below hb2 HR1.out.lt; have c1 := r.cell 1; clear hd hL hb2 r; simp at c1; go_simp; exact Tame.Is.mk (Tame.Later.refl _))))
        | (refine Tame.walk_known (o := ⟨some 83, _, _, _, _, _⟩) (fun _ => rfl) ?_; apply Exists.intro; refine ⟨fun vals w2 hL hd => ?_, ?_⟩; (focus (have hb2 : Below w1.heap.size w1 w2 := later_drew' hL (Nat.le_refl _); have e0 := (hb2.cell (p := ⟨g, off + 0 * 5, none⟩) (by show g < _; omega)).trans Ka0.out; have e1 := (hb2.cell (p := ⟨g, off + 0 * 5 + 1, none⟩) (by show g < _; omega)).trans Ka1.out; have e2 := (hb2.cell (p := ⟨g, off + 0 * 5 + 2, none⟩) (by show g < _; omega)).trans Ka2.out; have e3 := (hb2.cell (p := ⟨g, off + 0 * 5 + 3, none⟩) (by show g < _; omega)).trans Ka3.out; have e4 := (hb2.cell (p := ⟨g, off + 0 * 5 + 4, none⟩) (by show g < _; omega)).trans Ka4.out; clear hd hL hb2; simp at e0 e1 e2 e3 e4; go_simp; exact Tame.Is.mk (Tame.Later.refl _))))
        | (refine Tame.walk_known (o := ⟨some 97, _, _, _, _, _⟩) (fun _ => rfl) ?_; apply Exists.intro; refine ⟨fun vals w2 hL hd => ?_, ?_⟩; (focus (have hb2 : Below w1.heap.size w1 w2 := later_drew' hL (Nat.le_refl _); have e0 := (hb2.cell (p := ⟨g, off + 1 * 5, none⟩) (by show g < _; omega)).trans Kb0.out; have e1 := (hb2.cell (p := ⟨g, off + 1 * 5 + 1, none⟩) (by show g < _; omega)).trans Kb1.out; have e2 := (hb2.cell (p := ⟨g, off + 1 * 5 + 2, none⟩) (by show g < _; omega)).trans Kb2.out; have e3 := (hb2.cell (p := ⟨g, off + 1 * 5 + 3, none⟩) (by show g < _; omega)).trans Kb3.out; have e4 := (hb2.cell (p := ⟨g, off + 1 * 5 + 4, none⟩) (by show g < _; omega)).trans Kb4.out; clear hd hL hb2; simp at e0 e1 e2 e3 e4; go_simp; exact Tame.Is.mk (Tame.Later.refl _))))
        | (refine Tame.walk_known (o := ⟨some 85, _, _, _, _, _⟩) (fun _ => rfl) ?_; apply Exists.intro; refine ⟨fun vals w2 hL hd => ?_, ?_⟩; (focus (have hb2 : Below w1.heap.size w1 w2 := later_drew' hL (Nat.le_refl _); have HCC := Lib.hid (HI1.out w2 hb2); clear hd hL hb2; go_simp; exact Tame.known HCC.out)))
        | (refine Tame.walk_known (o := ⟨some 99, _, _, _, _, _⟩) (fun _ => rfl) ?_; apply Exists.intro; refine ⟨fun vals w2 hL hd => ?_, ?_⟩; (focus (have hb2 : Below w1.heap.size w1 w2 := later_drew' hL (Nat.le_refl _); have HCC := Lib.hid (HI2.out w2 hb2); clear hd hL hb2; go_simp; exact Tame.known HCC.out)))
        | (refine Tame.walk_known (fun _ => rfl) ?_; apply Exists.intro; refine ⟨fun vals w2 hL hd => ?_, ?_⟩; (focus (go_simp; first | exact Tame.Is.mk (Tame.Later.refl _) | (rw [if_neg]; (focus exact Tame.Is.mk (Tame.Later.refl _)); omega)))))
       simp only [Act.put, List.setIfInBounds_toArray, List.set_cons_zero, List.set_cons_succ, List.nil_append, List.cons_append, List.length_cons, List.length_nil, Nat.zero_add, Nat.reduceAdd])
    refine Tame.walk_end fun vals w2 hL _ => ?_
    have HB2 : Hid (Below w1.heap.size w1 w2) := Lib.hid (later_drew' hL (Nat.le_refl _))
    clear hL
    go_wp2_with fail
    go_ret
    refine ⟨?_, HB1.out.trans (HB2.out.mono HB1.out.size)⟩
    have e1 : ((((((⟨ta.toArray⟩ : ByteArray) ++ ⟨([32] : T).toArray⟩) ++ ⟨op.toArray⟩) ++ ⟨([32] : T).toArray⟩)) ++ ⟨tb.toArray⟩) = ⟨x.txt.toArray⟩ := by rw [HTX.out, str_app2, str_app2, str_app2, str_app2]; simp
    exact ret_str e1

end Go.Proofs.YtfajnflfonechaaDoor
