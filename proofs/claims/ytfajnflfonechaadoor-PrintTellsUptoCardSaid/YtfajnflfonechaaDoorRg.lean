/- DERIVED. The document's expressions' texts: prefixes, ops of two. -/
import Derived.Test.YtfajnflfonechaaDoorRf
namespace Go.Proofs.YtfajnflfonechaaDoor
open Go.RowKit
attribute [local go_sem] Tame.Op Tame.upon
theorem levOf_at {i : Nat} (h : i < 16) : 0 ≤ levOf (i : Int) ∧ levOf (i : Int) ≤ 6 := by
  have : ∀ i : Fin 16, 0 ≤ levOf (i.1 : Int) ∧ levOf (i.1 : Int) ≤ 6 := by decide
  exact this ⟨i, h⟩
theorem opS_get {i : Nat} (h : i < 16) : opS[i]? = some (opS.getD i []) := by
  have : ∀ i : Fin 16, opS[i.1]? = some (opS.getD i.1 []) := by decide
  exact this ⟨i, h⟩
theorem preS_get {i : Nat} (h : i < 3) : preS[i]? = some (preS.getD i []) := by
  have : ∀ i : Fin 3, preS[i.1]? = some (preS.getD i.1 []) := by decide
  exact this ⟨i, h⟩
/-- A pointer to one text of a new row. -/
def TxP (ts : List T) (i : Nat) (v : Value) (w : World) : Prop := ∃ g, v = .pointer (some ⟨g, i, none⟩) ∧ Row w g 9 (txs ts)
theorem TxP.later {ts : List T} {i : Nat} {v : Value} {w w' : World} (h : TxP ts i v w) (hl : Tame.Later w w') : TxP ts i v w' := by
  obtain ⟨g, hv, hr⟩ := h
  exact ⟨g, hv, Row.below hr hl hr.lt⟩

set_option maxRecDepth 100000 in
set_option maxHeartbeats 1000000 in
theorem refUn_any (x a : X) (hk3 : x.k = 3) (hks : x.ks = [a]) (ho : 0 ≤ x.o ∧ x.o ≤ 2) (hoka : RefTx a) (A : Option Addr) (c : Nat) (w : World) (S : Nat → Prop) (hx : x.shape = true) (hk : KS w S A x.ks) (hS : ∀ q, S q → q < w.heap.size) (hz : x.size ≤ 10000000) :
    Calls Tryd.prog 17 #[ev x A c] w fun e w' => e = .returned (.string ⟨x.txt.toArray⟩) ∧ Below w.heap.size w w' := by
  have HXa : Hid (a.shape = true) := Lib.hid (shapes_kid (shape_open hx).2 (i := 0) (by rw [hks]; rfl))
  have hsz : x.size = 1 + a.size := by cases x; simp only [X.ks] at hks; subst hks; simp [X.size, X.sizes]
  have hta := a.txt_len HXa.out
  have HT := Lib.hid (txt_un hk3 hks)
  have HOKa := Lib.hid hoka
  have HKS := Lib.hid hks
  have HKK := Lib.hid hk3
  obtain ⟨i, hi⟩ : ∃ i : Nat, x.o = (i : Int) := ⟨x.o.toNat, by omega⟩
  have hi3 : i < 3 := by omega
  have HI := Lib.hid hi
  have hil := inT_len a.lev 7 a.txt
  have hpl := preS_len i
  obtain ⟨t, ht⟩ : ∃ t, t = inT a.lev 7 a.txt := ⟨_, rfl⟩
  have HTT := Lib.hid ht
  rw [← ht] at hil
  clear hoka hks hk3 ho hi ht
  have hb : Below w.heap.size w (w.alloc (.cells #[.int .i64 x.k, .int .i64 x.o, .int .i64 x.n, .string ⟨x.s.toArray⟩, .slice A x.ks.length c] 46)) := (Below.refl _ _).alloc (Nat.le_refl _) _
  have HR0 : Hid (Row (w.alloc (.cells #[.int .i64 x.k, .int .i64 x.o, .int .i64 x.n, .string ⟨x.s.toArray⟩, .slice A x.ks.length c] 46)) w.heap.size 46 #[.int .i64 x.k, .int .i64 x.o, .int .i64 x.n, .string ⟨x.s.toArray⟩, .slice A x.ks.length c]) := Lib.hid (Row.made _ _ _)
  have HB0 := Lib.hid hb
  have HK0 : Hid (KS (w.alloc (.cells #[.int .i64 x.k, .int .i64 x.o, .int .i64 x.n, .string ⟨x.s.toArray⟩, .slice A x.ks.length c] 46)) S A x.ks) := Lib.hid (KS.later hk hS hb)
  have HS0 : Hid (∀ q, S q → q < (w.alloc (.cells #[.int .i64 x.k, .int .i64 x.o, .int .i64 x.n, .string ⟨x.s.toArray⟩, .slice A x.ks.length c] 46)).heap.size) := Lib.hid fun q hq => Nat.lt_of_lt_of_le (hS q hq) hb.size
  have HX := Lib.hid hx
  clear hb hk hS hx
  go_enter Tryd.func17, Tryd.ntmps17
  simp only [ev]
  go_upto_region 1 with fail
  generalize w.alloc (.cells #[.int .i64 x.k, .int .i64 x.o, .int .i64 x.n, .string ⟨x.s.toArray⟩, .slice A x.ks.length c] 46) = w0 at HR0 HB0 HK0 HS0 ⊢
  have c0 := HR0.out.cell 0
  have c1 := HR0.out.cell 1
  have c2 := HR0.out.cell 2
  have c3 := HR0.out.cell 3
  have c4 := HR0.out.cell 4
  simp at c0 c1 c2 c3 c4
  have hkk := HKK.out
  have hi := HI.out
  have hkl : x.ks.length = 1 := by rw [HKS.out]; rfl
  obtain ⟨g, off, _, _, rfl, hrest⟩ := KS.rat HK0.out (i := 0) (a := a) (by rw [HKS.out]; rfl)
  clear hrest
  obtain ⟨A2, m2, hSg, k0, k1, k2, k3, k4, hka⟩ := KS.rcells HK0.out (i := 0) (a := a) (by rw [HKS.out]; rfl)
  have hgwa : g < w0.heap.size := HS0.out g hSg
  have Ka0 := Lib.hid k0
  have Ka1 := Lib.hid k1
  have Ka2 := Lib.hid k2
  have Ka3 := Lib.hid k3
  have Ka4 := Lib.hid k4
  have HKYa := Lib.hid hka
  clear k0 k1 k2 k3 k4 hka hSg
  have HIa : Hid (∀ w2, Below w0.heap.size w0 w2 → Calls Tryd.prog 38 #[.agg #[.int .i64 a.k, .int .i64 a.o, .int .i64 a.n, .string ⟨a.s.toArray⟩, .slice A2 a.ks.length m2], .int .i64 (7)] w2 fun e w' => e = .returned (.string ⟨(inT a.lev (7) a.txt).toArray⟩) ∧ Below w2.heap.size w2 w') := Lib.hid fun w2 hb => refIn_any a (7) HOKa.out A2 m2 w2 S HXa.out (HKYa.out.later HS0.out hb) (fun q hq => Nat.lt_of_lt_of_le (HS0.out q hq) hb.size) (by omega)
  rw [← HTT.out] at HIa
  have e0 := Ka0.out
  have e1 := Ka1.out
  have e2 := Ka2.out
  have e3 := Ka3.out
  have e4 := Ka4.out
  simp at e0 e1 e2 e3 e4
  go_upto_region 12 with (go_at_call 38; refine (HIa.out _ (Below.refl _ _)).mono ?_; rintro e w1 ⟨rfl, h1⟩; clear e0 e1 e2 e3 e4; have hg1 := h1.cell (p := ⟨g, off, none⟩) (show g < _ from hgwa); have hg2 := h1.cell (p := ⟨g, off + 1, none⟩) (show g < _ from hgwa); have e0 := hg1.trans (by simpa using Ka0.out); have e1 := hg2.trans (by simpa using Ka1.out); clear hg1 hg2; have HL1 := Lib.hid h1; have HB1 : Hid (Below w.heap.size w w1) := Lib.hid (HB0.out.trans (h1.mono HB0.out.size)); have HR1 : Hid (Row w1 w.heap.size 46 #[.int .i64 x.k, .int .i64 x.o, .int .i64 x.n, .string ⟨x.s.toArray⟩, .slice (some ⟨g, off, none⟩) x.ks.length c]) := Lib.hid (HR0.out.below h1 HR0.out.lt); have HK1 : Hid (KS w1 S (some ⟨g, off, none⟩) x.ks) := Lib.hid (HK0.out.later HS0.out h1); have HS1 : Hid (∀ q, S q → q < w1.heap.size) := Lib.hid fun q hq => Nat.lt_of_lt_of_le (HS0.out q hq) h1.size; clear h1 c0 c1 c2 c3 c4; have c0 := HR1.out.cell 0; have c1 := HR1.out.cell 1; have c2 := HR1.out.cell 2; have c3 := HR1.out.cell 3; have c4 := HR1.out.cell 4; simp at c0 c1 c2 c3 c4)
  by_cases h0 : i = 0
  · subst h0
    by_cases hk : a.k = 3
    · by_cases hob : a.o = 0
      · have HTX : Hid (x.txt = [45, 32] ++ t) := Lib.hid (by rw [HT.out, HI.out, HTT.out]; simp [negB, hk, hob, preS])
        rw [hk] at e0
        rw [hob] at e1
        clear hk hob
        go_wp2_with fail
        go_ret
        exact ⟨ret_str ((str_app2 [45, 32] t).trans (by rw [HTX.out])), HB1.out⟩
      · have hob' : (a.o == 0) = false := by simpa using hob
        have HTX : Hid (x.txt = [45] ++ t) := Lib.hid (by rw [HT.out, HI.out, HTT.out]; simp [negB, hk, hob, preS])
        rw [hk] at e0
        clear hk hob
        go_wp2_with fail
        go_ret
        exact ⟨ret_str ((str_app2 [45] t).trans (by rw [HTX.out])), HB1.out⟩
    · have hk' : (a.k == 3) = false := by simpa using hk
      have HTX : Hid (x.txt = [45] ++ t) := Lib.hid (by rw [HT.out, HI.out, HTT.out]; simp [negB, hk, preS])
      clear hk
      go_wp2_with fail
      go_ret
      exact ⟨ret_str ((str_app2 [45] t).trans (by rw [HTX.out])), HB1.out⟩
  · have hi1 : (0 : Int) < (i : Int) := by omega
    obtain ⟨pre, hpre⟩ : ∃ pre, pre = preS.getD i [] := ⟨_, rfl⟩
    have HPC : Hid ((txs preS)[i]? = some (.string ⟨pre.toArray⟩)) := Lib.hid (by simp only [txs]; rw [List.getElem?_toArray, List.getElem?_map, preS_get hi3, hpre]; rfl)
    have HTX : Hid (x.txt = pre ++ ([32] ++ t)) := Lib.hid (by rw [HT.out, HI.out, HTT.out, hpre]; simp [h0])
    rw [← hpre] at hpl
    have hib : (i : Int) < 3 := by omega
    clear h0 hpre c0 c1 c2 c3 c4 e0 e1
    have c1 := HR1.out.cell 1
    simp at c1
    go_upto_region 13 with fail
    clear c1
    refine Tame.wp_region_tame (by kernel_rfl) (by kernel_rfl) Tame.Later.refl Tame.Later.trans ?_
    repeat
      ((first
        | (refine Tame.walk_some (o := ⟨some 35, _, _, _, _, _⟩) (NewTxs preS) (fun _ => rfl) (fun v w w' hl h => h.later hl) (fun vals w2 hL hd => ?_) ?_; (focus (have HCC := Lib.hid (refPre_any w2); clear hd hL; go_simp; refine HCC.out.mono ?_; rintro e w' ⟨v, rfl, hb, hn⟩; exact ⟨_, rfl, hb, hn⟩)))
        | (refine Tame.walk_some (o := ⟨some 38, _, _, _, _, _⟩) (TxP preS i) (fun _ => rfl) (fun v w w' hl h => h.later hl) (fun vals w2 hL hd => ?_) ?_; (focus (have hn : NewTxs preS (vals 0) w2 := hd ⟨0, .data⟩ (by simp) rfl _ rfl; clear hd hL; obtain ⟨g3, hv1, hr⟩ := hn; have hv := (show vals 0 = Value.slice (some ⟨g3, 0, none⟩) 3 3 from hv1); have HRR := Lib.hid hr; clear hr hv1; go_simp; exact Tame.Has.mk (Tame.Later.refl _) ⟨g3, rfl, HRR.out⟩)))
        | (refine Tame.walk_known (o := ⟨some 39, _, _, _, _, _⟩) (fun _ => rfl) ?_; apply Exists.intro; refine ⟨fun vals w2 hL hd => ?_, ?_⟩; (focus (have hn : TxP preS i (vals 3) w2 := hd ⟨3, .data⟩ (by simp) rfl _ rfl; clear hd hL; obtain ⟨g3, hv, hr⟩ := hn; have p0 := hr.cell i; rw [HPC.out] at p0; clear hr; go_simp; exact Tame.Is.mk (Tame.Later.refl _))))
        | (refine Tame.walk_known (o := ⟨some 37, _, _, _, _, _⟩) (fun _ => rfl) ?_; apply Exists.intro; refine ⟨fun vals w2 hL hd => ?_, ?_⟩; (focus (have hb2 : Below w1.heap.size w1 w2 := later_drew' hL (Nat.le_refl _); have r := HR1.out.below hb2 HR1.out.lt; have c1 := r.cell 1; clear hd hL hb2 r; simp at c1; go_simp; exact Tame.Is.mk (Tame.Later.refl _))))
        | (refine Tame.walk_known (fun _ => rfl) ?_; apply Exists.intro; refine ⟨fun vals w2 hL hd => ?_, ?_⟩; (focus (go_simp; first | exact Tame.Is.mk (Tame.Later.refl _) | (rw [if_neg]; (focus exact Tame.Is.mk (Tame.Later.refl _)); omega)))))
       simp only [Act.put, List.setIfInBounds_toArray, List.set_cons_zero, List.set_cons_succ, List.nil_append, List.cons_append, List.length_cons, List.length_nil, Nat.zero_add, Nat.reduceAdd])
    refine Tame.walk_end fun vals w2 hL _ => ?_
    have HB2 : Hid (Below w1.heap.size w1 w2) := Lib.hid (later_drew' hL (Nat.le_refl _))
    clear hL
    go_wp2_with fail
    go_ret
    refine ⟨?_, HB1.out.trans (HB2.out.mono HB1.out.size)⟩
    have e1 : (((⟨pre.toArray⟩ : ByteArray) ++ ⟨([32] : T).toArray⟩) ++ ⟨t.toArray⟩) = ⟨x.txt.toArray⟩ := by rw [HTX.out, str_app2, str_app2, List.append_assoc]
    exact ret_str e1

end Go.Proofs.YtfajnflfonechaaDoor
