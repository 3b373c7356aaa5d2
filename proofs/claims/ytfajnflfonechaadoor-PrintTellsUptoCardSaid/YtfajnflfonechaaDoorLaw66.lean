/- DERIVED. The law of Print, and what the chapter's example says. -/
import Derived.Test.YtfajnflfonechaaDoorRq
import Derived.Test.YtfajnflfonechaaDoorGreat2
import Derived.Test.YtfajnflfonechaaDoorRefNode
import Derived.Test.YtfajnflfonechaaDoorOwnP
import Derived.Test.YtfajnflfonechaaDoorReadP
import Derived.Test.YtfajnflfonechaaDoorPq
namespace Go.Proofs.YtfajnflfonechaaDoor
open Go.RowKit

/-- What the chapter's example says, as a call of awake. -/
def Awake6 (w : World) : Prop := Calls Tryd.prog 20 #[] w fun q w' => q = .returned (.bool true) ∧ Below w.heap.size w w'

theorem KS.old6 {w w' : World} {A : Option Addr} {ks : List X} (h : KS w (Old w) A ks) (hl : Below w.heap.size w w') : KS w' (Old w') A ks := h.move fun b hb => ⟨Nat.lt_of_lt_of_le hb hl.size, hl.block b hb⟩
theorem NS.old6 {l : List Nd} {A : Option Addr} {w w' : World} (h : NS w (Old w) A l) (hb : Below w.heap.size w w') : NS w' (Old w') A l := h.move fun b hb' => ⟨Nat.lt_of_lt_of_le hb' hb.size, hb.block b hb'⟩

set_option maxRecDepth 100000 in
set_option maxHeartbeats 8000000 in
theorem printTells_any (p : List Nd) (e : X) (A B : Option Addr) (c d : Nat) (w : World) (hp : okNs p) (hpl : p.length ≤ 1048576) (hmed : ∀ n ∈ p, medQ n.eqs) (hA : NS w (Old w) A p) (heo : e.ok) (hes : e.size ≤ 1048576) (hB : KS w (Old w) B e.ks) (ht : ShapesAt w) (hpr : PrEnv w.heap.size w)
    (haw : ∀ w2, Below w.heap.size w w2 → Awake6 w2) :
    Calls Tryd.prog 5 #[.agg #[.slice A p.length c], ev e B d] w fun q w' => q = .returned (.bool true) ∧ Below w.heap.size w w' := by
  obtain ⟨w0, hw0⟩ : ∃ w0, w0 = (w.alloc (.cells #[.slice A p.length c] 43)).alloc (.cells #[.int .i64 e.k, .int .i64 e.o, .int .i64 e.n, .string ⟨e.s.toArray⟩, .slice B e.ks.length d] 46) := ⟨_, rfl⟩
  have HPB0 : Hid (Row w0 w.heap.size 43 #[.slice A p.length c]) := Lib.hid (by rw [hw0]; exact (Row.made w 43 _).alloc _)
  have HEB0 : Hid (Row w0 (w.heap.size + 1) 46 #[.int .i64 e.k, .int .i64 e.o, .int .i64 e.n, .string ⟨e.s.toArray⟩, .slice B e.ks.length d]) := Lib.hid (by
    have := Row.made (w.alloc (.cells #[.slice A p.length c] 43)) 46 #[.int .i64 e.k, .int .i64 e.o, .int .i64 e.n, .string ⟨e.s.toArray⟩, .slice B e.ks.length d]
    rw [World.size_alloc] at this
    rw [hw0]
    exact this)
  have HB0 : Hid (Below w.heap.size w w0) := Lib.hid (by rw [hw0]; exact ((Below.refl _ _).alloc (Nat.le_refl _) _).alloc (by simp) _)
  have HG := Lib.hid (great_any p A c w0 _ hp (hA.old6 HB0.out) (fun _ h => h) hpl (fun n hn => hmed n hn))
  have HSZ : Hid (∀ w2, Below w.heap.size w w2 → Calls Tryd.prog 11 #[ev e B d] w2 fun q w' => q = .returned (.int .i64 (e.size : Nat)) ∧ Below w2.heap.size w2 w') := Lib.hid fun w2 hb => refSize_any 1099511627776 e B d w2 _ (by omega) (Nat.le_refl _) (hB.old6 hb) (fun _ h => h)
  have HOP : Hid (∀ w2, Below w.heap.size w w2 → Calls Tryd.prog 13 #[.agg #[.slice A p.length c]] w2 (ProgMade w2 p)) := Lib.hid fun w2 hb => ownProg_any p A c w2 _ hp (by omega) (hA.old6 hb) (fun _ h => h)
  have HPP : Hid (smallNs p → ∀ w2 A2 c2, Below w.heap.size w w2 → NS w2 (Old w2) A2 p → Calls Tryd.prog 12 #[.agg #[.slice A2 p.length c2]] w2 fun q w' => q = printed p ∧ Below w2.heap.size w2 w') := Lib.hid fun hs w2 A2 c2 hb hk => pprint_any p A2 c2 w2 _ hp hs (ht.later hb) hk (fun _ h => h) ((hpr.later hb).up hb.size)
  have HRR : Hid (∀ w2, Below w.heap.size w w2 → Calls Tryd.prog 14 #[.agg #[.slice A p.length c]] w2 fun q w' => q = .returned (.bool (nodesB p)) ∧ Below w2.heap.size w2 w') := Lib.hid fun w2 hb => refRight_any p A c w2 _ hp (hA.old6 hb) (fun _ h => h)
  have HRP : Hid (smallNs p → nodesB p = true → ∀ w2, Below w.heap.size w w2 → Calls Tryd.prog 15 #[.agg #[.slice A p.length c]] w2 fun q w' => q = .returned (.string ⟨(progS p).toArray⟩) ∧ Below w2.heap.size w2 w') := Lib.hid fun hs hr w2 hb => refPrint_any p A c w2 _ (good_of hr hs) hs.1 (hA.old6 hb) (fun _ h => h)
  have HRE : Hid (∀ w2, Below w.heap.size w w2 → Calls Tryd.prog 16 #[ev e B d] w2 fun q w' => q = .returned (.bool (rightB e)) ∧ Below w2.heap.size w2 w') := Lib.hid fun w2 hb => RightExpr_any e B d w2 _ heo (by omega) (hB.old6 hb) (fun _ h => h)
  have HRX : Hid (rightB e = true → ∀ w2, Below w.heap.size w w2 → Calls Tryd.prog 17 #[ev e B d] w2 fun q w' => q = .returned (.string ⟨e.txt.toArray⟩) ∧ Below w2.heap.size w2 w') := Lib.hid fun hr w2 hb => refTx_all e.size e (Nat.le_refl _) B d w2 _ (by
    have : (inB e.depth 200 && e.shape) = true := hr
    rw [Bool.and_eq_true] at this
    exact this.2) (hB.old6 hb) (fun _ h => h) (by omega)
  have HOX : Hid (∀ w2, Below w.heap.size w w2 → Calls Tryd.prog 19 #[ev e B d] w2 (OwnMade w2 e)) := Lib.hid fun w2 hb => Own_any 1099511627775 e B d w2 _ (by omega) (Nat.le_refl _) (hB.old6 hb) (fun _ h => h)
  have HPX : Hid (e.size ≤ 300 → ∀ w2 A2 c2, Below w.heap.size w w2 → KS w2 (Old w2) A2 e.ks → Calls Tryd.prog 18 #[ev e A2 c2] w2 fun q w' => q = .returned (.string ⟨(if rightB e then e.txt else []).toArray⟩) ∧ Below w2.heap.size w2 w') := Lib.hid fun h9 w2 A2 c2 hb hk => pexpr_any e A2 c2 w2 _ (ht.later hb) heo (by omega) hk (fun _ h => h) ((hpr.later hb).up hb.size)
  have HAW := Lib.hid haw
  clear hp hpl hmed hA heo hes hB ht hpr haw
  go_enter Tryd.func5, Tryd.ntmps5
  simp only [ev]
  simp only [ev] at HSZ HRE HRX HOX HPX
  go_upto_region 1 with fail
  rw [← hw0]
  clear hw0
  have c0 := HPB0.out.cell 0
  simp at c0
  by_cases h300 : e.size ≤ 300
  · have i3 : ¬ (e.size : Int) > 300 := by omega
    have H300 := Lib.hid h300
    clear h300
    go_upto_region 3 with (first
      | (go_at_call 10; refine HG.out.mono ?_; rintro q w1 ⟨b1, rfl, hs1, hb1⟩; have HS1 := Lib.hid hs1; have HB1 := Lib.hid (HB0.out.trans (hb1.mono HB0.out.size)); have HPB1 := Lib.hid (HPB0.out.below hb1 HPB0.out.lt); have HEB1 := Lib.hid (HEB0.out.below hb1 HEB0.out.lt); have y0 := HEB1.out.cell 0; have y1 := HEB1.out.cell 1; have y2 := HEB1.out.cell 2; have y3 := HEB1.out.cell 3; have y4 := HEB1.out.cell 4; simp at y0 y1 y2 y3 y4; clear hb1 hs1 HG c0)
      | (go_at_call 11; refine (HSZ.out _ HB1.out).mono ?_; rintro q w2 ⟨rfl, hb2⟩; have HB2 := Lib.hid (HB1.out.trans (hb2.mono HB1.out.size)); have HPB2 := Lib.hid (HPB1.out.below hb2 HPB1.out.lt); have HEB2 := Lib.hid (HEB1.out.below hb2 HEB1.out.lt); clear hb2 HSZ y0 y1 y2 y3 y4))
    · go_ret
      exact ⟨rfl, HB1.out⟩
    · have HS := Lib.hid (HS1.out (by first | rfl | assumption | (simp only [Bool.not_eq_true] at *; assumption)))
      clear HS1
      have c0 := HPB2.out.cell 0
      have y0 := HEB2.out.cell 0
      have y1 := HEB2.out.cell 1
      have y2 := HEB2.out.cell 2
      have y3 := HEB2.out.cell 3
      have y4 := HEB2.out.cell 4
      simp at c0 y0 y1 y2 y3 y4
      have HPP1 := Lib.hid (HPP.out HS.out)
      have HRP0 := Lib.hid (HRP.out HS.out)
      have HPX1 := Lib.hid (HPX.out H300.out)
      clear HPP HRP HPX HS
      by_cases hr : nodesB p = true
      · have HRP1 := Lib.hid (HRP0.out hr)
        have hpp : printed p = .returned (.tuple #[.string ⟨(progS p).toArray⟩, .int .i64 0]) := if_pos hr
        rw [hpp] at HPP1
        rw [hr] at HRR
        generalize progS p = P at HPP1 HRP1
        clear HRP0 hpp hr
        by_cases hx : rightB e = true
        · have HRX1 := Lib.hid (HRX.out hx)
          rw [hx] at HRE HPX1
          simp only [if_true] at HPX1
          generalize e.txt = X at HRX1 HPX1
          clear HRX hx
          go_wp2_with (first
            | (go_at_call 13; refine (HOP.out _ HB2.out).mono ?_; rintro q w3 ⟨A3, c3, rfl, hk, hb⟩; have HK3 : Hid (NS w3 (Old w3) A3 p) := Lib.hid (hk.move fun q hq => ⟨hq.2, rfl⟩); clear hk; clear HOP; have HPB3 := Lib.hid (HPB2.out.below hb HPB2.out.lt); have HEB3 := Lib.hid (HEB2.out.below hb HEB2.out.lt); have HB3 := Lib.hid (HB2.out.trans (hb.mono HB2.out.size)); clear hb c0 y0 y1 y2 y3 y4; have c0 := HPB3.out.cell 0; have y0 := HEB3.out.cell 0; have y1 := HEB3.out.cell 1; have y2 := HEB3.out.cell 2; have y3 := HEB3.out.cell 3; have y4 := HEB3.out.cell 4; simp at c0 y0 y1 y2 y3 y4)
            | (go_at_call 12; refine (HPP1.out _ _ _ HB3.out HK3.out).mono ?_; rintro q w4 ⟨rfl, hb⟩; clear HPP1; have HPB4 := Lib.hid (HPB3.out.below hb HPB3.out.lt); have HEB4 := Lib.hid (HEB3.out.below hb HEB3.out.lt); have HB4 := Lib.hid (HB3.out.trans (hb.mono HB3.out.size)); clear hb c0 y0 y1 y2 y3 y4; have c0 := HPB4.out.cell 0; have y0 := HEB4.out.cell 0; have y1 := HEB4.out.cell 1; have y2 := HEB4.out.cell 2; have y3 := HEB4.out.cell 3; have y4 := HEB4.out.cell 4; simp at c0 y0 y1 y2 y3 y4)
            | (go_at_call 14; refine (HRR.out _ HB4.out).mono ?_; rintro q w5 ⟨rfl, hb⟩; clear HRR; have HPB5 := Lib.hid (HPB4.out.below hb HPB4.out.lt); have HEB5 := Lib.hid (HEB4.out.below hb HEB4.out.lt); have HB5 := Lib.hid (HB4.out.trans (hb.mono HB4.out.size)); clear hb c0 y0 y1 y2 y3 y4; have c0 := HPB5.out.cell 0; have y0 := HEB5.out.cell 0; have y1 := HEB5.out.cell 1; have y2 := HEB5.out.cell 2; have y3 := HEB5.out.cell 3; have y4 := HEB5.out.cell 4; simp at c0 y0 y1 y2 y3 y4)
            | (go_at_call 15; refine (HRP1.out _ HB5.out).mono ?_; rintro q w6 ⟨rfl, hb⟩; clear HRP1; have HPB6 := Lib.hid (HPB5.out.below hb HPB5.out.lt); have HEB6 := Lib.hid (HEB5.out.below hb HEB5.out.lt); have HB6 := Lib.hid (HB5.out.trans (hb.mono HB5.out.size)); clear hb c0 y0 y1 y2 y3 y4; have c0 := HPB6.out.cell 0; have y0 := HEB6.out.cell 0; have y1 := HEB6.out.cell 1; have y2 := HEB6.out.cell 2; have y3 := HEB6.out.cell 3; have y4 := HEB6.out.cell 4; simp at c0 y0 y1 y2 y3 y4)
            | (go_at_call 16; refine (HRE.out _ HB6.out).mono ?_; rintro q w7 ⟨rfl, hb⟩; clear HRE; have HPB7 := Lib.hid (HPB6.out.below hb HPB6.out.lt); have HEB7 := Lib.hid (HEB6.out.below hb HEB6.out.lt); have HB7 := Lib.hid (HB6.out.trans (hb.mono HB6.out.size)); clear hb c0 y0 y1 y2 y3 y4; have c0 := HPB7.out.cell 0; have y0 := HEB7.out.cell 0; have y1 := HEB7.out.cell 1; have y2 := HEB7.out.cell 2; have y3 := HEB7.out.cell 3; have y4 := HEB7.out.cell 4; simp at c0 y0 y1 y2 y3 y4)
            | (go_at_call 17; refine (HRX1.out _ HB7.out).mono ?_; rintro q w8 ⟨rfl, hb⟩; clear HRX1; have HPB8 := Lib.hid (HPB7.out.below hb HPB7.out.lt); have HEB8 := Lib.hid (HEB7.out.below hb HEB7.out.lt); have HB8 := Lib.hid (HB7.out.trans (hb.mono HB7.out.size)); clear hb c0 y0 y1 y2 y3 y4; have c0 := HPB8.out.cell 0; have y0 := HEB8.out.cell 0; have y1 := HEB8.out.cell 1; have y2 := HEB8.out.cell 2; have y3 := HEB8.out.cell 3; have y4 := HEB8.out.cell 4; simp at c0 y0 y1 y2 y3 y4)
            | (go_at_call 19; refine (HOX.out _ HB8.out).mono ?_; rintro q w9 ⟨A4, c4, rfl, hk, hb⟩; have HK4 : Hid (KS w9 (Old w9) A4 e.ks) := Lib.hid (hk.move fun q hq => ⟨hq.2, rfl⟩); clear hk; simp only [ev]; clear HOX; have HPB9 := Lib.hid (HPB8.out.below hb HPB8.out.lt); have HEB9 := Lib.hid (HEB8.out.below hb HEB8.out.lt); have HB9 := Lib.hid (HB8.out.trans (hb.mono HB8.out.size)); clear hb c0 y0 y1 y2 y3 y4; have c0 := HPB9.out.cell 0; have y0 := HEB9.out.cell 0; have y1 := HEB9.out.cell 1; have y2 := HEB9.out.cell 2; have y3 := HEB9.out.cell 3; have y4 := HEB9.out.cell 4; simp at c0 y0 y1 y2 y3 y4)
            | (go_at_call 18; refine (HPX1.out _ _ _ HB9.out HK4.out).mono ?_; rintro q w10 ⟨rfl, hb⟩; clear HPX1; have HPB10 := Lib.hid (HPB9.out.below hb HPB9.out.lt); have HEB10 := Lib.hid (HEB9.out.below hb HEB9.out.lt); have HB10 := Lib.hid (HB9.out.trans (hb.mono HB9.out.size)); clear hb c0 y0 y1 y2 y3 y4; have c0 := HPB10.out.cell 0; have y0 := HEB10.out.cell 0; have y1 := HEB10.out.cell 1; have y2 := HEB10.out.cell 2; have y3 := HEB10.out.cell 3; have y4 := HEB10.out.cell 4; simp at c0 y0 y1 y2 y3 y4)
            | (go_at_call 20; refine (HAW.out _ HB10.out).mono ?_; rintro q w11 ⟨rfl, hb⟩; clear HAW; have HPB11 := Lib.hid (HPB10.out.below hb HPB10.out.lt); have HEB11 := Lib.hid (HEB10.out.below hb HEB10.out.lt); have HB11 := Lib.hid (HB10.out.trans (hb.mono HB10.out.size)); clear hb c0 y0 y1 y2 y3 y4; have c0 := HPB11.out.cell 0; have y0 := HEB11.out.cell 0; have y1 := HEB11.out.cell 1; have y2 := HEB11.out.cell 2; have y3 := HEB11.out.cell 3; have y4 := HEB11.out.cell 4; simp at c0 y0 y1 y2 y3 y4))
          go_ret
          exact ⟨rfl, HB11.out⟩
        · have hx' : rightB e = false := by simpa using hx
          rw [hx'] at HRE HPX1
          simp only [Bool.false_eq_true, if_false] at HPX1
          clear HRX hx hx'
          go_wp2_with (first
            | (go_at_call 13; refine (HOP.out _ HB2.out).mono ?_; rintro q w3 ⟨A3, c3, rfl, hk, hb⟩; have HK3 : Hid (NS w3 (Old w3) A3 p) := Lib.hid (hk.move fun q hq => ⟨hq.2, rfl⟩); clear hk; clear HOP; have HPB3 := Lib.hid (HPB2.out.below hb HPB2.out.lt); have HEB3 := Lib.hid (HEB2.out.below hb HEB2.out.lt); have HB3 := Lib.hid (HB2.out.trans (hb.mono HB2.out.size)); clear hb c0 y0 y1 y2 y3 y4; have c0 := HPB3.out.cell 0; have y0 := HEB3.out.cell 0; have y1 := HEB3.out.cell 1; have y2 := HEB3.out.cell 2; have y3 := HEB3.out.cell 3; have y4 := HEB3.out.cell 4; simp at c0 y0 y1 y2 y3 y4)
            | (go_at_call 12; refine (HPP1.out _ _ _ HB3.out HK3.out).mono ?_; rintro q w4 ⟨rfl, hb⟩; clear HPP1; have HPB4 := Lib.hid (HPB3.out.below hb HPB3.out.lt); have HEB4 := Lib.hid (HEB3.out.below hb HEB3.out.lt); have HB4 := Lib.hid (HB3.out.trans (hb.mono HB3.out.size)); clear hb c0 y0 y1 y2 y3 y4; have c0 := HPB4.out.cell 0; have y0 := HEB4.out.cell 0; have y1 := HEB4.out.cell 1; have y2 := HEB4.out.cell 2; have y3 := HEB4.out.cell 3; have y4 := HEB4.out.cell 4; simp at c0 y0 y1 y2 y3 y4)
            | (go_at_call 14; refine (HRR.out _ HB4.out).mono ?_; rintro q w5 ⟨rfl, hb⟩; clear HRR; have HPB5 := Lib.hid (HPB4.out.below hb HPB4.out.lt); have HEB5 := Lib.hid (HEB4.out.below hb HEB4.out.lt); have HB5 := Lib.hid (HB4.out.trans (hb.mono HB4.out.size)); clear hb c0 y0 y1 y2 y3 y4; have c0 := HPB5.out.cell 0; have y0 := HEB5.out.cell 0; have y1 := HEB5.out.cell 1; have y2 := HEB5.out.cell 2; have y3 := HEB5.out.cell 3; have y4 := HEB5.out.cell 4; simp at c0 y0 y1 y2 y3 y4)
            | (go_at_call 15; refine (HRP1.out _ HB5.out).mono ?_; rintro q w6 ⟨rfl, hb⟩; clear HRP1; have HPB6 := Lib.hid (HPB5.out.below hb HPB5.out.lt); have HEB6 := Lib.hid (HEB5.out.below hb HEB5.out.lt); have HB6 := Lib.hid (HB5.out.trans (hb.mono HB5.out.size)); clear hb c0 y0 y1 y2 y3 y4; have c0 := HPB6.out.cell 0; have y0 := HEB6.out.cell 0; have y1 := HEB6.out.cell 1; have y2 := HEB6.out.cell 2; have y3 := HEB6.out.cell 3; have y4 := HEB6.out.cell 4; simp at c0 y0 y1 y2 y3 y4)
            | (go_at_call 16; refine (HRE.out _ HB6.out).mono ?_; rintro q w7 ⟨rfl, hb⟩; clear HRE; have HPB7 := Lib.hid (HPB6.out.below hb HPB6.out.lt); have HEB7 := Lib.hid (HEB6.out.below hb HEB6.out.lt); have HB7 := Lib.hid (HB6.out.trans (hb.mono HB6.out.size)); clear hb c0 y0 y1 y2 y3 y4; have c0 := HPB7.out.cell 0; have y0 := HEB7.out.cell 0; have y1 := HEB7.out.cell 1; have y2 := HEB7.out.cell 2; have y3 := HEB7.out.cell 3; have y4 := HEB7.out.cell 4; simp at c0 y0 y1 y2 y3 y4)
            | (go_at_call 19; refine (HOX.out _ HB7.out).mono ?_; rintro q w8 ⟨A4, c4, rfl, hk, hb⟩; have HK4 : Hid (KS w8 (Old w8) A4 e.ks) := Lib.hid (hk.move fun q hq => ⟨hq.2, rfl⟩); clear hk; simp only [ev]; clear HOX; have HPB8 := Lib.hid (HPB7.out.below hb HPB7.out.lt); have HEB8 := Lib.hid (HEB7.out.below hb HEB7.out.lt); have HB8 := Lib.hid (HB7.out.trans (hb.mono HB7.out.size)); clear hb c0 y0 y1 y2 y3 y4; have c0 := HPB8.out.cell 0; have y0 := HEB8.out.cell 0; have y1 := HEB8.out.cell 1; have y2 := HEB8.out.cell 2; have y3 := HEB8.out.cell 3; have y4 := HEB8.out.cell 4; simp at c0 y0 y1 y2 y3 y4)
            | (go_at_call 18; refine (HPX1.out _ _ _ HB8.out HK4.out).mono ?_; rintro q w9 ⟨rfl, hb⟩; clear HPX1; have HPB9 := Lib.hid (HPB8.out.below hb HPB8.out.lt); have HEB9 := Lib.hid (HEB8.out.below hb HEB8.out.lt); have HB9 := Lib.hid (HB8.out.trans (hb.mono HB8.out.size)); clear hb c0 y0 y1 y2 y3 y4; have c0 := HPB9.out.cell 0; have y0 := HEB9.out.cell 0; have y1 := HEB9.out.cell 1; have y2 := HEB9.out.cell 2; have y3 := HEB9.out.cell 3; have y4 := HEB9.out.cell 4; simp at c0 y0 y1 y2 y3 y4)
            | (go_at_call 20; refine (HAW.out _ HB9.out).mono ?_; rintro q w10 ⟨rfl, hb⟩; clear HAW; have HPB10 := Lib.hid (HPB9.out.below hb HPB9.out.lt); have HEB10 := Lib.hid (HEB9.out.below hb HEB9.out.lt); have HB10 := Lib.hid (HB9.out.trans (hb.mono HB9.out.size)); clear hb c0 y0 y1 y2 y3 y4; have c0 := HPB10.out.cell 0; have y0 := HEB10.out.cell 0; have y1 := HEB10.out.cell 1; have y2 := HEB10.out.cell 2; have y3 := HEB10.out.cell 3; have y4 := HEB10.out.cell 4; simp at c0 y0 y1 y2 y3 y4))
          go_ret
          exact ⟨rfl, HB10.out⟩
      · have hpp : printed p = .returned (.tuple #[.string ⟨#[]⟩, .int .i64 11]) := if_neg hr
        have hr' : nodesB p = false := by simpa using hr
        rw [hpp] at HPP1
        rw [hr'] at HRR
        clear HRP0 hpp hr hr'
        by_cases hx : rightB e = true
        · have HRX1 := Lib.hid (HRX.out hx)
          rw [hx] at HRE HPX1
          simp only [if_true] at HPX1
          generalize e.txt = X at HRX1 HPX1
          clear HRX hx
          go_wp2_with (first
            | (go_at_call 13; refine (HOP.out _ HB2.out).mono ?_; rintro q w3 ⟨A3, c3, rfl, hk, hb⟩; have HK3 : Hid (NS w3 (Old w3) A3 p) := Lib.hid (hk.move fun q hq => ⟨hq.2, rfl⟩); clear hk; clear HOP; have HPB3 := Lib.hid (HPB2.out.below hb HPB2.out.lt); have HEB3 := Lib.hid (HEB2.out.below hb HEB2.out.lt); have HB3 := Lib.hid (HB2.out.trans (hb.mono HB2.out.size)); clear hb c0 y0 y1 y2 y3 y4; have c0 := HPB3.out.cell 0; have y0 := HEB3.out.cell 0; have y1 := HEB3.out.cell 1; have y2 := HEB3.out.cell 2; have y3 := HEB3.out.cell 3; have y4 := HEB3.out.cell 4; simp at c0 y0 y1 y2 y3 y4)
            | (go_at_call 12; refine (HPP1.out _ _ _ HB3.out HK3.out).mono ?_; rintro q w4 ⟨rfl, hb⟩; clear HPP1; have HPB4 := Lib.hid (HPB3.out.below hb HPB3.out.lt); have HEB4 := Lib.hid (HEB3.out.below hb HEB3.out.lt); have HB4 := Lib.hid (HB3.out.trans (hb.mono HB3.out.size)); clear hb c0 y0 y1 y2 y3 y4; have c0 := HPB4.out.cell 0; have y0 := HEB4.out.cell 0; have y1 := HEB4.out.cell 1; have y2 := HEB4.out.cell 2; have y3 := HEB4.out.cell 3; have y4 := HEB4.out.cell 4; simp at c0 y0 y1 y2 y3 y4)
            | (go_at_call 14; refine (HRR.out _ HB4.out).mono ?_; rintro q w5 ⟨rfl, hb⟩; clear HRR; have HPB5 := Lib.hid (HPB4.out.below hb HPB4.out.lt); have HEB5 := Lib.hid (HEB4.out.below hb HEB4.out.lt); have HB5 := Lib.hid (HB4.out.trans (hb.mono HB4.out.size)); clear hb c0 y0 y1 y2 y3 y4; have c0 := HPB5.out.cell 0; have y0 := HEB5.out.cell 0; have y1 := HEB5.out.cell 1; have y2 := HEB5.out.cell 2; have y3 := HEB5.out.cell 3; have y4 := HEB5.out.cell 4; simp at c0 y0 y1 y2 y3 y4)
            | (go_at_call 16; refine (HRE.out _ HB5.out).mono ?_; rintro q w6 ⟨rfl, hb⟩; clear HRE; have HPB6 := Lib.hid (HPB5.out.below hb HPB5.out.lt); have HEB6 := Lib.hid (HEB5.out.below hb HEB5.out.lt); have HB6 := Lib.hid (HB5.out.trans (hb.mono HB5.out.size)); clear hb c0 y0 y1 y2 y3 y4; have c0 := HPB6.out.cell 0; have y0 := HEB6.out.cell 0; have y1 := HEB6.out.cell 1; have y2 := HEB6.out.cell 2; have y3 := HEB6.out.cell 3; have y4 := HEB6.out.cell 4; simp at c0 y0 y1 y2 y3 y4)
            | (go_at_call 17; refine (HRX1.out _ HB6.out).mono ?_; rintro q w7 ⟨rfl, hb⟩; clear HRX1; have HPB7 := Lib.hid (HPB6.out.below hb HPB6.out.lt); have HEB7 := Lib.hid (HEB6.out.below hb HEB6.out.lt); have HB7 := Lib.hid (HB6.out.trans (hb.mono HB6.out.size)); clear hb c0 y0 y1 y2 y3 y4; have c0 := HPB7.out.cell 0; have y0 := HEB7.out.cell 0; have y1 := HEB7.out.cell 1; have y2 := HEB7.out.cell 2; have y3 := HEB7.out.cell 3; have y4 := HEB7.out.cell 4; simp at c0 y0 y1 y2 y3 y4)
            | (go_at_call 19; refine (HOX.out _ HB7.out).mono ?_; rintro q w8 ⟨A4, c4, rfl, hk, hb⟩; have HK4 : Hid (KS w8 (Old w8) A4 e.ks) := Lib.hid (hk.move fun q hq => ⟨hq.2, rfl⟩); clear hk; simp only [ev]; clear HOX; have HPB8 := Lib.hid (HPB7.out.below hb HPB7.out.lt); have HEB8 := Lib.hid (HEB7.out.below hb HEB7.out.lt); have HB8 := Lib.hid (HB7.out.trans (hb.mono HB7.out.size)); clear hb c0 y0 y1 y2 y3 y4; have c0 := HPB8.out.cell 0; have y0 := HEB8.out.cell 0; have y1 := HEB8.out.cell 1; have y2 := HEB8.out.cell 2; have y3 := HEB8.out.cell 3; have y4 := HEB8.out.cell 4; simp at c0 y0 y1 y2 y3 y4)
            | (go_at_call 18; refine (HPX1.out _ _ _ HB8.out HK4.out).mono ?_; rintro q w9 ⟨rfl, hb⟩; clear HPX1; have HPB9 := Lib.hid (HPB8.out.below hb HPB8.out.lt); have HEB9 := Lib.hid (HEB8.out.below hb HEB8.out.lt); have HB9 := Lib.hid (HB8.out.trans (hb.mono HB8.out.size)); clear hb c0 y0 y1 y2 y3 y4; have c0 := HPB9.out.cell 0; have y0 := HEB9.out.cell 0; have y1 := HEB9.out.cell 1; have y2 := HEB9.out.cell 2; have y3 := HEB9.out.cell 3; have y4 := HEB9.out.cell 4; simp at c0 y0 y1 y2 y3 y4)
            | (go_at_call 20; refine (HAW.out _ HB9.out).mono ?_; rintro q w10 ⟨rfl, hb⟩; clear HAW; have HPB10 := Lib.hid (HPB9.out.below hb HPB9.out.lt); have HEB10 := Lib.hid (HEB9.out.below hb HEB9.out.lt); have HB10 := Lib.hid (HB9.out.trans (hb.mono HB9.out.size)); clear hb c0 y0 y1 y2 y3 y4; have c0 := HPB10.out.cell 0; have y0 := HEB10.out.cell 0; have y1 := HEB10.out.cell 1; have y2 := HEB10.out.cell 2; have y3 := HEB10.out.cell 3; have y4 := HEB10.out.cell 4; simp at c0 y0 y1 y2 y3 y4))
          go_ret
          exact ⟨rfl, HB10.out⟩
        · have hx' : rightB e = false := by simpa using hx
          rw [hx'] at HRE HPX1
          simp only [Bool.false_eq_true, if_false] at HPX1
          clear HRX hx hx'
          go_wp2_with (first
            | (go_at_call 13; refine (HOP.out _ HB2.out).mono ?_; rintro q w3 ⟨A3, c3, rfl, hk, hb⟩; have HK3 : Hid (NS w3 (Old w3) A3 p) := Lib.hid (hk.move fun q hq => ⟨hq.2, rfl⟩); clear hk; clear HOP; have HPB3 := Lib.hid (HPB2.out.below hb HPB2.out.lt); have HEB3 := Lib.hid (HEB2.out.below hb HEB2.out.lt); have HB3 := Lib.hid (HB2.out.trans (hb.mono HB2.out.size)); clear hb c0 y0 y1 y2 y3 y4; have c0 := HPB3.out.cell 0; have y0 := HEB3.out.cell 0; have y1 := HEB3.out.cell 1; have y2 := HEB3.out.cell 2; have y3 := HEB3.out.cell 3; have y4 := HEB3.out.cell 4; simp at c0 y0 y1 y2 y3 y4)
            | (go_at_call 12; refine (HPP1.out _ _ _ HB3.out HK3.out).mono ?_; rintro q w4 ⟨rfl, hb⟩; clear HPP1; have HPB4 := Lib.hid (HPB3.out.below hb HPB3.out.lt); have HEB4 := Lib.hid (HEB3.out.below hb HEB3.out.lt); have HB4 := Lib.hid (HB3.out.trans (hb.mono HB3.out.size)); clear hb c0 y0 y1 y2 y3 y4; have c0 := HPB4.out.cell 0; have y0 := HEB4.out.cell 0; have y1 := HEB4.out.cell 1; have y2 := HEB4.out.cell 2; have y3 := HEB4.out.cell 3; have y4 := HEB4.out.cell 4; simp at c0 y0 y1 y2 y3 y4)
            | (go_at_call 14; refine (HRR.out _ HB4.out).mono ?_; rintro q w5 ⟨rfl, hb⟩; clear HRR; have HPB5 := Lib.hid (HPB4.out.below hb HPB4.out.lt); have HEB5 := Lib.hid (HEB4.out.below hb HEB4.out.lt); have HB5 := Lib.hid (HB4.out.trans (hb.mono HB4.out.size)); clear hb c0 y0 y1 y2 y3 y4; have c0 := HPB5.out.cell 0; have y0 := HEB5.out.cell 0; have y1 := HEB5.out.cell 1; have y2 := HEB5.out.cell 2; have y3 := HEB5.out.cell 3; have y4 := HEB5.out.cell 4; simp at c0 y0 y1 y2 y3 y4)
            | (go_at_call 16; refine (HRE.out _ HB5.out).mono ?_; rintro q w6 ⟨rfl, hb⟩; clear HRE; have HPB6 := Lib.hid (HPB5.out.below hb HPB5.out.lt); have HEB6 := Lib.hid (HEB5.out.below hb HEB5.out.lt); have HB6 := Lib.hid (HB5.out.trans (hb.mono HB5.out.size)); clear hb c0 y0 y1 y2 y3 y4; have c0 := HPB6.out.cell 0; have y0 := HEB6.out.cell 0; have y1 := HEB6.out.cell 1; have y2 := HEB6.out.cell 2; have y3 := HEB6.out.cell 3; have y4 := HEB6.out.cell 4; simp at c0 y0 y1 y2 y3 y4)
            | (go_at_call 19; refine (HOX.out _ HB6.out).mono ?_; rintro q w7 ⟨A4, c4, rfl, hk, hb⟩; have HK4 : Hid (KS w7 (Old w7) A4 e.ks) := Lib.hid (hk.move fun q hq => ⟨hq.2, rfl⟩); clear hk; simp only [ev]; clear HOX; have HPB7 := Lib.hid (HPB6.out.below hb HPB6.out.lt); have HEB7 := Lib.hid (HEB6.out.below hb HEB6.out.lt); have HB7 := Lib.hid (HB6.out.trans (hb.mono HB6.out.size)); clear hb c0 y0 y1 y2 y3 y4; have c0 := HPB7.out.cell 0; have y0 := HEB7.out.cell 0; have y1 := HEB7.out.cell 1; have y2 := HEB7.out.cell 2; have y3 := HEB7.out.cell 3; have y4 := HEB7.out.cell 4; simp at c0 y0 y1 y2 y3 y4)
            | (go_at_call 18; refine (HPX1.out _ _ _ HB7.out HK4.out).mono ?_; rintro q w8 ⟨rfl, hb⟩; clear HPX1; have HPB8 := Lib.hid (HPB7.out.below hb HPB7.out.lt); have HEB8 := Lib.hid (HEB7.out.below hb HEB7.out.lt); have HB8 := Lib.hid (HB7.out.trans (hb.mono HB7.out.size)); clear hb c0 y0 y1 y2 y3 y4; have c0 := HPB8.out.cell 0; have y0 := HEB8.out.cell 0; have y1 := HEB8.out.cell 1; have y2 := HEB8.out.cell 2; have y3 := HEB8.out.cell 3; have y4 := HEB8.out.cell 4; simp at c0 y0 y1 y2 y3 y4)
            | (go_at_call 20; refine (HAW.out _ HB8.out).mono ?_; rintro q w9 ⟨rfl, hb⟩; clear HAW; have HPB9 := Lib.hid (HPB8.out.below hb HPB8.out.lt); have HEB9 := Lib.hid (HEB8.out.below hb HEB8.out.lt); have HB9 := Lib.hid (HB8.out.trans (hb.mono HB8.out.size)); clear hb c0 y0 y1 y2 y3 y4; have c0 := HPB9.out.cell 0; have y0 := HEB9.out.cell 0; have y1 := HEB9.out.cell 1; have y2 := HEB9.out.cell 2; have y3 := HEB9.out.cell 3; have y4 := HEB9.out.cell 4; simp at c0 y0 y1 y2 y3 y4))
          go_ret
          exact ⟨rfl, HB9.out⟩
  · have i3 : (e.size : Int) > 300 := by omega
    clear h300
    go_wp2_with (first
      | (go_at_call 10; refine HG.out.mono ?_; rintro q w1 ⟨b1, rfl, hs1, hb1⟩; have HS1 := Lib.hid hs1; have HB1 := Lib.hid (HB0.out.trans (hb1.mono HB0.out.size)); have HPB1 := Lib.hid (HPB0.out.below hb1 HPB0.out.lt); have HEB1 := Lib.hid (HEB0.out.below hb1 HEB0.out.lt); have y0 := HEB1.out.cell 0; have y1 := HEB1.out.cell 1; have y2 := HEB1.out.cell 2; have y3 := HEB1.out.cell 3; have y4 := HEB1.out.cell 4; simp at y0 y1 y2 y3 y4; clear hb1 hs1 HG c0)
      | (go_at_call 11; refine (HSZ.out _ HB1.out).mono ?_; rintro q w2 ⟨rfl, hb2⟩; have HB2 := Lib.hid (HB1.out.trans (hb2.mono HB1.out.size)); clear hb2 HSZ y0 y1 y2 y3 y4))
    all_goals first
      | (go_ret; exact ⟨rfl, HB2.out⟩)
      | (go_ret; exact ⟨rfl, HB1.out⟩)

end Go.Proofs.YtfajnflfonechaaDoor

namespace Go.Proofs.YtfajnflfonechaaDoor
open Go.RowKit

set_option maxRecDepth 100000 in
set_option maxHeartbeats 2000000 in
theorem neg6 (x : X) (A : Option Addr) (c : Nat) (w : World) (hk : KS w (Old w) A x.ks) :
    Calls Tryd.prog 44 #[ev x A c] w fun e w' => ∃ A', e = .returned (ev (.mk 3 0 0 [] [x]) A' 1) ∧ KS w' (Old w') A' [x] ∧ Below w.heap.size w w' := by
  go_enter Tryd.func44, Tryd.ntmps44
  simp only [ev]
  go_upto_region 1 with fail
  obtain ⟨w1, hw1⟩ : ∃ w1, w1 = (w.alloc (.cells #[.int .i64 x.k, .int .i64 x.o, .int .i64 x.n, .string ⟨x.s.toArray⟩, .slice A x.ks.length c] 61)).alloc (.cells #[.int .i64 0, .int .i64 0, .int .i64 0, .string ⟨#[]⟩, .slice none 0 0] 61) := ⟨_, rfl⟩
  rw [← hw1]
  have HB1 : Hid (Below w.heap.size w w1) := Lib.hid (by rw [hw1]; exact ((Below.refl _ _).alloc (Nat.le_refl _) _).alloc (by simp) _)
  have HR1 : Hid (Row w1 w.heap.size 61 #[.int .i64 x.k, .int .i64 x.o, .int .i64 x.n, .string ⟨x.s.toArray⟩, .slice A x.ks.length c]) := Lib.hid (by rw [hw1]; exact (Row.made w 61 _).alloc _)
  have HZ1 : Hid (Row w1 (w.heap.size + 1) 61 #[.int .i64 0, .int .i64 0, .int .i64 0, .string ⟨#[]⟩, .slice none 0 0]) := Lib.hid (by
    have := Row.made (w.alloc (.cells #[.int .i64 x.k, .int .i64 x.o, .int .i64 x.n, .string ⟨x.s.toArray⟩, .slice A x.ks.length c] 61)) 61 #[.int .i64 0, .int .i64 0, .int .i64 0, .string ⟨#[]⟩, .slice none 0 0]
    rw [World.size_alloc] at this
    rw [hw1]
    exact this)
  have hz : w1.heap.size = w.heap.size + 2 := by rw [hw1]; simp
  clear hw1
  have HK := Lib.hid hk
  have HZZ := Lib.hid hz
  clear hk hz
  have y0 := HR1.out.cell 0
  have y1 := HR1.out.cell 1
  have y2 := HR1.out.cell 2
  have y3 := HR1.out.cell 3
  have y4 := HR1.out.cell 4
  simp at y0 y1 y2 y3 y4
  have HON : (#[.int .i64 3, .int .i64 0, .int .i64 0, .string ⟨#[]⟩, .slice (some ⟨w1.heap.size, 0, none⟩) 1 1] : Array Value).all (·.oneCell') = true := by simp [Value.oneCell']
  have HSS : (#[.int .i64 0, .int .i64 0, .int .i64 0, .string ⟨#[]⟩, .slice none 0 0] : Array Value).size = (#[.int .i64 3, .int .i64 0, .int .i64 0, .string ⟨#[]⟩, .slice (some ⟨w1.heap.size, 0, none⟩) 1 1] : Array Value).size := rfl
  have HSZ : (Tryd.prog.info? 61).map (·.size) = some (#[.int .i64 3, .int .i64 0, .int .i64 0, .string ⟨#[]⟩, .slice (some ⟨w1.heap.size, 0, none⟩) 1 1] : Array Value).size := by
    have : (Tryd.prog.info? 61).map (·.size) = some 5 := by kernel_rfl
    exact this
  have HZW : Hid (Row (w1.alloc (.cells #[.int .i64 x.k, .int .i64 x.o, .int .i64 x.n, .string ⟨x.s.toArray⟩, .slice A x.ks.length c] 61)) (w.heap.size + 1) 61 #[.int .i64 0, .int .i64 0, .int .i64 0, .string ⟨#[]⟩, .slice none 0 0]) := Lib.hid (HZ1.out.alloc _)
  go_wp2_with (refine wpList_store_row (o := ⟨none, Op.store _ _ _, _, _, _, _⟩) rfl _ _ _ rfl (w.heap.size + 1) #[.int .i64 3, .int .i64 0, .int .i64 0, .string ⟨#[]⟩, .slice (some ⟨w1.heap.size, 0, none⟩) 1 1] rfl rfl _ _ HZW.out HSZ HSS HON ?_)
  clear y0 y1 y2 y3 y4
  obtain ⟨w2, hw2⟩ : ∃ w2, w2 = w1.alloc (.cells #[.int .i64 x.k, .int .i64 x.o, .int .i64 x.n, .string ⟨x.s.toArray⟩, .slice A x.ks.length c] 61) := ⟨_, rfl⟩
  rw [← hw2]
  have hb2 : Below w1.heap.size w1 w2 := by rw [hw2]; exact (Below.refl _ _).alloc (Nat.le_refl _) _
  have hr2 : Row w2 w1.heap.size 61 #[.int .i64 x.k, .int .i64 x.o, .int .i64 x.n, .string ⟨x.s.toArray⟩, .slice A x.ks.length c] := by rw [hw2]; exact Row.made _ _ _
  have hz2 : Row w2 (w.heap.size + 1) 61 #[.int .i64 0, .int .i64 0, .int .i64 0, .string ⟨#[]⟩, .slice none 0 0] := by rw [hw2]; exact HZ1.out.alloc _
  clear hw2
  have hzz := HZZ.out
  have hr3 : Row (w2.setRow (w.heap.size + 1) #[.int .i64 3, .int .i64 0, .int .i64 0, .string ⟨#[]⟩, .slice (some ⟨w1.heap.size, 0, none⟩) 1 1]) w1.heap.size 61 #[.int .i64 x.k, .int .i64 x.o, .int .i64 x.n, .string ⟨x.s.toArray⟩, .slice A x.ks.length c] := (setRow_other w2 _ _ _ (by omega)).trans hr2
  have hz3 : Row (w2.setRow (w.heap.size + 1) #[.int .i64 3, .int .i64 0, .int .i64 0, .string ⟨#[]⟩, .slice (some ⟨w1.heap.size, 0, none⟩) 1 1]) (w.heap.size + 1) 61 #[.int .i64 3, .int .i64 0, .int .i64 0, .string ⟨#[]⟩, .slice (some ⟨w1.heap.size, 0, none⟩) 1 1] := setRow_heap w2 _ _ _ _ _ hz2
  have hb3 : Below w.heap.size w (w2.setRow (w.heap.size + 1) #[.int .i64 3, .int .i64 0, .int .i64 0, .string ⟨#[]⟩, .slice (some ⟨w1.heap.size, 0, none⟩) 1 1]) := below_setRow (HB1.out.trans (hb2.mono HB1.out.size)) (by omega) _
  have hbz := hb2.size
  refine bodyPost_ret (results_cell_row rfl _ _ (w.heap.size + 1) _ _ _ _ rfl hz3 Tryd.underlying61 rfl (by kernel_rfl)) rfl ⟨some ⟨w1.heap.size, 0, none⟩, rfl, ?_, hb3⟩
  refine .inr ⟨w1.heap.size, 0, rfl, ?_⟩
  have k0 := hr3.cell 0
  have k1 := hr3.cell 1
  have k2 := hr3.cell 2
  have k3 := hr3.cell 3
  have k4 := hr3.cell 4
  simp at k0 k1 k2 k3 k4
  unfold ECs
  refine ⟨EC.mk' hr3.lt k0 k1 k2 k3 k4 (HK.out.move fun b hb => ⟨Nat.lt_of_lt_of_le hb hb3.size, hb3.block b hb⟩), ?_⟩
  unfold ECs
  trivial

def x60 : X := .mk 0 0 1 [] []
def x61 : X := .mk 3 0 0 [] [x60]
def x62 : X := .mk 3 0 0 [] [x61]
theorem x62_right : rightB x62 = true := by
  have h0 : fitB x60 = true := fitB_true (.inl ⟨rfl, by simp [fitK, x60, X.o, X.n, X.s, X.ks, calP]⟩)
  have h1 : fitB x61 = true := fitB_true (.inr (.inr (.inr (.inl ⟨rfl, by simp [fitK, x61, X.o, X.n, X.s, X.ks, calP]⟩))))
  have h2 : fitB x62 = true := fitB_true (.inr (.inr (.inr (.inl ⟨rfl, by simp [fitK, x62, X.o, X.n, X.s, X.ks, calP]⟩))))
  have h3 : inB x62.depth 200 = true := inB_true (by decide)
  have h4 : x60.shape = true := by rw [X.shape_walk]; simp [x60, X.walk, X.walks] at h0 ⊢; exact h0
  have h5 : x61.shape = true := by simp only [x61, X.shape, X.shapes, h4]; simpa [x61] using h1
  rw [rightB, h3, Bool.true_and]
  simp only [x62, X.shape, X.shapes, h5]
  simpa [x62] using h2
theorem x62_txt : x62.txt = [45, 32, 45, 49] := by
  have h0 : x60.txt = [49] := by
    rw [txt_int rfl]
    show Lib.decDigits 1 = _
    unfold Lib.decDigits
    decide
  have h1 : x61.txt = [45, 49] := by rw [txt_un (a := x60) rfl rfl, h0]; decide
  rw [txt_un (a := x61) rfl rfl, h1]; decide

set_option maxRecDepth 100000 in
set_option maxHeartbeats 2000000 in
theorem awake6_any (w : World) (ht : ShapesAt w) (hpr : PrEnv w.heap.size w) : Awake6 w := by
  have H1 : Hid (Calls Tryd.prog 44 #[.agg #[.int .i64 0, .int .i64 0, .int .i64 1, .string ⟨#[]⟩, .slice none 0 0]] w fun e w' => ∃ A', e = .returned (ev x61 A' 1) ∧ KS w' (Old w') A' [x60] ∧ Below w.heap.size w w') := Lib.hid (neg6 x60 none 0 w (.inl rfl))
  have H2 : Hid (∀ w1 A, KS w1 (Old w1) A [x60] → Calls Tryd.prog 44 #[ev x61 A 1] w1 fun e w' => ∃ A', e = .returned (ev x62 A' 1) ∧ KS w' (Old w') A' [x61] ∧ Below w1.heap.size w1 w') := Lib.hid fun w1 A hk => neg6 x61 A 1 w1 hk
  have H3 : Hid (∀ w2 A, Below w.heap.size w w2 → KS w2 (Old w2) A [x61] → Calls Tryd.prog 18 #[ev x62 A 1] w2 fun e w' => e = .returned (.string ⟨#[45, 32, 45, 49]⟩) ∧ Below w2.heap.size w2 w') := Lib.hid fun w2 A hb hk => by
    have h := pexpr_any x62 A 1 w2 (Old w2) (ht.later hb) (by simp [x62, x61, x60, X.ok, X.oks]) (by decide) hk (fun _ h => h) ((hpr.later hb).up hb.size)
    rw [if_pos x62_right, x62_txt] at h
    exact h
  clear ht hpr
  unfold Awake6
  go_enter Tryd.func20, Tryd.ntmps20
  go_wp2_with (first
    | (go_at_call 44; refine H1.out.mono ?_; rintro e w1 ⟨A1, rfl, hk1, hb1⟩; have HK1 := Lib.hid hk1; have HB1 := Lib.hid hb1; clear hk1 hb1 H1; simp only [ev])
    | (go_at_call 44; refine (H2.out w1 A1 HK1.out).mono ?_; rintro e w2 ⟨A2, rfl, hk2, hb2⟩; have HK2 := Lib.hid hk2; have HB2 := Lib.hid (HB1.out.trans (hb2.mono HB1.out.size)); clear hk2 hb2 H2; simp only [ev])
    | (go_at_call 18; refine (H3.out w2 A2 HB2.out HK2.out).mono ?_; rintro e w3 ⟨rfl, hb3⟩; have HB3 := Lib.hid (HB2.out.trans (hb3.mono HB2.out.size)); clear hb3 H3))
  go_ret
  exact ⟨rfl, HB3.out⟩

end Go.Proofs.YtfajnflfonechaaDoor
