/- DERIVED. The document's RightNode and Right. -/
import Derived.Test.YtfajnflfonechaaDoorNode
import Derived.Test.YtfajnflfonechaaDoorRight
namespace Go.Proofs.YtfajnflfonechaaDoor
open Go.RowKit

set_option maxRecDepth 100000 in
set_option maxHeartbeats 4000000 in
theorem refNode_any (n : Nd) (A1 A2 A3 A4 : Option Addr) (c1 c2 c3 c4 : Nat) (w : World) (S : Nat → Prop) (hn : okN n) (h1 : VS w S A1 n.ins) (h2 : VS w S A2 n.outs) (h3 : VS w S A3 n.locals) (h4 : QS w S A4 n.eqs) (hS : ∀ b, S b → b < w.heap.size) :
    Calls Tryd.prog 33 #[.agg #[.string ⟨n.name.toArray⟩, .slice A1 n.ins.length c1, .slice A2 n.outs.length c2, .slice A3 n.locals.length c3, .slice A4 n.eqs.length c4]] w fun e w' => e = .returned (.bool (nodeB n)) ∧ Below w.heap.size w w' := by
  have HR : Hid (Row (w.alloc (.cells #[.string ⟨n.name.toArray⟩, .slice A1 n.ins.length c1, .slice A2 n.outs.length c2, .slice A3 n.locals.length c3, .slice A4 n.eqs.length c4] 76)) w.heap.size 76 #[.string ⟨n.name.toArray⟩, .slice A1 n.ins.length c1, .slice A2 n.outs.length c2, .slice A3 n.locals.length c3, .slice A4 n.eqs.length c4]) := Row.made _ _ _
  have HA : Hid (Below w.heap.size w (w.alloc (.cells #[.string ⟨n.name.toArray⟩, .slice A1 n.ins.length c1, .slice A2 n.outs.length c2, .slice A3 n.locals.length c3, .slice A4 n.eqs.length c4] 76))) := (Below.refl _ _).alloc (Nat.le_refl _) _
  have hlen := hn.2.2.1.1
  have hlen4 := hn.2.2.2.2.1
  have HC0 : Hid (Calls Tryd.prog 56 #[.string ⟨n.name.toArray⟩] (w.alloc (.cells #[.string ⟨n.name.toArray⟩, .slice A1 n.ins.length c1, .slice A2 n.outs.length c2, .slice A3 n.locals.length c3, .slice A4 n.eqs.length c4] 76)) fun e w' => e = .returned (.bool (nameB n.name)) ∧ Below (w.alloc (.cells #[.string ⟨n.name.toArray⟩, .slice A1 n.ins.length c1, .slice A2 n.outs.length c2, .slice A3 n.locals.length c3, .slice A4 n.eqs.length c4] 76)).heap.size (w.alloc (.cells #[.string ⟨n.name.toArray⟩, .slice A1 n.ins.length c1, .slice A2 n.outs.length c2, .slice A3 n.locals.length c3, .slice A4 n.eqs.length c4] 76)) w') := refName_any n.name _ hn.1
  have HC1 : Hid (∀ w2, Below (w.alloc (.cells #[.string ⟨n.name.toArray⟩, .slice A1 n.ins.length c1, .slice A2 n.outs.length c2, .slice A3 n.locals.length c3, .slice A4 n.eqs.length c4] 76)).heap.size (w.alloc (.cells #[.string ⟨n.name.toArray⟩, .slice A1 n.ins.length c1, .slice A2 n.outs.length c2, .slice A3 n.locals.length c3, .slice A4 n.eqs.length c4] 76)) w2 → Calls Tryd.prog 57 #[.slice A1 n.ins.length c1] w2 fun e w' => e = .returned (.bool (varsB n.ins)) ∧ Below w2.heap.size w2 w') := fun w2 hb2 => refVars_any n.ins A1 c1 _ S hn.2.1 (h1.move (stay hS (HA.out.trans (hb2.mono HA.out.size)))) (stay_lt hS (HA.out.trans (hb2.mono HA.out.size)))
  have HC2 : Hid (∀ w2, Below (w.alloc (.cells #[.string ⟨n.name.toArray⟩, .slice A1 n.ins.length c1, .slice A2 n.outs.length c2, .slice A3 n.locals.length c3, .slice A4 n.eqs.length c4] 76)).heap.size (w.alloc (.cells #[.string ⟨n.name.toArray⟩, .slice A1 n.ins.length c1, .slice A2 n.outs.length c2, .slice A3 n.locals.length c3, .slice A4 n.eqs.length c4] 76)) w2 → Calls Tryd.prog 57 #[.slice A2 n.outs.length c2] w2 fun e w' => e = .returned (.bool (varsB n.outs)) ∧ Below w2.heap.size w2 w') := fun w2 hb2 => refVars_any n.outs A2 c2 _ S hn.2.2.1 (h2.move (stay hS (HA.out.trans (hb2.mono HA.out.size)))) (stay_lt hS (HA.out.trans (hb2.mono HA.out.size)))
  have HC3 : Hid (∀ w2, Below (w.alloc (.cells #[.string ⟨n.name.toArray⟩, .slice A1 n.ins.length c1, .slice A2 n.outs.length c2, .slice A3 n.locals.length c3, .slice A4 n.eqs.length c4] 76)).heap.size (w.alloc (.cells #[.string ⟨n.name.toArray⟩, .slice A1 n.ins.length c1, .slice A2 n.outs.length c2, .slice A3 n.locals.length c3, .slice A4 n.eqs.length c4] 76)) w2 → Calls Tryd.prog 57 #[.slice A3 n.locals.length c3] w2 fun e w' => e = .returned (.bool (varsB n.locals)) ∧ Below w2.heap.size w2 w') := fun w2 hb2 => refVars_any n.locals A3 c3 _ S hn.2.2.2.1 (h3.move (stay hS (HA.out.trans (hb2.mono HA.out.size)))) (stay_lt hS (HA.out.trans (hb2.mono HA.out.size)))
  have HQ := Lib.hid h4
  have HOK := Lib.hid hn.2.2.2.2
  have HOF : Hid (∀ (j : Nat) x, n.eqs[j]? = some x → eqB x = false → nodeB n = false) := fun j x hx he => by simp only [nodeB, eqsB, all_stop hx he, Bool.false_and, Bool.and_false]
  clear h1 h2 h3 h4 hn
  by_cases hp0 : nameB n.name = true
  · rw [hp0] at HC0
    by_cases hp1 : varsB n.ins = true
    · rw [hp1] at HC1
      by_cases hp2 : varsB n.outs = true
      · rw [hp2] at HC2
        by_cases hs : n.outs.length = 0
        · have hs1 : ((n.outs.length : Int) == 0) = true := by simpa using hs
          have hs2 : (n.outs.length == 0) = true := by simpa using hs
          have HO : Hid (nodeB n = false) := Lib.hid (by have : someB n.outs.length = false := decide_eq_false (by omega); simp [nodeB, this])
          clear hs
          go_enter Tryd.func33, Tryd.ntmps33
          go_wp2_with (first | (go_at_call 56; refine HC0.out.mono ?_; rintro e w0 ⟨rfl, hb0⟩; have HD0 := Lib.hid hb0; have t0 := (HR.out.below HD0.out HR.out.lt).cell; have a01 := t0 1; have a02 := t0 2; have a03 := t0 3; have a04 := t0 4; simp at a01 a02 a03 a04; clear t0 hb0 HC0) | (go_at_call 57; refine (HC1.out _ HD0.out).mono ?_; rintro e w1 ⟨rfl, hb1⟩; have HD1 := Lib.hid (HD0.out.trans (hb1.mono HD0.out.size)); have t1 := (HR.out.below HD1.out HR.out.lt).cell; have a11 := t1 1; have a12 := t1 2; have a13 := t1 3; have a14 := t1 4; simp at a11 a12 a13 a14; clear t1 hb1 HC1) | (go_at_call 57; refine (HC2.out _ HD1.out).mono ?_; rintro e w2 ⟨rfl, hb2⟩; have HD2 := Lib.hid (HD1.out.trans (hb2.mono HD1.out.size)); have t2 := (HR.out.below HD2.out HR.out.lt).cell; have a21 := t2 1; have a22 := t2 2; have a23 := t2 3; have a24 := t2 4; simp at a21 a22 a23 a24; clear t2 hb2 HC2))
          go_ret
          exact ⟨ret_d HO.out.symm, HA.out.trans (HD2.out.mono HA.out.size)⟩
        · have hs1 : ((n.outs.length : Int) == 0) = false := beq_eq_false_iff_ne.2 (by omega)
          have hs2 : (n.outs.length == 0) = false := beq_eq_false_iff_ne.2 hs
          have hso : someB n.outs.length = true := decide_eq_true (by omega)
          clear hs
          by_cases hp3 : varsB n.locals = true
          · rw [hp3] at HC3
            by_cases hq : n.eqs.length ≤ 1000
            · have hqi : ¬ (n.eqs.length : Int) > 1000 := by omega
              have HOT : Hid (n.eqs.all eqB = true → nodeB n = true) := fun h => by
                have : fewB n.eqs.length = true := decide_eq_true hq
                simp [nodeB, eqsB, hp0, hp1, hp2, hp3, hso, h, this]
              go_enter Tryd.func33, Tryd.ntmps33
              go_wp2_with (first | (go_at_call 56; refine HC0.out.mono ?_; rintro e w0 ⟨rfl, hb0⟩; have HD0 := Lib.hid hb0; have t0 := (HR.out.below HD0.out HR.out.lt).cell; have a01 := t0 1; have a02 := t0 2; have a03 := t0 3; have a04 := t0 4; simp at a01 a02 a03 a04; clear t0 hb0 HC0) | (go_at_call 57; refine (HC1.out _ HD0.out).mono ?_; rintro e w1 ⟨rfl, hb1⟩; have HD1 := Lib.hid (HD0.out.trans (hb1.mono HD0.out.size)); have t1 := (HR.out.below HD1.out HR.out.lt).cell; have a11 := t1 1; have a12 := t1 2; have a13 := t1 3; have a14 := t1 4; simp at a11 a12 a13 a14; clear t1 hb1 HC1) | (go_at_call 57; refine (HC2.out _ HD1.out).mono ?_; rintro e w2 ⟨rfl, hb2⟩; have HD2 := Lib.hid (HD1.out.trans (hb2.mono HD1.out.size)); have t2 := (HR.out.below HD2.out HR.out.lt).cell; have a21 := t2 1; have a22 := t2 2; have a23 := t2 3; have a24 := t2 4; simp at a21 a22 a23 a24; clear t2 hb2 HC2) | (go_at_call 57; refine (HC3.out _ HD2.out).mono ?_; rintro e w3 ⟨rfl, hb3⟩; have HD3 := Lib.hid (HD2.out.trans (hb3.mono HD2.out.size)); have t3 := (HR.out.below HD3.out HR.out.lt).cell; have a31 := t3 1; have a32 := t3 2; have a33 := t3 3; have a34 := t3 4; simp at a31 a32 a33 a34; clear t3 hb3 HC3))
              go_loopw [2, 3] (fun r i wr => r = .bool false ∧ ∃ j : Nat, j ≤ n.eqs.length ∧ i = .int .i64 j ∧ (∀ (q : Nat) x, q < j → n.eqs[q]? = some x → eqB x = true) ∧ Below (w.alloc (.cells #[.string ⟨n.name.toArray⟩, .slice A1 n.ins.length c1, .slice A2 n.outs.length c2, .slice A3 n.locals.length c3, .slice A4 n.eqs.length c4] 76)).heap.size (w.alloc (.cells #[.string ⟨n.name.toArray⟩, .slice A1 n.ins.length c1, .slice A2 n.outs.length c2, .slice A3 n.locals.length c3, .slice A4 n.eqs.length c4] 76)) wr) (fun _ i _ => n.eqs.length - (intOf i).toNat)
              case atStart => exact ⟨rfl, 0, by omega, rfl, fun q x h => by omega, HD3.out⟩
              case round =>
                obtain ⟨rfl, j, hj, rfl, hs, hbw0⟩ := hrel
                have HSM := Lib.hid hs
                have HBW0 := Lib.hid hbw0
                have hbw : Below w.heap.size w wr := HA.out.trans (hbw0.mono HA.out.size)
                have hws := hbw.size
                have r4 := (HR.out.below hbw0 HR.out.lt).cell 4
                simp at r4
                clear hs hbw0
                by_cases hlt : j < n.eqs.length
                · obtain ⟨x, hx⟩ : ∃ x, n.eqs[j]? = some x := ⟨_, List.getElem?_eq_getElem hlt⟩
                  obtain ⟨b, off, B1, g1, B2, g2, rfl, d0, d1, d2, d3, d4, d5, hts, hks, hbl⟩ := HQ.out.at' hS hbw hx
                  have HX := Lib.hid hx
                  have hxo := HOK.out.2 x (mem_at hx)
                  have hxl := hxo.1.1
                  have HTO : Hid (∀ t ∈ x.lhs, t.length ≤ 1099511627776) := hxo.1.2
                  have HTS := Lib.hid hts
                  have HSR : Hid (∀ b, S b → b < wr.heap.size) := stay_lt hS hbw
                  have HRE : Hid (∀ w2, Below wr.heap.size wr w2 → Calls Tryd.prog 16 #[.agg #[.int .i64 x.rhs.k, .int .i64 x.rhs.o, .int .i64 x.rhs.n, .string ⟨x.rhs.s.toArray⟩, .slice B2 x.rhs.ks.length g2]] w2 fun e w' => e = .returned (.bool (rightB x.rhs)) ∧ Below w2.heap.size w2 w') := fun w2 hb2 =>
                    RightExpr_any x.rhs B2 g2 w2 S hxo.2.1 hxo.2.2 (hks.later HSR.out hb2) (stay_lt HSR.out hb2)
                  have HRQ : Hid (Row (wr.alloc (.cells #[.slice B1 x.lhs.length g1, .int .i64 x.rhs.k, .int .i64 x.rhs.o, .int .i64 x.rhs.n, .string ⟨x.rhs.s.toArray⟩, .slice B2 x.rhs.ks.length g2] 78)) wr.heap.size 78 #[.slice B1 x.lhs.length g1, .int .i64 x.rhs.k, .int .i64 x.rhs.o, .int .i64 x.rhs.n, .string ⟨x.rhs.s.toArray⟩, .slice B2 x.rhs.ks.length g2]) := Row.made _ _ _
                  clear hx hbw hts hks hxo
                  by_cases l1 : x.lhs.length < 1
                  · have HO : Hid (nodeB n = false) := HOF.out j x HX.out (by have : someB x.lhs.length = false := decide_eq_false (by omega); simp [eqB, this])
                    have i1 : (x.lhs.length : Int) < 1 := by omega
                    go_wp2_with fail
                    go_ret
                    exact ⟨ret_d HO.out.symm, HA.out.trans ((HBW0.out.alloc HBW0.out.size _).mono HA.out.size)⟩
                  · have i1 : ¬ (x.lhs.length : Int) < 1 := by omega
                    by_cases l2 : x.lhs.length ≤ 1000
                    · have i2 : ¬ (x.lhs.length : Int) > 1000 := by omega
                      have HL : Hid (1 ≤ x.lhs.length ∧ x.lhs.length ≤ 1000) := ⟨by omega, l2⟩
                      clear l1 l2
                      by_cases hr : rightB x.rhs = true
                      · have HRB := Lib.hid hr
                        rw [hr] at HRE
                        clear hr
                        go_wp2_with (go_at_call 16; refine (HRE.out _ ((Below.refl _ _).alloc (Nat.le_refl _) _)).mono ?_; rintro e w1 ⟨rfl, hb1⟩; have HB1 := Lib.hid hb1; have HQ1 := Lib.hid (HRQ.out.below hb1 HRQ.out.lt); have y0 := HQ1.out.cell 0; simp at y0; clear hb1)
                        obtain ⟨wo, rfl⟩ : ∃ wo, wo = wr := ⟨wr, rfl⟩
                        have HBO : Hid (Below wo.heap.size wo w1) := ((Below.refl _ _).alloc (Nat.le_refl _) _).trans (HB1.out.mono (by simp))
                        go_loopw [2, 5] (fun r k w2 => r = .bool false ∧ ∃ i : Nat, i ≤ x.lhs.length ∧ k = .int .i64 i ∧ (∀ (q : Nat) t, q < i → x.lhs[q]? = some t → nameB t = true) ∧ Below w1.heap.size w1 w2) (fun _ k _ => x.lhs.length - (intOf k).toNat)
                        case atStart => exact ⟨rfl, 0, by omega, rfl, fun q t h => by omega, Below.refl _ _⟩
                        case round =>
                          obtain ⟨rfl, i, hi, rfl, hsi, hbi⟩ := hrel
                          have HSI := Lib.hid hsi
                          have z0 := (HQ1.out.below hbi HQ1.out.lt).cell 0
                          simp at z0
                          have HBI : Hid (Below w1.heap.size w1 wr) := hbi
                          have hbo : Below wo.heap.size wo wr := HBO.out.trans (hbi.mono HBO.out.size)
                          have HBX := Lib.hid hbo
                          clear hsi hbi y0
                          by_cases hlt2 : i < x.lhs.length
                          · obtain ⟨t, ht⟩ : ∃ t, x.lhs[i]? = some t := ⟨_, List.getElem?_eq_getElem hlt2⟩
                            obtain ⟨b', off', rfl, e0, hbl'⟩ := HTS.out.at' HSR.out hbo ht
                            have HT := Lib.hid ht
                            have HC : Hid (Calls Tryd.prog 56 #[.string ⟨t.toArray⟩] wr fun e w' => e = .returned (.bool (nameB t)) ∧ Below wr.heap.size wr w') := refName_any t wr (HTO.out t (mem_at ht))
                            clear ht hbo
                            by_cases hn : nameB t = true
                            · have HV := Lib.hid hn
                              rw [hn] at HC
                              clear hn
                              go_wp2_with (go_at_call 56; refine HC.out.mono ?_; rintro e w3 ⟨rfl, hb3⟩; have HB3 := Lib.hid hb3; clear hb3)
                              go_roundw
                              case rel => exact ⟨rfl, i + 1, by omega, by go_num, fun q u hq hu => by
                                by_cases e : q = i
                                · subst e; rw [HT.out] at hu; injection hu with hu; rw [← hu]; exact HV.out
                                · exact HSI.out q u (by omega) hu, HBI.out.trans (HB3.out.mono HBI.out.size)⟩
                              case measure => simp [intOf]; omega
                            · have hn' : nameB t = false := by simpa using hn
                              have HO : Hid (nodeB n = false) := HOF.out j x HX.out (by simp [eqB, namesB, all_stop HT.out hn'])
                              rw [hn'] at HC
                              clear hn hn'
                              go_wp2_with (go_at_call 56; refine HC.out.mono ?_; rintro e w3 ⟨rfl, hb3⟩; have HB3 := Lib.hid hb3; clear hb3)
                              go_ret
                              exact ⟨ret_d HO.out.symm, HA.out.trans ((HBW0.out.trans ((HBX.out.trans (HB3.out.mono HBX.out.size)).mono HBW0.out.size)).mono HA.out.size)⟩
                          · have HN : Hid (x.lhs.all nameB = true) := all_all fun q x' hx => HSI.out q x' (by
                              rcases Nat.lt_or_ge q x.lhs.length with h' | h'
                              · omega
                              · rw [List.getElem?_eq_none h'] at hx; cases hx) hx
                            have HV : Hid (eqB x = true) := Lib.hid (by
                              have q1 : someB x.lhs.length = true := decide_eq_true (by have := HL.out.1; omega)
                              have q2 : fewB x.lhs.length = true := decide_eq_true HL.out.2
                              simp [eqB, namesB, q1, q2, HN.out, HRB.out])
                            clear hbo
                            go_wp2_with fail
                            go_roundw
                            case rel => exact ⟨rfl, j + 1, by omega, by go_num, fun q u hq hu => by
                              by_cases e : q = j
                              · subst e; rw [HX.out] at hu; injection hu with hu; rw [← hu]; exact HV.out
                              · exact HSM.out q u (by omega) hu, HBW0.out.trans (HBX.out.mono HBW0.out.size)⟩
                            case measure => simp [intOf]; omega
                      · have hr' : rightB x.rhs = false := by simpa using hr
                        have HO : Hid (nodeB n = false) := HOF.out j x HX.out (by simp [eqB, hr'])
                        rw [hr'] at HRE
                        clear hr hr'
                        go_wp2_with (go_at_call 16; refine (HRE.out _ ((Below.refl _ _).alloc (Nat.le_refl _) _)).mono ?_; rintro e w1 ⟨rfl, hb1⟩; have HB1 := Lib.hid hb1; clear hb1)
                        go_ret
                        exact ⟨ret_d HO.out.symm, HA.out.trans ((HBW0.out.trans ((((Below.refl _ _).alloc (Nat.le_refl _) _).trans (HB1.out.mono (by simp))).mono HBW0.out.size)).mono HA.out.size)⟩
                    · have HO : Hid (nodeB n = false) := HOF.out j x HX.out (by have : fewB x.lhs.length = false := decide_eq_false l2; simp [eqB, namesB, this])
                      have i2 : (x.lhs.length : Int) > 1000 := by omega
                      go_wp2_with fail
                      go_ret
                      exact ⟨ret_d HO.out.symm, HA.out.trans ((HBW0.out.alloc HBW0.out.size _).mono HA.out.size)⟩
                · have HO : Hid (nodeB n = true) := HOT.out (all_all fun q x hx => HSM.out q x (by
                    rcases Nat.lt_or_ge q n.eqs.length with h' | h'
                    · omega
                    · rw [List.getElem?_eq_none h'] at hx; cases hx) hx)
                  have HBW := Lib.hid hbw
                  clear hbw
                  go_wp2_with fail
                  go_ret
                  exact ⟨ret_d HO.out.symm, HBW.out⟩
            · have hqi : (n.eqs.length : Int) > 1000 := by omega
              have HO : Hid (nodeB n = false) := Lib.hid (by have : fewB n.eqs.length = false := decide_eq_false hq; simp [nodeB, eqsB, this])
              go_enter Tryd.func33, Tryd.ntmps33
              go_wp2_with (first | (go_at_call 56; refine HC0.out.mono ?_; rintro e w0 ⟨rfl, hb0⟩; have HD0 := Lib.hid hb0; have t0 := (HR.out.below HD0.out HR.out.lt).cell; have a01 := t0 1; have a02 := t0 2; have a03 := t0 3; have a04 := t0 4; simp at a01 a02 a03 a04; clear t0 hb0 HC0) | (go_at_call 57; refine (HC1.out _ HD0.out).mono ?_; rintro e w1 ⟨rfl, hb1⟩; have HD1 := Lib.hid (HD0.out.trans (hb1.mono HD0.out.size)); have t1 := (HR.out.below HD1.out HR.out.lt).cell; have a11 := t1 1; have a12 := t1 2; have a13 := t1 3; have a14 := t1 4; simp at a11 a12 a13 a14; clear t1 hb1 HC1) | (go_at_call 57; refine (HC2.out _ HD1.out).mono ?_; rintro e w2 ⟨rfl, hb2⟩; have HD2 := Lib.hid (HD1.out.trans (hb2.mono HD1.out.size)); have t2 := (HR.out.below HD2.out HR.out.lt).cell; have a21 := t2 1; have a22 := t2 2; have a23 := t2 3; have a24 := t2 4; simp at a21 a22 a23 a24; clear t2 hb2 HC2) | (go_at_call 57; refine (HC3.out _ HD2.out).mono ?_; rintro e w3 ⟨rfl, hb3⟩; have HD3 := Lib.hid (HD2.out.trans (hb3.mono HD2.out.size)); have t3 := (HR.out.below HD3.out HR.out.lt).cell; have a31 := t3 1; have a32 := t3 2; have a33 := t3 3; have a34 := t3 4; simp at a31 a32 a33 a34; clear t3 hb3 HC3))
              go_ret
              exact ⟨ret_d HO.out.symm, HA.out.trans (HD3.out.mono HA.out.size)⟩
          · have hf : varsB n.locals = false := by simpa using hp3
            have HO : Hid (nodeB n = false) := Lib.hid (by simp [nodeB, hf])
            rw [hf] at HC3
            go_enter Tryd.func33, Tryd.ntmps33
            go_wp2_with (first | (go_at_call 56; refine HC0.out.mono ?_; rintro e w0 ⟨rfl, hb0⟩; have HD0 := Lib.hid hb0; have t0 := (HR.out.below HD0.out HR.out.lt).cell; have a01 := t0 1; have a02 := t0 2; have a03 := t0 3; have a04 := t0 4; simp at a01 a02 a03 a04; clear t0 hb0 HC0) | (go_at_call 57; refine (HC1.out _ HD0.out).mono ?_; rintro e w1 ⟨rfl, hb1⟩; have HD1 := Lib.hid (HD0.out.trans (hb1.mono HD0.out.size)); have t1 := (HR.out.below HD1.out HR.out.lt).cell; have a11 := t1 1; have a12 := t1 2; have a13 := t1 3; have a14 := t1 4; simp at a11 a12 a13 a14; clear t1 hb1 HC1) | (go_at_call 57; refine (HC2.out _ HD1.out).mono ?_; rintro e w2 ⟨rfl, hb2⟩; have HD2 := Lib.hid (HD1.out.trans (hb2.mono HD1.out.size)); have t2 := (HR.out.below HD2.out HR.out.lt).cell; have a21 := t2 1; have a22 := t2 2; have a23 := t2 3; have a24 := t2 4; simp at a21 a22 a23 a24; clear t2 hb2 HC2) | (go_at_call 57; refine (HC3.out _ HD2.out).mono ?_; rintro e w3 ⟨rfl, hb3⟩; have HD3 := Lib.hid (HD2.out.trans (hb3.mono HD2.out.size)); have t3 := (HR.out.below HD3.out HR.out.lt).cell; have a31 := t3 1; have a32 := t3 2; have a33 := t3 3; have a34 := t3 4; simp at a31 a32 a33 a34; clear t3 hb3 HC3))
            go_ret
            exact ⟨ret_d HO.out.symm, HA.out.trans (HD3.out.mono HA.out.size)⟩
      · have hf : varsB n.outs = false := by simpa using hp2
        have HO : Hid (nodeB n = false) := Lib.hid (by simp [nodeB, hf])
        rw [hf] at HC2
        go_enter Tryd.func33, Tryd.ntmps33
        go_wp2_with (first | (go_at_call 56; refine HC0.out.mono ?_; rintro e w0 ⟨rfl, hb0⟩; have HD0 := Lib.hid hb0; have t0 := (HR.out.below HD0.out HR.out.lt).cell; have a01 := t0 1; have a02 := t0 2; have a03 := t0 3; have a04 := t0 4; simp at a01 a02 a03 a04; clear t0 hb0 HC0) | (go_at_call 57; refine (HC1.out _ HD0.out).mono ?_; rintro e w1 ⟨rfl, hb1⟩; have HD1 := Lib.hid (HD0.out.trans (hb1.mono HD0.out.size)); have t1 := (HR.out.below HD1.out HR.out.lt).cell; have a11 := t1 1; have a12 := t1 2; have a13 := t1 3; have a14 := t1 4; simp at a11 a12 a13 a14; clear t1 hb1 HC1) | (go_at_call 57; refine (HC2.out _ HD1.out).mono ?_; rintro e w2 ⟨rfl, hb2⟩; have HD2 := Lib.hid (HD1.out.trans (hb2.mono HD1.out.size)); have t2 := (HR.out.below HD2.out HR.out.lt).cell; have a21 := t2 1; have a22 := t2 2; have a23 := t2 3; have a24 := t2 4; simp at a21 a22 a23 a24; clear t2 hb2 HC2))
        go_ret
        exact ⟨ret_d HO.out.symm, HA.out.trans (HD2.out.mono HA.out.size)⟩
    · have hf : varsB n.ins = false := by simpa using hp1
      have HO : Hid (nodeB n = false) := Lib.hid (by simp [nodeB, hf])
      rw [hf] at HC1
      go_enter Tryd.func33, Tryd.ntmps33
      go_wp2_with (first | (go_at_call 56; refine HC0.out.mono ?_; rintro e w0 ⟨rfl, hb0⟩; have HD0 := Lib.hid hb0; have t0 := (HR.out.below HD0.out HR.out.lt).cell; have a01 := t0 1; have a02 := t0 2; have a03 := t0 3; have a04 := t0 4; simp at a01 a02 a03 a04; clear t0 hb0 HC0) | (go_at_call 57; refine (HC1.out _ HD0.out).mono ?_; rintro e w1 ⟨rfl, hb1⟩; have HD1 := Lib.hid (HD0.out.trans (hb1.mono HD0.out.size)); have t1 := (HR.out.below HD1.out HR.out.lt).cell; have a11 := t1 1; have a12 := t1 2; have a13 := t1 3; have a14 := t1 4; simp at a11 a12 a13 a14; clear t1 hb1 HC1))
      go_ret
      exact ⟨ret_d HO.out.symm, HA.out.trans (HD1.out.mono HA.out.size)⟩
  · have hf : nameB n.name = false := by simpa using hp0
    have HO : Hid (nodeB n = false) := Lib.hid (by simp [nodeB, hf])
    rw [hf] at HC0
    go_enter Tryd.func33, Tryd.ntmps33
    go_wp2_with (first | (go_at_call 56; refine HC0.out.mono ?_; rintro e w0 ⟨rfl, hb0⟩; have HD0 := Lib.hid hb0; have t0 := (HR.out.below HD0.out HR.out.lt).cell; have a01 := t0 1; have a02 := t0 2; have a03 := t0 3; have a04 := t0 4; simp at a01 a02 a03 a04; clear t0 hb0 HC0))
    go_ret
    exact ⟨ret_d HO.out.symm, HA.out.trans (HD0.out.mono HA.out.size)⟩

set_option maxRecDepth 100000 in
set_option maxHeartbeats 1000000 in
theorem refRight_any (l : List Nd) (A : Option Addr) (c : Nat) (w : World) (S : Nat → Prop) (hl : okNs l) (hA : NS w S A l) (hS : ∀ b, S b → b < w.heap.size) :
    Calls Tryd.prog 14 #[.agg #[.slice A l.length c]] w fun e w' => e = .returned (.bool (nodesB l)) ∧ Below w.heap.size w w' := by
  have HR : Hid (Row (w.alloc (.cells #[.slice A l.length c] 43)) w.heap.size 43 #[.slice A l.length c]) := Row.made _ _ _
  have HA0 : Hid (Below w.heap.size w (w.alloc (.cells #[.slice A l.length c] 43))) := (Below.refl _ _).alloc (Nat.le_refl _) _
  have hlen := hl.1
  have HL := Lib.hid hl
  have HA := Lib.hid hA
  clear hl hA
  go_enter Tryd.func14, Tryd.ntmps14
  go_wp2_with fail
  go_loopw [2, 3] (fun r i wr => r = .bool false ∧ ∃ j : Nat, j ≤ l.length ∧ i = .int .i64 j ∧ (∀ (q : Nat) x, q < j → l[q]? = some x → nodeB x = true) ∧ Below (w.alloc (.cells #[.slice A l.length c] 43)).heap.size (w.alloc (.cells #[.slice A l.length c] 43)) wr) (fun _ i _ => l.length - (intOf i).toNat)
  case atStart => exact ⟨rfl, 0, by omega, rfl, fun q x h => by omega, Below.refl _ _⟩
  case round =>
    obtain ⟨rfl, j, hj, rfl, hs, hbw0⟩ := hrel
    have HSM := Lib.hid hs
    have HBW0 := Lib.hid hbw0
    have hbw : Below w.heap.size w wr := HA0.out.trans (hbw0.mono HA0.out.size)
    have hws := hbw.size
    have r0 := (HR.out.below hbw0 HR.out.lt).cell 0
    simp at r0
    clear hs hbw0
    by_cases hlt : j < l.length
    · obtain ⟨x, hx⟩ : ∃ x, l[j]? = some x := ⟨_, List.getElem?_eq_getElem hlt⟩
      obtain ⟨b, off, A1, c1, A2, c2, A3, c3, A4, c4, rfl, d0, d1, d2, d3, d4, h1, h2, h3, h4, hbl⟩ := HA.out.at' hS hbw hx
      have HX := Lib.hid hx
      have HC : Hid (Calls Tryd.prog 33 #[.agg #[.string ⟨x.name.toArray⟩, .slice A1 x.ins.length c1, .slice A2 x.outs.length c2, .slice A3 x.locals.length c3, .slice A4 x.eqs.length c4]] wr fun e w' => e = .returned (.bool (nodeB x)) ∧ Below wr.heap.size wr w') := refNode_any x A1 A2 A3 A4 c1 c2 c3 c4 wr S (HL.out.2 x (mem_at hx)) h1 h2 h3 h4 (stay_lt hS hbw)
      clear hx hbw h1 h2 h3 h4
      by_cases hn : nodeB x = true
      · have HV := Lib.hid hn
        rw [hn] at HC
        clear hn
        go_wp2_with (go_at_call 33; refine HC.out.mono ?_; rintro e w1 ⟨rfl, hb1⟩; have HB1 := Lib.hid hb1; clear hb1)
        go_roundw
        case rel => exact ⟨rfl, j + 1, by omega, by go_num, fun q u hq hu => by
          by_cases e : q = j
          · subst e; rw [HX.out] at hu; injection hu with hu; rw [← hu]; exact HV.out
          · exact HSM.out q u (by omega) hu, HBW0.out.trans (HB1.out.mono HBW0.out.size)⟩
        case measure => simp [intOf]; omega
      · have hn' : nodeB x = false := by simpa using hn
        have HV : Hid (nodesB l = false) := Lib.hid (by rw [nodesB, all_stop HX.out hn', Bool.false_and])
        rw [hn'] at HC
        clear hn hn'
        go_wp2_with (go_at_call 33; refine HC.out.mono ?_; rintro e w1 ⟨rfl, hb1⟩; have HB1 := Lib.hid hb1; clear hb1)
        go_ret
        exact ⟨ret_d HV.out.symm, HA0.out.trans ((HBW0.out.trans (HB1.out.mono HBW0.out.size)).mono HA0.out.size)⟩
    · have HE : Hid (l.all nodeB = true) := all_all fun q x hx => HSM.out q x (by
        rcases Nat.lt_or_ge q l.length with h' | h'
        · omega
        · rw [List.getElem?_eq_none h'] at hx; cases hx) hx
      have HBW := Lib.hid hbw
      clear hbw
      by_cases h1000 : l.length ≤ 1000
      · have HV : Hid (nodesB l = true) := Lib.hid (by rw [nodesB, HE.out]; simp [fewB, h1000])
        have hi : (l.length : Int) ≤ 1000 := by omega
        go_wp2_with fail
        go_ret
        exact ⟨ret_d HV.out.symm, HBW.out⟩
      · have HV : Hid (nodesB l = false) := Lib.hid (by rw [nodesB, HE.out]; simp [fewB]; omega)
        have hi : ¬ (l.length : Int) ≤ 1000 := by omega
        go_wp2_with fail
        go_ret
        exact ⟨ret_d HV.out.symm, HBW.out⟩

end Go.Proofs.YtfajnflfonechaaDoor
