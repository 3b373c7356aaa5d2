/- DERIVED. Nodes: the code's node; all of a list. -/
import Derived.Test.YtfajnflfonechaaDoorEqn
namespace Go.Proofs.YtfajnflfonechaaDoor
open Go.RowKit

noncomputable def nodeB (n : Nd) : Bool := nameB n.name && varsB n.ins && someB n.outs.length && varsB n.outs && varsB n.locals && eqsB n.eqs
noncomputable def nodesB (l : List Nd) : Bool := l.all nodeB && fewB l.length

set_option maxRecDepth 100000 in
set_option maxHeartbeats 2000000 in
theorem node_any (b : Nat) (n : Nd) (A1 A2 A3 A4 : Option Addr) (c1 c2 c3 c4 : Nat) (w : World) (S : Nat → Prop) (hn : okN n) (hw : WM w b) (ht : ShapesAt w) (h1 : VS w S A1 n.ins) (h2 : VS w S A2 n.outs) (h3 : VS w S A3 n.locals) (h4 : QS w S A4 n.eqs) (hS : ∀ b, S b → b < w.heap.size) :
    Calls Tryd.prog 52 #[.map (some b), .agg #[.string ⟨n.name.toArray⟩, .slice A1 n.ins.length c1, .slice A2 n.outs.length c2, .slice A3 n.locals.length c3, .slice A4 n.eqs.length c4]] w fun e w' => e = .returned (.bool (nodeB n)) ∧ Below w.heap.size w w' := by
  have HR : Hid (Row (w.alloc (.cells #[.string ⟨n.name.toArray⟩, .slice A1 n.ins.length c1, .slice A2 n.outs.length c2, .slice A3 n.locals.length c3, .slice A4 n.eqs.length c4] 88)) w.heap.size 88 #[.string ⟨n.name.toArray⟩, .slice A1 n.ins.length c1, .slice A2 n.outs.length c2, .slice A3 n.locals.length c3, .slice A4 n.eqs.length c4]) := Row.made _ _ _
  have HA : Hid (Below w.heap.size w (w.alloc (.cells #[.string ⟨n.name.toArray⟩, .slice A1 n.ins.length c1, .slice A2 n.outs.length c2, .slice A3 n.locals.length c3, .slice A4 n.eqs.length c4] 88))) := (Below.refl _ _).alloc (Nat.le_refl _) _
  have hlen := hn.2.2.1.1
  have HC0 : Hid (Calls Tryd.prog 76 #[.map (some b), .string ⟨n.name.toArray⟩] (w.alloc (.cells #[.string ⟨n.name.toArray⟩, .slice A1 n.ins.length c1, .slice A2 n.outs.length c2, .slice A3 n.locals.length c3, .slice A4 n.eqs.length c4] 88)) fun e w' => e = .returned (.bool (nameB n.name)) ∧ Below (w.alloc (.cells #[.string ⟨n.name.toArray⟩, .slice A1 n.ins.length c1, .slice A2 n.outs.length c2, .slice A3 n.locals.length c3, .slice A4 n.eqs.length c4] 88)).heap.size (w.alloc (.cells #[.string ⟨n.name.toArray⟩, .slice A1 n.ins.length c1, .slice A2 n.outs.length c2, .slice A3 n.locals.length c3, .slice A4 n.eqs.length c4] 88)) w') := wname_any b n.name _ hn.1 (hw.later HA.out)
  have HC1 : Hid (∀ w2, Below (w.alloc (.cells #[.string ⟨n.name.toArray⟩, .slice A1 n.ins.length c1, .slice A2 n.outs.length c2, .slice A3 n.locals.length c3, .slice A4 n.eqs.length c4] 88)).heap.size (w.alloc (.cells #[.string ⟨n.name.toArray⟩, .slice A1 n.ins.length c1, .slice A2 n.outs.length c2, .slice A3 n.locals.length c3, .slice A4 n.eqs.length c4] 88)) w2 → Calls Tryd.prog 77 #[.slice A1 n.ins.length c1, .func (.func 78) #[.map (some b)] #[]] w2 fun e w' => e = .returned (.bool (varsB n.ins)) ∧ Below w2.heap.size w2 w') := fun w2 hb2 => allV_any b n.ins A1 c1 _ S hn.2.1 (hw.later (HA.out.trans (hb2.mono HA.out.size))) (h1.move (stay hS (HA.out.trans (hb2.mono HA.out.size)))) (stay_lt hS (HA.out.trans (hb2.mono HA.out.size)))
  have HC2 : Hid (∀ w2, Below (w.alloc (.cells #[.string ⟨n.name.toArray⟩, .slice A1 n.ins.length c1, .slice A2 n.outs.length c2, .slice A3 n.locals.length c3, .slice A4 n.eqs.length c4] 88)).heap.size (w.alloc (.cells #[.string ⟨n.name.toArray⟩, .slice A1 n.ins.length c1, .slice A2 n.outs.length c2, .slice A3 n.locals.length c3, .slice A4 n.eqs.length c4] 88)) w2 → Calls Tryd.prog 77 #[.slice A2 n.outs.length c2, .func (.func 78) #[.map (some b)] #[]] w2 fun e w' => e = .returned (.bool (varsB n.outs)) ∧ Below w2.heap.size w2 w') := fun w2 hb2 => allV_any b n.outs A2 c2 _ S hn.2.2.1 (hw.later (HA.out.trans (hb2.mono HA.out.size))) (h2.move (stay hS (HA.out.trans (hb2.mono HA.out.size)))) (stay_lt hS (HA.out.trans (hb2.mono HA.out.size)))
  have HC3 : Hid (∀ w2, Below (w.alloc (.cells #[.string ⟨n.name.toArray⟩, .slice A1 n.ins.length c1, .slice A2 n.outs.length c2, .slice A3 n.locals.length c3, .slice A4 n.eqs.length c4] 88)).heap.size (w.alloc (.cells #[.string ⟨n.name.toArray⟩, .slice A1 n.ins.length c1, .slice A2 n.outs.length c2, .slice A3 n.locals.length c3, .slice A4 n.eqs.length c4] 88)) w2 → Calls Tryd.prog 77 #[.slice A3 n.locals.length c3, .func (.func 78) #[.map (some b)] #[]] w2 fun e w' => e = .returned (.bool (varsB n.locals)) ∧ Below w2.heap.size w2 w') := fun w2 hb2 => allV_any b n.locals A3 c3 _ S hn.2.2.2.1 (hw.later (HA.out.trans (hb2.mono HA.out.size))) (h3.move (stay hS (HA.out.trans (hb2.mono HA.out.size)))) (stay_lt hS (HA.out.trans (hb2.mono HA.out.size)))
  have HC4 : Hid (∀ w2, Below (w.alloc (.cells #[.string ⟨n.name.toArray⟩, .slice A1 n.ins.length c1, .slice A2 n.outs.length c2, .slice A3 n.locals.length c3, .slice A4 n.eqs.length c4] 88)).heap.size (w.alloc (.cells #[.string ⟨n.name.toArray⟩, .slice A1 n.ins.length c1, .slice A2 n.outs.length c2, .slice A3 n.locals.length c3, .slice A4 n.eqs.length c4] 88)) w2 → Calls Tryd.prog 79 #[.slice A4 n.eqs.length c4, .func (.func 80) #[.map (some b)] #[]] w2 fun e w' => e = .returned (.bool (eqsB n.eqs)) ∧ Below w2.heap.size w2 w') := fun w2 hb2 => allQ_any b n.eqs A4 c4 _ S hn.2.2.2.2 (hw.later (HA.out.trans (hb2.mono HA.out.size))) (ht.later (HA.out.trans (hb2.mono HA.out.size))) (h4.move (stay hS (HA.out.trans (hb2.mono HA.out.size)))) (stay_lt hS (HA.out.trans (hb2.mono HA.out.size)))
  clear hw ht h1 h2 h3 h4 hn
  by_cases hp0 : nameB n.name = true
  · rw [hp0] at HC0
    by_cases hp1 : varsB n.ins = true
    · rw [hp1] at HC1
      by_cases hs : 0 < n.outs.length
      · have hsi : (n.outs.length : Int) > 0 := by omega
        have hso : someB n.outs.length = true := by simp [someB, hs]
        clear hs
        by_cases hp3 : varsB n.outs = true
        · rw [hp3] at HC2
          by_cases hp4 : varsB n.locals = true
          · rw [hp4] at HC3
            have HO : Hid (nodeB n = eqsB n.eqs) := Lib.hid (by simp [nodeB, hp0, hp1, hso, hp3, hp4])
            go_enter Tryd.func52, Tryd.ntmps52
            go_wp2_with (first | (go_at_call 76; refine HC0.out.mono ?_; rintro e w0 ⟨rfl, hb0⟩; have HD0 := Lib.hid hb0; have HR0 := (HR.out.below HD0.out (by simp)).cell; have a01 := HR0 1; have a02 := HR0 2; have a03 := HR0 3; have a04 := HR0 4; simp at a01 a02 a03 a04; clear hb0 HR0 HC0) | (go_at_call 77; refine (HC1.out _ HD0.out).mono ?_; rintro e w1 ⟨rfl, hb1⟩; have HD1 := Lib.hid (HD0.out.trans (hb1.mono HD0.out.size)); have HR1 := (HR.out.below HD1.out (by simp)).cell; have a11 := HR1 1; have a12 := HR1 2; have a13 := HR1 3; have a14 := HR1 4; simp at a11 a12 a13 a14; clear hb1 HR1 HC1) | (go_at_call 77; refine (HC2.out _ HD1.out).mono ?_; rintro e w2 ⟨rfl, hb2⟩; have HD2 := Lib.hid (HD1.out.trans (hb2.mono HD1.out.size)); have HR2 := (HR.out.below HD2.out (by simp)).cell; have a21 := HR2 1; have a22 := HR2 2; have a23 := HR2 3; have a24 := HR2 4; simp at a21 a22 a23 a24; clear hb2 HR2 HC2) | (go_at_call 77; refine (HC3.out _ HD2.out).mono ?_; rintro e w3 ⟨rfl, hb3⟩; have HD3 := Lib.hid (HD2.out.trans (hb3.mono HD2.out.size)); have HR3 := (HR.out.below HD3.out (by simp)).cell; have a31 := HR3 1; have a32 := HR3 2; have a33 := HR3 3; have a34 := HR3 4; simp at a31 a32 a33 a34; clear hb3 HR3 HC3) | (go_at_call 79; refine (HC4.out _ HD3.out).mono ?_; rintro e w4 ⟨rfl, hb4⟩; have HD4 := Lib.hid (HD3.out.trans (hb4.mono HD3.out.size)); have HR4 := (HR.out.below HD4.out (by simp)).cell; have a41 := HR4 1; have a42 := HR4 2; have a43 := HR4 3; have a44 := HR4 4; simp at a41 a42 a43 a44; clear hb4 HR4 HC4))
            go_ret
            exact ⟨ret_d HO.out.symm, HA.out.trans (HD4.out.mono HA.out.size)⟩
          · have hq : varsB n.locals = false := by simpa using hp4
            have HO : Hid (nodeB n = false) := Lib.hid (by simp [nodeB, hq])
            rw [hq] at HC3
            go_enter Tryd.func52, Tryd.ntmps52
            go_wp2_with (first | (go_at_call 76; refine HC0.out.mono ?_; rintro e w0 ⟨rfl, hb0⟩; have HD0 := Lib.hid hb0; have HR0 := (HR.out.below HD0.out (by simp)).cell; have a01 := HR0 1; have a02 := HR0 2; have a03 := HR0 3; have a04 := HR0 4; simp at a01 a02 a03 a04; clear hb0 HR0 HC0) | (go_at_call 77; refine (HC1.out _ HD0.out).mono ?_; rintro e w1 ⟨rfl, hb1⟩; have HD1 := Lib.hid (HD0.out.trans (hb1.mono HD0.out.size)); have HR1 := (HR.out.below HD1.out (by simp)).cell; have a11 := HR1 1; have a12 := HR1 2; have a13 := HR1 3; have a14 := HR1 4; simp at a11 a12 a13 a14; clear hb1 HR1 HC1) | (go_at_call 77; refine (HC2.out _ HD1.out).mono ?_; rintro e w2 ⟨rfl, hb2⟩; have HD2 := Lib.hid (HD1.out.trans (hb2.mono HD1.out.size)); have HR2 := (HR.out.below HD2.out (by simp)).cell; have a21 := HR2 1; have a22 := HR2 2; have a23 := HR2 3; have a24 := HR2 4; simp at a21 a22 a23 a24; clear hb2 HR2 HC2) | (go_at_call 77; refine (HC3.out _ HD2.out).mono ?_; rintro e w3 ⟨rfl, hb3⟩; have HD3 := Lib.hid (HD2.out.trans (hb3.mono HD2.out.size)); have HR3 := (HR.out.below HD3.out (by simp)).cell; have a31 := HR3 1; have a32 := HR3 2; have a33 := HR3 3; have a34 := HR3 4; simp at a31 a32 a33 a34; clear hb3 HR3 HC3))
            go_ret
            exact ⟨ret_d HO.out.symm, HA.out.trans (HD3.out.mono HA.out.size)⟩
        · have hq : varsB n.outs = false := by simpa using hp3
          have HO : Hid (nodeB n = false) := Lib.hid (by simp [nodeB, hq])
          rw [hq] at HC2
          go_enter Tryd.func52, Tryd.ntmps52
          go_wp2_with (first | (go_at_call 76; refine HC0.out.mono ?_; rintro e w0 ⟨rfl, hb0⟩; have HD0 := Lib.hid hb0; have HR0 := (HR.out.below HD0.out (by simp)).cell; have a01 := HR0 1; have a02 := HR0 2; have a03 := HR0 3; have a04 := HR0 4; simp at a01 a02 a03 a04; clear hb0 HR0 HC0) | (go_at_call 77; refine (HC1.out _ HD0.out).mono ?_; rintro e w1 ⟨rfl, hb1⟩; have HD1 := Lib.hid (HD0.out.trans (hb1.mono HD0.out.size)); have HR1 := (HR.out.below HD1.out (by simp)).cell; have a11 := HR1 1; have a12 := HR1 2; have a13 := HR1 3; have a14 := HR1 4; simp at a11 a12 a13 a14; clear hb1 HR1 HC1) | (go_at_call 77; refine (HC2.out _ HD1.out).mono ?_; rintro e w2 ⟨rfl, hb2⟩; have HD2 := Lib.hid (HD1.out.trans (hb2.mono HD1.out.size)); have HR2 := (HR.out.below HD2.out (by simp)).cell; have a21 := HR2 1; have a22 := HR2 2; have a23 := HR2 3; have a24 := HR2 4; simp at a21 a22 a23 a24; clear hb2 HR2 HC2))
          go_ret
          exact ⟨ret_d HO.out.symm, HA.out.trans (HD2.out.mono HA.out.size)⟩
      · have hsi : ¬ (n.outs.length : Int) > 0 := by omega
        have HO : Hid (nodeB n = false) := Lib.hid (by have : someB n.outs.length = false := decide_eq_false hs
                                                       simp [nodeB, this])
        clear hs
        go_enter Tryd.func52, Tryd.ntmps52
        go_wp2_with (first | (go_at_call 76; refine HC0.out.mono ?_; rintro e w0 ⟨rfl, hb0⟩; have HD0 := Lib.hid hb0; have HR0 := (HR.out.below HD0.out (by simp)).cell; have a01 := HR0 1; have a02 := HR0 2; have a03 := HR0 3; have a04 := HR0 4; simp at a01 a02 a03 a04; clear hb0 HR0 HC0) | (go_at_call 77; refine (HC1.out _ HD0.out).mono ?_; rintro e w1 ⟨rfl, hb1⟩; have HD1 := Lib.hid (HD0.out.trans (hb1.mono HD0.out.size)); have HR1 := (HR.out.below HD1.out (by simp)).cell; have a11 := HR1 1; have a12 := HR1 2; have a13 := HR1 3; have a14 := HR1 4; simp at a11 a12 a13 a14; clear hb1 HR1 HC1))
        go_ret
        exact ⟨ret_d HO.out.symm, HA.out.trans (HD1.out.mono HA.out.size)⟩
    · have hq : varsB n.ins = false := by simpa using hp1
      have HO : Hid (nodeB n = false) := Lib.hid (by simp [nodeB, hq])
      rw [hq] at HC1
      go_enter Tryd.func52, Tryd.ntmps52
      go_wp2_with (first | (go_at_call 76; refine HC0.out.mono ?_; rintro e w0 ⟨rfl, hb0⟩; have HD0 := Lib.hid hb0; have HR0 := (HR.out.below HD0.out (by simp)).cell; have a01 := HR0 1; have a02 := HR0 2; have a03 := HR0 3; have a04 := HR0 4; simp at a01 a02 a03 a04; clear hb0 HR0 HC0) | (go_at_call 77; refine (HC1.out _ HD0.out).mono ?_; rintro e w1 ⟨rfl, hb1⟩; have HD1 := Lib.hid (HD0.out.trans (hb1.mono HD0.out.size)); have HR1 := (HR.out.below HD1.out (by simp)).cell; have a11 := HR1 1; have a12 := HR1 2; have a13 := HR1 3; have a14 := HR1 4; simp at a11 a12 a13 a14; clear hb1 HR1 HC1))
      go_ret
      exact ⟨ret_d HO.out.symm, HA.out.trans (HD1.out.mono HA.out.size)⟩
  · have hq : nameB n.name = false := by simpa using hp0
    have HO : Hid (nodeB n = false) := Lib.hid (by simp [nodeB, hq])
    rw [hq] at HC0
    go_enter Tryd.func52, Tryd.ntmps52
    go_wp2_with (first | (go_at_call 76; refine HC0.out.mono ?_; rintro e w0 ⟨rfl, hb0⟩; have HD0 := Lib.hid hb0; have HR0 := (HR.out.below HD0.out (by simp)).cell; have a01 := HR0 1; have a02 := HR0 2; have a03 := HR0 3; have a04 := HR0 4; simp at a01 a02 a03 a04; clear hb0 HR0 HC0))
    go_ret
    exact ⟨ret_d HO.out.symm, HA.out.trans (HD0.out.mono HA.out.size)⟩

set_option maxRecDepth 100000 in
set_option maxHeartbeats 1000000 in
theorem allN_any (bm : Nat) (l : List Nd) (A : Option Addr) (c : Nat) (w : World) (S : Nat → Prop) (hl : okNs l) (hm : WM w bm) (htb : ShapesAt w) (hA : NS w S A l) (hS : ∀ b, S b → b < w.heap.size) :
    Calls Tryd.prog 50 #[.slice A l.length c, .func (.func 52) #[.map (some bm)] #[]] w fun e w' => e = .returned (.bool (nodesB l)) ∧ Below w.heap.size w w' := by
  have hlen := hl.1
  have HL := Lib.hid hl
  have HA := Lib.hid hA
  have HM := Lib.hid hm
  have HTB := Lib.hid htb
  clear htb
  clear hl hA hm
  by_cases h1000 : l.length ≤ 1000
  · go_enter Tryd.func50, Tryd.ntmps50
    go_wp2_with fail
    go_loopw [4, 12] (fun r i wr => r = .bool false ∧ ∃ j : Nat, j ≤ l.length ∧ i = .int .i64 j ∧ (∀ (q : Nat) x, q < j → l[q]? = some x → nodeB x = true) ∧ Below w.heap.size w wr) (fun _ i _ => l.length - (intOf i).toNat)
    case atStart => exact ⟨rfl, 0, by omega, rfl, fun q x h => by omega, Below.refl _ _⟩
    case round =>
      obtain ⟨rfl, j, hj, rfl, hs, hbw⟩ := hrel
      have HSM := Lib.hid hs
      have HBW := Lib.hid hbw
      have hws := hbw.size
      clear hs
      by_cases hlt : j < l.length
      · obtain ⟨x, hx⟩ : ∃ x, l[j]? = some x := ⟨_, List.getElem?_eq_getElem hlt⟩
        obtain ⟨b, off, A1, c1, A2, c2, A3, c3, A4, c4, rfl, d0, d1, d2, d3, d4, ht1, ht2, ht3, ht4, hbl⟩ := HA.out.at' hS hbw hx
        have HX := Lib.hid hx
        have HC : Hid (∀ w2, Below wr.heap.size wr w2 → Calls Tryd.prog 52 #[.map (some bm), .agg #[.string ⟨x.name.toArray⟩, .slice A1 x.ins.length c1, .slice A2 x.outs.length c2, .slice A3 x.locals.length c3, .slice A4 x.eqs.length c4]] w2 fun e w' => e = .returned (.bool (nodeB x)) ∧ Below w2.heap.size w2 w') := fun w2 hb2 => by
          have hm := HM.out
          exact node_any bm x A1 A2 A3 A4 c1 c2 c3 c4 w2 S (HL.out.2 x (mem_at hx)) ((hm.later hbw).later hb2) ((HTB.out.later hbw).later hb2) (ht1.move (stay (fun q hq => Nat.lt_of_lt_of_le (hS q hq) hws) hb2)) (ht2.move (stay (fun q hq => Nat.lt_of_lt_of_le (hS q hq) hws) hb2)) (ht3.move (stay (fun q hq => Nat.lt_of_lt_of_le (hS q hq) hws) hb2)) (ht4.move (stay (fun q hq => Nat.lt_of_lt_of_le (hS q hq) hws) hb2)) (fun q hq => Nat.lt_of_lt_of_le (hS q hq) (Nat.le_trans hws hb2.size))
        clear hx hbw ht1 ht2 ht3 ht4
        by_cases hn : nodeB x = true
        · have HV := Lib.hid hn
          rw [hn] at HC
          clear hn
          go_wp2_with (go_at_call 52; refine (HC.out _ ((Below.refl _ _).alloc (Nat.le_refl _) _)).mono ?_; rintro e w1 ⟨rfl, hb1⟩; have HB1 := Lib.hid hb1; clear hb1)
          go_roundw
          case rel => exact ⟨rfl, j + 1, by omega, by go_num, fun q u hq hu => by
            by_cases e : q = j
            · subst e; rw [HX.out] at hu; injection hu with hu; rw [← hu]; exact HV.out
            · exact HSM.out q u (by omega) hu, HBW.out.trans (((Below.refl _ _).alloc hws _).trans (HB1.out.mono (by simp; omega)))⟩
          case measure => simp [intOf]; omega
        · have hn' : nodeB x = false := by simpa using hn
          have HV : Hid (nodesB l = false) := Lib.hid (by rw [nodesB, all_stop HX.out hn', Bool.false_and])
          rw [hn'] at HC
          clear hn hn'
          go_wp2_with (go_at_call 52; refine (HC.out _ ((Below.refl _ _).alloc (Nat.le_refl _) _)).mono ?_; rintro e w1 ⟨rfl, hb1⟩; have HB1 := Lib.hid hb1; clear hb1)
          go_ret
          exact ⟨ret_d HV.out.symm, HBW.out.trans (((Below.refl _ _).alloc hws _).trans (HB1.out.mono (by simp; omega)))⟩
      · have HE : Hid (nodesB l = true) := Lib.hid (by
          rw [nodesB, all_all fun q x hx => HSM.out q x (by
            rcases Nat.lt_or_ge q l.length with h' | h'
            · omega
            · rw [List.getElem?_eq_none h'] at hx; cases hx) hx]
          simp [fewB, h1000])
        clear hbw
        go_wp2_with fail
        go_ret
        exact ⟨ret_d HE.out.symm, HBW.out⟩
  · have HE : Hid (nodesB l = false) := Lib.hid (by rw [nodesB]; simp [fewB]; intro _; omega)
    go_enter Tryd.func50, Tryd.ntmps50
    go_wp2_with fail
    go_ret
    exact ⟨ret_d HE.out.symm, Below.refl _ _⟩

end Go.Proofs.YtfajnflfonechaaDoor
