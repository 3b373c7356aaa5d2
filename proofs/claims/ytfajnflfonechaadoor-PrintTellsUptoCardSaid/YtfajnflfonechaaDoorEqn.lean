/- DERIVED. Equations: the code's equation; all of a list. -/
import Derived.Test.YtfajnflfonechaaDoorAllVT
import Derived.Test.YtfajnflfonechaaDoorExpr
namespace Go.Proofs.YtfajnflfonechaaDoor
open Go.RowKit

noncomputable def eqB (q : Q) : Bool := someB q.lhs.length && namesB q.lhs && rightB q.rhs
noncomputable def eqsB (l : List Q) : Bool := l.all eqB && fewB l.length

set_option maxRecDepth 100000 in
set_option maxHeartbeats 1000000 in
theorem equation_any (b : Nat) (q : Q) (A1 A2 : Option Addr) (c1 c2 : Nat) (w : World) (S : Nat → Prop) (hq : okQ q) (hw : WM w b) (ht : ShapesAt w) (h1 : TS w S A1 q.lhs) (h2 : KS w S A2 q.rhs.ks) (hS : ∀ b, S b → b < w.heap.size) :
    Calls Tryd.prog 80 #[.map (some b), .agg #[.slice A1 q.lhs.length c1, .int .i64 q.rhs.k, .int .i64 q.rhs.o, .int .i64 q.rhs.n, .string ⟨q.rhs.s.toArray⟩, .slice A2 q.rhs.ks.length c2]] w fun e w' => e = .returned (.bool (eqB q)) ∧ Below w.heap.size w w' := by
  have HR : Hid (Row (w.alloc (.cells #[.slice A1 q.lhs.length c1, .int .i64 q.rhs.k, .int .i64 q.rhs.o, .int .i64 q.rhs.n, .string ⟨q.rhs.s.toArray⟩, .slice A2 q.rhs.ks.length c2] 93)) w.heap.size 93 #[.slice A1 q.lhs.length c1, .int .i64 q.rhs.k, .int .i64 q.rhs.o, .int .i64 q.rhs.n, .string ⟨q.rhs.s.toArray⟩, .slice A2 q.rhs.ks.length c2]) := Row.made _ _ _
  have HA : Hid (Below w.heap.size w (w.alloc (.cells #[.slice A1 q.lhs.length c1, .int .i64 q.rhs.k, .int .i64 q.rhs.o, .int .i64 q.rhs.n, .string ⟨q.rhs.s.toArray⟩, .slice A2 q.rhs.ks.length c2] 93))) := (Below.refl _ _).alloc (Nat.le_refl _) _
  have hlen := hq.1.1
  have HC1 : Hid (Calls Tryd.prog 102 #[.slice A1 q.lhs.length c1, .func (.func 76) #[.map (some b)] #[]] (w.alloc (.cells #[.slice A1 q.lhs.length c1, .int .i64 q.rhs.k, .int .i64 q.rhs.o, .int .i64 q.rhs.n, .string ⟨q.rhs.s.toArray⟩, .slice A2 q.rhs.ks.length c2] 93)) fun e w' => e = .returned (.bool (namesB q.lhs)) ∧ Below (w.alloc (.cells #[.slice A1 q.lhs.length c1, .int .i64 q.rhs.k, .int .i64 q.rhs.o, .int .i64 q.rhs.n, .string ⟨q.rhs.s.toArray⟩, .slice A2 q.rhs.ks.length c2] 93)).heap.size (w.alloc (.cells #[.slice A1 q.lhs.length c1, .int .i64 q.rhs.k, .int .i64 q.rhs.o, .int .i64 q.rhs.n, .string ⟨q.rhs.s.toArray⟩, .slice A2 q.rhs.ks.length c2] 93)) w') := allT_any b q.lhs A1 c1 _ S hq.1 (hw.later HA.out) (h1.move (stay hS HA.out)) (stay_lt hS HA.out)
  have HC2 : Hid (∀ w2, Below w.heap.size w w2 → Calls Tryd.prog 59 #[.map (some b), .agg #[.int .i64 q.rhs.k, .int .i64 q.rhs.o, .int .i64 q.rhs.n, .string ⟨q.rhs.s.toArray⟩, .slice A2 q.rhs.ks.length c2]] w2 fun e w' => e = .returned (.bool (rightB q.rhs)) ∧ Below w2.heap.size w2 w') := fun w2 hb2 => expr_any b q.rhs A2 c2 w2 S (hw.later hb2) (ht.later hb2) hq.2.1 hq.2.2 (h2.later hS hb2) (stay_lt hS hb2)
  clear hw ht h1 h2 hq
  by_cases hs : 0 < q.lhs.length
  · have hsi : (q.lhs.length : Int) > 0 := by omega
    by_cases hn : namesB q.lhs = true
    · have HO : Hid (eqB q = rightB q.rhs) := Lib.hid (by simp [eqB, hn, someB, hs])
      rw [hn] at HC1
      clear hn hs
      go_enter Tryd.func80, Tryd.ntmps80
      go_wp2_with (first | (go_at_call 102; refine HC1.out.mono ?_; rintro e w1 ⟨rfl, hb1⟩; have HB1 := Lib.hid hb1; have HD := Lib.hid (HA.out.trans (hb1.mono HA.out.size)); have HR1 := (HR.out.below hb1 (by simp)).cell; have e1 := HR1 1; have e2 := HR1 2; have e3 := HR1 3; have e4 := HR1 4; have e5 := HR1 5; simp at e1 e2 e3 e4 e5; clear hb1 HR1) | (go_at_call 59; refine (HC2.out _ HD.out).mono ?_; rintro e w2 ⟨rfl, hb2⟩; have HB2 := Lib.hid hb2; clear hb2))
      go_ret
      exact ⟨ret_d HO.out.symm, HD.out.trans (HB2.out.mono HD.out.size)⟩
    · have hn' : namesB q.lhs = false := by simpa using hn
      have HO : Hid (eqB q = false) := Lib.hid (by simp [eqB, hn'])
      rw [hn'] at HC1
      clear hn hn' hs
      go_enter Tryd.func80, Tryd.ntmps80
      go_wp2_with (first | (go_at_call 102; refine HC1.out.mono ?_; rintro e w1 ⟨rfl, hb1⟩; have HB1 := Lib.hid hb1; have HD := Lib.hid (HA.out.trans (hb1.mono HA.out.size)); have HR1 := (HR.out.below hb1 (by simp)).cell; have e1 := HR1 1; have e2 := HR1 2; have e3 := HR1 3; have e4 := HR1 4; have e5 := HR1 5; simp at e1 e2 e3 e4 e5; clear hb1 HR1) | (go_at_call 59; refine (HC2.out _ HD.out).mono ?_; rintro e w2 ⟨rfl, hb2⟩; have HB2 := Lib.hid hb2; clear hb2))
      go_ret
      exact ⟨ret_d HO.out.symm, HD.out⟩
  · have hsi : ¬ (q.lhs.length : Int) > 0 := by omega
    have HO : Hid (eqB q = false) := Lib.hid (by simp [eqB, someB]; omega)
    clear hs
    go_enter Tryd.func80, Tryd.ntmps80
    go_wp2_with fail
    go_ret
    exact ⟨ret_d HO.out.symm, HA.out⟩

set_option maxRecDepth 100000 in
set_option maxHeartbeats 1000000 in
theorem allQ_any (bm : Nat) (l : List Q) (A : Option Addr) (c : Nat) (w : World) (S : Nat → Prop) (hl : okQs l) (hm : WM w bm) (htb : ShapesAt w) (hA : QS w S A l) (hS : ∀ b, S b → b < w.heap.size) :
    Calls Tryd.prog 79 #[.slice A l.length c, .func (.func 80) #[.map (some bm)] #[]] w fun e w' => e = .returned (.bool (eqsB l)) ∧ Below w.heap.size w w' := by
  have hlen := hl.1
  have HL := Lib.hid hl
  have HA := Lib.hid hA
  have HM := Lib.hid hm
  have HTB := Lib.hid htb
  clear htb
  clear hl hA hm
  by_cases h1000 : l.length ≤ 1000
  · go_enter Tryd.func79, Tryd.ntmps79
    go_wp2_with fail
    go_loopw [4, 12] (fun r i wr => r = .bool false ∧ ∃ j : Nat, j ≤ l.length ∧ i = .int .i64 j ∧ (∀ (q : Nat) x, q < j → l[q]? = some x → eqB x = true) ∧ Below w.heap.size w wr) (fun _ i _ => l.length - (intOf i).toNat)
    case atStart => exact ⟨rfl, 0, by omega, rfl, fun q x h => by omega, Below.refl _ _⟩
    case round =>
      obtain ⟨rfl, j, hj, rfl, hs, hbw⟩ := hrel
      have HSM := Lib.hid hs
      have HBW := Lib.hid hbw
      have hws := hbw.size
      clear hs
      by_cases hlt : j < l.length
      · obtain ⟨x, hx⟩ : ∃ x, l[j]? = some x := ⟨_, List.getElem?_eq_getElem hlt⟩
        obtain ⟨b, off, A1, c1, A2, c2, rfl, d0, d1, d2, d3, d4, d5, ht1, hk2, hbl⟩ := HA.out.at' hS hbw hx
        have HX := Lib.hid hx
        have HC : Hid (∀ w2, Below wr.heap.size wr w2 → Calls Tryd.prog 80 #[.map (some bm), .agg #[.slice A1 x.lhs.length c1, .int .i64 x.rhs.k, .int .i64 x.rhs.o, .int .i64 x.rhs.n, .string ⟨x.rhs.s.toArray⟩, .slice A2 x.rhs.ks.length c2]] w2 fun e w' => e = .returned (.bool (eqB x)) ∧ Below w2.heap.size w2 w') := fun w2 hb2 => by
          have hm := HM.out
          exact equation_any bm x A1 A2 c1 c2 w2 S (HL.out.2 x (mem_at hx)) ((hm.later hbw).later hb2) ((HTB.out.later hbw).later hb2) (ht1.move (stay (fun q hq => Nat.lt_of_lt_of_le (hS q hq) hws) hb2)) (hk2.later (fun q hq => Nat.lt_of_lt_of_le (hS q hq) hws) hb2) (fun q hq => Nat.lt_of_lt_of_le (hS q hq) (Nat.le_trans hws hb2.size))
        clear hx hbw ht1 hk2
        by_cases hn : eqB x = true
        · have HV := Lib.hid hn
          rw [hn] at HC
          clear hn
          go_wp2_with (go_at_call 80; refine (HC.out _ ((Below.refl _ _).alloc (Nat.le_refl _) _)).mono ?_; rintro e w1 ⟨rfl, hb1⟩; have HB1 := Lib.hid hb1; clear hb1)
          go_roundw
          case rel => exact ⟨rfl, j + 1, by omega, by go_num, fun q u hq hu => by
            by_cases e : q = j
            · subst e; rw [HX.out] at hu; injection hu with hu; rw [← hu]; exact HV.out
            · exact HSM.out q u (by omega) hu, HBW.out.trans (((Below.refl _ _).alloc hws _).trans (HB1.out.mono (by simp; omega)))⟩
          case measure => simp [intOf]; omega
        · have hn' : eqB x = false := by simpa using hn
          have HV : Hid (eqsB l = false) := Lib.hid (by rw [eqsB, all_stop HX.out hn', Bool.false_and])
          rw [hn'] at HC
          clear hn hn'
          go_wp2_with (go_at_call 80; refine (HC.out _ ((Below.refl _ _).alloc (Nat.le_refl _) _)).mono ?_; rintro e w1 ⟨rfl, hb1⟩; have HB1 := Lib.hid hb1; clear hb1)
          go_ret
          exact ⟨ret_d HV.out.symm, HBW.out.trans (((Below.refl _ _).alloc hws _).trans (HB1.out.mono (by simp; omega)))⟩
      · have HE : Hid (eqsB l = true) := Lib.hid (by
          rw [eqsB, all_all fun q x hx => HSM.out q x (by
            rcases Nat.lt_or_ge q l.length with h' | h'
            · omega
            · rw [List.getElem?_eq_none h'] at hx; cases hx) hx]
          simp [fewB, h1000])
        clear hbw
        go_wp2_with fail
        go_ret
        exact ⟨ret_d HE.out.symm, HBW.out⟩
  · have HE : Hid (eqsB l = false) := Lib.hid (by rw [eqsB]; simp [fewB]; intro _; omega)
    go_enter Tryd.func79, Tryd.ntmps79
    go_wp2_with fail
    go_ret
    exact ⟨ret_d HE.out.symm, Below.refl _ _⟩

end Go.Proofs.YtfajnflfonechaaDoor
