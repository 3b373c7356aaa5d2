/- DERIVED. The document's Great (that it says yes or no), the code's Word. -/
import Derived.Test.YtfajnflfonechaaDoorPgm
namespace Go.Proofs.YtfajnflfonechaaDoor
open Go.RowKit

/-- It says yes or no. -/
def YesNo (B : Nat) (w : World) (e : Ending) (w' : World) : Prop := ∃ b : Bool, e = .returned (.bool b) ∧ Below B w w'

set_option maxRecDepth 100000 in
theorem aWord_any (s : T) (w : World) (hl : s.length ≤ 1099511627776) : Calls Tryd.prog 95 #[.string ⟨s.toArray⟩] w fun e w' => e = .returned (.bool (wordB s)) ∧ Below w.heap.size w w' := by
  go_enter Tryd.func95, Tryd.ntmps95
  go_wp2_with (first
    | (go_at_call 51; refine (allWords_any w).mono ?_; rintro e w1 ⟨b, rfl, hm, hlt, hb⟩; have HM : Hid (WMk w1 b wordsL.reverse) := hm; have HB := Lib.hid hb; clear hm hb)
    | (with_reducible refine wpList_ask (o := ⟨some 5, _, _, _, _, _⟩) rfl _ _ rfl b _ rfl HM.out s rfl (by unfold maxLen; omega) ?_))
  go_ret
  exact ⟨ret_d rfl, HB.out⟩

set_option maxRecDepth 100000 in
set_option maxHeartbeats 4000000 in
theorem Great_any (l : List Nd) (A : Option Addr) (c : Nat) (w : World) (S : Nat → Prop) (hl : okNs l) (hA0 : NS w S A l) (hS : ∀ b, S b → b < w.heap.size) :
    Calls Tryd.prog 10 #[.agg #[.slice A l.length c]] w (YesNo w.heap.size w) := by
  have HR : Hid (Row (w.alloc (.cells #[.slice A l.length c] 43)) w.heap.size 43 #[.slice A l.length c]) := Row.made _ _ _
  have HA : Hid (Below w.heap.size w (w.alloc (.cells #[.slice A l.length c] 43))) := (Below.refl _ _).alloc (Nat.le_refl _) _
  have hlen := hl.1
  have HL := Lib.hid hl
  have HN := Lib.hid hA0
  clear hl hA0
  go_enter Tryd.func10, Tryd.ntmps10
  go_wp2_with fail
  go_loopw [2, 3, 4] (fun r s i wr => r = .bool false ∧ (∃ z : Int, s = .int .i64 z) ∧ ∃ j : Nat, j ≤ l.length ∧ i = .int .i64 j ∧ Below (w.alloc (.cells #[.slice A l.length c] 43)).heap.size (w.alloc (.cells #[.slice A l.length c] 43)) wr) (fun _ _ i _ => l.length - (intOf i).toNat)
  case atStart => exact ⟨rfl, ⟨0, rfl⟩, 0, by omega, rfl, Below.refl _ _⟩
  case round =>
    obtain ⟨rfl, ⟨z, rfl⟩, j, hj, rfl, hbw0⟩ := hrel
    have HBW0 := Lib.hid hbw0
    have hbw : Below w.heap.size w wr := HA.out.trans (hbw0.mono HA.out.size)
    have hws := hbw.size
    have r0 := (HR.out.below hbw0 HR.out.lt).cell 0
    simp at r0
    clear hbw0
    by_cases hlt : j < l.length
    · obtain ⟨x, hx⟩ : ∃ x, l[j]? = some x := ⟨_, List.getElem?_eq_getElem hlt⟩
      obtain ⟨b, off, A1, c1, A2, c2, A3, c3, A4, c4, rfl, d0, d1, d2, d3, d4, h1, h2, h3, h4, hbl⟩ := HN.out.at' hS hbw hx
      have hxo := HL.out.2 x (mem_at hx)
      have HOK := Lib.hid hxo.2.2.2.2
      have hxl := hxo.2.2.2.2.1
      have l1 := hxo.2.1.1
      have l2 := hxo.2.2.1.1
      have l3 := hxo.2.2.2.1.1
      have l5 := hxo.1
      have HQS := Lib.hid h4
      have HSR : Hid (∀ b, S b → b < wr.heap.size) := stay_lt hS hbw
      have HRN : Hid (Row (wr.alloc (.cells #[.string ⟨x.name.toArray⟩, .slice A1 x.ins.length c1, .slice A2 x.outs.length c2, .slice A3 x.locals.length c3, .slice A4 x.eqs.length c4] 76)) wr.heap.size 76 #[.string ⟨x.name.toArray⟩, .slice A1 x.ins.length c1, .slice A2 x.outs.length c2, .slice A3 x.locals.length c3, .slice A4 x.eqs.length c4]) := Row.made _ _ _
      clear hx hbw h1 h2 h3 h4 hxo
      by_cases k0 : x.ins.length ≤ 40
      · have m0 : ¬ (x.ins.length : Int) > 40 := by omega
        clear k0
        by_cases k1 : x.outs.length ≤ 40
        · have m1 : ¬ (x.outs.length : Int) > 40 := by omega
          clear k1
          by_cases k2 : x.locals.length ≤ 40
          · have m2 : ¬ (x.locals.length : Int) > 40 := by omega
            clear k2
            by_cases k3 : x.eqs.length ≤ 40
            · have m3 : ¬ (x.eqs.length : Int) > 40 := by omega
              clear k3
              by_cases k4 : x.name.length ≤ 100
              · have m4 : ¬ (x.name.length : Int) > 100 := by omega
                clear k4
                go_wp2_with fail
                obtain ⟨wo, rfl⟩ : ∃ wo, wo = wr := ⟨wr, rfl⟩
                go_loopw [2, 3, 6] (fun r s k w2 => r = .bool false ∧ (∃ z : Int, s = .int .i64 z) ∧ ∃ i : Nat, i ≤ x.eqs.length ∧ k = .int .i64 i ∧ Below (wo.alloc (.cells #[.string ⟨x.name.toArray⟩, .slice A1 x.ins.length c1, .slice A2 x.outs.length c2, .slice A3 x.locals.length c3, .slice A4 x.eqs.length c4] 76)).heap.size (wo.alloc (.cells #[.string ⟨x.name.toArray⟩, .slice A1 x.ins.length c1, .slice A2 x.outs.length c2, .slice A3 x.locals.length c3, .slice A4 x.eqs.length c4] 76)) w2) (fun _ _ k _ => x.eqs.length - (intOf k).toNat)
                case atStart => exact ⟨rfl, ⟨z, rfl⟩, 0, by omega, rfl, Below.refl _ _⟩
                case round =>
                  obtain ⟨rfl, ⟨z, rfl⟩, i, hi, rfl, hbi⟩ := hrel
                  have z4 := (HRN.out.below hbi HRN.out.lt).cell 4
                  simp at z4
                  have hbo : Below wo.heap.size wo wr := ((Below.refl _ _).alloc (Nat.le_refl _) _).trans (hbi.mono (by simp))
                  have HBX := Lib.hid hbo
                  have HBI := Lib.hid hbi
                  clear hbi
                  by_cases hlt2 : i < x.eqs.length
                  · obtain ⟨q, hq⟩ : ∃ q, x.eqs[i]? = some q := ⟨_, List.getElem?_eq_getElem hlt2⟩
                    obtain ⟨b', off', B1, g1, B2, g2, rfl, e0, e1, e2, e3, e4, e5, hts, hks, hbl'⟩ := HQS.out.at' HSR.out hbo hq
                    have HC : Hid (Calls Tryd.prog 11 #[.agg #[.int .i64 q.rhs.k, .int .i64 q.rhs.o, .int .i64 q.rhs.n, .string ⟨q.rhs.s.toArray⟩, .slice B2 q.rhs.ks.length g2]] wr fun e w' => e = .returned (.int .i64 (q.rhs.size : Nat)) ∧ Below wr.heap.size wr w') := refSize_any 1099511627775 q.rhs B2 g2 wr S (HOK.out.2 q (mem_at hq)).2.2 (by omega) hks (stay_lt HSR.out hbo)
                    have hlq : q.lhs.length ≤ 1099511627776 := (HOK.out.2 q (mem_at hq)).1.1
                    clear hq hbo hts hks
                    by_cases l40 : q.lhs.length ≤ 40
                    · have i40 : ¬ (q.lhs.length : Int) > 40 := by omega
                      clear l40
                      go_wp2_with (go_at_call 11; refine HC.out.mono ?_; rintro e w3 ⟨rfl, hb3⟩; have HB3 := Lib.hid hb3; clear hb3)
                      go_roundw
                      case rel => exact ⟨rfl, ⟨_, rfl⟩, i + 1, by omega, by go_num, HBI.out.trans (HB3.out.mono HBI.out.size)⟩
                      case measure => simp [intOf]; omega
                    · have i40 : (q.lhs.length : Int) > 40 := by omega
                      clear l40
                      go_wp2_with fail
                      go_ret
                      exact ⟨_, rfl, HA.out.trans ((HBW0.out.trans (HBX.out.mono HBW0.out.size)).mono HA.out.size)⟩
                  · clear hbo
                    go_wp2_with fail
                    go_roundw
                    case rel => exact ⟨rfl, ⟨_, rfl⟩, j + 1, by omega, by go_num, HBW0.out.trans (HBX.out.mono HBW0.out.size)⟩
                    case measure => simp [intOf]; omega
              · have m4 : (x.name.length : Int) > 100 := by omega
                clear k4
                go_wp2_with fail
                go_ret
                exact ⟨_, rfl, HA.out.trans ((HBW0.out.alloc HBW0.out.size _).mono HA.out.size)⟩
            · have m3 : (x.eqs.length : Int) > 40 := by omega
              clear k3
              go_wp2_with fail
              go_ret
              exact ⟨_, rfl, HA.out.trans ((HBW0.out.alloc HBW0.out.size _).mono HA.out.size)⟩
          · have m2 : (x.locals.length : Int) > 40 := by omega
            clear k2
            go_wp2_with fail
            go_ret
            exact ⟨_, rfl, HA.out.trans ((HBW0.out.alloc HBW0.out.size _).mono HA.out.size)⟩
        · have m1 : (x.outs.length : Int) > 40 := by omega
          clear k1
          go_wp2_with fail
          go_ret
          exact ⟨_, rfl, HA.out.trans ((HBW0.out.alloc HBW0.out.size _).mono HA.out.size)⟩
      · have m0 : (x.ins.length : Int) > 40 := by omega
        clear k0
        go_wp2_with fail
        go_ret
        exact ⟨_, rfl, HA.out.trans ((HBW0.out.alloc HBW0.out.size _).mono HA.out.size)⟩
    · have HBW := Lib.hid hbw
      clear hbw
      by_cases h12 : l.length ≤ 12
      · have hi : ¬ (l.length : Int) > 12 := by omega
        go_wp2_with fail
        go_ret
        exact ⟨_, rfl, HBW.out⟩
      · have hi : (l.length : Int) > 12 := by omega
        go_wp2_with fail
        go_ret
        exact ⟨_, rfl, HBW.out⟩

end Go.Proofs.YtfajnflfonechaaDoor
