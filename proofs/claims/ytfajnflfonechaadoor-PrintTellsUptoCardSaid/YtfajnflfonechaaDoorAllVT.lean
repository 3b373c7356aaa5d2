/- DERIVED. Lists of variables, of names: the code's all. -/
import Derived.Test.YtfajnflfonechaaDoorVars
namespace Go.Proofs.YtfajnflfonechaaDoor
open Go.RowKit

set_option maxRecDepth 100000 in
set_option maxHeartbeats 1000000 in
theorem allV_any (bm : Nat) (l : List Vr) (A : Option Addr) (c : Nat) (w : World) (S : Nat → Prop) (hl : okVs l) (hm : WM w bm) (hA : VS w S A l) (hS : ∀ b, S b → b < w.heap.size) :
    Calls Tryd.prog 77 #[.slice A l.length c, .func (.func 78) #[.map (some bm)] #[]] w fun e w' => e = .returned (.bool (varsB l)) ∧ Below w.heap.size w w' := by
  have hlen := hl.1
  have HL := Lib.hid hl
  have HA := Lib.hid hA
  have HM := Lib.hid hm
  clear hl hA hm
  by_cases h1000 : l.length ≤ 1000
  · go_enter Tryd.func77, Tryd.ntmps77
    go_wp2_with fail
    go_loopw [4, 12] (fun r i wr => r = .bool false ∧ ∃ j : Nat, j ≤ l.length ∧ i = .int .i64 j ∧ (∀ (q : Nat) x, q < j → l[q]? = some x → varB x = true) ∧ Below w.heap.size w wr) (fun _ i _ => l.length - (intOf i).toNat)
    case atStart => exact ⟨rfl, 0, by omega, rfl, fun q x h => by omega, Below.refl _ _⟩
    case round =>
      obtain ⟨rfl, j, hj, rfl, hs, hbw⟩ := hrel
      have HSM := Lib.hid hs
      have HBW := Lib.hid hbw
      have hws := hbw.size
      clear hs
      by_cases hlt : j < l.length
      · obtain ⟨x, hx⟩ : ∃ x, l[j]? = some x := ⟨_, List.getElem?_eq_getElem hlt⟩
        obtain ⟨b, off, rfl, d0, d1, hbl⟩ := HA.out.at' hS hbw hx
        have HX := Lib.hid hx
        have HC : Hid (∀ w2, Below wr.heap.size wr w2 → Calls Tryd.prog 78 #[.map (some bm), .agg #[.string ⟨x.name.toArray⟩, .int .i64 x.type]] w2 fun e w' => e = .returned (.bool (varB x)) ∧ Below w2.heap.size w2 w') := fun w2 hb2 => by
          have hm := HM.out
          exact variable_any bm x w2 (HL.out.2 x (mem_at hx)) ((hm.later hbw).later hb2)
        clear hx hbw
        by_cases hn : varB x = true
        · have HV := Lib.hid hn
          rw [hn] at HC
          clear hn
          go_wp2_with (go_at_call 78; refine (HC.out _ ((Below.refl _ _).alloc (Nat.le_refl _) _)).mono ?_; rintro e w1 ⟨rfl, hb1⟩; have HB1 := Lib.hid hb1; clear hb1)
          go_roundw
          case rel => exact ⟨rfl, j + 1, by omega, by go_num, fun q u hq hu => by
            by_cases e : q = j
            · subst e; rw [HX.out] at hu; injection hu with hu; rw [← hu]; exact HV.out
            · exact HSM.out q u (by omega) hu, HBW.out.trans (((Below.refl _ _).alloc hws _).trans (HB1.out.mono (by simp; omega)))⟩
          case measure => simp [intOf]; omega
        · have hn' : varB x = false := by simpa using hn
          have HV : Hid (varsB l = false) := Lib.hid (by rw [varsB, all_stop HX.out hn', Bool.false_and])
          rw [hn'] at HC
          clear hn hn'
          go_wp2_with (go_at_call 78; refine (HC.out _ ((Below.refl _ _).alloc (Nat.le_refl _) _)).mono ?_; rintro e w1 ⟨rfl, hb1⟩; have HB1 := Lib.hid hb1; clear hb1)
          go_ret
          exact ⟨ret_d HV.out.symm, HBW.out.trans (((Below.refl _ _).alloc hws _).trans (HB1.out.mono (by simp; omega)))⟩
      · have HE : Hid (varsB l = true) := Lib.hid (by
          rw [varsB, all_all fun q x hx => HSM.out q x (by
            rcases Nat.lt_or_ge q l.length with h' | h'
            · omega
            · rw [List.getElem?_eq_none h'] at hx; cases hx) hx]
          simp [fewB, h1000])
        clear hbw
        go_wp2_with fail
        go_ret
        exact ⟨ret_d HE.out.symm, HBW.out⟩
  · have HE : Hid (varsB l = false) := Lib.hid (by rw [varsB]; simp [fewB]; intro _; omega)
    go_enter Tryd.func77, Tryd.ntmps77
    go_wp2_with fail
    go_ret
    exact ⟨ret_d HE.out.symm, Below.refl _ _⟩

set_option maxRecDepth 100000 in
set_option maxHeartbeats 1000000 in
theorem allT_any (bm : Nat) (l : List T) (A : Option Addr) (c : Nat) (w : World) (S : Nat → Prop) (hl : okTs l) (hm : WM w bm) (hA : TS w S A l) (hS : ∀ b, S b → b < w.heap.size) :
    Calls Tryd.prog 102 #[.slice A l.length c, .func (.func 76) #[.map (some bm)] #[]] w fun e w' => e = .returned (.bool (namesB l)) ∧ Below w.heap.size w w' := by
  have hlen := hl.1
  have HL := Lib.hid hl
  have HA := Lib.hid hA
  have HM := Lib.hid hm
  clear hl hA hm
  by_cases h1000 : l.length ≤ 1000
  · go_enter Tryd.func102, Tryd.ntmps102
    go_wp2_with fail
    go_loopw [4, 12] (fun r i wr => r = .bool false ∧ ∃ j : Nat, j ≤ l.length ∧ i = .int .i64 j ∧ (∀ (q : Nat) x, q < j → l[q]? = some x → nameB x = true) ∧ Below w.heap.size w wr) (fun _ i _ => l.length - (intOf i).toNat)
    case atStart => exact ⟨rfl, 0, by omega, rfl, fun q x h => by omega, Below.refl _ _⟩
    case round =>
      obtain ⟨rfl, j, hj, rfl, hs, hbw⟩ := hrel
      have HSM := Lib.hid hs
      have HBW := Lib.hid hbw
      have hws := hbw.size
      clear hs
      by_cases hlt : j < l.length
      · obtain ⟨x, hx⟩ : ∃ x, l[j]? = some x := ⟨_, List.getElem?_eq_getElem hlt⟩
        obtain ⟨b, off, rfl, d0, hbl⟩ := HA.out.at' hS hbw hx
        have HX := Lib.hid hx
        have HC : Hid (∀ w2, Below wr.heap.size wr w2 → Calls Tryd.prog 76 #[.map (some bm), .string ⟨x.toArray⟩] w2 fun e w' => e = .returned (.bool (nameB x)) ∧ Below w2.heap.size w2 w') := fun w2 hb2 => by
          have hm := HM.out
          exact wname_any bm x w2 (HL.out.2 x (mem_at hx)) ((hm.later hbw).later hb2)
        clear hx hbw
        by_cases hn : nameB x = true
        · have HV := Lib.hid hn
          rw [hn] at HC
          clear hn
          go_wp2_with (go_at_call 76; refine (HC.out _ (Below.refl _ _)).mono ?_; rintro e w1 ⟨rfl, hb1⟩; have HB1 := Lib.hid hb1; clear hb1)
          go_roundw
          case rel => exact ⟨rfl, j + 1, by omega, by go_num, fun q u hq hu => by
            by_cases e : q = j
            · subst e; rw [HX.out] at hu; injection hu with hu; rw [← hu]; exact HV.out
            · exact HSM.out q u (by omega) hu, HBW.out.trans (HB1.out.mono hws)⟩
          case measure => simp [intOf]; omega
        · have hn' : nameB x = false := by simpa using hn
          have HV : Hid (namesB l = false) := Lib.hid (by rw [namesB, all_stop HX.out hn', Bool.false_and])
          rw [hn'] at HC
          clear hn hn'
          go_wp2_with (go_at_call 76; refine (HC.out _ (Below.refl _ _)).mono ?_; rintro e w1 ⟨rfl, hb1⟩; have HB1 := Lib.hid hb1; clear hb1)
          go_ret
          exact ⟨ret_d HV.out.symm, HBW.out.trans (HB1.out.mono hws)⟩
      · have HE : Hid (namesB l = true) := Lib.hid (by
          rw [namesB, all_all fun q x hx => HSM.out q x (by
            rcases Nat.lt_or_ge q l.length with h' | h'
            · omega
            · rw [List.getElem?_eq_none h'] at hx; cases hx) hx]
          simp [fewB, h1000])
        clear hbw
        go_wp2_with fail
        go_ret
        exact ⟨ret_d HE.out.symm, HBW.out⟩
  · have HE : Hid (namesB l = false) := Lib.hid (by rw [namesB]; simp [fewB]; intro _; omega)
    go_enter Tryd.func102, Tryd.ntmps102
    go_wp2_with fail
    go_ret
    exact ⟨ret_d HE.out.symm, Below.refl _ _⟩

end Go.Proofs.YtfajnflfonechaaDoor
