/- DERIVED. Variables: the code's variable, the document's variables. -/
import Derived.Test.YtfajnflfonechaaDoorPgm
namespace Go.Proofs.YtfajnflfonechaaDoor
open Go.RowKit

set_option maxRecDepth 100000 in
set_option maxHeartbeats 1000000 in
theorem variable_any (b : Nat) (v : Vr) (w : World) (hv : okV v) (hw : WM w b) : Calls Tryd.prog 78 #[.map (some b), .agg #[.string ⟨v.name.toArray⟩, .int .i64 v.type]] w fun e w' => e = .returned (.bool (varB v)) ∧ Below w.heap.size w w' := by
  have HR : Hid (Row (w.alloc (.cells #[.string ⟨v.name.toArray⟩, .int .i64 v.type] 114)) w.heap.size 114 #[.string ⟨v.name.toArray⟩, .int .i64 v.type]) := Row.made _ _ _
  have HA : Hid (Below w.heap.size w (w.alloc (.cells #[.string ⟨v.name.toArray⟩, .int .i64 v.type] 114))) := (Below.refl _ _).alloc (Nat.le_refl _) _
  have HC : Hid (Calls Tryd.prog 76 #[.map (some b), .string ⟨v.name.toArray⟩] (w.alloc (.cells #[.string ⟨v.name.toArray⟩, .int .i64 v.type] 114)) fun e w' => e = .returned (.bool (nameB v.name)) ∧ Below (w.alloc (.cells #[.string ⟨v.name.toArray⟩, .int .i64 v.type] 114)).heap.size (w.alloc (.cells #[.string ⟨v.name.toArray⟩, .int .i64 v.type] 114)) w') := wname_any b v.name _ hv (hw.later HA.out)
  clear hw
  by_cases hn : nameB v.name = true
  · by_cases h0 : 0 ≤ v.type
    · by_cases h1 : v.type ≤ 1
      · have HO : Hid (varB v = true) := Lib.hid (by simp [varB, hn, typB, h0, h1])
        rw [hn] at HC
        clear hn
        go_enter Tryd.func78, Tryd.ntmps78
        go_wp2_with (go_at_call 76; refine HC.out.mono ?_; rintro e w1 ⟨rfl, hb1⟩; have HB1 := Lib.hid hb1; have c1 := (HR.out.below hb1 (by simp)).cell 1; simp at c1; clear hb1)
        go_ret
        exact ⟨ret_d (by first | exact HO.out.symm | (rw [HO.out]; simp; omega)), HA.out.trans (HB1.out.mono HA.out.size)⟩
      · have HO : Hid (varB v = false) := Lib.hid (by simp [varB, hn, typB, h1])
        rw [hn] at HC
        clear hn
        go_enter Tryd.func78, Tryd.ntmps78
        go_wp2_with (go_at_call 76; refine HC.out.mono ?_; rintro e w1 ⟨rfl, hb1⟩; have HB1 := Lib.hid hb1; have c1 := (HR.out.below hb1 (by simp)).cell 1; simp at c1; clear hb1)
        go_ret
        exact ⟨ret_d (by first | exact HO.out.symm | (rw [HO.out]; simp; omega)), HA.out.trans (HB1.out.mono HA.out.size)⟩
    · have HO : Hid (varB v = false) := Lib.hid (by simp [varB, hn, typB, h0])
      rw [hn] at HC
      clear hn
      go_enter Tryd.func78, Tryd.ntmps78
      go_wp2_with (go_at_call 76; refine HC.out.mono ?_; rintro e w1 ⟨rfl, hb1⟩; have HB1 := Lib.hid hb1; have c1 := (HR.out.below hb1 (by simp)).cell 1; simp at c1; clear hb1)
      go_ret
      exact ⟨ret_d (by first | exact HO.out.symm | (rw [HO.out]; simp; omega)), HA.out.trans (HB1.out.mono HA.out.size)⟩
  · have hn' : nameB v.name = false := by simpa using hn
    have HO : Hid (varB v = false) := Lib.hid (by simp [varB, hn'])
    rw [hn'] at HC
    clear hn hn'
    go_enter Tryd.func78, Tryd.ntmps78
    go_wp2_with (go_at_call 76; refine HC.out.mono ?_; rintro e w1 ⟨rfl, hb1⟩; have HB1 := Lib.hid hb1; have c1 := (HR.out.below hb1 (by simp)).cell 1; simp at c1; clear hb1)
    go_ret
    exact ⟨ret_d (by first | exact HO.out.symm | (rw [HO.out]; simp; omega)), HA.out.trans (HB1.out.mono HA.out.size)⟩

set_option maxRecDepth 100000 in
set_option maxHeartbeats 1000000 in
theorem refVars_any (l : List Vr) (A : Option Addr) (c : Nat) (w : World) (S : Nat → Prop) (hl : okVs l) (hA : VS w S A l) (hS : ∀ b, S b → b < w.heap.size) :
    Calls Tryd.prog 57 #[.slice A l.length c] w fun e w' => e = .returned (.bool (varsB l)) ∧ Below w.heap.size w w' := by
  have hlen := hl.1
  have HL := Lib.hid hl
  have HA := Lib.hid hA
  clear hl hA
  go_enter Tryd.func57, Tryd.ntmps57
  go_wp2_with fail
  go_loopw [2, 3] (fun r i wr => r = .bool false ∧ ∃ j : Nat, j ≤ l.length ∧ i = .int .i64 j ∧ (∀ (q : Nat) x, q < j → l[q]? = some x → varB x = true) ∧ Below w.heap.size w wr) (fun _ i _ => l.length - (intOf i).toNat)
  case atStart => exact ⟨rfl, 0, by omega, rfl, fun q x h => by omega, Below.refl _ _⟩
  case round =>
    obtain ⟨rfl, j, hj, rfl, hs, hbw⟩ := hrel
    have HSM := Lib.hid hs
    have HBW := Lib.hid hbw
    have hws := hbw.size
    clear hs
    by_cases hlt : j < l.length
    · obtain ⟨x, hx⟩ : ∃ x, l[j]? = some x := ⟨_, List.getElem?_eq_getElem hlt⟩
      obtain ⟨b, off, rfl, d0, d1, hbl⟩ := HA.out.at' hS hbw hx
      have HX := Lib.hid hx
      have HC : Hid (Calls Tryd.prog 56 #[.string ⟨x.name.toArray⟩] wr fun e w' => e = .returned (.bool (nameB x.name)) ∧ Below wr.heap.size wr w') := refName_any x.name wr (HL.out.2 x (mem_at hx))
      have D1 := Lib.hid d1
      clear hx hbw d1
      by_cases hn : nameB x.name = true
      · by_cases t0 : x.type = 0
        · have HV : Hid (varB x = true) := Lib.hid (by simp [varB, hn, typB, t0])
          have q1 : (x.type == 0) = true := by simpa using t0
          have q2 : (x.type != 0) = false := by simpa using t0
          rw [hn] at HC
          clear hn t0
          go_wp2_with (go_at_call 56; refine HC.out.mono ?_; rintro e w1 ⟨rfl, hb1⟩; have HB1 := Lib.hid hb1; have e1 := (hb1.cell (p := ⟨b, off + j * 2 + 1, none⟩) (by show b < _; omega)).trans D1.out; clear hb1)
          go_roundw
          case rel => exact ⟨rfl, j + 1, by omega, by go_num, fun q u hq hu => by
            by_cases e : q = j
            · subst e; rw [HX.out] at hu; injection hu with hu; rw [← hu]; exact HV.out
            · exact HSM.out q u (by omega) hu, HBW.out.trans (HB1.out.mono hws)⟩
          case measure => simp [intOf]; omega
        · by_cases t1 : x.type = 1
          · have HV : Hid (varB x = true) := Lib.hid (by simp [varB, hn, typB, t1])
            have q1 : (x.type == 0) = false := by simpa using t0
            have q2 : (x.type != 0) = true := by simpa using t0
            have q3 : (x.type == 1) = true := by simpa using t1
            have q4 : (x.type != 1) = false := by simpa using t1
            rw [hn] at HC
            clear hn t0 t1
            go_wp2_with (go_at_call 56; refine HC.out.mono ?_; rintro e w1 ⟨rfl, hb1⟩; have HB1 := Lib.hid hb1; have e1 := (hb1.cell (p := ⟨b, off + j * 2 + 1, none⟩) (by show b < _; omega)).trans D1.out; clear hb1)
            go_roundw
            case rel => exact ⟨rfl, j + 1, by omega, by go_num, fun q u hq hu => by
              by_cases e : q = j
              · subst e; rw [HX.out] at hu; injection hu with hu; rw [← hu]; exact HV.out
              · exact HSM.out q u (by omega) hu, HBW.out.trans (HB1.out.mono hws)⟩
            case measure => simp [intOf]; omega
          · have HV : Hid (varsB l = false) := Lib.hid (by rw [varsB, all_stop HX.out (by simp [varB, typB]; omega), Bool.false_and])
            have q1 : (x.type == 0) = false := by simpa using t0
            have q2 : (x.type != 0) = true := by simpa using t0
            have q3 : (x.type == 1) = false := by simpa using t1
            have q4 : (x.type != 1) = true := by simpa using t1
            rw [hn] at HC
            clear hn t0 t1
            go_wp2_with (go_at_call 56; refine HC.out.mono ?_; rintro e w1 ⟨rfl, hb1⟩; have HB1 := Lib.hid hb1; have e1 := (hb1.cell (p := ⟨b, off + j * 2 + 1, none⟩) (by show b < _; omega)).trans D1.out; clear hb1)
            go_ret
            exact ⟨ret_d HV.out.symm, HBW.out.trans (HB1.out.mono hws)⟩
      · have hn' : nameB x.name = false := by simpa using hn
        have HV : Hid (varsB l = false) := Lib.hid (by rw [varsB, all_stop HX.out (by simp [varB, hn']), Bool.false_and])
        rw [hn'] at HC
        clear hn hn'
        go_wp2_with (go_at_call 56; refine HC.out.mono ?_; rintro e w1 ⟨rfl, hb1⟩; have HB1 := Lib.hid hb1; have e1 := (hb1.cell (p := ⟨b, off + j * 2 + 1, none⟩) (by show b < _; omega)).trans D1.out; clear hb1)
        go_ret
        exact ⟨ret_d HV.out.symm, HBW.out.trans (HB1.out.mono hws)⟩
    · have HE : Hid (l.all varB = true) := all_all fun q x hx => HSM.out q x (by
        rcases Nat.lt_or_ge q l.length with h' | h'
        · omega
        · rw [List.getElem?_eq_none h'] at hx; cases hx) hx
      clear hbw
      by_cases h1000 : l.length ≤ 1000
      · have HV : Hid (varsB l = true) := Lib.hid (by rw [varsB, HE.out]; simp [fewB, h1000])
        have hi : (l.length : Int) ≤ 1000 := by omega
        go_wp2_with fail
        go_ret
        exact ⟨ret_d HV.out.symm, HBW.out⟩
      · have HV : Hid (varsB l = false) := Lib.hid (by rw [varsB, HE.out]; simp [fewB]; omega)
        have hi : ¬ (l.length : Int) ≤ 1000 := by omega
        go_wp2_with fail
        go_ret
        exact ⟨ret_d HV.out.symm, HBW.out⟩

end Go.Proofs.YtfajnflfonechaaDoor
