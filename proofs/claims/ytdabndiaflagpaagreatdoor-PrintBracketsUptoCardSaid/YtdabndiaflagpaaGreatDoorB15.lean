/- Parts: LxA. -/
import Derived.WalkMore
import Derived.Deep.LoopGhost
import Derived.Test.YtdabndiaflagpaaGreatDoorB14
set_option maxRecDepth 100000
set_option maxHeartbeats 4000000
set_option linter.unusedVariables false
namespace Go.Proofs.YtdabndiaflagpaaGreatDoor
open Go.RowKit

def AllPost (s : T) (W0 : World) (b mb : Nat) (R : List Tk × Nat × Int) (e : Ending) (w' : World) : Prop :=
  (∃ (acc : List Tk) (a : Nat) (tv : Value) (mc : Nat) (W1 : World) (B : Nat), R = (acc ++ [⟨0, [], 0, a⟩], 0, 0) ∧ e = .returned (.int .i64 0) ∧ LxAt s W0 W1 B w' b mb mc tv [] a acc) ∨
  (∃ (a : Nat) (code : Int) (tv : Value) (mc : Nat) (l : T) (acc : List Tk) (W1 : World) (B : Nat), R = ([], a, code) ∧ (code = 2 ∨ code = 4) ∧ e = .returned (.int .i64 code) ∧ LxAt s W0 W1 B w' b mb mc tv l a acc)
/-- What is known when the first i parts did nothing. -/
def Tried (c : UInt8) (r : T) (i : Nat) : Prop := (1 ≤ i → NoBet c r) ∧ (2 ≤ i → ltr c = false) ∧ (3 ≤ i → dgt c = false) ∧ (4 ≤ i → signsL.find? (fun s => s.isPrefixOf (c :: r)) = none)

theorem idx_fun (arr : Array Value) (i : Nat) (f : Fn) (x y : Array Value) (hi : i < 4) (h : arr[i]? = some (.func f x y)) : ∀ w : World, (Instr.index 170 (.agg arr) (.int .i64 (i : Int))).run Tryz.prog w = .ok (.func f x y) w := by
  intro w
  have hu : Tryz.prog.underlying 170 = some (.array 4 136) := by kernel_rfl
  simp [Instr.index, run_underlying hu, asIntOf, go_sem, h, hi]

set_option maxRecDepth 100000 in
set_option maxHeartbeats 4000000 in
theorem all_any (s : T) (W0 w : World) (b mb : Nat) (h : Fresh s W0 w b mb) :
    Calls Tryz.prog 60 #[.pointer (some ⟨b, 0, none⟩)] w (AllPost s W0 b mb (lexA s 0 [])) := by
  have hbw : b < w.heap.size := Row.lt h.row_
  have hH : Hid (Row (w.alloc (.cells #[.func (.func 95) #[.pointer (some ⟨b, 0, none⟩)] #[], .func (.func 96) #[.pointer (some ⟨b, 0, none⟩)] #[], .func (.func 97) #[.pointer (some ⟨b, 0, none⟩)] #[], .func (.func 98) #[.pointer (some ⟨b, 0, none⟩)] #[]] 170)) w.heap.size 170 #[.func (.func 95) #[.pointer (some ⟨b, 0, none⟩)] #[], .func (.func 96) #[.pointer (some ⟨b, 0, none⟩)] #[], .func (.func 97) #[.pointer (some ⟨b, 0, none⟩)] #[], .func (.func 98) #[.pointer (some ⟨b, 0, none⟩)] #[]]) := Row.made _ _ _
  have hmb := h.mb_
  have hA0 : LxAt s W0 (w.alloc (.cells #[.func (.func 95) #[.pointer (some ⟨b, 0, none⟩)] #[], .func (.func 96) #[.pointer (some ⟨b, 0, none⟩)] #[], .func (.func 97) #[.pointer (some ⟨b, 0, none⟩)] #[], .func (.func 98) #[.pointer (some ⟨b, 0, none⟩)] #[]] 170)) (w.heap.size + 1) (w.alloc (.cells #[.func (.func 95) #[.pointer (some ⟨b, 0, none⟩)] #[], .func (.func 96) #[.pointer (some ⟨b, 0, none⟩)] #[], .func (.func 97) #[.pointer (some ⟨b, 0, none⟩)] #[], .func (.func 98) #[.pointer (some ⟨b, 0, none⟩)] #[]] 170)) b mb 0 (.slice none 0 0) s 0 [] :=
    ⟨Row.alloc h.row_ _, OwnG.nil _ _ _ _ _ _, h.map_.kept (World.grownBy_alloc w _ none) (by simp), h.env_, h.mb_, h.old_, h.below_.alloc h.below_.size _, rfl, Nat.le_refl _, Nat.zero_le _, h.short_, by omega, by simp, fun _ _ _ _ => rfl⟩
  obtain ⟨W1, hW1⟩ : ∃ W1, W1 = w.alloc (.cells #[.func (.func 95) #[.pointer (some ⟨b, 0, none⟩)] #[], .func (.func 96) #[.pointer (some ⟨b, 0, none⟩)] #[], .func (.func 97) #[.pointer (some ⟨b, 0, none⟩)] #[], .func (.func 98) #[.pointer (some ⟨b, 0, none⟩)] #[]] 170) := ⟨_, rfl⟩
  have HA0 : Hid (LxAt s W0 W1 (w.heap.size + 1) W1 b mb 0 (.slice none 0 0) s 0 []) := Lib.hid (by rw [hW1]; exact hA0)
  have HP0 : Hid (Row W1 w.heap.size 170 #[.func (.func 95) #[.pointer (some ⟨b, 0, none⟩)] #[], .func (.func 96) #[.pointer (some ⟨b, 0, none⟩)] #[], .func (.func 97) #[.pointer (some ⟨b, 0, none⟩)] #[], .func (.func 98) #[.pointer (some ⟨b, 0, none⟩)] #[]]) := Lib.hid (by rw [hW1]; exact hH)
  obtain ⟨R, hR⟩ : ∃ R, R = lexA s 0 [] := ⟨_, rfl⟩
  rw [← hR]
  have HR0 := Lib.hid hR.symm
  clear h hH hA0 hR
  have hst := fun (w : World) (a : Addr) (f : Fn) (x y : Array Value) (m : Mode) => run_store Tryz.prog w a (.func f x y) m rfl
  go_enter Tryz.func60, Tryz.ntmps60
  go_wp2_with fail
  go_step3
  go_wp2_with fail
  go_step3
  go_wp2_with fail
  rw [← hW1]
  clear hW1 hst
  go_loopg [2] s.length (fun g q wr => q = .int .i64 0 ∧ ∃ (tv : Value) (mc : Nat) (l : T) (a : Nat) (acc : List Tk), l.length = g ∧ mc ≤ a ∧ LxAt s W0 W1 (w.heap.size + 1) wr b mb mc tv l a acc ∧ lexA l a acc = R)
  case atStart => exact ⟨rfl, _, 0, s, 0, [], rfl, Nat.le_refl _, HA0.out, HR0.out⟩
  case round =>
    obtain ⟨rfl, tv, mc, l, a, acc, hgo, hmc, ha, hr⟩ := hrel
    have HA := Lib.hid ha
    have HR := Lib.hid hr
    have c0 := (show Row wr b 139 _ from ha.row_).cell 0
    simp at c0
    have hp := (show Row wr w.heap.size 170 #[.func (.func 95) #[.pointer (some ⟨b, 0, none⟩)] #[], .func (.func 96) #[.pointer (some ⟨b, 0, none⟩)] #[], .func (.func 97) #[.pointer (some ⟨b, 0, none⟩)] #[], .func (.func 98) #[.pointer (some ⟨b, 0, none⟩)] #[]] from (ha.keep_ _ (by omega) (by omega) (by omega)).trans HP0.out)
    have p0 := hp.cell 0
    have p1 := hp.cell 1
    have p2 := hp.cell 2
    have p3 := hp.cell 3
    simp at p0 p1 p2 p3
    have hll : l.length ≤ 1000000 := by have := congrArg List.length ha.rest_; rw [List.length_drop] at this; have := ha.short_; omega
    clear ha hr hp
    cases l with
    | nil =>
      go_wp2_with fail
      go_ret
      exact .inl ⟨acc, a, tv, mc, W1, _, HR.out.symm.trans (lexA_done a acc), rfl, HA.out⟩
    | cons c r =>
      go_wp2_with fail
      obtain ⟨go, hgo2⟩ : ∃ go, go = gk := ⟨gk, rfl⟩
      go_loopg [2, 28] 4 (fun g q k w2 => q = .int .i64 0 ∧ ∃ i : Nat, i + g = 4 ∧ k = .int .i64 i ∧ (∃ (tv : Value) (mc : Nat), mc ≤ a ∧ LxAt s W0 W1 (w.heap.size + 1) w2 b mb mc tv (c :: r) a acc) ∧ Tried c r i)
      case atStart => exact ⟨rfl, 0, by omega, rfl, ⟨tv, mc, hmc, HA.out⟩, ⟨fun h => absurd h (by omega), fun h => absurd h (by omega), fun h => absurd h (by omega), fun h => absurd h (by omega)⟩⟩
      case round =>
        obtain ⟨rfl, i, hi, rfl, ⟨tv, mc, hmc, ha⟩, ht⟩ := hrel
        have HA := Lib.hid ha
        have HT := Lib.hid ht
        have c0 := (show Row wr b 139 _ from ha.row_).cell 0
        simp at c0
        have x0 := idx_fun #[.func (.func 95) #[.pointer (some ⟨b, 0, none⟩)] #[], .func (.func 96) #[.pointer (some ⟨b, 0, none⟩)] #[], .func (.func 97) #[.pointer (some ⟨b, 0, none⟩)] #[], .func (.func 98) #[.pointer (some ⟨b, 0, none⟩)] #[]] 0 _ _ _ (by omega) rfl
        have x1 := idx_fun #[.func (.func 95) #[.pointer (some ⟨b, 0, none⟩)] #[], .func (.func 96) #[.pointer (some ⟨b, 0, none⟩)] #[], .func (.func 97) #[.pointer (some ⟨b, 0, none⟩)] #[], .func (.func 98) #[.pointer (some ⟨b, 0, none⟩)] #[]] 1 _ _ _ (by omega) rfl
        have x2 := idx_fun #[.func (.func 95) #[.pointer (some ⟨b, 0, none⟩)] #[], .func (.func 96) #[.pointer (some ⟨b, 0, none⟩)] #[], .func (.func 97) #[.pointer (some ⟨b, 0, none⟩)] #[], .func (.func 98) #[.pointer (some ⟨b, 0, none⟩)] #[]] 2 _ _ _ (by omega) rfl
        have x3 := idx_fun #[.func (.func 95) #[.pointer (some ⟨b, 0, none⟩)] #[], .func (.func 96) #[.pointer (some ⟨b, 0, none⟩)] #[], .func (.func 97) #[.pointer (some ⟨b, 0, none⟩)] #[], .func (.func 98) #[.pointer (some ⟨b, 0, none⟩)] #[]] 3 _ _ _ (by omega) rfl
        simp at x0 x1 x2 x3
        obtain rfl | rfl | rfl | rfl | rfl : i = 0 ∨ i = 1 ∨ i = 2 ∨ i = 3 ∨ i = 4 := by omega
        · have hbt := mBetween_any s W0 W1 _ wr b mb mc tv (c :: r) a acc ha
          by_cases hk : (betS (c :: r)).2 = true
          · by_cases hn : (betS (c :: r)).1.length = 0
            · have HNB := Lib.hid (bet_none hk hn)
              have HC : Hid (Calls Tryz.prog 95 #[.pointer (some ⟨b, 0, none⟩)] wr (Part s W0 W1 (w.heap.size + 1) b mb 0 (c :: r) a acc)) := Lib.hid (hbt.mono fun e w' hh => by
                rcases hh with ⟨_, he, hx⟩ | ⟨hf, _⟩
                · rw [hn] at hx
                  exact ⟨he, tv, mc, hmc, hx⟩
                · rw [hk] at hf; cases hf)
              clear ha ht hbt hk hn
              go_wp2_with (go_at_call 95; refine HC.out.mono ?_; rintro e w3 ⟨rfl, tv3, mc3, hmc3, ha3⟩; have HA3 := Lib.hid ha3; have d0 := (show Row w3 b 139 _ from ha3.row_).cell 0; simp at d0; clear ha3 HC)
              go_roundg 3
              case rel => exact ⟨rfl, 1, by omega, rfl, ⟨tv3, mc3, hmc3, HA3.out⟩, ⟨fun _ => HNB.out, fun h => absurd h (by omega), fun h => absurd h (by omega), fun h => absurd h (by omega)⟩⟩
              case measure => omega
            · obtain ⟨n, hne⟩ : ∃ n, n = (betS (c :: r)).1.length := ⟨_, rfl⟩
              have HSTEP := Lib.hid (bet_skip hk hne.symm (by omega))
              have hn0 : 0 < n := by omega
              have HC : Hid (Calls Tryz.prog 95 #[.pointer (some ⟨b, 0, none⟩)] wr (Part s W0 W1 (w.heap.size + 1) b mb 0 ((c :: r).drop n) (a + n) acc)) := Lib.hid (hbt.mono fun e w' hh => by
                rcases hh with ⟨_, he, hx⟩ | ⟨hf, _⟩
                · rw [← hne] at hx
                  exact ⟨he, tv, mc, by omega, hx⟩
                · rw [hk] at hf; cases hf)
              have hnl : n ≤ (c :: r).length := (step_skip HSTEP.out).2
              clear ha ht hbt hk hn hne
              have hdl : ((c :: r).drop n).length < (c :: r).length := by rw [List.length_drop]; omega
              obtain ⟨l', hl'⟩ : ∃ l', l' = (c :: r).drop n := ⟨_, rfl⟩
              rw [← hl'] at HC hdl
              have hlt' : (l'.length : Int) < ((c :: r).length : Int) := by omega
              have HDL := Lib.hid hdl
              have HRR : Hid (lexA l' (a + n) acc = R) := Lib.hid (by rw [hl', ← lexA_skip HSTEP.out]; exact HR.out)
              clear hl' hdl
              go_wp2_with (go_at_call 95; refine HC.out.mono ?_; rintro e w3 ⟨rfl, tv3, mc3, hmc3, ha3⟩; have HA3 := Lib.hid ha3; have d0 := (show Row w3 b 139 _ from ha3.row_).cell 0; simp at d0; clear ha3 HC)
              go_roundg l'.length
              case rel => exact ⟨rfl, tv3, mc3, l', (a + n), acc, rfl, hmc3, HA3.out, HRR.out⟩
              case measure => have := HDL.out; omega
          · have hk' : (betS (c :: r)).2 = false := (Bool.not_eq_true _).mp hk
            have HSTEP := Lib.hid (bet_bad hk')
            have HC : Hid (Calls Tryz.prog 95 #[.pointer (some ⟨b, 0, none⟩)] wr fun e w' => e = .returned (.int .i64 2) ∧ LxAt s W0 W1 (w.heap.size + 1) w' b mb mc tv (c :: r) a acc) := Lib.hid (hbt.mono fun e w' hh => by
              rcases hh with ⟨hf, _⟩ | ⟨_, hx⟩
              · exact absurd hf hk
              · exact hx)
            clear ha ht hbt hk hk'
            go_wp2_with (go_at_call 95; refine HC.out.mono ?_; rintro e w3 ⟨rfl, ha3⟩; have HA3 := Lib.hid ha3; clear ha3 HC)
            go_ret
            exact .inr ⟨a, 2, _, _, _, _, _, _, HR.out.symm.trans (lexA_bad HSTEP.out a acc), by decide, rfl, HA3.out⟩
        · have HNB := Lib.hid (HT.out.1 (by omega))
          by_cases hl : ltr c = true
          · have hnr := name_run (c := c) (r := r) hl
            by_cases h1 : nameB ((c :: r).takeWhile ltd) = true
            · rw [h1] at hnr
              have hnr2 := hnr.symm
              clear hnr
              rw [Bool.and_eq_true] at hnr2
              have hlen := of_decide_eq_true hnr2.1
              have hwd : wordB ((c :: r).takeWhile ltd) = false := by simpa using hnr2.2
              clear hnr2
              obtain ⟨n, hne⟩ : ∃ n, n = ((c :: r).takeWhile ltd).length := ⟨_, rfl⟩
              have hpos : 0 < ((c :: r).takeWhile ltd).length := takeWhile_pos (by first | exact hd | simp [ltd, hl])
              have hle := takeWhile_le (p := ltd) (c :: r)
              have hc0 := mWord_on s W0 W1 _ wr b mb mc tv c r a acc 1 hmc ha hl (kind_name h1)
              have hst : stepS (c :: r) = .tok 1 ((c :: r).takeWhile ltd).length 0 := by
                rw [step_word HNB.out hl, if_neg (by rw [hwd]; decide), if_pos hlen]
              have e1 : (c :: r).takeWhile ltd = (c :: r).take n := by rw [hne]; exact takeWhile_take _
              have e2 : ((c :: r).take n).length = n := by rw [← e1, hne]
              rw [e1, e2] at hc0 hst
              rw [← hne] at hpos hle
              have HSTEP := Lib.hid hst
              have HC := Lib.hid hc0
              have hn0 := hpos
              have hnl := hle
              clear ha ht hne hc0 hst e1 e2 hpos hle hl h1 hlen hwd
              have hdl : ((c :: r).drop n).length < (c :: r).length := by rw [List.length_drop]; omega
              obtain ⟨l', hl'⟩ : ∃ l', l' = (c :: r).drop n := ⟨_, rfl⟩
              rw [← hl'] at HC hdl
              have hlt' : (l'.length : Int) < ((c :: r).length : Int) := by omega
              have HDL := Lib.hid hdl
              have HRR : Hid (lexA l' (a + n) (acc ++ [⟨1, (c :: r).take n, 0, a⟩]) = R) := Lib.hid (by rw [hl', ← lexA_tok HSTEP.out]; exact HR.out)
              clear hl' hdl
              go_wp2_with (go_at_call 96; refine HC.out.mono ?_; rintro e w3 ⟨rfl, tv3, mc3, hmc3, ha3⟩; have HA3 := Lib.hid ha3; have d0 := (show Row w3 b 139 _ from ha3.row_).cell 0; simp at d0; clear ha3 HC)
              go_roundg l'.length
              case rel => exact ⟨rfl, tv3, mc3, l', (a + n), (acc ++ [⟨1, (c :: r).take n, 0, a⟩]), rfl, hmc3, HA3.out, HRR.out⟩
              case measure => have := HDL.out; omega
            · have h1' : nameB ((c :: r).takeWhile ltd) = false := (Bool.not_eq_true _).mp h1
              by_cases h2 : wordB ((c :: r).takeWhile ltd) = true
              · skip
                obtain ⟨n, hne⟩ : ∃ n, n = ((c :: r).takeWhile ltd).length := ⟨_, rfl⟩
                have hpos : 0 < ((c :: r).takeWhile ltd).length := takeWhile_pos (by first | exact hd | simp [ltd, hl])
                have hle := takeWhile_le (p := ltd) (c :: r)
                have hc0 := mWord_on s W0 W1 _ wr b mb mc tv c r a acc 2 hmc ha hl (kind_word h1' h2)
                have hst : stepS (c :: r) = .tok 2 ((c :: r).takeWhile ltd).length 0 := by
                  rw [step_word HNB.out hl, if_pos h2]
                have e1 : (c :: r).takeWhile ltd = (c :: r).take n := by rw [hne]; exact takeWhile_take _
                have e2 : ((c :: r).take n).length = n := by rw [← e1, hne]
                rw [e1, e2] at hc0 hst
                rw [← hne] at hpos hle
                have HSTEP := Lib.hid hst
                have HC := Lib.hid hc0
                have hn0 := hpos
                have hnl := hle
                clear ha ht hne hc0 hst e1 e2 hpos hle hl hnr h1 h1' h2
                have hdl : ((c :: r).drop n).length < (c :: r).length := by rw [List.length_drop]; omega
                obtain ⟨l', hl'⟩ : ∃ l', l' = (c :: r).drop n := ⟨_, rfl⟩
                rw [← hl'] at HC hdl
                have hlt' : (l'.length : Int) < ((c :: r).length : Int) := by omega
                have HDL := Lib.hid hdl
                have HRR : Hid (lexA l' (a + n) (acc ++ [⟨2, (c :: r).take n, 0, a⟩]) = R) := Lib.hid (by rw [hl', ← lexA_tok HSTEP.out]; exact HR.out)
                clear hl' hdl
                go_wp2_with (go_at_call 96; refine HC.out.mono ?_; rintro e w3 ⟨rfl, tv3, mc3, hmc3, ha3⟩; have HA3 := Lib.hid ha3; have d0 := (show Row w3 b 139 _ from ha3.row_).cell 0; simp at d0; clear ha3 HC)
                go_roundg l'.length
                case rel => exact ⟨rfl, tv3, mc3, l', (a + n), (acc ++ [⟨2, (c :: r).take n, 0, a⟩]), rfl, hmc3, HA3.out, HRR.out⟩
                case measure => have := HDL.out; omega
              · have h2' : wordB ((c :: r).takeWhile ltd) = false := (Bool.not_eq_true _).mp h2
                have hlen : ¬ ((c :: r).takeWhile ltd).length ≤ 60 := fun hh => by rw [h1', h2'] at hnr; simp [hh] at hnr
                have HSTEP : Hid (stepS (c :: r) = .bad 4) := Lib.hid (by rw [step_word HNB.out hl, if_neg h2, if_neg hlen])
                have HC := Lib.hid (mWord_bad s W0 W1 _ wr b mb mc tv c r a acc hmc ha hl (kind_none h1' h2'))
                clear ha ht hl hnr h1 h1' h2 h2' hlen
                go_wp2_with (go_at_call 96; refine HC.out.mono ?_; rintro e w3 ⟨rfl, ha3⟩; have HA3 := Lib.hid ha3; clear ha3 HC)
                go_ret
                exact .inr ⟨a, 4, _, _, _, _, _, _, HR.out.symm.trans (lexA_bad HSTEP.out a acc), by decide, rfl, HA3.out⟩
          · have hl' : ltr c = false := (Bool.not_eq_true _).mp hl
            have HL := Lib.hid hl'
            have HC := Lib.hid (mWord_off s W0 W1 _ wr b mb mc tv c r a acc hmc ha hl')
            clear ha ht hl hl'
            go_wp2_with (go_at_call 96; refine HC.out.mono ?_; rintro e w3 ⟨rfl, tv3, mc3, hmc3, ha3⟩; have HA3 := Lib.hid ha3; have d0 := (show Row w3 b 139 _ from ha3.row_).cell 0; simp at d0; clear ha3 HC)
            go_roundg 2
            case rel => exact ⟨rfl, 2, by omega, rfl, ⟨tv3, mc3, hmc3, HA3.out⟩, ⟨fun _ => HNB.out, fun _ => HL.out, fun h => absurd h (by omega), fun h => absurd h (by omega)⟩⟩
            case measure => omega
        · have HNB := Lib.hid (HT.out.1 (by omega))
          have HL := Lib.hid (HT.out.2.1 (by omega))
          by_cases hd : dgt c = true
          · by_cases hv : valS 0 ((c :: r).takeWhile dgt) ≤ 9223372036854775807
            · skip
              obtain ⟨n, hne⟩ : ∃ n, n = ((c :: r).takeWhile dgt).length := ⟨_, rfl⟩
              have hpos : 0 < ((c :: r).takeWhile dgt).length := takeWhile_pos (by first | exact hd | simp [ltd, hl])
              have hle := takeWhile_le (p := dgt) (c :: r)
              have hc0 := mNum_on s W0 W1 _ wr b mb mc tv c r a acc hmc ha hd hv
              have hst : stepS (c :: r) = .tok 3 ((c :: r).takeWhile dgt).length (valS 0 ((c :: r).takeWhile dgt) : Nat) := by
                rw [step_num HNB.out HL.out hd, if_pos hv]
              have e1 : (c :: r).takeWhile dgt = (c :: r).take n := by rw [hne]; exact takeWhile_take _
              have e2 : ((c :: r).take n).length = n := by rw [← e1, hne]
              rw [e1, e2] at hc0 hst
              rw [← hne] at hpos hle
              have HSTEP := Lib.hid hst
              have HC := Lib.hid hc0
              have hn0 := hpos
              have hnl := hle
              clear ha ht hne hc0 hst e1 e2 hpos hle hd hv
              have hdl : ((c :: r).drop n).length < (c :: r).length := by rw [List.length_drop]; omega
              obtain ⟨l', hl'⟩ : ∃ l', l' = (c :: r).drop n := ⟨_, rfl⟩
              rw [← hl'] at HC hdl
              have hlt' : (l'.length : Int) < ((c :: r).length : Int) := by omega
              have HDL := Lib.hid hdl
              have HRR : Hid (lexA l' (a + n) (acc ++ [⟨3, (c :: r).take n, (valS 0 ((c :: r).take n) : Nat), a⟩]) = R) := Lib.hid (by rw [hl', ← lexA_tok HSTEP.out]; exact HR.out)
              clear hl' hdl
              go_wp2_with (go_at_call 97; refine HC.out.mono ?_; rintro e w3 ⟨rfl, tv3, mc3, hmc3, ha3⟩; have HA3 := Lib.hid ha3; have d0 := (show Row w3 b 139 _ from ha3.row_).cell 0; simp at d0; clear ha3 HC)
              go_roundg l'.length
              case rel => exact ⟨rfl, tv3, mc3, l', (a + n), (acc ++ [⟨3, (c :: r).take n, (valS 0 ((c :: r).take n) : Nat), a⟩]), rfl, hmc3, HA3.out, HRR.out⟩
              case measure => have := HDL.out; omega
            · have HSTEP : Hid (stepS (c :: r) = .bad 4) := Lib.hid (by rw [step_num HNB.out HL.out hd, if_neg hv])
              have HC := Lib.hid (mNum_bad s W0 W1 _ wr b mb mc tv c r a acc ha hd hv)
              clear ha ht hd hv
              go_wp2_with (go_at_call 97; refine HC.out.mono ?_; rintro e w3 ⟨rfl, ha3⟩; have HA3 := Lib.hid ha3; clear ha3 HC)
              go_ret
              exact .inr ⟨a, 4, _, _, _, _, _, _, HR.out.symm.trans (lexA_bad HSTEP.out a acc), by decide, rfl, HA3.out⟩
          · have hd' : dgt c = false := (Bool.not_eq_true _).mp hd
            have HD := Lib.hid hd'
            have HC := Lib.hid (mNum_off s W0 W1 _ wr b mb mc tv c r a acc hmc ha hd')
            clear ha ht hd hd'
            go_wp2_with (go_at_call 97; refine HC.out.mono ?_; rintro e w3 ⟨rfl, tv3, mc3, hmc3, ha3⟩; have HA3 := Lib.hid ha3; have d0 := (show Row w3 b 139 _ from ha3.row_).cell 0; simp at d0; clear ha3 HC)
            go_roundg 1
            case rel => exact ⟨rfl, 3, by omega, rfl, ⟨tv3, mc3, hmc3, HA3.out⟩, ⟨fun _ => HNB.out, fun _ => HL.out, fun _ => HD.out, fun h => absurd h (by omega)⟩⟩
            case measure => omega
        · have HNB := Lib.hid (HT.out.1 (by omega))
          have HL := Lib.hid (HT.out.2.1 (by omega))
          have HD := Lib.hid (HT.out.2.2.1 (by omega))
          cases hf : signsL.find? (fun s => s.isPrefixOf (c :: r)) with
          | some x =>
            have hst : stepS (c :: r) = .tok 4 x.length 0 := by rw [step_sign HNB.out HL.out HD.out, hf]
            have hc0 := mSign_on s W0 W1 _ wr b mb mc tv (c :: r) a acc hmc ha x hf
            have hpos := signs_pos x (List.mem_of_find?_eq_some hf)
            have hpx : x.isPrefixOf (c :: r) = true := List.find?_some (p := fun s : T => s.isPrefixOf (c :: r)) hf
            have hle := prefix_len hpx
            have hxt : x = (c :: r).take x.length := List.prefix_iff_eq_take.1 (List.isPrefixOf_iff_prefix.1 hpx)
            obtain ⟨n, hne⟩ : ∃ n, n = x.length := ⟨_, rfl⟩
            rw [← hne] at hst hc0 hpos hle hxt
            rw [hxt] at hc0
            have HSTEP := Lib.hid hst
            have HC := Lib.hid hc0
            have hn0 := hpos
            have hnl := hle
            clear ha ht hf hst hc0 hpos hpx hle hxt hne
            have hdl : ((c :: r).drop n).length < (c :: r).length := by rw [List.length_drop]; omega
            obtain ⟨l', hl'⟩ : ∃ l', l' = (c :: r).drop n := ⟨_, rfl⟩
            rw [← hl'] at HC hdl
            have hlt' : (l'.length : Int) < ((c :: r).length : Int) := by omega
            have HDL := Lib.hid hdl
            have HRR : Hid (lexA l' (a + n) (acc ++ [⟨4, (c :: r).take n, 0, a⟩]) = R) := Lib.hid (by rw [hl', ← lexA_tok HSTEP.out]; exact HR.out)
            clear hl' hdl
            go_wp2_with (go_at_call 98; refine HC.out.mono ?_; rintro e w3 ⟨rfl, tv3, mc3, hmc3, ha3⟩; have HA3 := Lib.hid ha3; have d0 := (show Row w3 b 139 _ from ha3.row_).cell 0; simp at d0; clear ha3 HC)
            go_roundg l'.length
            case rel => exact ⟨rfl, tv3, mc3, l', (a + n), (acc ++ [⟨4, (c :: r).take n, 0, a⟩]), rfl, hmc3, HA3.out, HRR.out⟩
            case measure => have := HDL.out; omega
          | none =>
            have HF := Lib.hid hf
            have HC := Lib.hid (mSign_off s W0 W1 _ wr b mb mc tv (c :: r) a acc hmc ha hf)
            clear ha ht hf
            go_wp2_with (go_at_call 98; refine HC.out.mono ?_; rintro e w3 ⟨rfl, tv3, mc3, hmc3, ha3⟩; have HA3 := Lib.hid ha3; have d0 := (show Row w3 b 139 _ from ha3.row_).cell 0; simp at d0; clear ha3 HC)
            go_roundg 0
            case rel => exact ⟨rfl, 4, by omega, rfl, ⟨tv3, mc3, hmc3, HA3.out⟩, ⟨fun _ => HNB.out, fun _ => HL.out, fun _ => HD.out, fun _ => HF.out⟩⟩
            case measure => omega
        · have HSTEP : Hid (stepS (c :: r) = .bad 2) := Lib.hid (by rw [step_sign (HT.out.1 (by omega)) (HT.out.2.1 (by omega)) (HT.out.2.2.1 (by omega)), HT.out.2.2.2 (by omega)])
          clear ha ht
          go_wp2_with fail
          go_ret
          exact .inr ⟨a, 2, _, _, _, _, _, _, HR.out.symm.trans (lexA_bad HSTEP.out a acc), by decide, rfl, HA.out⟩

end Go.Proofs.YtdabndiaflagpaaGreatDoor
