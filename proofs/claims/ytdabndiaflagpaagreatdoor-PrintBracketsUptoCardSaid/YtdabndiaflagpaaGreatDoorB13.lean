/- Parts: LxG. -/
import Derived.Test.YtdabndiaflagpaaGreatDoorB11
set_option maxRecDepth 100000
set_option maxHeartbeats 4000000
set_option linter.unusedVariables false
namespace Go.Proofs.YtdabndiaflagpaaGreatDoor
open Go.RowKit

def signV : Array Value := (signsL.map fun l => Value.string ⟨l.toArray⟩).toArray

theorem idx_any (arr : Array Value) (i : Nat) (y : ByteArray) (w : World) (hi : i < 16) (h : arr[i]? = some (.string y)) : (Instr.index 194 (.agg arr) (.int .i64 (i : Int))).run Tryz.prog w = .ok (.string y) w := by
  have hu : Tryz.prog.underlying 194 = some (.array 16 9) := by kernel_rfl
  have hn : 0 ≤ (i : Int) ∧ (i : Int) < ((16 : Nat) : Int) := by omega
  simp [Instr.index, run_underlying hu, asIntOf, go_sem, h, hi]
theorem find_first {p : T → Bool} {xs : List T} {y : T} : ∀ {i : Nat}, xs[i]? = some y → p y = true → (∀ (j : Nat) x, j < i → xs[j]? = some x → p x = false) → xs.find? p = some y := by
  induction xs with
  | nil => intro i h; simp at h
  | cons x r ih =>
    intro i h hp hj
    cases i with
    | zero => simp at h; subst h; simp [hp]
    | succ i =>
      simp at h
      rw [List.find?_cons, hj 0 x (by omega) rfl]
      exact ih h hp fun j z hjj hz => hj (j + 1) z (by omega) (by simpa using hz)

set_option maxRecDepth 100000 in
set_option maxHeartbeats 1000000 in
theorem mSign_on (s : T) (W0 W1 : World) (B : Nat) (w : World) (b mb mc : Nat) (tv : Value) (l : T) (a : Nat) (acc : List Tk) (hmc : mc ≤ a) (h : LxAt s W0 W1 B w b mb mc tv l a acc) (x : T) (hf : signsL.find? (fun s => s.isPrefixOf l) = some x) :
    Calls Tryz.prog 98 #[.pointer (some ⟨b, 0, none⟩)] w (Part s W0 W1 B b mb 0 (l.drop x.length) (a + x.length) (acc ++ [⟨4, x, 0, a⟩])) := by
  have hrow := (show Row w b 139 _ from h.row_)
  have c0 := hrow.cell 0
  simp at c0
  have hs := (h.env_.later h.below_).signs
  have s0 := hs 0 _ rfl
  have s1 := hs 1 _ rfl
  have s2 := hs 2 _ rfl
  have s3 := hs 3 _ rfl
  have s4 := hs 4 _ rfl
  have s5 := hs 5 _ rfl
  have s6 := hs 6 _ rfl
  have s7 := hs 7 _ rfl
  have s8 := hs 8 _ rfl
  have s9 := hs 9 _ rfl
  have s10 := hs 10 _ rfl
  have s11 := hs 11 _ rfl
  have s12 := hs 12 _ rfl
  have s13 := hs 13 _ rfl
  have s14 := hs 14 _ rfl
  have s15 := hs 15 _ rfl
  have HAT := Lib.hid h
  have hpx : x.isPrefixOf l = true := List.find?_some (p := fun s : T => s.isPrefixOf l) hf
  have hpos := signs_pos x (List.mem_of_find?_eq_some hf)
  have hlx : l = x ++ l.drop x.length := by
    obtain ⟨r, hr⟩ := List.isPrefixOf_iff_prefix.1 hpx
    rw [← hr, List.drop_left]
  have HTK : Hid (Calls Tryz.prog 128 #[.pointer (some ⟨b, 0, none⟩), .int .i64 4, .string ⟨x.toArray⟩, .int .i64 0] w fun e w' => e = .returned (.tuple #[]) ∧ ∃ tv', LxAt s W0 W1 B w' b mb mc tv' (l.drop x.length) (a + x.length) (acc ++ [⟨4, x, 0, a⟩])) :=
    take_any s W0 W1 B w b mb mc tv x (l.drop x.length) a acc 4 0 hpos (by rw [← hlx]; exact h)
  clear hrow h hs hlx
  go_enter Tryz.func98, Tryz.ntmps98
  go_wp2_with fail
  have hgen : #[Value.string ⟨#[60, 62]⟩, Value.string ⟨#[60, 61]⟩, Value.string ⟨#[62, 61]⟩, Value.string ⟨#[61, 62]⟩, Value.string ⟨#[45, 62]⟩, Value.string ⟨#[40]⟩, Value.string ⟨#[41]⟩, Value.string ⟨#[44]⟩, Value.string ⟨#[59]⟩, Value.string ⟨#[58]⟩, Value.string ⟨#[61]⟩, Value.string ⟨#[60]⟩, Value.string ⟨#[62]⟩, Value.string ⟨#[43]⟩, Value.string ⟨#[45]⟩, Value.string ⟨#[42]⟩] = signV := rfl
  rw [hgen]
  have hsz : signV.size = 16 := rfl
  have HS : Hid (∀ (i : Nat) x, signsL[i]? = some x → signV[i]? = some (.string ⟨x.toArray⟩)) := fun i x hx => by
    unfold signV
    rw [← Array.getElem?_toList]
    simp [hx]
  generalize signV = arr at hsz HS ⊢
  clear hgen s0 s1 s2 s3 s4 s5 s6 s7 s8 s9 s10 s11 s12 s13 s14 s15
  go_loopw [6] (fun k w2 => ∃ i : Nat, i ≤ 16 ∧ k = .int .i64 i ∧ (∀ (j : Nat) x, j < i → signsL[j]? = some x → x.isPrefixOf l = false) ∧ w = w2) (fun k _ => 16 - (intOf k).toNat)
  case atStart => exact ⟨0, by omega, rfl, fun j x h => by omega, rfl⟩
  case round =>
    obtain ⟨i, hi, rfl, hj, rfl⟩ := hrel
    have HJ := Lib.hid hj
    clear hj
    by_cases hlt : i < 16
    · obtain ⟨y, hy⟩ : ∃ y, signsL[i]? = some y := ⟨_, List.getElem?_eq_getElem (by show i < 16; exact hlt)⟩
      have hai := idx_any arr i ⟨y.toArray⟩ w hlt (HS.out i y hy)
      have HY := Lib.hid hy
      have hpf : Calls Tryz.prog 131 #[.string ⟨l.toArray⟩, .string ⟨y.toArray⟩] w fun e w' => e = .returned (.bool (y.isPrefixOf l)) ∧ w' = w := Tryz.strings_HasPrefix ⟨l.toArray⟩ ⟨y.toArray⟩ w
      clear hy
      by_cases hp : y.isPrefixOf l = true
      · have hxy : y = x := by
          have := find_first (p := fun s : T => s.isPrefixOf l) HY.out hp HJ.out
          rw [hf] at this
          injection this with this
          exact this.symm
        subst hxy
        rw [hp] at hpf
        have HPF := Lib.hid hpf
        clear hpf hp
        go_wp2_with (first
          | (go_at_call 131; refine HPF.out.mono ?_; rintro e w1 ⟨rfl, rfl⟩)
          | (go_at_call 128; refine HTK.out.mono ?_; rintro e w2 ⟨rfl, tv2, ha2⟩; have HA2 := Lib.hid ha2; clear ha2))
        go_ret
        exact ⟨rfl, tv2, mc, by omega, HA2.out⟩
      · have hp' : y.isPrefixOf l = false := (Bool.not_eq_true _).mp hp
        rw [hp'] at hpf
        have HPF := Lib.hid hpf
        have HP := Lib.hid hp'
        clear hpf hp hp'
        go_wp2_with (go_at_call 131; refine HPF.out.mono ?_; rintro e w1 ⟨rfl, rfl⟩)
        go_roundw
        case rel => exact ⟨i + 1, by omega, by go_num, fun j x hj hx => by
          by_cases e : j = i
          · subst e; rw [HY.out] at hx; injection hx with hx; rw [← hx]; exact HP.out
          · exact HJ.out j x (by omega) hx, by first | rfl | trivial⟩
        case measure => simp [intOf]; omega
    · obtain rfl : i = 16 := by omega
      exfalso
      have := List.find?_some hf
      obtain ⟨j, hj, hjx⟩ := List.getElem_of_mem (List.mem_of_find?_eq_some hf)
      have h1 := HJ.out j x (by have : signsL.length = 16 := rfl; omega) (by rw [List.getElem?_eq_getElem hj, hjx])
      rw [h1] at this
      cases this

set_option maxRecDepth 100000 in
set_option maxHeartbeats 1000000 in
theorem mSign_off (s : T) (W0 W1 : World) (B : Nat) (w : World) (b mb mc : Nat) (tv : Value) (l : T) (a : Nat) (acc : List Tk) (hmc : mc ≤ a) (h : LxAt s W0 W1 B w b mb mc tv l a acc) (hf : signsL.find? (fun s => s.isPrefixOf l) = none) :
    Calls Tryz.prog 98 #[.pointer (some ⟨b, 0, none⟩)] w (Part s W0 W1 B b mb 0 l a acc) := by
  have hrow := (show Row w b 139 _ from h.row_)
  have c0 := hrow.cell 0
  simp at c0
  have hs := (h.env_.later h.below_).signs
  have s0 := hs 0 _ rfl
  have s1 := hs 1 _ rfl
  have s2 := hs 2 _ rfl
  have s3 := hs 3 _ rfl
  have s4 := hs 4 _ rfl
  have s5 := hs 5 _ rfl
  have s6 := hs 6 _ rfl
  have s7 := hs 7 _ rfl
  have s8 := hs 8 _ rfl
  have s9 := hs 9 _ rfl
  have s10 := hs 10 _ rfl
  have s11 := hs 11 _ rfl
  have s12 := hs 12 _ rfl
  have s13 := hs 13 _ rfl
  have s14 := hs 14 _ rfl
  have s15 := hs 15 _ rfl
  have HAT := Lib.hid h
  clear hrow h hs
  go_enter Tryz.func98, Tryz.ntmps98
  go_wp2_with fail
  have hgen : #[Value.string ⟨#[60, 62]⟩, Value.string ⟨#[60, 61]⟩, Value.string ⟨#[62, 61]⟩, Value.string ⟨#[61, 62]⟩, Value.string ⟨#[45, 62]⟩, Value.string ⟨#[40]⟩, Value.string ⟨#[41]⟩, Value.string ⟨#[44]⟩, Value.string ⟨#[59]⟩, Value.string ⟨#[58]⟩, Value.string ⟨#[61]⟩, Value.string ⟨#[60]⟩, Value.string ⟨#[62]⟩, Value.string ⟨#[43]⟩, Value.string ⟨#[45]⟩, Value.string ⟨#[42]⟩] = signV := rfl
  rw [hgen]
  have hsz : signV.size = 16 := rfl
  have HS : Hid (∀ (i : Nat) x, signsL[i]? = some x → signV[i]? = some (.string ⟨x.toArray⟩)) := fun i x hx => by
    unfold signV
    rw [← Array.getElem?_toList]
    simp [hx]
  generalize signV = arr at hsz HS ⊢
  clear hgen s0 s1 s2 s3 s4 s5 s6 s7 s8 s9 s10 s11 s12 s13 s14 s15
  go_loopw [6] (fun k w2 => ∃ i : Nat, i ≤ 16 ∧ k = .int .i64 i ∧ (∀ (j : Nat) x, j < i → signsL[j]? = some x → x.isPrefixOf l = false) ∧ w = w2) (fun k _ => 16 - (intOf k).toNat)
  case atStart => exact ⟨0, by omega, rfl, fun j x h => by omega, rfl⟩
  case round =>
    obtain ⟨i, hi, rfl, hj, rfl⟩ := hrel
    have HJ := Lib.hid hj
    clear hj
    by_cases hlt : i < 16
    · obtain ⟨y, hy⟩ : ∃ y, signsL[i]? = some y := ⟨_, List.getElem?_eq_getElem (by show i < 16; exact hlt)⟩
      have hai := idx_any arr i ⟨y.toArray⟩ w hlt (HS.out i y hy)
      have HY := Lib.hid hy
      have hpf : Calls Tryz.prog 131 #[.string ⟨l.toArray⟩, .string ⟨y.toArray⟩] w fun e w' => e = .returned (.bool (y.isPrefixOf l)) ∧ w' = w := Tryz.strings_HasPrefix ⟨l.toArray⟩ ⟨y.toArray⟩ w
      clear hy
      by_cases hp : y.isPrefixOf l = true
      · exfalso
        have := List.find?_eq_none.1 hf y (List.mem_of_getElem? HY.out)
        exact this hp
      · have hp' : y.isPrefixOf l = false := (Bool.not_eq_true _).mp hp
        rw [hp'] at hpf
        have HPF := Lib.hid hpf
        have HP := Lib.hid hp'
        clear hpf hp hp'
        go_wp2_with (go_at_call 131; refine HPF.out.mono ?_; rintro e w1 ⟨rfl, rfl⟩)
        go_roundw
        case rel => exact ⟨i + 1, by omega, by go_num, fun j x hj hx => by
          by_cases e : j = i
          · subst e; rw [HY.out] at hx; injection hx with hx; rw [← hx]; exact HP.out
          · exact HJ.out j x (by omega) hx, by first | rfl | trivial⟩
        case measure => simp [intOf]; omega
    · obtain rfl : i = 16 := by omega
      go_wp2_with fail
      go_ret
      exact ⟨rfl, tv, mc, hmc, HAT.out⟩

end Go.Proofs.YtdabndiaflagpaaGreatDoor
