/- DERIVED. Names: the walks of both sides. -/
import Derived.Test.YtfajnflfonechaaDoorNm
namespace Go.Proofs.YtfajnflfonechaaDoor
open Go.RowKit

def okAt (i : Nat) (z : Int) : Prop := isL z = true ∨ (0 < i ∧ isD z = true)
def nameP (s : T) : Prop := (∀ (i : Nat) (c : UInt8), s[i]? = some c → okAt i (c.toNat : Int)) ∧ 1 ≤ s.length ∧ s.length ≤ 60 ∧ s ∉ wordsL
noncomputable def nameB (s : T) : Bool := @decide (nameP s) (Classical.propDecidable _)
theorem nameB_true {s : T} (h : nameP s) : nameB s = true := @decide_eq_true _ (Classical.propDecidable _) h
theorem nameB_false {s : T} (h : ¬ nameP s) : nameB s = false := @decide_eq_false _ (Classical.propDecidable _) h

theorem nameP_stop {s : T} {i : Nat} {c : UInt8} (hc : s[i]? = some c) (h : ¬ okAt i (c.toNat : Int)) : nameB s = false := nameB_false fun hp => h (hp.1 i c hc)
theorem byte_at {s : T} {i : Nat} (h : i < s.length) : ∃ (c : UInt8) (h' : i < (⟨s.toArray⟩ : ByteArray).size), s[i]? = some c ∧ (⟨s.toArray⟩ : ByteArray)[i] = c :=
  ⟨s[i], by simpa [ByteArray.size] using h, List.getElem?_eq_getElem h, rfl⟩

set_option maxRecDepth 100000 in
set_option maxHeartbeats 1000000 in
theorem refName_any (s : T) (w : World) (hl : s.length ≤ 1099511627776) : Calls Tryd.prog 56 #[.string ⟨s.toArray⟩] w fun e w' => e = .returned (.bool (nameB s)) ∧ Below w.heap.size w w' := by
  go_enter Tryd.func56, Tryd.ntmps56
  go_wp2_with fail
  go_loopw [3] (fun k wr => ∃ i : Nat, i ≤ s.length ∧ k = .int .i64 i ∧ (∀ (j : Nat) (c : UInt8), j < i → s[j]? = some c → okAt j (c.toNat : Int)) ∧ w = wr) (fun k _ => s.length - (intOf k).toNat)
  case atStart => exact ⟨0, by omega, rfl, fun j c h => by omega, rfl⟩
  case round =>
    obtain ⟨i, hi, rfl, hb, rfl⟩ := hrel
    have HN := Lib.hid hb
    clear hb
    have step : ∀ (c0 : UInt8), s[i]? = some c0 → okAt i (c0.toNat : Int) → ∀ (j : Nat) (c : UInt8), j < i + 1 → s[j]? = some c → okAt j (c.toNat : Int) := fun c0 h0 ho j c hj hc => by
      by_cases e : j = i
      · subst e; rw [h0] at hc; injection hc with hc; rw [← hc]; exact ho
      · exact HN.out j c (by omega) hc
    have HS := Lib.hid step
    clear step
    by_cases hlt : i < s.length
    · obtain ⟨c, hlt', hc0, hc⟩ := byte_at hlt
      have HC0 := Lib.hid hc0
      clear hc0
      by_cases hL : isL (c.toNat : Int) = true
      · have HO : Hid (okAt i (c.toNat : Int)) := .inl hL
        go_wp2_with (first | (go_at_call 24; refine (Letter_any _ _).mono ?_; rintro e w1 ⟨rfl, rfl⟩) | (go_at_call 25; refine (Digit_any _ _).mono ?_; rintro e w1 ⟨rfl, rfl⟩))
        refine ⟨⟨i + 1, by omega, by go_num, HS.out c HC0.out HO.out, trivial⟩, by simp [intOf]; omega⟩
      · have hL' : isL (c.toNat : Int) = false := by simpa using hL
        by_cases hp : 0 < i
        · have hp' : (0 : Int) < (i : Int) := by omega
          by_cases hD : isD (c.toNat : Int) = true
          · have HO : Hid (okAt i (c.toNat : Int)) := .inr ⟨hp, hD⟩
            clear hL
            go_wp2_with (first | (go_at_call 24; refine (Letter_any _ _).mono ?_; rintro e w1 ⟨rfl, rfl⟩) | (go_at_call 25; refine (Digit_any _ _).mono ?_; rintro e w1 ⟨rfl, rfl⟩))
            refine ⟨⟨i + 1, by omega, by go_num, HS.out c HC0.out HO.out, trivial⟩, by simp [intOf]; omega⟩
          · have HO : Hid (nameB s = false) := nameP_stop HC0.out (fun ho => ho.elim hL (fun h => hD h.2))
            have hD' : isD (c.toNat : Int) = false := by simpa using hD
            clear hL hD
            go_wp2_with (first | (go_at_call 24; refine (Letter_any _ _).mono ?_; rintro e w1 ⟨rfl, rfl⟩) | (go_at_call 25; refine (Digit_any _ _).mono ?_; rintro e w1 ⟨rfl, rfl⟩))
            go_ret
            exact ⟨ret_bool HO.out.symm, Below.refl _ _⟩
        · have HO : Hid (nameB s = false) := nameP_stop HC0.out (fun ho => ho.elim hL (fun h => hp h.1))
          obtain rfl : i = 0 := by omega
          clear hL hp
          go_wp2_with (first | (go_at_call 24; refine (Letter_any _ _).mono ?_; rintro e w1 ⟨rfl, rfl⟩) | (go_at_call 25; refine (Digit_any _ _).mono ?_; rintro e w1 ⟨rfl, rfl⟩))
          go_ret
          exact ⟨ret_bool HO.out.symm, Below.refl _ _⟩
    · have hall : ∀ (j : Nat) (c : UInt8), s[j]? = some c → okAt j (c.toNat : Int) := fun j c hc => HN.out j c (by
        rcases Nat.lt_or_ge j s.length with h' | h'
        · omega
        · rw [List.getElem?_eq_none h'] at hc; cases hc) hc
      have HA := Lib.hid hall
      clear hall
      by_cases h1 : 1 ≤ s.length
      · by_cases h2 : s.length ≤ 60
        · by_cases h3 : wordB s = true
          · have HO : Hid (nameB s = false) := nameB_false fun hp => hp.2.2.2 (of_decide_eq_true h3)
            have h1' : (1 : Int) ≤ (s.length : Int) := by omega
            have h2' : (s.length : Int) ≤ 60 := by omega
            go_wp2_with (go_at_call 26; refine (Word_any s _).mono ?_; rintro e w1 ⟨rfl, hb1⟩; have HB1 := Lib.hid hb1; clear hb1)
            go_ret
            exact ⟨ret_bool HO.out.symm, HB1.out⟩
          · have HO : Hid (nameB s = true) := nameB_true ⟨HA.out, h1, h2, fun hm => h3 (decide_eq_true hm)⟩
            have h3' : wordB s = false := by simpa using h3
            have h1' : (1 : Int) ≤ (s.length : Int) := by omega
            have h2' : (s.length : Int) ≤ 60 := by omega
            clear h3
            go_wp2_with (go_at_call 26; refine (Word_any s _).mono ?_; rintro e w1 ⟨rfl, hb1⟩; have HB1 := Lib.hid hb1; clear hb1)
            go_ret
            exact ⟨ret_bool HO.out.symm, HB1.out⟩
        · have HO : Hid (nameB s = false) := nameB_false fun hp => h2 hp.2.2.1
          go_wp2_with fail
          go_ret
          exact ⟨ret_bool HO.out.symm, Below.refl _ _⟩
      · have HO : Hid (nameB s = false) := nameB_false fun hp => h1 hp.2.1
        obtain rfl : s = [] := List.eq_nil_of_length_eq_zero (by omega)
        go_wp2_with fail
        go_ret
        exact ⟨ret_bool HO.out.symm, Below.refl _ _⟩

set_option maxRecDepth 100000 in
set_option maxHeartbeats 1000000 in
theorem wname_any (b : Nat) (s : T) (w : World) (hl : s.length ≤ 1099511627776) (hw : WM w b) : Calls Tryd.prog 76 #[.map (some b), .string ⟨s.toArray⟩] w fun e w' => e = .returned (.bool (nameB s)) ∧ Below w.heap.size w w' := by
  have HW := Lib.hid hw
  clear hw
  by_cases h1 : 1 ≤ s.length
  · obtain ⟨c0, h0', hc0, hcc⟩ := byte_at (i := 0) (s := s) (by omega)
    have HC0 := Lib.hid hc0
    clear hc0
    have hne : (s == []) = false := by cases s with | nil => simp at h1 | cons a l => rfl
    have hne2 : ¬ s = [] := by rintro rfl; simp at h1
    have HNE := Lib.hid hne2
    clear hne2
    by_cases h2 : s.length ≤ 60
    · have h2' : (s.length : Int) ≤ 60 := by omega
      by_cases hD : isD (c0.toNat : Int) = true
      · have HO : Hid (nameB s = false) := nameP_stop HC0.out (fun ho => ho.elim (fun h => by unfold isL at h; unfold isD at hD; simp at h hD; omega) (fun h => absurd h.1 (by omega)))
        go_enter Tryd.func76, Tryd.ntmps76
        go_wp2_with (first | (go_at_call 100; refine (digit_any _ _).mono ?_; rintro e w1 ⟨rfl, rfl⟩) | (go_at_call 101; refine (letter_any _ _).mono ?_; rintro e w1 ⟨rfl, rfl⟩))
        go_ret
        exact ⟨ret_bool HO.out.symm, Below.refl _ _⟩
      · have hD' : isD (c0.toNat : Int) = false := by simpa using hD
        clear hD
        have hcb := Lib.run_convert_string_bytes (P := Tryd.prog) w 9 80 5 ⟨s.toArray⟩ Tryd.underlying9 Tryd.underlying80 Tryd.underlying5
        have HB : Hid (Below w.heap.size w (Lib.bytesWorld w 5 ⟨s.toArray⟩)) := Lib.hid (bytesWorld_below _ _ _)
        have HC : Hid (∀ (j : Nat) (c : UInt8), s[j]? = some c → (Lib.bytesWorld w 5 ⟨s.toArray⟩).cell? ⟨w.heap.size, j, none⟩ = some (.int .u8 (c.toNat : Int))) := fun j c hj => by
          have hlt : j < s.length := by
            rcases Nat.lt_or_ge j s.length with h' | h'
            · exact h'
            · rw [List.getElem?_eq_none h'] at hj; cases hj
          rw [Lib.bytesWorld_cell w _ _ j (by simpa [ByteArray.size] using hlt)]
          simp [List.getD, hj]
        generalize Lib.bytesWorld w 5 ⟨s.toArray⟩ = wb at hcb HB HC
        generalize grownCap w (⟨s.toArray⟩ : ByteArray).size 0 5 = cp at hcb
        go_enter Tryd.func76, Tryd.ntmps76
        go_wp2_with (first | (go_at_call 100; refine (digit_any _ _).mono ?_; rintro e w1 ⟨rfl, rfl⟩) | (go_at_call 101; refine (letter_any _ _).mono ?_; rintro e w1 ⟨rfl, rfl⟩))
        go_loop [4, 22] (fun r k => r = .bool false ∧ ∃ i : Nat, i ≤ s.length ∧ k = .int .i64 i ∧ (∀ (j : Nat) (c : UInt8), j < i → s[j]? = some c → okAt j (c.toNat : Int))) (fun _ k => s.length - (intOf k).toNat)
        case atStart => exact ⟨rfl, 0, by omega, rfl, fun j c h => by omega⟩
        case round =>
          obtain ⟨rfl, i, hi, rfl, hb⟩ := hrel
          have HN := Lib.hid hb
          clear hb
          by_cases hlt : i < s.length
          · obtain ⟨c, hlt', hc1, _⟩ := byte_at hlt
            have hcell := HC.out i c hc1
            have HC1 := Lib.hid hc1
            clear hc1
            have step : okAt i (c.toNat : Int) → ∀ (j : Nat) (d : UInt8), j < i + 1 → s[j]? = some d → okAt j (d.toNat : Int) := fun ho j d hj hd => by
              by_cases e : j = i
              · subst e; rw [HC1.out] at hd; injection hd with hd; rw [← hd]; exact ho
              · exact HN.out j d (by omega) hd
            have HS := Lib.hid step
            clear step
            by_cases hL : isL (c.toNat : Int) = true
            · have HO : Hid (okAt i (c.toNat : Int)) := .inl hL
              go_wp2_with (first | (go_at_call 100; refine (digit_any _ _).mono ?_; rintro e w1 ⟨rfl, rfl⟩) | (go_at_call 101; refine (letter_any _ _).mono ?_; rintro e w1 ⟨rfl, rfl⟩))
              go_round
              case rel => exact ⟨rfl, i + 1, by omega, by go_num, HS.out HO.out⟩
              case measure => simp [intOf]; omega
            · have hL' : isL (c.toNat : Int) = false := by simpa using hL
              by_cases hE : isD (c.toNat : Int) = true
              · have hp : 0 < i := by
                  rcases Nat.eq_zero_or_pos i with h | h
                  · subst h; have e1 := HC0.out; rw [HC1.out] at e1; injection e1 with e1; rw [e1, hD'] at hE; cases hE
                  · exact h
                have HO : Hid (okAt i (c.toNat : Int)) := .inr ⟨hp, hE⟩
                clear hL hp
                go_wp2_with (first | (go_at_call 100; refine (digit_any _ _).mono ?_; rintro e w1 ⟨rfl, rfl⟩) | (go_at_call 101; refine (letter_any _ _).mono ?_; rintro e w1 ⟨rfl, rfl⟩))
                go_round
                case rel => exact ⟨rfl, i + 1, by omega, by go_num, HS.out HO.out⟩
                case measure => simp [intOf]; omega
              · have HO : Hid (nameB s = false) := nameP_stop HC1.out (fun ho => ho.elim hL (fun h => hE h.2))
                have hE' : isD (c.toNat : Int) = false := by simpa using hE
                clear hL hE
                go_wp2_with (first | (go_at_call 100; refine (digit_any _ _).mono ?_; rintro e w1 ⟨rfl, rfl⟩) | (go_at_call 101; refine (letter_any _ _).mono ?_; rintro e w1 ⟨rfl, rfl⟩))
                go_ret
                exact ⟨ret_bool HO.out.symm, HB.out⟩
          · have hall : ∀ (j : Nat) (c : UInt8), s[j]? = some c → okAt j (c.toNat : Int) := fun j c hc => HN.out j c (by
              rcases Nat.lt_or_ge j s.length with h' | h'
              · omega
              · rw [List.getElem?_eq_none h'] at hc; cases hc) hc
            have HO : Hid (nameB s = !decide (s ∈ wordsL)) := by
              by_cases h3 : s ∈ wordsL
              · rw [nameB_false (fun hp => hp.2.2.2 h3)]
                simp [h3, Hid]
              · rw [nameB_true ⟨hall, h1, h2, h3⟩]
                simp [h3, Hid]
            have HW1 := Lib.hid (WMk.later HW.out HB.out)
            clear hall
            go_wp2_with (with_reducible refine wpList_ask (o := ⟨some 37, _, _, _, _, _⟩) rfl _ _ rfl b _ rfl HW1.out s rfl (by unfold maxLen; omega) ?_)
            go_ret
            exact ⟨ret_bool HO.out.symm, HB.out⟩
    · have HO : Hid (nameB s = false) := nameB_false fun hp => h2 hp.2.2.1
      go_enter Tryd.func76, Tryd.ntmps76
      go_wp2_with (first | (go_at_call 100; refine (digit_any _ _).mono ?_; rintro e w1 ⟨rfl, rfl⟩) | (go_at_call 101; refine (letter_any _ _).mono ?_; rintro e w1 ⟨rfl, rfl⟩))
      go_ret
      exact ⟨ret_bool HO.out.symm, Below.refl _ _⟩
  · have HO : Hid (nameB s = false) := nameB_false fun hp => h1 hp.2.1
    obtain rfl : s = [] := List.eq_nil_of_length_eq_zero (by omega)
    go_enter Tryd.func76, Tryd.ntmps76
    go_wp2_with fail
    go_ret
    exact ⟨ret_bool HO.out.symm, Below.refl _ _⟩

theorem Name_any (s : T) (w : World) (hl : s.length ≤ 1099511627776) : Calls Tryd.prog 94 #[.string ⟨s.toArray⟩] w fun e w' => e = .returned (.bool (nameB s)) ∧ Below w.heap.size w w' := by
  go_enter Tryd.func94, Tryd.ntmps94
  go_wp2_with (first
    | (go_at_call 51; refine (allWords_any w).mono ?_; rintro e w1 ⟨b, rfl, hm, hlt, hb⟩; have HM := Lib.hid hm; have HB := Lib.hid hb; clear hm hb)
    | (go_at_call 76; refine (wname_any b s _ hl HM.out).mono ?_; rintro e w2 ⟨rfl, hb2⟩; have HB2 := Lib.hid hb2; clear hb2))
  go_ret
  exact ⟨rfl, HB.out.trans (HB2.out.mono HB.out.size)⟩

end Go.Proofs.YtfajnflfonechaaDoor
