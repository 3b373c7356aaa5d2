/- DERIVED. The reference passes what stands between. -/
import Derived.Test.YtfajnflfonechaaDoorLxR2
import Derived.Test.YtfajnflfonechaaDoorLxA0
namespace Go.Proofs.YtfajnflfonechaaDoor
open Go.RowKit

theorem tw_at {p : UInt8 → Bool} {l : T} : ∀ {j : Nat}, j < (l.takeWhile p).length → ∃ d, l[j]? = some d ∧ p d = true := by
  induction l with
  | nil => intro j h; simp at h
  | cons c r ih =>
    intro j h
    by_cases hc : p c = true
    · rw [List.takeWhile_cons, if_pos hc, List.length_cons] at h
      cases j with
      | zero => exact ⟨c, rfl, hc⟩
      | succ j =>
        obtain ⟨d, h1, h2⟩ := ih (j := j) (by omega)
        exact ⟨d, by simpa using h1, h2⟩
    · rw [List.takeWhile_cons, if_neg hc] at h
      simp at h
theorem tw_end {p : UInt8 → Bool} {l : T} {d : UInt8} (h : l[(l.takeWhile p).length]? = some d) : p d = false := by
  induction l with
  | nil => simp at h
  | cons c r ih =>
    by_cases hc : p c = true
    · rw [List.takeWhile_cons, if_pos hc, List.length_cons, List.getElem?_cons_succ] at h
      exact ih h
    · rw [List.takeWhile_cons, if_neg hc] at h
      simp at h
      rw [← h]
      exact (Bool.not_eq_true _).mp hc
theorem drop_cons {s : T} {p : Nat} {c : UInt8} (h : s[p]? = some c) : s.drop p = c :: s.drop (p + 1) := by
  obtain ⟨h1, h2⟩ := List.getElem?_eq_some_iff.1 h
  rw [List.drop_eq_getElem_cons h1, h2]
theorem blk_cases (c : UInt8) : blk c = true → (c.toNat : Int) = 32 ∨ (c.toNat : Int) = 9 ∨ (c.toNat : Int) = 13 ∨ (c.toNat : Int) = 10 := by
  intro h
  unfold blk at h
  simp only [Bool.or_eq_true, beq_iff_eq] at h
  rcases h with ((rfl | rfl) | rfl) | rfl
  · exact .inl rfl
  · exact .inr (.inl rfl)
  · exact .inr (.inr (.inl rfl))
  · exact .inr (.inr (.inr rfl))
theorem not_blk {c : UInt8} (h : blk c = false) : ¬ (c.toNat : Int) = 32 ∧ ¬ (c.toNat : Int) = 9 ∧ ¬ (c.toNat : Int) = 13 ∧ ¬ (c.toNat : Int) = 10 := by
  have key : ∀ n : Nat, n < 256 → (c.toNat : Int) = (n : Int) → c = UInt8.ofNat n := fun n hn e => by
    apply UInt8.toNat_inj.1
    rw [UInt8.toNat_ofNat']
    omega
  refine ⟨fun e => ?_, fun e => ?_, fun e => ?_, fun e => ?_⟩
  · have := key 32 (by omega) e; subst this; revert h; decide
  · have := key 9 (by omega) e; subst this; revert h; decide
  · have := key 13 (by omega) e; subst this; revert h; decide
  · have := key 10 (by omega) e; subst this; revert h; decide
theorem step_line {c : UInt8} {r : T} (hb : blk c = false) (h1 : [45, 45].isPrefixOf (c :: r) = true) : stepS (c :: r) = .skip ((c :: r).takeWhile nnl).length := by
  unfold stepS
  simp only [hb, h1]
  rfl
theorem step_note {c : UInt8} {r : T} (hb : blk c = false) (h1 : [45, 45].isPrefixOf (c :: r) = false) (h2 : [40, 42].isPrefixOf (c :: r) = true) : stepS (c :: r) = (match endOf ((c :: r).drop 2) with | none => .bad 2 | some n => .skip (n + 4)) := by
  unfold stepS
  simp only [hb, h1, h2]
  rfl
theorem endOf_step {s : T} {q : Nat} (hq : q < s.length) (h : [42, 41].isPrefixOf (s.drop q) = false) : endOf (s.drop q) = (endOf (s.drop (q + 1))).map (· + 1) := by
  have e := drop_cons (List.getElem?_eq_getElem hq)
  rw [e] at h ⊢
  conv => lhs; unfold endOf
  rw [h]
  rfl
theorem endOf_here {l : T} (h : [42, 41].isPrefixOf l = true) : endOf l = some 0 := by
  cases l with
  | nil => simp at h
  | cons c r => unfold endOf; rw [if_pos h]

def SkipPost (s : T) (a : Nat) (w : World) (e : Ending) (w' : World) : Prop := w = w' ∧ ∃ p : Nat, a ≤ p ∧ p ≤ s.length ∧
  ((e = .returned (.tuple #[.int .i64 (p : Int), .int .i64 (-1)]) ∧ (∀ acc, lexA (s.drop a) a acc = lexA (s.drop p) p acc) ∧ (∀ c r, s.drop p = c :: r → NoBet c r)) ∨
   (e = .returned (.tuple #[.int .i64 (p : Int), .int .i64 (p : Int)]) ∧ ∀ acc, lexA (s.drop a) a acc = ([], p, 2)))

set_option maxRecDepth 100000 in
set_option maxHeartbeats 4000000 in
theorem skip_any (s : T) (a : Nat) (w : World) (hs : s.length ≤ 1000000) (ha : a ≤ s.length) :
    Calls Tryd.prog 23 #[.string ⟨s.toArray⟩, .int .i64 (a : Int)] w (SkipPost s a w) := by
  go_enter Tryd.func23, Tryd.ntmps23
  go_wp2_with fail
  go_loopg [1, 6] (s.length - a) (fun g k q wr => ∃ p : Nat, p + g = s.length ∧ a ≤ p ∧ k = .int .i64 (p : Int) ∧ (∀ acc, lexA (s.drop a) a acc = lexA (s.drop p) p acc) ∧ w = wr)
  case atStart => exact ⟨a, by omega, by omega, rfl, fun _ => rfl, rfl⟩
  case round =>
    obtain ⟨p, hp, hap, rfl, hq, rfl⟩ := hrel
    have HQ := Lib.hid hq
    clear hq
    by_cases hlt : p < s.length
    · obtain ⟨c, h', hc, hcc⟩ := byte_at hlt
      have HD : Hid (s.drop p = c :: s.drop (p + 1)) := Lib.hid (drop_cons hc)
      clear hc
      by_cases hb : blk c = true
      · have HN : Hid (∀ acc, lexA (s.drop a) a acc = lexA (s.drop (p + 1)) (p + 1) acc) := Lib.hid fun acc => by rw [HQ.out acc, HD.out, lexA_blank hb]
        obtain h1 | h1 | h1 | h1 := blk_cases c hb
        all_goals
          clear hb
          go_wp2_with fail
          go_roundg (s.length - (p + 1))
          case rel => exact ⟨p + 1, by omega, by omega, by go_num, HN.out, rfl⟩
          case measure => omega
      · have hb' : blk c = false := (Bool.not_eq_true _).mp hb
        obtain ⟨n1, n2, n3, n4⟩ : ((c.toNat : Int) == 32) = false ∧ ((c.toNat : Int) == 9) = false ∧ ((c.toNat : Int) == 13) = false ∧ ((c.toNat : Int) == 10) = false := by
          have h := not_blk hb'
          simp only [beq_eq_false_iff_ne, ne_eq]
          exact h
        have c1 := begins_any s [45, 45] p w hs (by decide) (by omega)
        have c2 := begins_any s [40, 42] p w hs (by decide) (by omega)
        by_cases h1 : [45, 45].isPrefixOf (s.drop p) = true
        · rw [h1] at c1
          have HC1 := Lib.hid c1
          obtain ⟨n, hn⟩ : ∃ n, n = ((s.drop p).takeWhile nnl).length := ⟨_, rfl⟩
          have HST : Hid (stepS (s.drop p) = .skip n) := Lib.hid (by rw [hn]; rw [HD.out] at h1 ⊢; exact step_line hb' h1)
          have HAT : Hid (∀ j, j < n → ∃ d, s[p + j]? = some d ∧ nnl d = true) := Lib.hid fun j hj => by
            obtain ⟨d, h1, h2⟩ := tw_at (l := s.drop p) (by rw [hn] at hj; exact hj)
            exact ⟨d, by rw [List.getElem?_drop] at h1; exact h1, h2⟩
          have HEN : Hid (∀ d, s[p + n]? = some d → nnl d = false) := Lib.hid fun d hd => tw_end (l := s.drop p) (d := d) (by rw [← hn, List.getElem?_drop]; exact hd)
          have hnl : p + n ≤ s.length := by have := takeWhile_le (p := nnl) (s.drop p); rw [← hn, List.length_drop] at this; omega
          have hnp : 0 < n := (step_skip HST.out).1
          have HN : Hid (∀ acc, lexA (s.drop a) a acc = lexA (s.drop (p + n)) (p + n) acc) := Lib.hid fun acc => by rw [HQ.out acc, lexA_skip HST.out, List.drop_drop]
          clear hb hb' c1 c2 h1 hn
          go_wp2_with (go_at_call 28; refine HC1.out.mono ?_; rintro e w1 ⟨rfl, rfl⟩)
          clear hcc h' n1 n2 n3 n4 HD
          go_loopg [1] n (fun g k wr => ∃ j : Nat, j + g = n ∧ k = .int .i64 ((p + j : Nat) : Int) ∧ w = wr)
          case atStart => exact ⟨0, by omega, by simp, rfl⟩
          case round =>
            obtain ⟨j, hj, rfl, rfl⟩ := hrel
            by_cases hjn : j < n
            · obtain ⟨d, hd, hd2⟩ := HAT.out j hjn
              have hlt3 : p + j < s.length := by omega
              obtain ⟨d', h', hc, hcc⟩ := byte_at hlt3
              rw [hd] at hc
              injection hc with hc
              subst hc
              have hn11 : ¬ (d.toNat : Int) = 10 := fun e => by
                have : d = 10 := by apply UInt8.toNat_inj.1; exact Int.ofNat.inj e
                subst this; revert hd2; decide
              have hn10 : ((d.toNat : Int) != 10) = true := by simp only [bne_iff_ne, ne_eq]; exact hn11
              clear hn11
              clear hd hd2
              go_wp2_with fail
              go_roundg (n - (j + 1))
              case rel => exact ⟨j + 1, by omega, by go_num, rfl⟩
              case measure => omega
            · obtain rfl : j = n := by omega
              by_cases hlt3 : p + j < s.length
              · obtain ⟨d, h', hc, hcc⟩ := byte_at hlt3
                have hd2 := HEN.out d hc
                have hn10 : (d.toNat : Int) = 10 := by
                  unfold nnl at hd2
                  simp at hd2
                  rw [hd2]; rfl
                clear hd2 hc
                go_wp2_with fail
                go_roundg (s.length - (p + j))
                case rel => exact ⟨p + j, by omega, by omega, rfl, HN.out, rfl⟩
                case measure => omega
              · go_wp2_with fail
                go_roundg (s.length - (p + j))
                case rel => exact ⟨p + j, by omega, by omega, rfl, HN.out, rfl⟩
                case measure => omega
        · have h1' : [45, 45].isPrefixOf (s.drop p) = false := (Bool.not_eq_true _).mp h1
          rw [h1'] at c1
          by_cases h2 : [40, 42].isPrefixOf (s.drop p) = true
          · rw [h2] at c2
            have HC1 := Lib.hid c1
            have HC2 := Lib.hid c2
            have HST : Hid (stepS (s.drop p) = (match endOf (s.drop (p + 2)) with | none => .bad 2 | some n => .skip (n + 4))) := Lib.hid (by
              have e : (s.drop p).drop 2 = s.drop (p + 2) := List.drop_drop
              rw [← e]
              rw [HD.out] at h1' h2 ⊢; exact step_note hb' h1' h2)
            have hp2 : p + 2 ≤ s.length := by have := prefix_len h2; rw [List.length_drop] at this; simp only [List.length_cons, List.length_nil] at this; omega
            have HBE : Hid (∀ q, q ≤ s.length → Calls Tryd.prog 28 #[.string ⟨s.toArray⟩, .int .i64 (q : Int), .string ⟨#[42, 41]⟩] w fun e w' => e = .returned (.bool ([42, 41].isPrefixOf (s.drop q))) ∧ w = w') := Lib.hid fun q hq => begins_any s [42, 41] q w hs (by decide) hq
            clear hb hb' c1 c2 h1 h1' h2
            go_wp2_with (go_at_call 28; refine HC1.out.mono ?_; rintro e w1 ⟨rfl, rfl⟩; clear HC1)
            go_wp2_with (go_at_call 28; refine HC2.out.mono ?_; rintro e w1 ⟨rfl, rfl⟩; clear HC2)
            clear hcc h' n1 n2 n3 n4 HD
            go_loopg [6] (s.length - (p + 2)) (fun g k wr => ∃ j : Nat, j + g = s.length - (p + 2) ∧ k = .int .i64 ((p + 2 + j : Nat) : Int) ∧ endOf (s.drop (p + 2)) = (endOf (s.drop (p + 2 + j))).map (· + j) ∧ w = wr)
            case atStart => exact ⟨0, by omega, by go_num, by simp, rfl⟩
            case round =>
              obtain ⟨j, hj, rfl, he, rfl⟩ := hrel
              have HE := Lib.hid he
              clear he
              by_cases hlt3 : p + 2 + j < s.length
              · have hcall := HBE.out (p + 2 + j) (by omega)
                by_cases h3 : [42, 41].isPrefixOf (s.drop (p + 2 + j)) = true
                · rw [h3] at hcall
                  have HK := Lib.hid hcall
                  have HEO : Hid (endOf (s.drop (p + 2)) = some j) := Lib.hid (by rw [HE.out, endOf_here h3]; simp)
                  have HST2 : Hid (stepS (s.drop p) = .skip (j + 4)) := Lib.hid (by rw [HST.out, HEO.out])
                  have hle : p + (j + 4) ≤ s.length := by have := (step_skip HST2.out).2; rw [List.length_drop] at this; omega
                  have HN : Hid (∀ acc, lexA (s.drop a) a acc = lexA (s.drop (p + (j + 4))) (p + (j + 4)) acc) := Lib.hid fun acc => by rw [HQ.out acc, lexA_skip HST2.out, List.drop_drop]
                  clear hcall h3
                  go_wp2_with (go_at_call 28; refine HK.out.mono ?_; rintro e w1 ⟨rfl, rfl⟩)
                  go_roundg (s.length - (p + (j + 4)))
                  case rel => exact ⟨p + (j + 4), by omega, by omega, by go_num, HN.out, rfl⟩
                  case measure => omega
                · have h3' : [42, 41].isPrefixOf (s.drop (p + 2 + j)) = false := (Bool.not_eq_true _).mp h3
                  rw [h3'] at hcall
                  have HK := Lib.hid hcall
                  have HE2 : Hid (endOf (s.drop (p + 2)) = (endOf (s.drop (p + 2 + (j + 1)))).map (· + (j + 1))) := Lib.hid (by
                    rw [HE.out, endOf_step hlt3 h3']
                    show _ = (endOf (s.drop (p + 2 + j + 1))).map _
                    cases endOf (s.drop (p + 2 + j + 1)) with
                    | none => rfl
                    | some m => simp; omega)
                  clear hcall h3 h3'
                  go_wp2_with (go_at_call 28; refine HK.out.mono ?_; rintro e w1 ⟨rfl, rfl⟩)
                  go_roundg (s.length - (p + 2) - (j + 1))
                  case rel => exact ⟨j + 1, by omega, by go_num, HE2.out, rfl⟩
                  case measure => omega
              · have HEO : Hid (endOf (s.drop (p + 2)) = none) := Lib.hid (by rw [HE.out, List.drop_eq_nil_of_le (by omega)]; rfl)
                have HST2 : Hid (stepS (s.drop p) = .bad 2) := Lib.hid (by rw [HST.out, HEO.out])
                have HN : Hid (∀ acc, lexA (s.drop a) a acc = ([], p, 2)) := Lib.hid fun acc => by rw [HQ.out acc, lexA_bad HST2.out]
                go_wp2_with fail
                go_ret2
                exact ⟨rfl, p, by omega, by omega, .inr ⟨rfl, HN.out⟩⟩
          · have h2' : [40, 42].isPrefixOf (s.drop p) = false := (Bool.not_eq_true _).mp h2
            rw [h2'] at c2
            have HC1 := Lib.hid c1
            have HC2 := Lib.hid c2
            have HNB : Hid (∀ c r, s.drop p = c :: r → NoBet c r) := Lib.hid fun c1 r1 e => by
              rw [e] at h1' h2'
              rw [HD.out] at e
              injection e with e1 e2
              exact ⟨e1 ▸ hb', h1', h2'⟩
            clear hb hb' c1 c2 h1 h1' h2 h2'
            go_wp2_with (go_at_call 28; refine HC1.out.mono ?_; rintro e w1 ⟨rfl, rfl⟩; clear HC1)
            go_wp2_with (go_at_call 28; refine HC2.out.mono ?_; rintro e w1 ⟨rfl, rfl⟩; clear HC2)
            go_ret2
            exact ⟨rfl, p, by omega, by omega, .inl ⟨rfl, HQ.out, HNB.out⟩⟩
    · have hpe : p = s.length := by omega
      go_wp2_with fail
      go_ret2
      exact ⟨rfl, p, by omega, by omega, .inl ⟨rfl, HQ.out, fun c r e => by rw [List.drop_eq_nil_of_le (by omega)] at e; cases e⟩⟩

end Go.Proofs.YtfajnflfonechaaDoor
