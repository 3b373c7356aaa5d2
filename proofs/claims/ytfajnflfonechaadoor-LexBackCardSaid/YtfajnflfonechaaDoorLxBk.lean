/- DERIVED. Tokens, put one behind the other with something between, come out again: plain. -/
import Derived.Test.YtfajnflfonechaaDoorLxL
import Derived.Test.YtfajnflfonechaaDoorLxR3
namespace Go.Proofs.YtfajnflfonechaaDoor
open Go.RowKit

/-! ### A token stands by itself -/
def sepC (c : UInt8) : Prop := c ∈ ([32, 10, 9, 40] : T)
theorem sep_ltd {c : UInt8} (h : sepC c) : ltd c = false := by
  have : ∀ c ∈ ([32, 10, 9, 40] : T), ltd c = false := by decide
  exact this c h
theorem sep_dgt {c : UInt8} (h : sepC c) : dgt c = false := by
  have : ∀ c ∈ ([32, 10, 9, 40] : T), dgt c = false := by decide
  exact this c h
theorem ltr_ne {c : UInt8} (h : ltr c = true) (d : UInt8) (hd : ltr d = false) : c ≠ d := fun e => by rw [e, hd] at h; cases h
theorem dgt_ne {c : UInt8} (h : dgt c = true) (d : UInt8) (hd : dgt d = false) : c ≠ d := fun e => by rw [e, hd] at h; cases h
theorem noBet_of {c : UInt8} {r : T} (h : ∀ d ∈ ([32, 9, 13, 10, 45, 40] : T), c ≠ d) : NoBet c r := by
  have h1 := h 32 (by decide)
  have h2 := h 9 (by decide)
  have h3 := h 13 (by decide)
  have h4 := h 10 (by decide)
  have h5 : ((45 : UInt8) == c) = false := by simpa using (h 45 (by decide)).symm
  have h6 : ((40 : UInt8) == c) = false := by simpa using (h 40 (by decide)).symm
  refine ⟨?_, ?_, ?_⟩
  · simp [blk, h1, h2, h3, h4]
  · cases r <;> simp [List.isPrefixOf, h5]
  · cases r <;> simp [List.isPrefixOf, h6]
theorem ltr_noBet {c : UInt8} {r : T} (h : ltr c = true) : NoBet c r := noBet_of fun d hd => ltr_ne h d (by
  have : ∀ d ∈ ([32, 9, 13, 10, 45, 40] : T), ltr d = false := by decide
  exact this d hd)
theorem dgt_noBet {c : UInt8} {r : T} (h : dgt c = true) : NoBet c r := noBet_of fun d hd => dgt_ne h d (by
  have : ∀ d ∈ ([32, 9, 13, 10, 45, 40] : T), dgt d = false := by decide
  exact this d hd)
theorem takeWhile_cut {p : UInt8 → Bool} {l r : T} {c : UInt8} (hl : ∀ x ∈ l, p x = true) (hc : p c = false) : (l ++ c :: r).takeWhile p = l := by
  induction l with
  | nil => simp [hc]
  | cons x l ih =>
    have h1 := hl x (List.mem_cons_self ..)
    rw [List.cons_append, List.takeWhile_cons, if_pos h1, ih fun y hy => hl y (List.mem_cons_of_mem _ hy)]
theorem mem_tw {p : UInt8 → Bool} {l : T} : ∀ x ∈ l.takeWhile p, p x = true := fun _ hx => List.all_eq_true.1 List.all_takeWhile _ hx
theorem sign_again : ∀ s ∈ signsL, ∀ c ∈ ([32, 10, 9, 40] : T), ∀ r : T, stepS (s ++ c :: r) = .tok 4 s.length 0 := by
  intro s hs c hc r
  simp only [signsL, List.mem_cons, List.not_mem_nil, or_false] at hs hc
  rcases hs with rfl | rfl | rfl | rfl | rfl | rfl | rfl | rfl | rfl | rfl | rfl | rfl | rfl | rfl | rfl | rfl <;>
    rcases hc with rfl | rfl | rfl | rfl <;> rfl
theorem step_again {l : T} {k v : Int} {n : Nat} (h : stepS l = .tok k n v) {c : UInt8} (hc : sepC c) (r : T) : stepS (l.take n ++ c :: r) = .tok k n v ∧ (l.take n).length = n := by
  have hn := step_tok h
  have hlen : (l.take n).length = n := by rw [List.length_take]; omega
  refine ⟨?_, hlen⟩
  cases l with
  | nil => simp at hn; omega
  | cons d l =>
    by_cases h1 : ltr d = true
    · rw [step_word (ltr_noBet h1) h1] at h
      obtain ⟨x, hx⟩ : ∃ x, x = (d :: l).takeWhile ltd := ⟨_, rfl⟩
      have hxd : x = d :: l.takeWhile ltd := by rw [hx, List.takeWhile_cons, if_pos (by simp [ltd, h1])]
      have hnx : n = x.length := by
        rw [← hx] at h
        split at h
        · injection h with _ h _; exact h.symm
        · split at h
          · injection h with _ h _; exact h.symm
          · cases h
      have htk : (d :: l).take n = x := by rw [hnx, hx]; exact (takeWhile_take _).symm
      have hall : ∀ y ∈ x, ltd y = true := by rw [hx]; exact mem_tw
      have hcut : (x ++ c :: r).takeWhile ltd = x := takeWhile_cut hall (sep_ltd hc)
      rw [htk]
      have hcut2 := hcut
      rw [hxd] at hcut2 ⊢
      rw [List.cons_append] at hcut2 ⊢
      rw [step_word (ltr_noBet h1) h1, hcut2, ← hxd]
      rw [← hx] at h
      exact h
    · have h1 : ltr d = false := (Bool.not_eq_true _).mp h1
      by_cases h2 : dgt d = true
      · rw [step_num (dgt_noBet h2) h1 h2] at h
        obtain ⟨x, hx⟩ : ∃ x, x = (d :: l).takeWhile dgt := ⟨_, rfl⟩
        have hxd : x = d :: l.takeWhile dgt := by rw [hx, List.takeWhile_cons, if_pos h2]
        have hnx : n = x.length := by
          rw [← hx] at h
          split at h
          · injection h with _ h _; exact h.symm
          · cases h
        have htk : (d :: l).take n = x := by rw [hnx, hx]; exact (takeWhile_take _).symm
        have hall : ∀ y ∈ x, dgt y = true := by rw [hx]; exact mem_tw
        have hcut : (x ++ c :: r).takeWhile dgt = x := takeWhile_cut hall (sep_dgt hc)
        rw [htk]
        have hcut2 := hcut
        rw [hxd] at hcut2 ⊢
        rw [List.cons_append] at hcut2 ⊢
        rw [step_num (dgt_noBet h2) h1 h2, hcut2, ← hxd]
        rw [← hx] at h
        exact h
      · have h2 : dgt d = false := (Bool.not_eq_true _).mp h2
        have hb : NoBet d l := by
          unfold stepS at h
          dsimp only at h
          by_cases g1 : blk d = true
          · rw [if_pos g1] at h; cases h
          · rw [if_neg g1] at h
            by_cases g2 : [45, 45].isPrefixOf (d :: l) = true
            · rw [if_pos g2] at h; cases h
            · rw [if_neg g2] at h
              by_cases g3 : [40, 42].isPrefixOf (d :: l) = true
              · rw [if_pos g3] at h
                split at h <;> cases h
              · exact ⟨(Bool.not_eq_true _).mp g1, (Bool.not_eq_true _).mp g2, (Bool.not_eq_true _).mp g3⟩
        rw [step_sign hb h1 h2] at h
        split at h
        · rename_i s hs
          injection h with e1 e2 e3
          subst e1 e2 e3
          have hp : s.isPrefixOf (d :: l) = true := List.find?_some (p := fun s : T => s.isPrefixOf (d :: l)) hs
          have ht : (d :: l).take s.length = s := (List.prefix_iff_eq_take.1 (List.isPrefixOf_iff_prefix.1 hp)).symm
          rw [ht]
          exact sign_again s (List.mem_of_find?_eq_some hs) c hc r
        · cases h

/-! ### What comes, comes again -/
def seps : List T := [[32], [10], [9, 13], [40, 42, 32, 42, 41], [32, 45, 45, 32, 120, 10], [40, 42, 41, 42, 41]]
theorem sep_head : ∀ p ∈ seps, ∃ c r, p = c :: r ∧ sepC c := by
  intro p hp
  simp only [seps, List.mem_cons, List.not_mem_nil, or_false] at hp
  rcases hp with rfl | rfl | rfl | rfl | rfl | rfl <;> exact ⟨_, _, rfl, by unfold sepC; decide⟩
theorem sep_skip : ∀ p ∈ seps, ∀ (r : T) (a : Nat) (acc : List Tk), lexA (p ++ r) a acc = lexA r (a + p.length) acc := by
  intro p hp r a acc
  simp only [seps, List.mem_cons, List.not_mem_nil, or_false] at hp
  rcases hp with rfl | rfl | rfl | rfl | rfl | rfl
  · exact lexA_blank (by decide) _ _
  · exact lexA_blank (by decide) _ _
  · exact (lexA_blank (by decide) _ _).trans (lexA_blank (by decide) _ _)
  · exact lexA_skip (l := [40, 42, 32, 42, 41] ++ r) (n := 5) rfl a acc
  · refine (lexA_blank (by decide) _ _).trans ?_
    refine (lexA_skip (l := [45, 45, 32, 120, 10] ++ r) (n := 4) (by
      show stepS (45 :: 45 :: 32 :: 120 :: 10 :: r) = _
      rw [step_line (by decide) (by simp [List.isPrefixOf])]
      simp [nnl, List.takeWhile_cons]) _ _).trans ?_
    exact lexA_blank (by decide) _ _
  · exact lexA_skip (l := [40, 42, 41, 42, 41] ++ r) (n := 5) rfl a acc

/-- The tokens of l: as each stands in l. -/
inductive Runs : List Tk → Prop where
  | done (a : Nat) : Runs [⟨0, [], 0, a⟩]
  | tok {l : T} {k v : Int} {n a : Nat} {ts : List Tk} (h : stepS l = .tok k n v) (hr : Runs ts) : Runs (⟨k, l.take n, v, a⟩ :: ts)
theorem lexF_runs : ∀ (f : Nat) (l : T) (a : Nat) (acc ts : List Tk) (p : Nat), l.length < f → lexF f l a acc = (ts, p, 0) → ∃ us, ts = acc ++ us ∧ Runs us ∧ (us.map fun t => t.text.length).sum ≤ l.length ∧ us.length ≤ l.length + 1 := by
  intro f
  induction f with
  | zero => intro l a acc ts p h; omega
  | succ f ih =>
    intro l a acc ts p hf h
    unfold lexF at h
    split at h
    · injection h with h1 h2
      exact ⟨_, h1.symm, .done a, by simp, by simp⟩
    · rename_i n hs
      have := step_skip hs
      obtain ⟨us, h1, h2, h3, h4⟩ := ih _ _ _ _ _ (by rw [List.length_drop]; omega) h
      rw [List.length_drop] at h3 h4
      exact ⟨us, h1, h2, by omega, by omega⟩
    · rename_i k n v hs
      have := step_tok hs
      obtain ⟨us, h1, h2, h3, h4⟩ := ih _ _ _ _ _ (by rw [List.length_drop]; omega) h
      rw [List.length_drop] at h3 h4
      refine ⟨⟨k, l.take n, v, a⟩ :: us, by rw [h1, List.append_assoc]; rfl, .tok hs h2, ?_, ?_⟩
      · simp only [List.map_cons, List.sum_cons, List.length_take]; omega
      · simp only [List.length_cons]; omega
    · rename_i e hs
      injection h with h1 h2
      injection h2 with h2 h3
      exfalso
      subst h3
      unfold stepS at hs
      split at hs
      · cases hs
      · repeat' split at hs
        all_goals cases hs

/-- All texts with p between. -/
def joinS (p : T) : List Tk → T
  | [] => []
  | t :: ts => t.text ++ (p ++ joinS p ts)
/-- The same tokens, but for their places. -/
def Alike (ts us : List Tk) : Prop := ts.map (fun t => (t.kind, t.text, t.n)) = us.map fun t => (t.kind, t.text, t.n)
theorem runs_again {p : T} (hp : p ∈ seps) {ts : List Tk} (h : Runs ts) : ∀ (a : Nat) (acc : List Tk), ∃ us, lexA (joinS p ts) a acc = (acc ++ us, 0, 0) ∧ Alike ts us := by
  induction h with
  | done b =>
    intro a acc
    refine ⟨[⟨0, [], 0, a + p.length⟩], ?_, rfl⟩
    show lexA ([] ++ (p ++ [])) a acc = _
    rw [List.nil_append, sep_skip p hp, lexA_done]
  | tok hs hr ih =>
    rename_i l k v n b ts
    intro a acc
    obtain ⟨c, r, hpe, hc⟩ := sep_head p hp
    have h1 := step_again hs hc (r ++ joinS p ts)
    have e : joinS p (⟨k, l.take n, v, b⟩ :: ts) = l.take n ++ c :: (r ++ joinS p ts) := by show l.take n ++ (p ++ joinS p ts) = _; rw [hpe]; rfl
    have h2 := lexA_tok h1.1 a acc
    have h3 : (l.take n ++ c :: (r ++ joinS p ts)).drop n = p ++ joinS p ts := by rw [List.drop_append_of_le_length (by omega), List.drop_eq_nil_of_le (by omega), hpe]; rfl
    have h4 : (l.take n ++ c :: (r ++ joinS p ts)).take n = l.take n := by rw [List.take_append_of_le_length (by omega), List.take_of_length_le (by omega)]
    rw [h3, h4, sep_skip p hp] at h2
    obtain ⟨us, hu1, hu2⟩ := ih (a + n + p.length) (acc ++ [⟨k, l.take n, v, a⟩])
    refine ⟨⟨k, l.take n, v, a⟩ :: us, ?_, ?_⟩
    · rw [e, h2, hu1, List.append_assoc]; rfl
    · show (_ :: _ : List _) = _ :: _; rw [show ts.map (fun t => (t.kind, t.text, t.n)) = us.map (fun t => (t.kind, t.text, t.n)) from hu2]
theorem seps_len : ∀ p ∈ seps, p.length ≤ 6 := by decide
theorem join_len {p : T} (hp : p ∈ seps) (ts : List Tk) : (joinS p ts).length ≤ (ts.map fun t => t.text.length).sum + 6 * ts.length := by
  have h6 := seps_len p hp
  induction ts with
  | nil => simp [joinS]
  | cons t ts ih => simp only [joinS, List.length_append, List.map_cons, List.sum_cons, List.length_cons]; omega
/-- Tokens come out again. -/
theorem lex_again {s : T} {ts : List Tk} (h : lexA s 0 [] = (ts, 0, 0)) {p : T} (hp : p ∈ seps) : (joinS p ts).length ≤ 7 * s.length + 6 ∧ ts.length ≤ s.length + 1 ∧ ∃ us, lexA (joinS p ts) 0 [] = (us, 0, 0) ∧ Alike ts us := by
  obtain ⟨us, h1, h2, h3, h4⟩ := lexF_runs _ s 0 [] ts 0 (Nat.lt_succ_self _) h
  rw [List.nil_append] at h1
  rw [← h1] at h2 h3 h4
  have h5 := join_len hp ts
  obtain ⟨vs, h6, h7⟩ := runs_again hp h2 0 []
  exact ⟨by omega, h4, vs, by simpa using h6, h7⟩

end Go.Proofs.YtfajnflfonechaaDoor
