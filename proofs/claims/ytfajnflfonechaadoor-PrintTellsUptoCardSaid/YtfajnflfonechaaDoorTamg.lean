/- DERIVED. No program. As 'Tamw', with writers that spare some of what is said: each writer has a relation of its own; a ghost is what is said of the world from the start, till the first writer that does not spare it. -/
import Derived.Test.YtfajnflfonechaaDoorTamw
namespace Go.Proofs.YtfajnflfonechaaDoor.Tame
open Go

section
variable {P : Program} {ops : Array Oper} {a0 : Act} {L : World → World → Prop} {M : Nat → World → World → Prop} {G : Nat → World → Prop} {gk kp : Nat → Nat → Bool} {ts : Nat → (Nat → Value) → World → Prop} {Q : Exit → Act → World → Prop}
  {pure_ wr : Nat → Bool} {ex : Nat → Option Nat} {bef : Nat → Nat → Prop}

theorem run3 (ht : Tidy ops) (hLr : ∀ w, L w w) (hMr : ∀ i w, M i w w)
    (hsk : ∀ i j, pure_ i = false → wr j = true → kp i j = true → ∀ vals w w', M j w w' → ts i vals w → ts i vals w')
    (hcg : ∀ k (vals vals' : Nat → Value) w, (∀ j, j = k ∨ bef j k → vals j = vals' j) → ts k vals w → ts k vals' w)
    (hgl : ∀ g w w', L w w' → G g w → G g w') (hgk : ∀ g j, wr j = true → gk g j = true → ∀ w w', M j w w' → G g w → G g w')
    (hst : ∀ i, pure_ i = false → ∀ vals w w', L w w' → ts i vals w → ts i vals w') (hpu : ∀ i, pure_ i = true → ∀ vals w w', ts i vals w → ts i vals w')
    (hbd : ∀ ls, Down ops ls → ∀ i j, bef j i → ls i = true → ls j = true) (hbl : ∀ i j, bef j i → j < i)
    (hC : ∀ k, k < ops.size → pure_ k = false → ∀ j, wr j = true → j ≠ k → kp k j = true ∨ bef j k ∨ ∃ x, ex k = some x ∧ (x = j ∨ bef x j))
    (hob : ∀ i o, ops[i]? = some o → ∀ (vals : Nat → Value) w, (∀ g, (∀ j, wr j = true → gk g j = true ∨ j = i ∨ bef i j) → G g w) → (∀ k, bef k i → (∀ x, ex k = some x → x = i ∨ bef i x) → ts k vals w) →
      if Region.wanted o (yielded ops (stF ops a0 (fun _ => true) vals i).tmps) = true then Op P o (stF ops a0 (fun _ => true) vals i) w (fun v w' => (wr i = false → L w w') ∧ (wr i = true → M i w w') ∧ ts i (upd vals i v) w') else ts i (upd vals i undef) w)
    (hfin : ∀ (vals : Nat → Value) w, (∀ g, (∀ j, j < ops.size → wr j = true → gk g j = true) → G g w) → (∀ i, i < ops.size → ex i = none → ts i vals w) → Q .normal (stF ops a0 (fun _ => true) vals ops.size) w) :
    ∀ (fuel : Nat) (listed : Array Bool) (vals : Nat → Value) (w : World), listed.size = ops.size → unl listed ops.size ≤ fuel → Down ops (fun k => listed.getD k false) →
      (∀ g, (∀ j, wr j = true → listed.getD j false = true → gk g j = true) → G g w) → (∀ k, k < ops.size → listed.getD k false = true → (∀ x, ex k = some x → listed.getD x false = false) → ts k vals w) →
      wpAny P .any ops Q fuel listed (stF ops a0 (fun k => listed.getD k false) vals ops.size) w := by
  have fin : ∀ (listed : Array Bool) (vals : Nat → Value) (w : World), listed.size = ops.size → (∀ k, k < ops.size → listed.getD k false = true) → (∀ g, (∀ j, wr j = true → listed.getD j false = true → gk g j = true) → G g w) →
      (∀ k, k < ops.size → listed.getD k false = true → (∀ x, ex k = some x → listed.getD x false = false) → ts k vals w) →
      Q .normal (stF ops a0 (fun k => listed.getD k false) vals ops.size) w := by
    intro listed vals w hsz hall hG hts
    rw [stF_congr (fun k => listed.getD k false) (fun _ => true) vals vals ops.size fun k hk => ⟨hall k hk, fun _ => rfl⟩]
    refine hfin vals w (fun g h => hG g fun j hj hl => ?_) fun i hi hx => hts i hi (hall i hi) fun x h => by rw [hx] at h; cases h
    rcases Nat.lt_or_ge j ops.size with h' | h'
    · exact h j h' hj
    · have : ¬ j < listed.size := by omega
      simp [Array.getD, this] at hl
  intro fuel
  induction fuel with
  | zero =>
    intro listed vals w hsz hun _ hG hts
    have hall := unl_zero listed ops.size (by omega)
    refine ⟨?_, fin listed vals w hsz hall hG hts⟩
    cases hr : Region.ready .any ops listed with
    | nil => rfl
    | cons j js =>
      exfalso
      have hj : j ∈ Region.ready .any ops listed := by rw [hr]; exact List.mem_cons_self
      rw [mem_ready] at hj
      obtain ⟨h0, o, ho, _⟩ := hj
      have hlt : j < ops.size := (Array.getElem?_eq_some_iff.1 ho).1
      have h1 := hall j hlt
      have hj' : j < listed.size := by omega
      simp [Array.getD, hj'] at h0 h1
      rw [h0] at h1
      cases h1
  | succ fuel ih =>
    intro listed vals w hsz hun hcl hG hts
    refine ⟨fun hr => fin listed vals w hsz (all_of_ready ht hr hsz) hG hts, fun i hi => ?_⟩
    rw [mem_ready] at hi
    obtain ⟨h0, o, ho, haf⟩ := hi
    have hlt : i < ops.size := (Array.getElem?_eq_some_iff.1 ho).1
    have hil : i < listed.size := by omega
    have hif : listed.getD i false = false := by simpa [Array.getD, hil] using h0
    have hset : ∀ k, (listed.setIfInBounds i true).getD k false = if k = i then true else listed.getD k false := by
      intro k
      by_cases hki : k = i
      · subst hki; simp [hil]
      · rw [if_neg hki, getD_set_ne false (Ne.symm hki)]
    have hcl' : Down ops (fun k => (listed.setIfInBounds i true).getD k false) := by
      intro k o' e hk ho' he hb
      by_cases hki : k = i
      · subst hki
        rw [ho] at ho'
        injection ho' with ho'
        subst ho'
        exact getD_set_true (haf e he hb)
      · have hk' : listed.getD k false = true := by
          have := hset k
          rw [if_neg hki] at this
          rw [← this]; exact hk
        exact getD_set_true (hcl k o' e hk' ho' he hb)
    have hagree : ∀ d ∈ o.looksAt ops, (stF ops a0 (fun k => listed.getD k false) vals ops.size).tmps[d]? = (stF ops a0 (fun _ => true) vals i).tmps[d]? := by
      intro d hd
      rw [← stF_trunc vals i ops.size (by omega)]
      refine stF_slot _ _ _ _ d _ fun k _ hk => ⟨?_, fun _ => rfl⟩
      rcases ht.looks i o ho d hd k hk with rfl | ⟨e, he, hb, rfl⟩ | ⟨hik, o', ho', e, he, hb, rfl⟩
      · simpa using hif
      · have := ht.back i o ho e he hb
        rw [haf e he hb]
        simp [this]
      · cases hlk : listed.getD k false with
        | false =>
          have : ¬ k < e.on := by omega
          simp [this]
        | true =>
          have := hcl k o' e hlk ho' he hb
          simp only [hif] at this
          cases this
    have hstep := hob i o ho vals w
      (fun g hw => hG g fun j hj hlj => by
        rcases hw j hj with hk | rfl | hb
        · exact hk
        · rw [hif] at hlj; cases hlj
        · have := hbd _ hcl j i hb hlj; simp only [hif] at this; cases this)
      (fun k hk hx => by
        have hki := hbl i k hk
        have h1 : (listed.setIfInBounds i true).getD k false = true := hbd _ hcl' i k hk (by rw [hset]; simp)
        rw [hset, if_neg (by omega)] at h1
        refine hts k (by omega) h1 fun x hxe => ?_
        rcases hx x hxe with rfl | hb
        · exact hif
        · cases hlj : listed.getD x false with
          | false => rfl
          | true => have := hbd _ hcl x i hb hlj; simp only [hif] at this; cases this)
    have next : ∀ v w', (wr i = false → L w w') → (wr i = true → M i w w') → ts i (upd vals i v) w' → wpAny P .any ops Q fuel (listed.setIfInBounds i true) ((stF ops a0 (fun k => listed.getD k false) vals ops.size).put o.dst v) w' := by
      intro v w' hLw hMw htv
      have hd : dstOf ops i = o.dst := by simp [dstOf, ho]
      have e1 : (stF ops a0 (fun k => listed.getD k false) vals ops.size).put o.dst v = stF ops a0 (fun k => (listed.setIfInBounds i true).getD k false) (upd vals i v) ops.size := by
        rw [← hd, ← stF_upd (fun k => listed.getD k false) vals i v hif (fun k hk d h1 => ht.once i k d hk h1) ops.size hlt]
        refine stF_congr _ _ _ _ _ fun k _ => ⟨?_, fun _ => rfl⟩
        by_cases hki : k = i
        · subst hki; rw [upd_same, hset, if_pos rfl]
        · rw [upd_other _ _ _ _ hki, hset, if_neg hki]
      rw [e1]
      refine ih _ _ _ (by simpa using hsz) (by have := unl_set listed i ops.size hlt hil hif; omega) hcl' (fun g hw => ?_) (fun k hk hlk hal => ?_)
      · have hold : G g w := hG g fun j hj hlj => hw j hj (getD_set_true hlj)
        cases hwi : wr i with
        | true => exact hgk g i hwi (hw i hwi (by rw [hset, if_pos rfl])) _ _ (hMw hwi) hold
        | false => exact hgl g _ _ (hLw hwi) hold
      · by_cases hki : k = i
        · subst hki; exact htv
        · rw [hset, if_neg hki] at hlk
          have hal0 : ∀ x, ex k = some x → listed.getD x false = false := by
            intro x hx
            have := hal x hx
            rw [hset] at this
            split at this
            · cases this
            · exact this
          have hold : ts k (upd vals i v) w := hcg k vals _ w (fun j hj => by
            have hji : j ≠ i := by
              rintro rfl
              rcases hj with hj | hj
              · exact hki hj.symm
              · have := hbd _ hcl k j hj hlk; simp only [hif] at this; cases this
            exact (upd_other _ _ _ _ hji).symm) (hts k hk hlk hal0)
          cases hp : pure_ k with
          | true => exact hpu k hp _ _ _ hold
          | false =>
            cases hwi : wr i with
            | false => exact hst k hp _ _ _ (hLw hwi) hold
            | true =>
              rcases hC k hk hp i hwi (Ne.symm hki) with hkp | hb | ⟨x, hx, hxi | hb⟩
              · exact hsk k i hp hwi hkp _ _ _ (hMw hwi) hold
              · exfalso
                have := hbd _ hcl k i hb hlk
                simp only [hif] at this
                cases this
              · exfalso
                subst hxi
                have := hal x hx
                rw [hset, if_pos rfl] at this
                cases this
              · exfalso
                have h1 : (listed.setIfInBounds i true).getD x false = true := hbd _ hcl' i x hb (by rw [hset]; simp)
                rw [hal x hx] at h1
                cases h1
    have hsel : ∀ cs b, o.op ≠ .select cs b := fun cs b => ht.noSel i o cs b ho
    have hwe := wanted_agree (ops := ops) hagree
    unfold wpOp
    rw [ho]
    show if Region.wanted o (yielded ops (stF ops a0 (fun k => listed.getD k false) vals ops.size).tmps) = true then _ else _
    by_cases hw : Region.wanted o (yielded ops (stF ops a0 (fun _ => true) vals i).tmps) = true
    · rw [if_pos hw] at hstep
      rw [if_pos (hwe.trans hw)]
      refine .inl (Op.wp (R := fun v w' => (wr i = false → L w w') ∧ (wr i = true → M i w w') ∧ ts i (upd vals i v) w') ?_ fun v w' ⟨h1, h2, h3⟩ => next v w' h1 h2 h3)
      unfold Op at hstep ⊢
      rw [exec_agree hsel hagree]
      exact hstep
    · rw [if_neg hw] at hstep
      rw [if_neg (fun h => hw (hwe.symm.trans h))]
      exact next undef w (fun _ => hLr w) (fun _ => hMr i w) hstep
end

/-! ### The walk with writers -/

/-- What is known of an operation's value: 'known': it speaks of no world; 'ends' is the writer with which what is said of the value ends. -/
structure Said3 where
  t : (Nat → Value) → World → Prop
  u : (Nat → Value) → Value
  known : Bool
  ends : Option Nat
  keeps : List Nat

/-- What is said of the world from the start; the writers that spare it. -/
structure Ghost where
  g : World → Prop
  keeps : List Nat

section
variable {P : Program} {L : World → World → Prop} {M : Nat → World → World → Prop} {gs : List Ghost} {Q : Exit → Act → World → Prop}

def Good3 (A : List Nat) (L : World → World → Prop) (M : Nat → World → World → Prop) (wr : List Nat) (i : Nat) (s : Said3) : Prop :=
  (s.known = false → ∀ vals w w', L w w' → s.t vals w → s.t vals w') ∧ (s.known = true → ∀ vals w w', s.t vals w → s.t vals w') ∧
  (∀ (vals : Nat → Value) w, s.t vals w → s.u vals = vals i) ∧ (s.ends = none ∨ ∀ vals : Nat → Value, s.u vals = vals i) ∧
  (s.known = false → ∀ j, wr.contains j = true → s.keeps.contains j = true → ∀ vals w w', M j w w' → s.t vals w → s.t vals w') ∧
  (∀ (vals vals' : Nat → Value) w, (∀ j, j = i ∨ (A.getD i 0).testBit j = true → vals j = vals' j) → s.t vals w → s.t vals' w)

/-- Where the writers leave what is said alone. -/
def lasts3 (A : List Nat) (wr : List Nat) (i : Nat) (ends : Option Nat) (keeps : List Nat) : Bool :=
  wr.all fun j => keeps.contains j || j == i || (A.getD i 0).testBit j || (match ends with | none => false | some x => x == j || (A.getD j 0).testBit x)
/-- Does no writer that doesn't spare the ghost come up ahead of operation i? -/
def spared (A : List Nat) (wr : List Nat) (i : Nat) (keeps : List Nat) : Bool := wr.all fun j => keeps.contains j || j == i || (A.getD j 0).testBit i
def ghosts (A wr : List Nat) (gs : List Ghost) (i : Nat) (w : World) : Prop := ∀ (k : Nat) (g : Ghost), gs[k]? = some g → spared A wr i g.keeps = true → g.g w
def ghostsEnd (wr : List Nat) (gs : List Ghost) (w : World) : Prop := ∀ (k : Nat) (g : Ghost), gs[k]? = some g → (wr.all fun j => g.keeps.contains j) = true → g.g w

def dep3 (A : List Nat) (i : Nat) (ts : List Said3) (vals : Nat → Value) (w : World) : Prop :=
  ∀ k s, ts[k]? = some s → (A.getD i 0).testBit k = true → still A i s.ends = true → s.t vals w

def walk3 (P : Program) (ops : Array Oper) (A wr : List Nat) (L : World → World → Prop) (M : Nat → World → World → Prop) (gs : List Ghost) (Q : Exit → Act → World → Prop) : List Oper → List Said3 → ((Nat → Value) → Act) → Prop
  | [], ts, fr => ∀ (vals : Nat → Value) w, ghostsEnd wr gs w → (∀ (i : Nat) (s : Said3), ts[i]? = some s → s.ends = none → s.t vals w) → Q .normal (fr vals) w
  | o :: rest, ts, fr => ∃ s, Good3 A L M wr ts.length s ∧ (s.known = false → lasts3 A wr ts.length s.ends s.keeps = true) ∧
      (∀ (vals : Nat → Value) w, ghosts A wr gs ts.length w → dep3 A ts.length ts vals w →
        if Region.wanted o (yielded ops (fr vals).tmps) = true then Op P o (fr vals) w (fun v w' => (wr.contains ts.length = false → L w w') ∧ (wr.contains ts.length = true → M ts.length w w') ∧ s.t (upd vals ts.length v) w') else s.t (upd vals ts.length undef) w) ∧
      walk3 P ops A wr L M gs Q rest (ts ++ [s]) (fun vals => (fr vals).put o.dst (s.u vals))

def frU3 (ops : Array Oper) (a0 : Act) (ts : List Said3) (vals : Nat → Value) : Nat → Act
  | 0 => a0
  | n + 1 => (frU3 ops a0 ts vals n).put (dstOf ops n) (match ts[n]? with | some s => s.u vals | none => vals n)

theorem frU3_size (ops : Array Oper) (a0 : Act) (ts : List Said3) (vals : Nat → Value) (n : Nat) : (frU3 ops a0 ts vals n).tmps.size = a0.tmps.size := by
  induction n with
  | zero => rfl
  | succ n ih => unfold frU3; rw [put_size, ih]

theorem frU3_more {ops : Array Oper} {a0 : Act} {ts ts' : List Said3} {vals : Nat → Value} (n : Nat) (h : ∀ k, k < n → ts[k]? = ts'[k]?) : frU3 ops a0 ts vals n = frU3 ops a0 ts' vals n := by
  induction n with
  | zero => rfl
  | succ n ih => unfold frU3; rw [ih fun k hk => h k (by omega), h n (by omega)]

theorem frU3_slot {ops : Array Oper} {a0 : Act} {ts : List Said3} {vals : Nat → Value} (d : Tmp) (n : Nat)
    (h : ∀ k, k < n → dstOf ops k = some d → ∀ s, ts[k]? = some s → s.u vals = vals k) : (frU3 ops a0 ts vals n).tmps[d]? = (stF ops a0 (fun _ => true) vals n).tmps[d]? := by
  induction n with
  | zero => rfl
  | succ n ih =>
    have ih' := ih fun k hk => h k (by omega)
    unfold frU3 stF
    simp only [if_true]
    by_cases hd : dstOf ops n = some d
    · rw [hd, put_slot, put_slot, frU3_size, stF_size]
      have := h n (by omega) hd
      cases hs : ts[n]? with
      | none => rfl
      | some s => simp only [this s hs]
    · rw [put_other _ _ _ _ hd, put_other _ _ _ _ hd, ih']

theorem walk3_all {ops : Array Oper} {A wr : List Nat} {a0 : Act} : ∀ (rest : List Oper) (ts : List Said3) (fr : (Nat → Value) → Act),
    (∀ vals, fr vals = frU3 ops a0 ts vals ts.length) → (∀ j, rest[j]? = ops[ts.length + j]?) →
    walk3 P ops A wr L M gs Q rest ts fr → ∃ all : List Said3, all.length = ts.length + rest.length ∧ (∀ k, k < ts.length → all[k]? = ts[k]?) ∧
      (∀ (i : Nat) (s : Said3), ts.length ≤ i → all[i]? = some s → Good3 A L M wr i s ∧ (s.known = false → lasts3 A wr i s.ends s.keeps = true) ∧ ∃ o, ops[i]? = some o ∧
        ∀ (vals : Nat → Value) w, ghosts A wr gs i w → dep3 A i (all.take i) vals w →
          if Region.wanted o (yielded ops (frU3 ops a0 all vals i).tmps) = true then Op P o (frU3 ops a0 all vals i) w (fun v w' => (wr.contains i = false → L w w') ∧ (wr.contains i = true → M i w w') ∧ s.t (upd vals i v) w') else s.t (upd vals i undef) w) ∧
      (∀ (vals : Nat → Value) w, ghostsEnd wr gs w → (∀ (i : Nat) (s : Said3), all[i]? = some s → s.ends = none → s.t vals w) → Q .normal (frU3 ops a0 all vals all.length) w) := by
  intro rest
  induction rest with
  | nil =>
    intro ts fr hfr _ hw
    refine ⟨ts, by simp, fun _ _ => rfl, fun i s hi hs => ?_, fun vals w hG hts => ?_⟩
    · rw [List.getElem?_eq_none hi] at hs; cases hs
    · rw [← hfr]; exact hw vals w hG hts
  | cons o rest ih =>
    intro ts fr hfr hops hw
    obtain ⟨s, hg, hla, hob, hrest⟩ := hw
    have ho : ops[ts.length]? = some o := by have := hops 0; simpa using this.symm
    have hd : dstOf ops ts.length = o.dst := by simp [dstOf, ho]
    obtain ⟨all, h1, h2, h3, h4⟩ := ih (ts ++ [s]) (fun vals => (fr vals).put o.dst (s.u vals)) (fun vals => by
        rw [List.length_append, List.length_singleton]
        unfold frU3
        rw [hd]
        have e1 : (ts ++ [s])[ts.length]? = some s := by simp
        have e2 : frU3 ops a0 (ts ++ [s]) vals ts.length = frU3 ops a0 ts vals ts.length := frU3_more _ fun k hk => List.getElem?_append_left hk
        rw [e1, hfr vals, e2])
      (fun j => by have := hops (j + 1); rw [List.length_append, List.length_singleton]; simpa [Nat.add_assoc, Nat.add_comm 1 j] using this) hrest
    rw [List.length_append, List.length_singleton] at h1 h2 h3
    have hlen : ts.length < all.length := by rw [h1]; omega
    have hk : ∀ k, k < ts.length → all[k]? = ts[k]? := fun k hk => by rw [h2 k (by omega)]; exact List.getElem?_append_left hk
    have hs : all[ts.length]? = some s := by rw [h2 ts.length (by omega)]; simp
    refine ⟨all, by rw [h1]; simp; omega, hk, fun i s' hi hs' => ?_, h4⟩
    by_cases hit : i = ts.length
    · subst hit
      rw [hs] at hs'
      injection hs' with hs'
      subst hs'
      refine ⟨hg, hla, o, ho, fun vals w hG hdep => ?_⟩
      have e : frU3 ops a0 all vals ts.length = fr vals := by rw [hfr vals]; exact frU3_more _ hk
      rw [e]
      refine hob vals w hG fun k s2 hs2 hb hst => hdep k s2 ?_ hb hst
      have hlt : k < ts.length := by
        rcases Nat.lt_or_ge k ts.length with h' | h'
        · exact h'
        · rw [List.getElem?_eq_none h'] at hs2; cases hs2
      rw [List.getElem?_take, if_pos hlt, hk _ hlt]
      exact hs2
    · exact h3 i s' (by omega) hs'

/-- The writers are operations of the region; what is looked at waits for what yields it. -/
theorem wp_region_tamg {ops : List Oper} (wr : List Nat) {id : Nat} {a0 : Act} {w0 : World} (hm : P.follows .mixedOrders = true) (htd : tidy ops.toArray = true) (hLr : ∀ w, L w w) (hMr : ∀ i w, M i w w)
    (hgs : ∀ (k : Nat) (g : Ghost), gs[k]? = some g → g.g w0.drew ∧ (∀ w w', L w w' → g.g w → g.g w') ∧ ∀ j, wr.contains j = true → g.keeps.contains j = true → ∀ w w', M j w w' → g.g w → g.g w')
    (h : walk3 P ops.toArray (ancs ops []) wr L M gs Q ops [] (fun _ => a0)) : (Code.region id ops.toArray true).wp P Q a0 w0 := by
  obtain ⟨all, h1, _, h3, h4⟩ := walk3_all (a0 := a0) ops [] (fun _ => a0) (fun _ => rfl) (fun j => by simp) h
  have htid := tidy_spec htd
  have hmask : Masks ops.toArray (ancs ops []) := masks_all htid ops [] (fun j => by simp) ⟨fun ls _ i j hb => by simp [List.getD] at hb, fun i j hb => by simp [List.getD] at hb⟩
  have hsz : all.length = ops.toArray.size := by simpa using h1
  have sd : ∀ i, i < ops.toArray.size → ∃ s, all[i]? = some s := fun i hi => ⟨all[i]'(by omega), List.getElem?_eq_getElem (by omega)⟩
  let ts : Nat → (Nat → Value) → World → Prop := fun i vals w => ∀ s, all[i]? = some s → s.t vals w
  let pu : Nat → Bool := fun i => match all[i]? with | some s => s.known | none => true
  let ex : Nat → Option Nat := fun i => match all[i]? with | some s => s.ends | none => none
  let bef : Nat → Nat → Prop := fun j i => ((ancs ops []).getD i 0).testBit j = true
  let G : Nat → World → Prop := fun k w => ∀ g, gs[k]? = some g → g.g w
  let gk : Nat → Nat → Bool := fun k j => match gs[k]? with | some g => g.keeps.contains j | none => true
  let kp : Nat → Nat → Bool := fun i j => match all[i]? with | some s => s.keeps.contains j | none => true
  have hh0 : ∀ k, (Array.replicate ops.toArray.size false).getD k false = false := by
    intro k
    simp [Array.getD]
  refine wp_region_any hm ?_
  have hrun := run3 (P := P) (ops := ops.toArray) (a0 := a0) (L := L) (M := M) (G := G) (gk := gk) (kp := kp) (ts := ts) (Q := Q) (pure_ := pu) (wr := fun j => wr.contains j) (ex := ex) (bef := bef) htid hLr hMr
    (fun i j hp hj hk v w w' hm ht s hs => (h3 i s (by simp) hs).1.2.2.2.2.1 (by simp only [pu, hs] at hp; exact hp) j hj (by simp only [kp, hs] at hk; exact hk) v w w' hm (ht s hs))
    (fun k vals vals' w hj ht s hs => (h3 k s (by simp) hs).1.2.2.2.2.2 vals vals' w hj (ht s hs))
    (fun k w w' hl hg g hgk => (hgs k g hgk).2.1 w w' hl (hg g hgk))
    (fun k j hj hk w w' hm hg g hgk => (hgs k g hgk).2.2 j hj (by simp only [gk, hgk] at hk; exact hk) w w' hm (hg g hgk))
    (fun i hp v w w' hl ht s hs => (h3 i s (by simp) hs).1.1 (by have : pu i = s.known := by simp only [pu, hs]
                                                                 rw [← this]; exact hp) v w w' hl (ht s hs))
    (fun i hp v w w' ht s hs => ((h3 i s (by simp) hs).1.2.1 (by have : pu i = s.known := by simp only [pu, hs]
                                                                 rw [← this]; exact hp)) v w w' (ht s hs))
    (fun ls hd i j hb hi => hmask.down ls hd i j hb hi) (fun i j hb => hmask.less i j hb)
    (fun k hk hp j hj hjk => by
      obtain ⟨s, hs⟩ := sd k hk
      have e1 : pu k = s.known := by simp only [pu, hs]
      have e2 : ex k = s.ends := by simp only [ex, hs]
      have hla := (h3 k s (by simp) hs).2.1 (by rw [← e1]; exact hp)
      have e3 : kp k j = s.keeps.contains j := by simp only [kp, hs]
      have := List.all_eq_true.1 hla j (by simpa using hj)
      simp only [Bool.or_eq_true, beq_iff_eq] at this
      rcases this with ((h' | h') | h') | h'
      · exact .inl (e3.trans h')
      · exact absurd h' hjk
      · exact .inr (.inl h')
      · rw [e2]
        cases hx : s.ends with
        | none => rw [hx] at h'; cases h'
        | some x =>
          rw [hx] at h'
          simp only [Bool.or_eq_true, beq_iff_eq] at h'
          exact .inr (.inr ⟨x, rfl, h'⟩))
    (by
      intro i o ho vals w hG hdep
      have hi : i < ops.toArray.size := (Array.getElem?_eq_some_iff.1 ho).1
      obtain ⟨s, hs⟩ := sd i hi
      obtain ⟨hg, _, o', ho', hob⟩ := h3 i s (by simp) hs
      rw [ho] at ho'
      injection ho' with ho'
      subst ho'
      have hdep' : ∀ k s2, all[k]? = some s2 → bef k i → still (ancs ops []) i s2.ends = true → s2.t vals w := by
        intro k s2 hs2 hb hst
        refine hdep k hb (fun x hx => ?_) s2 hs2
        have e2 : ex k = s2.ends := by simp only [ex, hs2]
        rw [e2] at hx
        unfold still at hst
        rw [hx] at hst
        simpa only [Bool.or_eq_true, beq_iff_eq] using hst
      have hob := hob vals w (fun k g hgk hsp => hG k (fun j hj => by
        have e : gk k j = g.keeps.contains j := by simp only [gk, hgk]
        have := List.all_eq_true.1 hsp j (by simpa using hj)
        simp only [Bool.or_eq_true, beq_iff_eq] at this
        rcases this with (h' | h') | h'
        · exact .inl (e.trans h')
        · exact .inr (.inl h')
        · exact .inr (.inr h')) g hgk) fun k s2 hs2 hb hst => hdep' k s2 (by
        rw [List.getElem?_take] at hs2
        split at hs2
        · exact hs2
        · cases hs2) hb hst
      have hagree : ∀ d ∈ o.looksAt ops.toArray, (stF ops.toArray a0 (fun _ => true) vals i).tmps[d]? = (frU3 ops.toArray a0 all vals i).tmps[d]? := by
        intro d hd
        refine (frU3_slot d i fun k hk hdk s2 hs2 => ?_).symm
        have hg2 := (h3 k s2 (by simp) hs2).1
        rcases hg2.2.2.2 with hend | hu
        · rcases htid.looks i o ho d hd k hdk with rfl | ⟨e, he, hb, rfl⟩ | ⟨hik, _⟩
          · omega
          · refine hg2.2.2.1 vals w (hdep' e.on s2 hs2 ?_ (by rw [hend]; rfl))
            -- a direct edge is in the mask
            exact direct ops [] (fun j => by simp) i o ho e he hb (by simp)
          · omega
        · exact hu vals
      have hsel : ∀ cs b, o.op ≠ .select cs b := fun cs b => htid.noSel i o cs b ho
      have hwe := wanted_agree (ops := ops.toArray) hagree
      by_cases hw : Region.wanted o (yielded ops.toArray (frU3 ops.toArray a0 all vals i).tmps) = true
      · rw [if_pos hw] at hob
        rw [if_pos (hwe.trans hw)]
        unfold Op at hob ⊢
        rw [exec_agree hsel hagree]
        have key : ∀ r : Result Next, upon P (fun v w' => (wr.contains i = false → L w w') ∧ (wr.contains i = true → M i w w') ∧ s.t (upd vals i v) w') r → upon P (fun v w' => (wr.contains i = false → L w w') ∧ (wr.contains i = true → M i w w') ∧ ts i (upd vals i v) w') r := by
          intro r hr
          have conv : ∀ v w', ((wr.contains i = false → L w w') ∧ (wr.contains i = true → M i w w') ∧ s.t (upd vals i v) w') → ((wr.contains i = false → L w w') ∧ (wr.contains i = true → M i w w') ∧ ts i (upd vals i v) w') := fun v w' hh => ⟨hh.1, hh.2.1, fun s' hs' => by rw [hs] at hs'; injection hs' with hs'; subst hs'; exact hh.2.2⟩
          cases r with
          | ok n w' =>
            cases n <;> simp only [upon] at hr ⊢
            case value u => exact conv _ _ hr
            case skip => exact conv _ _ hr
            case enter f args => exact hr.mono fun e w'' ⟨v, he, hh⟩ => ⟨v, he, conv _ _ hh⟩
          | halt x w' => simp only [upon] at hr
        exact key _ hob
      · rw [if_neg hw] at hob
        rw [if_neg (fun h => hw (hwe.symm.trans h))]
        intro s' hs'
        rw [hs] at hs'
        injection hs' with hs'
        subst hs'
        exact hob)
    (by
      intro vals w hG hts
      have e : stF ops.toArray a0 (fun _ => true) vals ops.toArray.size = frU3 ops.toArray a0 all vals all.length := by
        rw [hsz]
        have hu : ∀ n, n ≤ ops.toArray.size → stF ops.toArray a0 (fun _ => true) vals n = frU3 ops.toArray a0 all vals n := by
          intro n
          induction n with
          | zero => intro _; rfl
          | succ n ih =>
            intro hn
            unfold stF frU3
            obtain ⟨s, hs⟩ := sd n (by omega)
            rw [ih (by omega), hs]
            simp only [if_true]
            have hg2 := (h3 n s (by simp) hs).1
            rcases hg2.2.2.2 with hend | hu
            · rw [hg2.2.2.1 vals w (hts n (by omega) (by simp only [ex, hs]; exact hend) s hs)]
            · rw [hu vals]
        exact hu _ (Nat.le_refl _)
      rw [e]
      refine h4 vals w (fun k g hgk hsp => hG k (fun j _ hj => by
        have e : gk k j = g.keeps.contains j := by simp only [gk, hgk]
        exact e.trans (List.all_eq_true.1 hsp j (by simpa using hj))) g hgk) fun i s hs hend => ?_
      have hi : i < ops.toArray.size := by
        rcases Nat.lt_or_ge i all.length with h' | h'
        · omega
        · rw [List.getElem?_eq_none h'] at hs; cases hs
      exact hts i hi (by simp only [ex, hs]; exact hend) s hs)
    ops.toArray.size (Array.replicate ops.toArray.size false) (fun _ => undef) w0.drew (by simp) (by rw [unl_all ops.toArray.size ops.toArray.size (Nat.le_refl _)]; exact Nat.le_refl _)
    (fun k o e hk => by have hk' : (Array.replicate ops.toArray.size false).getD k false = true := hk
                        rw [hh0 k] at hk'; cases hk') (fun k _ g hgk => (hgs k g hgk).1) (fun k _ hk => by rw [hh0 k] at hk; cases hk)
  have e : stF ops.toArray a0 (fun k => (Array.replicate ops.toArray.size false).getD k false) (fun _ => undef) ops.toArray.size = a0 := by
    rw [stF_congr _ (fun k => decide (k < 0)) _ (fun _ => undef) ops.toArray.size fun k _ => ⟨by rw [hh0 k]; simp, fun _ => rfl⟩, stF_trunc _ 0 ops.toArray.size (by omega)]
    rfl
  rw [e] at hrun
  exact hrun
/-- One value, whatever the order; no writer. -/
theorem walk3_known {ops : Array Oper} {A wr : List Nat} {o : Oper} {rest : List Oper} {ts : List Said3} {fr : (Nat → Value) → Act} (hn : wr.contains ts.length = false)
    (hw : ∀ vals : Nat → Value, Region.wanted o (yielded ops (fr vals).tmps) = true)
    (h : ∃ c : Value, (∀ (vals : Nat → Value) w, ghosts A wr gs ts.length w → dep3 A ts.length ts vals w → Op P o (fr vals) w (Is L w c)) ∧
      walk3 P ops A wr L M gs Q rest (ts ++ [⟨fun vals _ => vals ts.length = c, fun _ => c, true, none, []⟩]) (fun vals => (fr vals).put o.dst c)) : walk3 P ops A wr L M gs Q (o :: rest) ts fr :=
  let ⟨c, h, hr⟩ := h
  ⟨⟨fun vals _ => vals ts.length = c, fun _ => c, true, none, []⟩, ⟨(fun h => by cases h), fun _ _ _ _ hh => hh, fun _ _ hh => hh.symm, .inl rfl, (fun h => by cases h), fun _ _ _ hc hh => (hc _ (.inl rfl)).symm.trans hh⟩, (fun h => by cases h),
    (fun vals w hG hd => by
      rw [if_pos (hw vals)]
      have := h vals w hG hd
      have hm : ∀ w w', wr.contains ts.length = true → M ts.length w w' := fun w w' hf => (by rw [hn] at hf; cases hf)
      unfold Op at this ⊢
      generalize (execOp (fr vals).eval o).run P w = r at this
      cases r with
      | ok n w' =>
        cases n <;> simp only [upon] at this ⊢
        case value u => exact ⟨fun _ => this.1, hm _ _, (upd_same _ _ _).trans this.2⟩
        case skip => exact ⟨fun _ => this.1, hm _ _, (upd_same _ _ _).trans this.2⟩
        case enter f args => exact this.mono fun e w'' ⟨v, he, hh⟩ => ⟨v, he, fun _ => hh.1, hm _ _, (upd_same _ _ _).trans hh.2⟩
      | halt x w' => simp only [upon] at this), hr⟩

/-- Not wanted. -/
theorem walk3_off {ops : Array Oper} {A wr : List Nat} {o : Oper} {rest : List Oper} {ts : List Said3} {fr : (Nat → Value) → Act}
    (hw : ∀ vals : Nat → Value, Region.wanted o (yielded ops (fr vals).tmps) = false)
    (hr : walk3 P ops A wr L M gs Q rest (ts ++ [⟨fun vals _ => vals ts.length = undef, fun _ => undef, true, none, []⟩]) (fun vals => (fr vals).put o.dst undef)) : walk3 P ops A wr L M gs Q (o :: rest) ts fr :=
  ⟨⟨fun vals _ => vals ts.length = undef, fun _ => undef, true, none, []⟩, ⟨(fun h => by cases h), fun _ _ _ _ hh => hh, fun _ _ hh => hh.symm, .inl rfl, (fun h => by cases h), fun _ _ _ hc hh => (hc _ (.inl rfl)).symm.trans hh⟩, (fun h => by cases h),
    (fun vals w _ _ => by rw [if_neg (by rw [hw vals]; decide)]; exact upd_same _ _ _), hr⟩

/-- Some value, of which this lasts (till the writer 'ends', but for those that spare it); no writer itself. -/
theorem walk3_some {ops : Array Oper} {A wr : List Nat} {o : Oper} {rest : List Oper} {ts : List Said3} {fr : (Nat → Value) → Act} (t : TP) (ends : Option Nat) (keeps : List Nat) (hn : wr.contains ts.length = false)
    (hw : ∀ vals : Nat → Value, Region.wanted o (yielded ops (fr vals).tmps) = true) (hla : lasts3 A wr ts.length ends keeps = true)
    (hst : ∀ v w w', L w w' → t v w → t v w') (hsk : ∀ j, wr.contains j = true → keeps.contains j = true → ∀ v w w', M j w w' → t v w → t v w')
    (h : ∀ (vals : Nat → Value) w, ghosts A wr gs ts.length w → dep3 A ts.length ts vals w → Op P o (fr vals) w (Has L w t))
    (hr : walk3 P ops A wr L M gs Q rest (ts ++ [⟨fun vals => t (vals ts.length), fun vals => vals ts.length, false, ends, keeps⟩]) (fun vals => (fr vals).put o.dst (vals ts.length))) : walk3 P ops A wr L M gs Q (o :: rest) ts fr :=
  ⟨⟨fun vals => t (vals ts.length), fun vals => vals ts.length, false, ends, keeps⟩, ⟨fun _ vals => hst _, (fun h => by cases h), fun _ _ _ => rfl, .inr fun _ => rfl, fun _ j h1 h2 vals => hsk j h1 h2 _, fun vals vals' w hc hh => by
      have e := hc ts.length (.inl rfl)
      show t (vals' ts.length) w
      rw [← e]; exact hh⟩, fun _ => hla,
    (fun vals w hG hd => by
      rw [if_pos (hw vals)]
      have := h vals w hG hd
      have hm : ∀ w w', wr.contains ts.length = true → M ts.length w w' := fun w w' hf => (by rw [hn] at hf; cases hf)
      have hu : ∀ v w, t v w → t (upd vals ts.length v ts.length) w := fun v w ht => by rw [upd_same]; exact ht
      unfold Op at this ⊢
      generalize (execOp (fr vals).eval o).run P w = r at this
      cases r with
      | ok n w' =>
        cases n <;> simp only [upon] at this ⊢
        case value u => exact ⟨fun _ => this.1, hm _ _, hu _ _ this.2⟩
        case skip => exact ⟨fun _ => this.1, hm _ _, hu _ _ this.2⟩
        case enter f args => exact this.mono fun e w'' ⟨v, he, hh⟩ => ⟨v, he, fun _ => hh.1, hm _ _, hu _ _ hh.2⟩
      | halt x w' => simp only [upon] at this), hr⟩

/-- A writer that yields some value. -/
theorem walk3_write {ops : Array Oper} {A wr : List Nat} {o : Oper} {rest : List Oper} {ts : List Said3} {fr : (Nat → Value) → Act} (t : TP) (ends : Option Nat) (keeps : List Nat)
    (hw : ∀ vals : Nat → Value, Region.wanted o (yielded ops (fr vals).tmps) = true) (hla : lasts3 A wr ts.length ends keeps = true) (hin : wr.contains ts.length = true)
    (hst : ∀ v w w', L w w' → t v w → t v w') (hsk : ∀ j, wr.contains j = true → keeps.contains j = true → ∀ v w w', M j w w' → t v w → t v w')
    (h : ∀ (vals : Nat → Value) w, ghosts A wr gs ts.length w → dep3 A ts.length ts vals w → Op P o (fr vals) w (Leaves (M ts.length) w t))
    (hr : walk3 P ops A wr L M gs Q rest (ts ++ [⟨fun vals => t (vals ts.length), fun vals => vals ts.length, false, ends, keeps⟩]) (fun vals => (fr vals).put o.dst (vals ts.length))) : walk3 P ops A wr L M gs Q (o :: rest) ts fr :=
  ⟨⟨fun vals => t (vals ts.length), fun vals => vals ts.length, false, ends, keeps⟩, ⟨fun _ vals => hst _, (fun h => by cases h), fun _ _ _ => rfl, .inr fun _ => rfl, fun _ j h1 h2 vals => hsk j h1 h2 _, fun vals vals' w hc hh => by
      have e := hc ts.length (.inl rfl)
      show t (vals' ts.length) w
      rw [← e]; exact hh⟩, fun _ => hla,
    (fun vals w hG hd => by
      rw [if_pos (hw vals)]
      have := h vals w hG hd
      have hn : ∀ w w', wr.contains ts.length = false → L w w' := fun w w' hf => (by rw [hin] at hf; cases hf)
      have hu : ∀ v w, t v w → t (upd vals ts.length v ts.length) w := fun v w ht => by rw [upd_same]; exact ht
      unfold Op at this ⊢
      generalize (execOp (fr vals).eval o).run P w = r at this
      cases r with
      | ok n w' =>
        cases n <;> simp only [upon] at this ⊢
        case value u => exact ⟨hn _ _, fun _ => this.1, hu _ _ this.2⟩
        case skip => exact ⟨hn _ _, fun _ => this.1, hu _ _ this.2⟩
        case enter f args => exact this.mono fun e w'' ⟨v, he, hh⟩ => ⟨v, he, hn _ _, fun _ => hh.1, hu _ _ hh.2⟩
      | halt x w' => simp only [upon] at this), hr⟩

/-- A writer that yields nothing that is looked at; what it leaves may speak of the values of operations ahead of it. -/
theorem walk3_lays {ops : Array Oper} {A wr : List Nat} {o : Oper} {rest : List Oper} {ts : List Said3} {fr : (Nat → Value) → Act} (t : (Nat → Value) → World → Prop) (ends : Option Nat) (keeps looks : List Nat)
    (hw : ∀ vals : Nat → Value, Region.wanted o (yielded ops (fr vals).tmps) = true) (hla : lasts3 A wr ts.length ends keeps = true) (hin : wr.contains ts.length = true)
    (hlk : (looks.all fun j => (A.getD ts.length 0).testBit j && j != ts.length) = true) (hcg : ∀ (vals vals' : Nat → Value) w, (∀ j, looks.contains j = true → vals j = vals' j) → t vals w → t vals' w)
    (hst : ∀ vals w w', L w w' → t vals w → t vals w') (hsk : ∀ j, wr.contains j = true → keeps.contains j = true → ∀ vals w w', M j w w' → t vals w → t vals w')
    (h : ∀ (vals : Nat → Value) w, ghosts A wr gs ts.length w → dep3 A ts.length ts vals w → Op P o (fr vals) w (Leaves (M ts.length) w fun _ => t vals))
    (hr : walk3 P ops A wr L M gs Q rest (ts ++ [⟨t, fun vals => vals ts.length, false, ends, keeps⟩]) (fun vals => (fr vals).put o.dst (vals ts.length))) : walk3 P ops A wr L M gs Q (o :: rest) ts fr :=
  have hl : ∀ j, looks.contains j = true → (A.getD ts.length 0).testBit j = true ∧ j ≠ ts.length := fun j hj => by
    have := List.all_eq_true.1 hlk j (by simpa using hj)
    simpa using this
  ⟨⟨t, fun vals => vals ts.length, false, ends, keeps⟩, ⟨fun _ => hst, (fun h => by cases h), fun _ _ _ => rfl, .inr fun _ => rfl, fun _ => hsk, fun vals vals' w hc hh => hcg vals vals' w (fun j hj => hc j (.inr (hl j hj).1)) hh⟩, fun _ => hla,
    (fun vals w hG hd => by
      rw [if_pos (hw vals)]
      have := h vals w hG hd
      have hn : ∀ w w', wr.contains ts.length = false → L w w' := fun w w' hf => (by rw [hin] at hf; cases hf)
      have hu : ∀ v w, t vals w → t (upd vals ts.length v) w := fun v w ht => hcg vals _ w (fun j hj => (upd_other _ _ _ _ (hl j hj).2).symm) ht
      unfold Op at this ⊢
      generalize (execOp (fr vals).eval o).run P w = r at this
      cases r with
      | ok n w' =>
        cases n <;> simp only [upon] at this ⊢
        case value u => exact ⟨hn _ _, fun _ => this.1, hu _ _ this.2⟩
        case skip => exact ⟨hn _ _, fun _ => this.1, hu _ _ this.2⟩
        case enter f args => exact this.mono fun e w'' ⟨v, he, hh⟩ => ⟨v, he, hn _ _, fun _ => hh.1, hu _ _ hh.2⟩
      | halt x w' => simp only [upon] at this), hr⟩

theorem walk3_end {ops : Array Oper} {A wr : List Nat} {ts : List Said3} {fr : (Nat → Value) → Act} (h : ∀ (vals : Nat → Value) w, ghostsEnd wr gs w → (∀ (i : Nat) (s : Said3), ts[i]? = some s → s.ends = none → s.t vals w) → Q .normal (fr vals) w) :
    walk3 P ops A wr L M gs Q [] ts fr := h
end

end Go.Proofs.YtfajnflfonechaaDoor.Tame
