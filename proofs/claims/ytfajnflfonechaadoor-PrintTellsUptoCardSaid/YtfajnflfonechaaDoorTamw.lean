/- DERIVED. No program. As 'Tame', with writers: operations that may turn what the others speak of. What is said of a value may end where a writer comes up; what is said of the world holds till the first writer. -/
import Derived.Test.YtfajnflfonechaaDoorTame
namespace Go.Proofs.YtfajnflfonechaaDoor.Tame
open Go

section
variable {P : Program} {ops : Array Oper} {a0 : Act} {L M : World → World → Prop} {ts : Nat → Value → World → Prop} {W : World} {Q : Exit → Act → World → Prop}
  {pure_ wr : Nat → Bool} {ex : Nat → Option Nat} {bef : Nat → Nat → Prop}

/-- What waits for what, all the way down. -/
def Down (ops : Array Oper) (ls : Nat → Bool) : Prop := ∀ k o e, ls k = true → ops[k]? = some o → e ∈ o.after → Region.binds .any e = true → ls e.on = true

theorem run2 (ht : Tidy ops) (hLr : ∀ w, L w w) (hLt : ∀ a b c, L a b → L b c → L a c) (hLM : ∀ a b, L a b → M a b) (hMt : ∀ a b c, M a b → M b c → M a c)
    (hst : ∀ i, pure_ i = false → ∀ v w w', L w w' → ts i v w → ts i v w') (hpu : ∀ i, pure_ i = true → ∀ v w w', ts i v w → ts i v w')
    (hbd : ∀ ls, Down ops ls → ∀ i j, bef j i → ls i = true → ls j = true) (hbl : ∀ i j, bef j i → j < i)
    (hC : ∀ k, k < ops.size → pure_ k = false → ∀ j, wr j = true → j ≠ k → bef j k ∨ ∃ x, ex k = some x ∧ (x = j ∨ bef x j))
    (hob : ∀ i o, ops[i]? = some o → ∀ (vals : Nat → Value) w, ((∀ j, wr j = true → j = i ∨ bef i j) → L W w) → M W w → (∀ k, bef k i → (∀ x, ex k = some x → x = i ∨ bef i x) → ts k (vals k) w) →
      if Region.wanted o (yielded ops (stF ops a0 (fun _ => true) vals i).tmps) = true then Op P o (stF ops a0 (fun _ => true) vals i) w (fun v w' => (wr i = false → L w w') ∧ (wr i = true → M w w') ∧ ts i v w') else ts i undef w)
    (hfin : ∀ (vals : Nat → Value) w, ((∀ j, j < ops.size → wr j = false) → L W w) → M W w → (∀ i, i < ops.size → ex i = none → ts i (vals i) w) → Q .normal (stF ops a0 (fun _ => true) vals ops.size) w) :
    ∀ (fuel : Nat) (listed : Array Bool) (vals : Nat → Value) (w : World), listed.size = ops.size → unl listed ops.size ≤ fuel → Down ops (fun k => listed.getD k false) →
      ((∀ j, wr j = true → listed.getD j false = false) → L W w) → M W w → (∀ k, k < ops.size → listed.getD k false = true → (∀ x, ex k = some x → listed.getD x false = false) → ts k (vals k) w) →
      wpAny P .any ops Q fuel listed (stF ops a0 (fun k => listed.getD k false) vals ops.size) w := by
  have fin : ∀ (listed : Array Bool) (vals : Nat → Value) (w : World), listed.size = ops.size → (∀ k, k < ops.size → listed.getD k false = true) → ((∀ j, wr j = true → listed.getD j false = false) → L W w) → M W w →
      (∀ k, k < ops.size → listed.getD k false = true → (∀ x, ex k = some x → listed.getD x false = false) → ts k (vals k) w) →
      Q .normal (stF ops a0 (fun k => listed.getD k false) vals ops.size) w := by
    intro listed vals w hsz hall hL hM hts
    rw [stF_congr (fun k => listed.getD k false) (fun _ => true) vals vals ops.size fun k hk => ⟨hall k hk, fun _ => rfl⟩]
    refine hfin vals w (fun h => hL fun j hj => ?_) hM fun i hi hx => hts i hi (hall i hi) fun x h => by rw [hx] at h; cases h
    rcases Nat.lt_or_ge j ops.size with h' | h'
    · rw [h j h'] at hj; cases hj
    · have : ¬ j < listed.size := by omega
      simp [Array.getD, this]
  intro fuel
  induction fuel with
  | zero =>
    intro listed vals w hsz hun _ hL hM hts
    have hall := unl_zero listed ops.size (by omega)
    refine ⟨?_, fin listed vals w hsz hall hL hM hts⟩
    cases hr : Region.ready .any ops listed with
    | nil => rfl
    | cons j js =>
      exfalso
      have hj : j ∈ Region.ready .any ops listed := by rw [hr]; exact List.mem_cons_self
      rw [mem_ready] at hj
      obtain ⟨h0, o, ho, _⟩ := hj
      have hlt : j < ops.size := (Array.getElem?_eq_some_iff.1 ho).1
      have h1 := hall j hlt
      have hj' : j < listed.size := by omega
      simp [Array.getD, hj'] at h0 h1
      rw [h0] at h1
      cases h1
  | succ fuel ih =>
    intro listed vals w hsz hun hcl hL hM hts
    refine ⟨fun hr => fin listed vals w hsz (all_of_ready ht hr hsz) hL hM hts, fun i hi => ?_⟩
    rw [mem_ready] at hi
    obtain ⟨h0, o, ho, haf⟩ := hi
    have hlt : i < ops.size := (Array.getElem?_eq_some_iff.1 ho).1
    have hil : i < listed.size := by omega
    have hif : listed.getD i false = false := by simpa [Array.getD, hil] using h0
    have hset : ∀ k, (listed.setIfInBounds i true).getD k false = if k = i then true else listed.getD k false := by
      intro k
      by_cases hki : k = i
      · subst hki; simp [hil]
      · rw [if_neg hki, getD_set_ne false (Ne.symm hki)]
    have hcl' : Down ops (fun k => (listed.setIfInBounds i true).getD k false) := by
      intro k o' e hk ho' he hb
      by_cases hki : k = i
      · subst hki
        rw [ho] at ho'
        injection ho' with ho'
        subst ho'
        exact getD_set_true (haf e he hb)
      · have hk' : listed.getD k false = true := by
          have := hset k
          rw [if_neg hki] at this
          rw [← this]; exact hk
        exact getD_set_true (hcl k o' e hk' ho' he hb)
    have hagree : ∀ d ∈ o.looksAt ops, (stF ops a0 (fun k => listed.getD k false) vals ops.size).tmps[d]? = (stF ops a0 (fun _ => true) vals i).tmps[d]? := by
      intro d hd
      rw [← stF_trunc vals i ops.size (by omega)]
      refine stF_slot _ _ _ _ d _ fun k _ hk => ⟨?_, fun _ => rfl⟩
      rcases ht.looks i o ho d hd k hk with rfl | ⟨e, he, hb, rfl⟩ | ⟨hik, o', ho', e, he, hb, rfl⟩
      · simpa using hif
      · have := ht.back i o ho e he hb
        rw [haf e he hb]
        simp [this]
      · cases hlk : listed.getD k false with
        | false =>
          have : ¬ k < e.on := by omega
          simp [this]
        | true =>
          have := hcl k o' e hlk ho' he hb
          simp only [hif] at this
          cases this
    have hstep := hob i o ho vals w
      (fun hw => hL fun j hj => by
        rcases hw j hj with rfl | hb
        · exact hif
        · cases hlj : listed.getD j false with
          | false => rfl
          | true => have := hbd _ hcl j i hb hlj; simp only [hif] at this; cases this)
      hM (fun k hk hx => by
        have hki := hbl i k hk
        have h1 : (listed.setIfInBounds i true).getD k false = true := hbd _ hcl' i k hk (by rw [hset]; simp)
        rw [hset, if_neg (by omega)] at h1
        refine hts k (by omega) h1 fun x hxe => ?_
        rcases hx x hxe with rfl | hb
        · exact hif
        · cases hlj : listed.getD x false with
          | false => rfl
          | true => have := hbd _ hcl x i hb hlj; simp only [hif] at this; cases this)
    have next : ∀ v w', (wr i = false → L w w') → (wr i = true → M w w') → ts i v w' → wpAny P .any ops Q fuel (listed.setIfInBounds i true) ((stF ops a0 (fun k => listed.getD k false) vals ops.size).put o.dst v) w' := by
      intro v w' hLw hMw htv
      have hd : dstOf ops i = o.dst := by simp [dstOf, ho]
      have e1 : (stF ops a0 (fun k => listed.getD k false) vals ops.size).put o.dst v = stF ops a0 (fun k => (listed.setIfInBounds i true).getD k false) (upd vals i v) ops.size := by
        rw [← hd, ← stF_upd (fun k => listed.getD k false) vals i v hif (fun k hk d h1 => ht.once i k d hk h1) ops.size hlt]
        refine stF_congr _ _ _ _ _ fun k _ => ⟨?_, fun _ => rfl⟩
        by_cases hki : k = i
        · subst hki; rw [upd_same, hset, if_pos rfl]
        · rw [upd_other _ _ _ _ hki, hset, if_neg hki]
      rw [e1]
      refine ih _ _ _ (by simpa using hsz) (by have := unl_set listed i ops.size hlt hil hif; omega) hcl' (fun hw => ?_) (hMt _ _ _ hM (by
        cases hwi : wr i with
        | true => exact hMw hwi
        | false => exact hLM _ _ (hLw hwi))) (fun k hk hlk hal => ?_)
      · have hwi : wr i = false := by
          cases hwi : wr i with
          | false => rfl
          | true => have := hw i hwi; rw [hset, if_pos rfl] at this; cases this
        refine hLt _ _ _ (hL fun j hj => ?_) (hLw hwi)
        have := hw j hj
        rw [hset] at this
        split at this
        · cases this
        · exact this
      · by_cases hki : k = i
        · subst hki; rw [upd_same]; exact htv
        · rw [upd_other _ _ _ _ hki]
          rw [hset, if_neg hki] at hlk
          have hal0 : ∀ x, ex k = some x → listed.getD x false = false := by
            intro x hx
            have := hal x hx
            rw [hset] at this
            split at this
            · cases this
            · exact this
          have hold := hts k hk hlk hal0
          cases hp : pure_ k with
          | true => exact hpu k hp _ _ _ hold
          | false =>
            cases hwi : wr i with
            | false => exact hst k hp _ _ _ (hLw hwi) hold
            | true =>
              exfalso
              rcases hC k hk hp i hwi (Ne.symm hki) with hb | ⟨x, hx, hxi | hb⟩
              · have := hbd _ hcl k i hb hlk
                simp only [hif] at this
                cases this
              · subst hxi
                have := hal x hx
                rw [hset, if_pos rfl] at this
                cases this
              · have h1 : (listed.setIfInBounds i true).getD x false = true := hbd _ hcl' i x hb (by rw [hset]; simp)
                rw [hal x hx] at h1
                cases h1
    have hsel : ∀ cs b, o.op ≠ .select cs b := fun cs b => ht.noSel i o cs b ho
    have hwe := wanted_agree (ops := ops) hagree
    unfold wpOp
    rw [ho]
    show if Region.wanted o (yielded ops (stF ops a0 (fun k => listed.getD k false) vals ops.size).tmps) = true then _ else _
    by_cases hw : Region.wanted o (yielded ops (stF ops a0 (fun _ => true) vals i).tmps) = true
    · rw [if_pos hw] at hstep
      rw [if_pos (hwe.trans hw)]
      refine .inl (Op.wp (R := fun v w' => (wr i = false → L w w') ∧ (wr i = true → M w w') ∧ ts i v w') ?_ fun v w' ⟨h1, h2, h3⟩ => next v w' h1 h2 h3)
      unfold Op at hstep ⊢
      rw [exec_agree hsel hagree]
      exact hstep
    · rw [if_neg hw] at hstep
      rw [if_neg (fun h => hw (hwe.symm.trans h))]
      exact next undef w (fun _ => hLr w) (fun _ => hLM _ _ (hLr w)) hstep
end

/-! ### What waits for what, reckoned -/

def mask (acc : List Nat) (o : Oper) : Nat := o.after.toList.foldl (fun m e => if Region.binds .any e then m ||| 2 ^ e.on ||| acc.getD e.on 0 else m) 0
def ancs : List Oper → List Nat → List Nat
  | [], acc => acc
  | o :: rest, acc => ancs rest (acc ++ [mask acc o])
/-- j comes up before i, in every order. -/
def befB (ops : List Oper) (j i : Nat) : Bool := ((ancs ops []).getD i 0).testBit j

theorem mask_bit (acc : List Nat) (l : List Edge) (j : Nat) : ∀ m : Nat, (l.foldl (fun m e => if Region.binds .any e then m ||| 2 ^ e.on ||| acc.getD e.on 0 else m) m).testBit j = true →
    m.testBit j = true ∨ ∃ e ∈ l, Region.binds .any e = true ∧ (j = e.on ∨ (acc.getD e.on 0).testBit j = true) := by
  induction l with
  | nil => intro m h; exact .inl h
  | cons e l ih =>
    intro m h
    rw [List.foldl_cons] at h
    rcases ih _ h with h1 | ⟨e', he', h2⟩
    · by_cases hb : Region.binds .any e = true
      · rw [if_pos hb, Nat.testBit_or, Nat.testBit_or, Bool.or_eq_true, Bool.or_eq_true, Nat.testBit_two_pow, decide_eq_true_eq] at h1
        rcases h1 with (h1 | h1) | h1
        · exact .inl h1
        · exact .inr ⟨e, List.mem_cons_self, hb, .inl h1.symm⟩
        · exact .inr ⟨e, List.mem_cons_self, hb, .inr h1⟩
      · rw [if_neg hb] at h1
        exact .inl h1
    · exact .inr ⟨e', List.mem_cons_of_mem _ he', h2⟩

/-- What a list of masks is good for. -/
structure Masks (ops : Array Oper) (acc : List Nat) : Prop where
  down : ∀ ls, Down ops ls → ∀ i j, (acc.getD i 0).testBit j = true → ls i = true → ls j = true
  less : ∀ i j, (acc.getD i 0).testBit j = true → j < i

theorem masks_all {ops : Array Oper} (ht : Tidy ops) : ∀ (rest : List Oper) (acc : List Nat), (∀ j, rest[j]? = ops[acc.length + j]?) → Masks ops acc → Masks ops (ancs rest acc) := by
  intro rest
  induction rest with
  | nil => intro acc _ h; exact h
  | cons o rest ih =>
    intro acc hops h
    have ho : ops[acc.length]? = some o := by have := hops 0; simpa using this.symm
    refine ih _ (fun j => by have := hops (j + 1); rw [List.length_append, List.length_singleton]; simpa [Nat.add_assoc, Nat.add_comm 1 j] using this) ?_
    have get : ∀ i, (acc ++ [mask acc o]).getD i 0 = if i < acc.length then acc.getD i 0 else if i = acc.length then mask acc o else 0 := by
      intro i
      by_cases h1 : i < acc.length
      · rw [if_pos h1]; simp [List.getD, List.getElem?_append_left h1]
      · rw [if_neg h1]
        by_cases h2 : i = acc.length
        · subst h2; simp [List.getD]
        · rw [if_neg h2]
          have : (acc ++ [mask acc o])[i]? = none := List.getElem?_eq_none (by simp; omega)
          simp [List.getD, this]
    refine ⟨fun ls hd i j hb hi => ?_, fun i j hb => ?_⟩
    · rw [get] at hb
      split at hb
      · exact h.down ls hd i j hb hi
      · split at hb
        · rename_i _ h2
          subst h2
          rcases mask_bit acc _ j 0 hb with h0 | ⟨e, he, hbe, h3⟩
          · simp at h0
          · have := hd acc.length o e hi ho (by simpa using he) hbe
            rcases h3 with rfl | h3
            · exact this
            · exact h.down ls hd e.on j h3 this
        · simp at hb
    · rw [get] at hb
      split at hb
      · exact h.less i j hb
      · split at hb
        · rename_i _ h2
          subst h2
          rcases mask_bit acc _ j 0 hb with h0 | ⟨e, he, hbe, h3⟩
          · simp at h0
          · have hlt := ht.back acc.length o ho e (by simpa using he) hbe
            rcases h3 with rfl | h3
            · exact hlt
            · have := h.less e.on j h3; omega
        · simp at hb

theorem mask_mono (acc : List Nat) (l : List Edge) (j : Nat) : ∀ m : Nat, m.testBit j = true → (l.foldl (fun m e => if Region.binds .any e then m ||| 2 ^ e.on ||| acc.getD e.on 0 else m) m).testBit j = true := by
  induction l with
  | nil => intro m h; exact h
  | cons e l ih =>
    intro m h
    rw [List.foldl_cons]
    refine ih _ ?_
    split
    · rw [Nat.testBit_or, Nat.testBit_or, h]; rfl
    · exact h
theorem mask_has (acc : List Nat) (l : List Edge) : ∀ (m : Nat) (e : Edge), e ∈ l → Region.binds .any e = true → (l.foldl (fun m e => if Region.binds .any e then m ||| 2 ^ e.on ||| acc.getD e.on 0 else m) m).testBit e.on = true := by
  induction l with
  | nil => intro m e h; cases h
  | cons x l ih =>
    intro m e he hb
    rw [List.foldl_cons]
    rcases List.mem_cons.1 he with rfl | he
    · refine mask_mono acc l e.on _ ?_
      rw [if_pos hb, Nat.testBit_or, Nat.testBit_or, Nat.testBit_two_pow]
      simp
    · exact ih _ e he hb
theorem ancs_keep (rest : List Oper) : ∀ (acc : List Nat) (i : Nat), i < acc.length → (ancs rest acc).getD i 0 = acc.getD i 0 := by
  induction rest with
  | nil => intro acc i _; rfl
  | cons o rest ih =>
    intro acc i hi
    show (ancs rest (acc ++ [mask acc o])).getD i 0 = _
    rw [ih _ i (by simp; omega)]
    simp [List.getD, List.getElem?_append_left hi]
/-- A direct edge is in the mask. -/
theorem direct {ops : Array Oper} : ∀ (rest : List Oper) (acc : List Nat), (∀ j, rest[j]? = ops[acc.length + j]?) → ∀ i o, ops[i]? = some o → ∀ e ∈ o.after, Region.binds .any e = true → acc.length ≤ i → ((ancs rest acc).getD i 0).testBit e.on = true := by
  intro rest
  induction rest with
  | nil =>
    intro acc hops i o ho e _ _ hi
    have := hops (i - acc.length)
    rw [show acc.length + (i - acc.length) = i by omega, ho] at this
    cases this
  | cons o1 rest ih =>
    intro acc hops i o ho e he hb hi
    by_cases hia : i = acc.length
    · subst hia
      have h1 := hops 0
      rw [Nat.add_zero, ho] at h1
      injection h1 with h1
      subst h1
      show ((ancs rest (acc ++ [mask acc o1])).getD acc.length 0).testBit e.on = true
      rw [ancs_keep rest _ _ (by simp)]
      have : (acc ++ [mask acc o1]).getD acc.length 0 = mask acc o1 := by simp [List.getD]
      rw [this]
      exact mask_has acc _ 0 e (by simpa using he) hb
    · exact ih (acc ++ [mask acc o1]) (fun j => by have := hops (j + 1); rw [List.length_append, List.length_singleton]; simpa [Nat.add_assoc, Nat.add_comm 1 j] using this) i o ho e he hb (by simp; omega)

/-! ### The walk with writers -/

/-- What is known of an operation's value: 'known': it speaks of no world; 'ends' is the writer with which what is said of the value ends. -/
structure Said2 where
  t : TP
  u : (Nat → Value) → Value
  known : Bool
  ends : Option Nat

section
variable {P : Program} {L M : World → World → Prop} {W : World} {Q : Exit → Act → World → Prop}

def Good2 (L : World → World → Prop) (i : Nat) (s : Said2) : Prop :=
  (s.known = false → ∀ v w w', L w w' → s.t v w → s.t v w') ∧ (s.known = true → ∀ v w w', s.t v w → s.t v w') ∧
  (∀ (vals : Nat → Value) w, s.t (vals i) w → s.u vals = vals i) ∧ (s.ends = none ∨ ∀ vals : Nat → Value, s.u vals = vals i)

/-- Where the writers leave what is said alone. -/
def lasts (A : List Nat) (wr : List Nat) (i : Nat) (ends : Option Nat) : Bool :=
  wr.all fun j => j == i || (A.getD i 0).testBit j || (match ends with | none => false | some x => x == j || (A.getD j 0).testBit x)
/-- Is it still said when operation i comes up? -/
def still (A : List Nat) (i : Nat) (ends : Option Nat) : Bool := match ends with | none => true | some x => x == i || (A.getD x 0).testBit i
/-- Does no writer come up ahead of operation i? -/
def fresh (A : List Nat) (wr : List Nat) (i : Nat) : Bool := wr.all fun j => j == i || (A.getD j 0).testBit i

def dep2 (A : List Nat) (i : Nat) (ts : List Said2) (vals : Nat → Value) (w : World) : Prop :=
  ∀ k s, ts[k]? = some s → (A.getD i 0).testBit k = true → still A i s.ends = true → s.t (vals k) w

def walk2 (P : Program) (ops : Array Oper) (A wr : List Nat) (L M : World → World → Prop) (W : World) (Q : Exit → Act → World → Prop) : List Oper → List Said2 → ((Nat → Value) → Act) → Prop
  | [], ts, fr => ∀ (vals : Nat → Value) w, (wr = [] → L W w) → M W w → (∀ (i : Nat) (s : Said2), ts[i]? = some s → s.ends = none → s.t (vals i) w) → Q .normal (fr vals) w
  | o :: rest, ts, fr => ∃ s, Good2 L ts.length s ∧ (s.known = false → lasts A wr ts.length s.ends = true) ∧
      (∀ (vals : Nat → Value) w, (fresh A wr ts.length = true → L W w) → M W w → dep2 A ts.length ts vals w →
        if Region.wanted o (yielded ops (fr vals).tmps) = true then Op P o (fr vals) w (fun v w' => (wr.contains ts.length = false → L w w') ∧ (wr.contains ts.length = true → M w w') ∧ s.t v w') else s.t undef w) ∧
      walk2 P ops A wr L M W Q rest (ts ++ [s]) (fun vals => (fr vals).put o.dst (s.u vals))

def frU2 (ops : Array Oper) (a0 : Act) (ts : List Said2) (vals : Nat → Value) : Nat → Act
  | 0 => a0
  | n + 1 => (frU2 ops a0 ts vals n).put (dstOf ops n) (match ts[n]? with | some s => s.u vals | none => vals n)

theorem frU2_size (ops : Array Oper) (a0 : Act) (ts : List Said2) (vals : Nat → Value) (n : Nat) : (frU2 ops a0 ts vals n).tmps.size = a0.tmps.size := by
  induction n with
  | zero => rfl
  | succ n ih => unfold frU2; rw [put_size, ih]

theorem frU2_more {ops : Array Oper} {a0 : Act} {ts ts' : List Said2} {vals : Nat → Value} (n : Nat) (h : ∀ k, k < n → ts[k]? = ts'[k]?) : frU2 ops a0 ts vals n = frU2 ops a0 ts' vals n := by
  induction n with
  | zero => rfl
  | succ n ih => unfold frU2; rw [ih fun k hk => h k (by omega), h n (by omega)]

theorem frU2_slot {ops : Array Oper} {a0 : Act} {ts : List Said2} {vals : Nat → Value} (d : Tmp) (n : Nat)
    (h : ∀ k, k < n → dstOf ops k = some d → ∀ s, ts[k]? = some s → s.u vals = vals k) : (frU2 ops a0 ts vals n).tmps[d]? = (stF ops a0 (fun _ => true) vals n).tmps[d]? := by
  induction n with
  | zero => rfl
  | succ n ih =>
    have ih' := ih fun k hk => h k (by omega)
    unfold frU2 stF
    simp only [if_true]
    by_cases hd : dstOf ops n = some d
    · rw [hd, put_slot, put_slot, frU2_size, stF_size]
      have := h n (by omega) hd
      cases hs : ts[n]? with
      | none => rfl
      | some s => simp only [this s hs]
    · rw [put_other _ _ _ _ hd, put_other _ _ _ _ hd, ih']

theorem walk2_all {ops : Array Oper} {A wr : List Nat} {a0 : Act} : ∀ (rest : List Oper) (ts : List Said2) (fr : (Nat → Value) → Act),
    (∀ vals, fr vals = frU2 ops a0 ts vals ts.length) → (∀ j, rest[j]? = ops[ts.length + j]?) →
    walk2 P ops A wr L M W Q rest ts fr → ∃ all : List Said2, all.length = ts.length + rest.length ∧ (∀ k, k < ts.length → all[k]? = ts[k]?) ∧
      (∀ (i : Nat) (s : Said2), ts.length ≤ i → all[i]? = some s → Good2 L i s ∧ (s.known = false → lasts A wr i s.ends = true) ∧ ∃ o, ops[i]? = some o ∧
        ∀ (vals : Nat → Value) w, (fresh A wr i = true → L W w) → M W w → dep2 A i (all.take i) vals w →
          if Region.wanted o (yielded ops (frU2 ops a0 all vals i).tmps) = true then Op P o (frU2 ops a0 all vals i) w (fun v w' => (wr.contains i = false → L w w') ∧ (wr.contains i = true → M w w') ∧ s.t v w') else s.t undef w) ∧
      (∀ (vals : Nat → Value) w, (wr = [] → L W w) → M W w → (∀ (i : Nat) (s : Said2), all[i]? = some s → s.ends = none → s.t (vals i) w) → Q .normal (frU2 ops a0 all vals all.length) w) := by
  intro rest
  induction rest with
  | nil =>
    intro ts fr hfr _ hw
    refine ⟨ts, by simp, fun _ _ => rfl, fun i s hi hs => ?_, fun vals w hL hM hts => ?_⟩
    · rw [List.getElem?_eq_none hi] at hs; cases hs
    · rw [← hfr]; exact hw vals w hL hM hts
  | cons o rest ih =>
    intro ts fr hfr hops hw
    obtain ⟨s, hg, hla, hob, hrest⟩ := hw
    have ho : ops[ts.length]? = some o := by have := hops 0; simpa using this.symm
    have hd : dstOf ops ts.length = o.dst := by simp [dstOf, ho]
    obtain ⟨all, h1, h2, h3, h4⟩ := ih (ts ++ [s]) (fun vals => (fr vals).put o.dst (s.u vals)) (fun vals => by
        rw [List.length_append, List.length_singleton]
        unfold frU2
        rw [hd]
        have e1 : (ts ++ [s])[ts.length]? = some s := by simp
        have e2 : frU2 ops a0 (ts ++ [s]) vals ts.length = frU2 ops a0 ts vals ts.length := frU2_more _ fun k hk => List.getElem?_append_left hk
        rw [e1, hfr vals, e2])
      (fun j => by have := hops (j + 1); rw [List.length_append, List.length_singleton]; simpa [Nat.add_assoc, Nat.add_comm 1 j] using this) hrest
    rw [List.length_append, List.length_singleton] at h1 h2 h3
    have hlen : ts.length < all.length := by rw [h1]; omega
    have hk : ∀ k, k < ts.length → all[k]? = ts[k]? := fun k hk => by rw [h2 k (by omega)]; exact List.getElem?_append_left hk
    have hs : all[ts.length]? = some s := by rw [h2 ts.length (by omega)]; simp
    refine ⟨all, by rw [h1]; simp; omega, hk, fun i s' hi hs' => ?_, h4⟩
    by_cases hit : i = ts.length
    · subst hit
      rw [hs] at hs'
      injection hs' with hs'
      subst hs'
      refine ⟨hg, hla, o, ho, fun vals w hL hM hdep => ?_⟩
      have e : frU2 ops a0 all vals ts.length = fr vals := by rw [hfr vals]; exact frU2_more _ hk
      rw [e]
      refine hob vals w hL hM fun k s2 hs2 hb hst => hdep k s2 ?_ hb hst
      have hlt : k < ts.length := by
        rcases Nat.lt_or_ge k ts.length with h' | h'
        · exact h'
        · rw [List.getElem?_eq_none h'] at hs2; cases hs2
      rw [List.getElem?_take, if_pos hlt, hk _ hlt]
      exact hs2
    · exact h3 i s' (by omega) hs'

/-- The writers are operations of the region; what is looked at waits for what yields it. -/
theorem wp_region_tamw {ops : List Oper} (wr : List Nat) {id : Nat} {a0 : Act} {w0 : World} (hm : P.follows .mixedOrders = true) (htd : tidy ops.toArray = true) (hLr : ∀ w, L w w) (hLt : ∀ a b c, L a b → L b c → L a c) (hLM : ∀ a b, L a b → M a b) (hMt : ∀ a b c, M a b → M b c → M a c)
    (h : walk2 P ops.toArray (ancs ops []) wr L M w0.drew Q ops [] (fun _ => a0)) : (Code.region id ops.toArray true).wp P Q a0 w0 := by
  obtain ⟨all, h1, _, h3, h4⟩ := walk2_all (a0 := a0) ops [] (fun _ => a0) (fun _ => rfl) (fun j => by simp) h
  have htid := tidy_spec htd
  have hmask : Masks ops.toArray (ancs ops []) := masks_all htid ops [] (fun j => by simp) ⟨fun ls _ i j hb => by simp [List.getD] at hb, fun i j hb => by simp [List.getD] at hb⟩
  have hsz : all.length = ops.toArray.size := by simpa using h1
  have sd : ∀ i, i < ops.toArray.size → ∃ s, all[i]? = some s := fun i hi => ⟨all[i]'(by omega), List.getElem?_eq_getElem (by omega)⟩
  let ts : Nat → Value → World → Prop := fun i v w => ∀ s, all[i]? = some s → s.t v w
  let pu : Nat → Bool := fun i => match all[i]? with | some s => s.known | none => true
  let ex : Nat → Option Nat := fun i => match all[i]? with | some s => s.ends | none => none
  let bef : Nat → Nat → Prop := fun j i => ((ancs ops []).getD i 0).testBit j = true
  have fresh_of : ∀ i, (∀ j, wr.contains j = true → j = i ∨ bef i j) ↔ fresh (ancs ops []) wr i = true := by
    intro i
    unfold fresh
    rw [List.all_eq_true]
    constructor
    · intro hh j hj
      rcases hh j (by simpa using hj) with rfl | hb
      · simp
      · simp only [Bool.or_eq_true, beq_iff_eq]; exact .inr hb
    · intro hh j hj
      have := hh j (by simpa using hj)
      simpa only [Bool.or_eq_true, beq_iff_eq] using this
  have hh0 : ∀ k, (Array.replicate ops.toArray.size false).getD k false = false := by
    intro k
    simp [Array.getD]
  refine wp_region_any hm ?_
  have hrun := run2 (P := P) (ops := ops.toArray) (a0 := a0) (L := L) (M := M) (ts := ts) (W := w0.drew) (Q := Q) (pure_ := pu) (wr := fun j => wr.contains j) (ex := ex) (bef := bef) htid hLr hLt hLM hMt
    (fun i hp v w w' hl ht s hs => (h3 i s (by simp) hs).1.1 (by have : pu i = s.known := by simp only [pu, hs]
                                                                 rw [← this]; exact hp) v w w' hl (ht s hs))
    (fun i hp v w w' ht s hs => ((h3 i s (by simp) hs).1.2.1 (by have : pu i = s.known := by simp only [pu, hs]
                                                                 rw [← this]; exact hp)) v w w' (ht s hs))
    (fun ls hd i j hb hi => hmask.down ls hd i j hb hi) (fun i j hb => hmask.less i j hb)
    (fun k hk hp j hj hjk => by
      obtain ⟨s, hs⟩ := sd k hk
      have e1 : pu k = s.known := by simp only [pu, hs]
      have e2 : ex k = s.ends := by simp only [ex, hs]
      have hla := (h3 k s (by simp) hs).2.1 (by rw [← e1]; exact hp)
      have := List.all_eq_true.1 hla j (by simpa using hj)
      simp only [Bool.or_eq_true, beq_iff_eq] at this
      rcases this with (h' | h') | h'
      · exact absurd h' hjk
      · exact .inl h'
      · rw [e2]
        cases hx : s.ends with
        | none => rw [hx] at h'; cases h'
        | some x =>
          rw [hx] at h'
          simp only [Bool.or_eq_true, beq_iff_eq] at h'
          exact .inr ⟨x, rfl, h'⟩)
    (by
      intro i o ho vals w hL hM hdep
      have hi : i < ops.toArray.size := (Array.getElem?_eq_some_iff.1 ho).1
      obtain ⟨s, hs⟩ := sd i hi
      obtain ⟨hg, _, o', ho', hob⟩ := h3 i s (by simp) hs
      rw [ho] at ho'
      injection ho' with ho'
      subst ho'
      have hdep' : ∀ k s2, all[k]? = some s2 → bef k i → still (ancs ops []) i s2.ends = true → s2.t (vals k) w := by
        intro k s2 hs2 hb hst
        refine hdep k hb (fun x hx => ?_) s2 hs2
        have e2 : ex k = s2.ends := by simp only [ex, hs2]
        rw [e2] at hx
        unfold still at hst
        rw [hx] at hst
        simpa only [Bool.or_eq_true, beq_iff_eq] using hst
      have hob := hob vals w (fun hf => hL ((fresh_of i).2 hf)) hM fun k s2 hs2 hb hst => hdep' k s2 (by
        rw [List.getElem?_take] at hs2
        split at hs2
        · exact hs2
        · cases hs2) hb hst
      have hagree : ∀ d ∈ o.looksAt ops.toArray, (stF ops.toArray a0 (fun _ => true) vals i).tmps[d]? = (frU2 ops.toArray a0 all vals i).tmps[d]? := by
        intro d hd
        refine (frU2_slot d i fun k hk hdk s2 hs2 => ?_).symm
        have hg2 := (h3 k s2 (by simp) hs2).1
        rcases hg2.2.2.2 with hend | hu
        · rcases htid.looks i o ho d hd k hdk with rfl | ⟨e, he, hb, rfl⟩ | ⟨hik, _⟩
          · omega
          · refine hg2.2.2.1 vals w (hdep' e.on s2 hs2 ?_ (by rw [hend]; rfl))
            -- a direct edge is in the mask
            exact direct ops [] (fun j => by simp) i o ho e he hb (by simp)
          · omega
        · exact hu vals
      have hsel : ∀ cs b, o.op ≠ .select cs b := fun cs b => htid.noSel i o cs b ho
      have hwe := wanted_agree (ops := ops.toArray) hagree
      by_cases hw : Region.wanted o (yielded ops.toArray (frU2 ops.toArray a0 all vals i).tmps) = true
      · rw [if_pos hw] at hob
        rw [if_pos (hwe.trans hw)]
        unfold Op at hob ⊢
        rw [exec_agree hsel hagree]
        have key : ∀ r : Result Next, upon P (fun v w' => (wr.contains i = false → L w w') ∧ (wr.contains i = true → M w w') ∧ s.t v w') r → upon P (fun v w' => (wr.contains i = false → L w w') ∧ (wr.contains i = true → M w w') ∧ ts i v w') r := by
          intro r hr
          have conv : ∀ v w', ((wr.contains i = false → L w w') ∧ (wr.contains i = true → M w w') ∧ s.t v w') → ((wr.contains i = false → L w w') ∧ (wr.contains i = true → M w w') ∧ ts i v w') := fun v w' hh => ⟨hh.1, hh.2.1, fun s' hs' => by rw [hs] at hs'; injection hs' with hs'; subst hs'; exact hh.2.2⟩
          cases r with
          | ok n w' =>
            cases n <;> simp only [upon] at hr ⊢
            case value u => exact conv _ _ hr
            case skip => exact conv _ _ hr
            case enter f args => exact hr.mono fun e w'' ⟨v, he, hh⟩ => ⟨v, he, conv _ _ hh⟩
          | halt x w' => simp only [upon] at hr
        exact key _ hob
      · rw [if_neg hw] at hob
        rw [if_neg (fun h => hw (hwe.symm.trans h))]
        intro s' hs'
        rw [hs] at hs'
        injection hs' with hs'
        subst hs'
        exact hob)
    (by
      intro vals w hL hM hts
      have e : stF ops.toArray a0 (fun _ => true) vals ops.toArray.size = frU2 ops.toArray a0 all vals all.length := by
        rw [hsz]
        have hu : ∀ n, n ≤ ops.toArray.size → stF ops.toArray a0 (fun _ => true) vals n = frU2 ops.toArray a0 all vals n := by
          intro n
          induction n with
          | zero => intro _; rfl
          | succ n ih =>
            intro hn
            unfold stF frU2
            obtain ⟨s, hs⟩ := sd n (by omega)
            rw [ih (by omega), hs]
            simp only [if_true]
            have hg2 := (h3 n s (by simp) hs).1
            rcases hg2.2.2.2 with hend | hu
            · rw [hg2.2.2.1 vals w (hts n (by omega) (by simp only [ex, hs]; exact hend) s hs)]
            · rw [hu vals]
        exact hu _ (Nat.le_refl _)
      rw [e]
      refine h4 vals w (fun hw => hL fun j _ => by rw [hw]; rfl) hM fun i s hs hend => ?_
      have hi : i < ops.toArray.size := by
        rcases Nat.lt_or_ge i all.length with h' | h'
        · omega
        · rw [List.getElem?_eq_none h'] at hs; cases hs
      exact hts i hi (by simp only [ex, hs]; exact hend) s hs)
    ops.toArray.size (Array.replicate ops.toArray.size false) (fun _ => undef) w0.drew (by simp) (by rw [unl_all ops.toArray.size ops.toArray.size (Nat.le_refl _)]; exact Nat.le_refl _)
    (fun k o e hk => by have hk' : (Array.replicate ops.toArray.size false).getD k false = true := hk
                        rw [hh0 k] at hk'; cases hk') (fun _ => hLr _) (hLM _ _ (hLr _)) (fun k _ hk => by rw [hh0 k] at hk; cases hk)
  have e : stF ops.toArray a0 (fun k => (Array.replicate ops.toArray.size false).getD k false) (fun _ => undef) ops.toArray.size = a0 := by
    rw [stF_congr _ (fun k => decide (k < 0)) _ (fun _ => undef) ops.toArray.size fun k _ => ⟨by rw [hh0 k]; simp, fun _ => rfl⟩, stF_trunc _ 0 ops.toArray.size (by omega)]
    rfl
  rw [e] at hrun
  exact hrun
/-- One value, whatever the order; no writer. -/
theorem walk2_known {ops : Array Oper} {A wr : List Nat} {o : Oper} {rest : List Oper} {ts : List Said2} {fr : (Nat → Value) → Act} (hLM : ∀ a b, L a b → M a b)
    (hw : ∀ vals : Nat → Value, Region.wanted o (yielded ops (fr vals).tmps) = true)
    (h : ∃ c : Value, (∀ (vals : Nat → Value) w, (fresh A wr ts.length = true → L W w) → M W w → dep2 A ts.length ts vals w → Op P o (fr vals) w (Is L w c)) ∧
      walk2 P ops A wr L M W Q rest (ts ++ [⟨fun v _ => v = c, fun _ => c, true, none⟩]) (fun vals => (fr vals).put o.dst c)) : walk2 P ops A wr L M W Q (o :: rest) ts fr :=
  let ⟨c, h, hr⟩ := h
  ⟨⟨fun v _ => v = c, fun _ => c, true, none⟩, ⟨(fun h => by cases h), fun _ _ _ _ hh => hh, fun _ _ hh => hh.symm, .inl rfl⟩, (fun h => by cases h),
    (fun vals w hL hM hd => by
      rw [if_pos (hw vals)]
      have := h vals w hL hM hd
      unfold Op at this ⊢
      generalize (execOp (fr vals).eval o).run P w = r at this
      cases r with
      | ok n w' =>
        cases n <;> simp only [upon] at this ⊢
        case value u => exact ⟨fun _ => this.1, fun _ => hLM _ _ this.1, this.2⟩
        case skip => exact ⟨fun _ => this.1, fun _ => hLM _ _ this.1, this.2⟩
        case enter f args => exact this.mono fun e w'' ⟨v, he, hh⟩ => ⟨v, he, fun _ => hh.1, fun _ => hLM _ _ hh.1, hh.2⟩
      | halt x w' => simp only [upon] at this), hr⟩

/-- Not wanted. -/
theorem walk2_off {ops : Array Oper} {A wr : List Nat} {o : Oper} {rest : List Oper} {ts : List Said2} {fr : (Nat → Value) → Act}
    (hw : ∀ vals : Nat → Value, Region.wanted o (yielded ops (fr vals).tmps) = false)
    (hr : walk2 P ops A wr L M W Q rest (ts ++ [⟨fun v _ => v = undef, fun _ => undef, true, none⟩]) (fun vals => (fr vals).put o.dst undef)) : walk2 P ops A wr L M W Q (o :: rest) ts fr :=
  ⟨⟨fun v _ => v = undef, fun _ => undef, true, none⟩, ⟨(fun h => by cases h), fun _ _ _ _ hh => hh, fun _ _ hh => hh.symm, .inl rfl⟩, (fun h => by cases h),
    (fun vals w _ _ _ => by rw [if_neg (by rw [hw vals]; decide)]), hr⟩

/-- Some value, of which this lasts (till the writer 'ends'); no writer itself. -/
theorem walk2_some {ops : Array Oper} {A wr : List Nat} {o : Oper} {rest : List Oper} {ts : List Said2} {fr : (Nat → Value) → Act} (hLM : ∀ a b, L a b → M a b) (t : TP) (ends : Option Nat)
    (hw : ∀ vals : Nat → Value, Region.wanted o (yielded ops (fr vals).tmps) = true) (hla : lasts A wr ts.length ends = true)
    (hst : ∀ v w w', L w w' → t v w → t v w')
    (h : ∀ (vals : Nat → Value) w, (fresh A wr ts.length = true → L W w) → M W w → dep2 A ts.length ts vals w → Op P o (fr vals) w (Has L w t))
    (hr : walk2 P ops A wr L M W Q rest (ts ++ [⟨t, fun vals => vals ts.length, false, ends⟩]) (fun vals => (fr vals).put o.dst (vals ts.length))) : walk2 P ops A wr L M W Q (o :: rest) ts fr :=
  ⟨⟨t, fun vals => vals ts.length, false, ends⟩, ⟨fun _ => hst, (fun h => by cases h), fun _ _ _ => rfl, .inr fun _ => rfl⟩, fun _ => hla,
    (fun vals w hL hM hd => by
      rw [if_pos (hw vals)]
      have := h vals w hL hM hd
      unfold Op at this ⊢
      generalize (execOp (fr vals).eval o).run P w = r at this
      cases r with
      | ok n w' =>
        cases n <;> simp only [upon] at this ⊢
        case value u => exact ⟨fun _ => this.1, fun _ => hLM _ _ this.1, this.2⟩
        case skip => exact ⟨fun _ => this.1, fun _ => hLM _ _ this.1, this.2⟩
        case enter f args => exact this.mono fun e w'' ⟨v, he, hh⟩ => ⟨v, he, fun _ => hh.1, fun _ => hLM _ _ hh.1, hh.2⟩
      | halt x w' => simp only [upon] at this), hr⟩

/-- What a writer leaves. -/
def Leaves (M : World → World → Prop) (w : World) (t : TP) (v : Value) (w' : World) : Prop := M w w' ∧ t v w'
theorem Leaves.mk {M : World → World → Prop} {w w' : World} {t : TP} {v : Value} (h : M w w') (k : t v w') : Leaves M w t v w' := ⟨h, k⟩

/-- A writer that yields some value. -/
theorem walk2_write {ops : Array Oper} {A wr : List Nat} {o : Oper} {rest : List Oper} {ts : List Said2} {fr : (Nat → Value) → Act} (t : TP) (ends : Option Nat)
    (hw : ∀ vals : Nat → Value, Region.wanted o (yielded ops (fr vals).tmps) = true) (hla : lasts A wr ts.length ends = true) (hin : wr.contains ts.length = true)
    (hst : ∀ v w w', L w w' → t v w → t v w')
    (h : ∀ (vals : Nat → Value) w, (fresh A wr ts.length = true → L W w) → M W w → dep2 A ts.length ts vals w → Op P o (fr vals) w (Leaves M w t))
    (hr : walk2 P ops A wr L M W Q rest (ts ++ [⟨t, fun vals => vals ts.length, false, ends⟩]) (fun vals => (fr vals).put o.dst (vals ts.length))) : walk2 P ops A wr L M W Q (o :: rest) ts fr :=
  ⟨⟨t, fun vals => vals ts.length, false, ends⟩, ⟨fun _ => hst, (fun h => by cases h), fun _ _ _ => rfl, .inr fun _ => rfl⟩, fun _ => hla,
    (fun vals w hL hM hd => by
      rw [if_pos (hw vals)]
      have := h vals w hL hM hd
      unfold Op at this ⊢
      generalize (execOp (fr vals).eval o).run P w = r at this
      have hn : ∀ w w', wr.contains ts.length = false → L w w' := fun w w' hf => (by rw [hin] at hf; cases hf)
      cases r with
      | ok n w' =>
        cases n <;> simp only [upon] at this ⊢
        case value u => exact ⟨hn _ _, fun _ => this.1, this.2⟩
        case skip => exact ⟨hn _ _, fun _ => this.1, this.2⟩
        case enter f args => exact this.mono fun e w'' ⟨v, he, hh⟩ => ⟨v, he, hn _ _, fun _ => hh.1, hh.2⟩
      | halt x w' => simp only [upon] at this), hr⟩

/-- A writer that yields one value. -/
theorem walk2_puts {ops : Array Oper} {A wr : List Nat} {o : Oper} {rest : List Oper} {ts : List Said2} {fr : (Nat → Value) → Act} (c : Value) (t : World → Prop)
    (hw : ∀ vals : Nat → Value, Region.wanted o (yielded ops (fr vals).tmps) = true) (hla : lasts A wr ts.length none = true) (hin : wr.contains ts.length = true)
    (hst : ∀ w w', L w w' → t w → t w')
    (h : ∀ (vals : Nat → Value) w, (fresh A wr ts.length = true → L W w) → M W w → dep2 A ts.length ts vals w → Op P o (fr vals) w (Leaves M w fun v w' => v = c ∧ t w'))
    (hr : walk2 P ops A wr L M W Q rest (ts ++ [⟨fun v w => v = c ∧ t w, fun _ => c, false, none⟩]) (fun vals => (fr vals).put o.dst c)) : walk2 P ops A wr L M W Q (o :: rest) ts fr :=
  ⟨⟨fun v w => v = c ∧ t w, fun _ => c, false, none⟩, ⟨fun _ v w w' hl hh => ⟨hh.1, hst w w' hl hh.2⟩, (fun h => by cases h), fun _ _ hh => hh.1.symm, .inl rfl⟩, fun _ => hla,
    (fun vals w hL hM hd => by
      rw [if_pos (hw vals)]
      have := h vals w hL hM hd
      unfold Op at this ⊢
      generalize (execOp (fr vals).eval o).run P w = r at this
      have hn : ∀ w w', wr.contains ts.length = false → L w w' := fun w w' hf => (by rw [hin] at hf; cases hf)
      cases r with
      | ok n w' =>
        cases n <;> simp only [upon] at this ⊢
        case value u => exact ⟨hn _ _, fun _ => this.1, this.2⟩
        case skip => exact ⟨hn _ _, fun _ => this.1, this.2⟩
        case enter f args => exact this.mono fun e w'' ⟨v, he, hh⟩ => ⟨v, he, hn _ _, fun _ => hh.1, hh.2⟩
      | halt x w' => simp only [upon] at this), hr⟩

theorem walk2_end {ops : Array Oper} {A wr : List Nat} {ts : List Said2} {fr : (Nat → Value) → Act} (h : ∀ (vals : Nat → Value) w, (wr = [] → L W w) → M W w → (∀ (i : Nat) (s : Said2), ts[i]? = some s → s.ends = none → s.t (vals i) w) → Q .normal (fr vals) w) :
    walk2 P ops A wr L M W Q [] ts fr := h
end

end Go.Proofs.YtfajnflfonechaaDoor.Tame
