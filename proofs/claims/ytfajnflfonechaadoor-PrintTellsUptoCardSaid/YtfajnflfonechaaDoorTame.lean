/- DERIVED. No program. A region that draws its order and holds calls that make memory: ONE walk, in the order of the text, serves every order, if each operation is tame: wherever what it waits for has come up, it yields a value of which something lasting can be said, and a world that is later than the one it got. -/
import Derived.Orders
import Derived.Calls
import Derived.WalkKit
import Derived.Deep.Draws
namespace Go.Proofs.YtfajnflfonechaaDoor.Tame
open Go

/-- What is asked of what an operation has come to. -/
def upon (P : Program) (R : Value → World → Prop) : Result Next → Prop
  | .ok (.value v) w' => R v w'
  | .ok .skip w' => R undef w'
  | .ok (.enter f args) w' => Calls P f args w' (fun e w'' => ∃ v, e = .returned v ∧ R v w'')
  | _ => False

def Op (P : Program) (o : Oper) (a : Act) (w : World) (R : Value → World → Prop) : Prop := upon P R ((execOp a.eval o).run P w)

theorem Op.wp {P : Program} {o : Oper} {a : Act} {w : World} {R : Value → World → Prop} {K : Act → World → Prop} {Q : Exit → Act → World → Prop}
    (h : Op P o a w R) (hK : ∀ v w', R v w' → K (a.put o.dst v) w') : o.wp P a w K Q := by
  unfold Op at h
  unfold Oper.wp
  generalize (execOp a.eval o).run P w = r at *
  cases r with
  | ok n w' =>
    cases n <;> simp only [upon] at h <;> simp only [Oper.upon]
    case value u => exact hK _ _ h
    case skip => exact hK _ _ h
    case enter f args => exact h.mono fun e w'' ⟨v, he, hr⟩ => by subst he; exact hK _ _ hr
  | halt x w' => simp only [upon] at h

def dstOf (ops : Array Oper) (k : Nat) : Option Tmp := (ops[k]?).bind (·.dst)

/-- The frame in which of the first n operations those that are listed have left their values. -/
def stF (ops : Array Oper) (a0 : Act) (ls : Nat → Bool) (vals : Nat → Value) : Nat → Act
  | 0 => a0
  | n + 1 => if ls n then (stF ops a0 ls vals n).put (dstOf ops n) (vals n) else stF ops a0 ls vals n

section
variable {P : Program} {ops : Array Oper} {a0 : Act}

theorem put_size (a : Act) (d : Option Tmp) (v : Value) : (a.put d v).tmps.size = a.tmps.size := by
  cases d <;> simp [Act.put]
theorem put_slot (a : Act) (d : Tmp) (v : Value) : (a.put (some d) v).tmps[d]? = if d < a.tmps.size then some v else none := by
  simp [Act.put, Array.getElem?_setIfInBounds]
theorem put_other (a : Act) (d : Option Tmp) (v : Value) (e : Tmp) (h : d ≠ some e) : (a.put d v).tmps[e]? = a.tmps[e]? := by
  cases d with
  | none => rfl
  | some d =>
    have : d ≠ e := fun x => h (by rw [x])
    simp [Act.put, Array.getElem?_setIfInBounds_ne this]

theorem stF_size (ls : Nat → Bool) (vals : Nat → Value) (n : Nat) : (stF ops a0 ls vals n).tmps.size = a0.tmps.size := by
  induction n with
  | zero => rfl
  | succ n ih => unfold stF; split; rw [put_size, ih]; exact ih

theorem stF_slot (ls ls' : Nat → Bool) (vals vals' : Nat → Value) (d : Tmp) (n : Nat) (h : ∀ k, k < n → dstOf ops k = some d → ls k = ls' k ∧ (ls k = true → vals k = vals' k)) :
    (stF ops a0 ls vals n).tmps[d]? = (stF ops a0 ls' vals' n).tmps[d]? := by
  induction n with
  | zero => rfl
  | succ n ih =>
    have ih' := ih fun k hk => h k (by omega)
    unfold stF
    by_cases hd : dstOf ops n = some d
    · obtain ⟨h1, h2⟩ := h n (by omega) hd
      rw [← h1, hd]
      cases hl : ls n with
      | true =>
        rw [h2 hl]
        simp only [if_true]
        rw [put_slot, put_slot, stF_size, stF_size]
      | false => simpa using ih'
    · have e1 : (if ls n = true then (stF ops a0 ls vals n).put (dstOf ops n) (vals n) else stF ops a0 ls vals n).tmps[d]? = (stF ops a0 ls vals n).tmps[d]? := by
        split
        · exact put_other _ _ _ _ hd
        · rfl
      have e2 : (if ls' n = true then (stF ops a0 ls' vals' n).put (dstOf ops n) (vals' n) else stF ops a0 ls' vals' n).tmps[d]? = (stF ops a0 ls' vals' n).tmps[d]? := by
        split
        · exact put_other _ _ _ _ hd
        · rfl
      rw [e1, e2]
      exact ih'

theorem stF_congr (ls ls' : Nat → Bool) (vals vals' : Nat → Value) (n : Nat) (h : ∀ k, k < n → ls k = ls' k ∧ (ls k = true → vals k = vals' k)) :
    stF ops a0 ls vals n = stF ops a0 ls' vals' n := by
  induction n with
  | zero => rfl
  | succ n ih =>
    have ih' := ih fun k hk => h k (by omega)
    obtain ⟨h1, h2⟩ := h n (by omega)
    unfold stF
    rw [← h1]
    cases hl : ls n with
    | true => rw [h2 hl, ih']
    | false => simpa using ih'

/-- Beyond i nothing is listed. -/
theorem stF_trunc (vals : Nat → Value) (i n : Nat) (h : i ≤ n) : stF ops a0 (fun k => decide (k < i)) vals n = stF ops a0 (fun _ => true) vals i := by
  induction n with
  | zero => have : i = 0 := by omega
            subst this; rfl
  | succ n ih =>
    by_cases hi : i ≤ n
    · unfold stF
      have : ¬ n < i := by omega
      simp only [this, decide_false, Bool.false_eq_true, if_false]
      rw [ih hi]
      cases i <;> rfl
    · have : i = n + 1 := by omega
      subst this
      exact stF_congr _ _ _ _ _ fun k hk => ⟨by simp [hk], fun _ => rfl⟩

def upd {α : Type} (f : Nat → α) (i : Nat) (x : α) : Nat → α := fun k => if k = i then x else f k
theorem upd_same {α : Type} (f : Nat → α) (i : Nat) (x : α) : upd f i x i = x := by simp [upd]
theorem upd_other {α : Type} (f : Nat → α) (i : Nat) (x : α) (k : Nat) (h : k ≠ i) : upd f i x k = f k := by simp [upd, h]

/-- One operation more is listed. -/
theorem stF_upd (ls : Nat → Bool) (vals : Nat → Value) (i : Nat) (v : Value) (hi : ls i = false) (hd : ∀ k, k ≠ i → ∀ d, dstOf ops i = some d → dstOf ops k ≠ some d) (n : Nat) (hn : i < n) :
    stF ops a0 (upd ls i true) (upd vals i v) n = (stF ops a0 ls vals n).put (dstOf ops i) v := by
  induction n with
  | zero => omega
  | succ n ih =>
    by_cases hin : i = n
    · subst hin
      have e : stF ops a0 (upd ls i true) (upd vals i v) i = stF ops a0 ls vals i :=
        stF_congr _ _ _ _ _ fun k hk => ⟨upd_other _ _ _ _ (by omega), fun _ => upd_other _ _ _ _ (by omega)⟩
      unfold stF
      rw [upd_same, upd_same, e, hi]
      simp
    · have ih' := ih (by omega)
      unfold stF
      rw [upd_other _ _ _ _ (by omega), upd_other _ _ _ _ (by omega), ih']
      cases ls n with
      | false => simp
      | true =>
        simp only [if_true]
        exact Act.put_comm _ _ _ fun d hx => hd n (by omega) d hx

/-- What the region must be like: it waits for earlier operations alone; what it looks at has come up, or waits for it; no slot is written twice; no select. -/
def waits (o : Oper) (k : Nat) : Bool := o.after.any fun e => Region.binds .any e && e.on == k
def tidy (ops : Array Oper) : Bool :=
  (List.range ops.size).all fun i => match ops[i]? with
    | none => true
    | some o =>
      (o.after.all fun e => !Region.binds .any e || decide (e.on < i)) &&
      ((o.looksAt ops).all fun d => (List.range ops.size).all fun k =>
        dstOf ops k != some d || k == i || (waits o k) || (decide (i < k) && ((ops[k]?).map fun o' => waits o' i).getD false)) &&
      ((List.range ops.size).all fun k => k == i || (dstOf ops i).isNone || dstOf ops k != dstOf ops i) &&
      (match o.op with | .select .. => false | _ => true)

structure Tidy (ops : Array Oper) : Prop where
  back : ∀ i o, ops[i]? = some o → ∀ e ∈ o.after, Region.binds .any e = true → e.on < i
  looks : ∀ i o, ops[i]? = some o → ∀ d ∈ o.looksAt ops, ∀ k, dstOf ops k = some d → k = i ∨ (∃ e ∈ o.after, Region.binds .any e = true ∧ e.on = k) ∨ (i < k ∧ ∃ o', ops[k]? = some o' ∧ ∃ e ∈ o'.after, Region.binds .any e = true ∧ e.on = i)
  once : ∀ i k d, k ≠ i → dstOf ops i = some d → dstOf ops k ≠ some d
  noSel : ∀ (i : Nat) (o : Oper) cs b, ops[i]? = some o → o.op ≠ .select cs b

theorem dst_lt {k : Nat} {d : Tmp} (h : dstOf ops k = some d) : k < ops.size := by
  unfold dstOf at h
  cases ho : ops[k]? with
  | none => simp [ho] at h
  | some o => exact (Array.getElem?_eq_some_iff.1 ho).1

theorem waits_iff {o : Oper} {k : Nat} : waits o k = true ↔ ∃ e ∈ o.after, Region.binds .any e = true ∧ e.on = k := by
  unfold waits
  rw [Array.any_eq_true']
  constructor
  · rintro ⟨e, he, h⟩
    simp only [Bool.and_eq_true, beq_iff_eq] at h
    exact ⟨e, he, h.1, h.2⟩
  · rintro ⟨e, he, h1, h2⟩
    exact ⟨e, he, by simp [h1, h2]⟩

theorem tidy_spec (h : tidy ops = true) : Tidy ops := by
  have key : ∀ i o, ops[i]? = some o → _ := fun i o ho => by
    have hi : i < ops.size := (Array.getElem?_eq_some_iff.1 ho).1
    have := List.all_eq_true.1 h i (List.mem_range.2 hi)
    simp only [ho, Bool.and_eq_true] at this
    exact this
  refine ⟨fun i o ho e he hb => ?_, fun i o ho d hd k hk => ?_, fun i k d hne hi hk => ?_, fun i o cs b ho hop => ?_⟩
  · have h1 := (key i o ho).1.1.1
    rw [Array.all_eq_true_iff_forall_mem] at h1
    have := h1 e he
    simpa [hb] using this
  · have h2 := (key i o ho).1.1.2
    have h3 := List.all_eq_true.1 (List.all_eq_true.1 h2 d hd) k (List.mem_range.2 (dst_lt hk))
    simp only [hk, bne_self_eq_false, Bool.false_or, Bool.or_eq_true, beq_iff_eq, Bool.and_eq_true, decide_eq_true_eq] at h3
    rcases h3 with (h3 | h3) | h3
    · exact .inl h3
    · exact .inr (.inl (waits_iff.1 h3))
    · refine .inr (.inr ⟨h3.1, ?_⟩)
      cases ho' : ops[k]? with
      | none => simp [ho'] at h3
      | some o' =>
        simp only [ho', Option.map_some, Option.getD_some] at h3
        exact ⟨o', rfl, waits_iff.1 h3.2⟩
  · cases ho : ops[i]? with
    | none => simp [dstOf, ho] at hi
    | some o =>
      have h2 := (key i o ho).1.2
      have h3 := List.all_eq_true.1 h2 k (List.mem_range.2 (dst_lt hk))
      simp [hne, hi, hk] at h3
  · have h2 := (key i o ho).2
    simp [hop] at h2

/-- How many of the first n are not listed. -/
def unl (l : Array Bool) : Nat → Nat
  | 0 => 0
  | n + 1 => unl l n + (if l.getD n false then 0 else 1)

theorem unl_zero (l : Array Bool) (n : Nat) (h : unl l n = 0) : ∀ k, k < n → l.getD k false = true := by
  induction n with
  | zero => intro k hk; omega
  | succ n ih =>
    intro k hk
    unfold unl at h
    by_cases hkn : k = n
    · subst hkn
      cases hl : l.getD k false with
      | true => rfl
      | false => rw [hl] at h; simp at h
    · exact ih (by omega) k (by omega)

theorem unl_set (l : Array Bool) (i n : Nat) (hi : i < n) (hs : i < l.size) (h : l.getD i false = false) : unl (l.setIfInBounds i true) n + 1 = unl l n := by
  have same : ∀ m, m ≤ i → unl (l.setIfInBounds i true) m = unl l m := by
    intro m
    induction m with
    | zero => intro _; rfl
    | succ m ih =>
      intro hm
      unfold unl
      rw [ih (by omega), getD_set_ne false (by omega)]
  induction n with
  | zero => omega
  | succ n ih =>
    unfold unl
    by_cases hin : i = n
    · subst hin
      rw [same i (Nat.le_refl _), h]
      have : (l.setIfInBounds i true).getD i false = true := by simp [hs]
      rw [this]
      simp
    · rw [getD_set_ne false hin]
      have := ih (by omega)
      omega

theorem unl_all (n : Nat) : ∀ m, m ≤ n → unl (Array.replicate n false) m = m := by
  intro m
  induction m with
  | zero => intro _; rfl
  | succ m ih =>
    intro hm
    unfold unl
    rw [ih (by omega)]
    have : (Array.replicate n false).getD m false = false := by simp [Array.getD]
    rw [this]
    simp

theorem exec_agree {o : Oper} {a b : Act} (hs : ∀ cs b, o.op ≠ .select cs b) (h : ∀ d ∈ o.looksAt ops, a.tmps[d]? = b.tmps[d]?) : execOp a.eval o = execOp b.eval o :=
  execOp_congr o hs fun x hx => by
    cases x with
    | tmp d =>
      have hd : d ∈ o.looksAt ops := List.mem_append_left _ (List.mem_filterMap.2 ⟨.tmp d, by simpa using hx, rfl⟩)
      show a.tmps.getD d undef = b.tmps.getD d undef
      rw [Array.getD_eq_getD_getElem?, Array.getD_eq_getD_getElem?, h d hd]
    | _ => rfl

theorem wanted_agree {o : Oper} {a b : Act} (h : ∀ d ∈ o.looksAt ops, a.tmps[d]? = b.tmps[d]?) : Region.wanted o (yielded ops a.tmps) = Region.wanted o (yielded ops b.tmps) := by
  unfold Region.wanted
  cases hg : o.guard with
  | none => rfl
  | some gw =>
    obtain ⟨g, want⟩ := gw
    have hy : yielded ops a.tmps g = yielded ops b.tmps g := by
      unfold yielded
      cases ht : (ops[g]?).bind (·.dst) with
      | none => rfl
      | some t =>
        have := h t (by simp [Oper.looksAt, hg, ht])
        simp [this]
    simp only [hy]

theorem all_of_ready {listed : Array Bool} (ht : Tidy ops) (h : Region.ready .any ops listed = []) (hsz : listed.size = ops.size) : ∀ k, k < ops.size → listed.getD k false = true := by
  intro k
  induction k using Nat.strongRecOn with
  | _ k ih =>
    intro hk
    cases hl : listed.getD k false with
    | true => rfl
    | false =>
      exfalso
      have hmem : k ∈ Region.ready .any ops listed := by
        rw [mem_ready]
        have ho : ops[k]? = some ops[k] := Array.getElem?_eq_getElem hk
        refine ⟨?_, ops[k], ho, fun e he hb => ?_⟩
        · have hk' : k < listed.size := by omega
          simpa [Array.getD, hk'] using hl
        · have hlt := ht.back k _ ho e he hb
          exact ih e.on hlt (by omega)
      rw [h] at hmem
      cases hmem

section
variable {L : World → World → Prop} {ts : Nat → Value → World → Prop} {W : World} {Q : Exit → Act → World → Prop}

theorem run (ht : Tidy ops) (hLr : ∀ w, L w w) (hLt : ∀ a b c, L a b → L b c → L a c) (hst : ∀ i v w w', L w w' → ts i v w → ts i v w')
    (hob : ∀ i o, ops[i]? = some o → ∀ (vals : Nat → Value) w, L W w → (∀ e ∈ o.after, Region.binds .any e = true → ts e.on (vals e.on) w) →
      if Region.wanted o (yielded ops (stF ops a0 (fun _ => true) vals i).tmps) = true then Op P o (stF ops a0 (fun _ => true) vals i) w (fun v w' => L w w' ∧ ts i v w') else ts i undef w)
    (hfin : ∀ (vals : Nat → Value) w, L W w → (∀ i, i < ops.size → ts i (vals i) w) → Q .normal (stF ops a0 (fun _ => true) vals ops.size) w) :
    ∀ (fuel : Nat) (listed : Array Bool) (vals : Nat → Value) (w : World), listed.size = ops.size → unl listed ops.size ≤ fuel →
      (∀ k o e, listed.getD k false = true → ops[k]? = some o → e ∈ o.after → Region.binds .any e = true → listed.getD e.on false = true) →
      L W w → (∀ k, k < ops.size → listed.getD k false = true → ts k (vals k) w) →
      wpAny P .any ops Q fuel listed (stF ops a0 (fun k => listed.getD k false) vals ops.size) w := by
  have fin : ∀ (listed : Array Bool) (vals : Nat → Value) (w : World), (∀ k, k < ops.size → listed.getD k false = true) → L W w → (∀ k, k < ops.size → listed.getD k false = true → ts k (vals k) w) →
      Q .normal (stF ops a0 (fun k => listed.getD k false) vals ops.size) w := by
    intro listed vals w hall hL hts
    rw [stF_congr (fun k => listed.getD k false) (fun _ => true) vals vals ops.size fun k hk => ⟨hall k hk, fun _ => rfl⟩]
    exact hfin vals w hL fun i hi => hts i hi (hall i hi)
  intro fuel
  induction fuel with
  | zero =>
    intro listed vals w hsz hun _ hL hts
    have hall := unl_zero listed ops.size (by omega)
    refine ⟨?_, fin listed vals w hall hL hts⟩
    cases hr : Region.ready .any ops listed with
    | nil => rfl
    | cons j js =>
      exfalso
      have hj : j ∈ Region.ready .any ops listed := by rw [hr]; exact List.mem_cons_self
      rw [mem_ready] at hj
      obtain ⟨h0, o, ho, _⟩ := hj
      have hlt : j < ops.size := (Array.getElem?_eq_some_iff.1 ho).1
      have h1 := hall j hlt
      have hj' : j < listed.size := by omega
      simp [Array.getD, hj'] at h0 h1
      rw [h0] at h1
      cases h1
  | succ fuel ih =>
    intro listed vals w hsz hun hcl hL hts
    refine ⟨fun hr => fin listed vals w (all_of_ready ht hr hsz) hL hts, fun i hi => ?_⟩
    rw [mem_ready] at hi
    obtain ⟨h0, o, ho, haf⟩ := hi
    have hlt : i < ops.size := (Array.getElem?_eq_some_iff.1 ho).1
    have hil : i < listed.size := by omega
    have hif : listed.getD i false = false := by simpa [Array.getD, hil] using h0
    have hagree : ∀ d ∈ o.looksAt ops, (stF ops a0 (fun k => listed.getD k false) vals ops.size).tmps[d]? = (stF ops a0 (fun _ => true) vals i).tmps[d]? := by
      intro d hd
      rw [← stF_trunc vals i ops.size (by omega)]
      refine stF_slot _ _ _ _ d _ fun k _ hk => ⟨?_, fun _ => rfl⟩
      rcases ht.looks i o ho d hd k hk with rfl | ⟨e, he, hb, rfl⟩ | ⟨hik, o', ho', e, he, hb, rfl⟩
      · simpa using hif
      · have := ht.back i o ho e he hb
        rw [haf e he hb]
        simp [this]
      · cases hlk : listed.getD k false with
        | false =>
          have : ¬ k < e.on := by omega
          simp [this]
        | true =>
          have := hcl k o' e hlk ho' he hb
          rw [hif] at this
          cases this
    have hstep := hob i o ho vals w hL fun e he hb => hts e.on (by have := ht.back i o ho e he hb; omega) (haf e he hb)
    have next : ∀ v w', L w w' → ts i v w' → wpAny P .any ops Q fuel (listed.setIfInBounds i true) ((stF ops a0 (fun k => listed.getD k false) vals ops.size).put o.dst v) w' := by
      intro v w' hLw htv
      have hd : dstOf ops i = o.dst := by simp [dstOf, ho]
      have e1 : (stF ops a0 (fun k => listed.getD k false) vals ops.size).put o.dst v = stF ops a0 (fun k => (listed.setIfInBounds i true).getD k false) (upd vals i v) ops.size := by
        rw [← hd, ← stF_upd (fun k => listed.getD k false) vals i v hif (fun k hk d h1 => ht.once i k d hk h1) ops.size hlt]
        refine stF_congr _ _ _ _ _ fun k _ => ⟨?_, fun _ => rfl⟩
        by_cases hki : k = i
        · subst hki; rw [upd_same]; simp [hil]
        · rw [upd_other _ _ _ _ hki, getD_set_ne false (Ne.symm hki)]
      rw [e1]
      refine ih _ _ _ (by simpa using hsz) (by have := unl_set listed i ops.size hlt hil hif; omega) (fun k o' e hk ho' he hb => ?_) (hLt _ _ _ hL hLw) (fun k hk hlk => ?_)
      · by_cases hki : k = i
        · subst hki
          rw [ho] at ho'
          injection ho' with ho'
          subst ho'
          exact getD_set_true (haf e he hb)
        · rw [getD_set_ne false (Ne.symm hki)] at hk
          exact getD_set_true (hcl k o' e hk ho' he hb)
      · by_cases hki : k = i
        · subst hki; rw [upd_same]; exact htv
        · rw [upd_other _ _ _ _ hki]
          rw [getD_set_ne false (Ne.symm hki)] at hlk
          exact hst _ _ _ _ hLw (hts k hk hlk)
    have hsel : ∀ cs b, o.op ≠ .select cs b := fun cs b => ht.noSel i o cs b ho
    have hwe := wanted_agree (ops := ops) hagree
    unfold wpOp
    rw [ho]
    show if Region.wanted o (yielded ops (stF ops a0 (fun k => listed.getD k false) vals ops.size).tmps) = true then _ else _
    by_cases hw : Region.wanted o (yielded ops (stF ops a0 (fun _ => true) vals i).tmps) = true
    · rw [if_pos hw] at hstep
      rw [if_pos (hwe.trans hw)]
      refine .inl (Op.wp (R := fun v w' => L w w' ∧ ts i v w') ?_ fun v w' ⟨h1, h2⟩ => next v w' h1 h2)
      unfold Op at hstep ⊢
      rw [exec_agree hsel hagree]
      exact hstep
    · rw [if_neg hw] at hstep
      rw [if_neg (fun h => hw (hwe.symm.trans h))]
      exact next undef w (hLr w) hstep

/-- The region, by obligations alone. -/
theorem region {id : Nat} {w0 : World} (hm : P.follows .mixedOrders = true) (htd : tidy ops = true) (hLr : ∀ w, L w w) (hLt : ∀ a b c, L a b → L b c → L a c) (hst : ∀ i v w w', L w w' → ts i v w → ts i v w')
    (hob : ∀ i o, ops[i]? = some o → ∀ (vals : Nat → Value) w, L w0.drew w → (∀ e ∈ o.after, Region.binds .any e = true → ts e.on (vals e.on) w) →
      if Region.wanted o (yielded ops (stF ops a0 (fun _ => true) vals i).tmps) = true then Op P o (stF ops a0 (fun _ => true) vals i) w (fun v w' => L w w' ∧ ts i v w') else ts i undef w)
    (hfin : ∀ (vals : Nat → Value) w, L w0.drew w → (∀ i, i < ops.size → ts i (vals i) w) → Q .normal (stF ops a0 (fun _ => true) vals ops.size) w) :
    (Code.region id ops true).wp P Q a0 w0 := by
  refine wp_region_any hm ?_
  have h0 : ∀ k, (Array.replicate ops.size false).getD k false = false := by
    intro k
    simp [Array.getD]
  have h := run (tidy_spec htd) hLr hLt hst hob hfin ops.size (Array.replicate ops.size false) (fun _ => undef) w0.drew (by simp) (by rw [unl_all ops.size ops.size (Nat.le_refl _)]; exact Nat.le_refl _)
    (fun k o e hk => by rw [h0 k] at hk; cases hk) (hLr _) (fun k _ hk => by rw [h0 k] at hk; cases hk)
  have e : stF ops a0 (fun k => (Array.replicate ops.size false).getD k false) (fun _ => undef) ops.size = a0 := by
    rw [stF_congr _ (fun k => decide (k < 0)) _ (fun _ => undef) ops.size fun k _ => ⟨by rw [h0 k]; simp, fun _ => rfl⟩, stF_trunc _ 0 ops.size (by omega)]
    rfl
  rw [e] at h
  exact h
end
end

/-! ### The walk, in the order of the text -/

abbrev TP := Value → World → Prop
/-- What is known of an operation's value, and what stands in its slot while the walk goes on: the value that came (a name), or the one that it must be. -/
structure Said where
  t : TP
  u : (Nat → Value) → Value

section
variable {P : Program} {L : World → World → Prop} {W : World} {Q : Exit → Act → World → Prop}

/-- What an operation may lean on: what is known of those that it waits for. -/
def depF (o : Oper) (ts : List Said) (vals : Nat → Value) (w : World) : Prop :=
  ∀ e ∈ o.after, Region.binds .any e = true → ∀ s : Said, ts[e.on]? = some s → s.t (vals e.on) w

def Good (L : World → World → Prop) (i : Nat) (s : Said) : Prop := (∀ v w w', L w w' → s.t v w → s.t v w') ∧ ∀ (vals : Nat → Value) w, s.t (vals i) w → s.u vals = vals i

def walk (P : Program) (ops : Array Oper) (L : World → World → Prop) (W : World) (Q : Exit → Act → World → Prop) : List Oper → List Said → ((Nat → Value) → Act) → Prop
  | [], ts, fr => ∀ (vals : Nat → Value) w, L W w → (∀ (i : Nat) (s : Said), ts[i]? = some s → s.t (vals i) w) → Q .normal (fr vals) w
  | o :: rest, ts, fr => ∃ s, Good L ts.length s ∧
      (∀ (vals : Nat → Value) w, L W w → depF o ts vals w → if Region.wanted o (yielded ops (fr vals).tmps) = true then Op P o (fr vals) w (fun v w' => L w w' ∧ s.t v w') else s.t undef w) ∧
      walk P ops L W Q rest (ts ++ [s]) (fun vals => (fr vals).put o.dst (s.u vals))

/-- The walk's frames: what stands in the slots is the value that came, wherever what is known holds. -/
def frU (ops : Array Oper) (a0 : Act) (ts : List Said) (vals : Nat → Value) : Nat → Act
  | 0 => a0
  | n + 1 => (frU ops a0 ts vals n).put (dstOf ops n) (match ts[n]? with | some s => s.u vals | none => vals n)

theorem frU_size (ops : Array Oper) (a0 : Act) (ts : List Said) (vals : Nat → Value) (n : Nat) : (frU ops a0 ts vals n).tmps.size = a0.tmps.size := by
  induction n with
  | zero => rfl
  | succ n ih => unfold frU; rw [put_size, ih]

theorem frU_more {ops : Array Oper} {a0 : Act} {ts ts' : List Said} {vals : Nat → Value} (n : Nat) (h : ∀ k, k < n → ts[k]? = ts'[k]?) : frU ops a0 ts vals n = frU ops a0 ts' vals n := by
  induction n with
  | zero => rfl
  | succ n ih => unfold frU; rw [ih fun k hk => h k (by omega), h n (by omega)]

theorem frU_slot {ops : Array Oper} {a0 : Act} {ts : List Said} {vals : Nat → Value} (d : Tmp) (n : Nat)
    (h : ∀ k, k < n → dstOf ops k = some d → ∀ s, ts[k]? = some s → s.u vals = vals k) : (frU ops a0 ts vals n).tmps[d]? = (stF ops a0 (fun _ => true) vals n).tmps[d]? := by
  induction n with
  | zero => rfl
  | succ n ih =>
    have ih' := ih fun k hk => h k (by omega)
    unfold frU stF
    simp only [if_true]
    by_cases hd : dstOf ops n = some d
    · rw [hd, put_slot, put_slot, frU_size, stF_size]
      have := h n (by omega) hd
      cases hs : ts[n]? with
      | none => rfl
      | some s => simp only [this s hs]
    · rw [put_other _ _ _ _ hd, put_other _ _ _ _ hd, ih']

/-- All that the walk chose. -/
theorem walk_all {ops : Array Oper} {a0 : Act} : ∀ (rest : List Oper) (ts : List Said) (fr : (Nat → Value) → Act),
    (∀ vals, fr vals = frU ops a0 ts vals ts.length) → (∀ j, rest[j]? = ops[ts.length + j]?) →
    walk P ops L W Q rest ts fr → ∃ all : List Said, all.length = ts.length + rest.length ∧ (∀ k, k < ts.length → all[k]? = ts[k]?) ∧
      (∀ (i : Nat) (s : Said), ts.length ≤ i → all[i]? = some s → Good L i s ∧ ∃ o, ops[i]? = some o ∧
        ∀ (vals : Nat → Value) w, L W w → depF o (all.take i) vals w → if Region.wanted o (yielded ops (frU ops a0 all vals i).tmps) = true then Op P o (frU ops a0 all vals i) w (fun v w' => L w w' ∧ s.t v w') else s.t undef w) ∧
      (∀ (vals : Nat → Value) w, L W w → (∀ (i : Nat) (s : Said), all[i]? = some s → s.t (vals i) w) → Q .normal (frU ops a0 all vals all.length) w) := by
  intro rest
  induction rest with
  | nil =>
    intro ts fr hfr _ hw
    refine ⟨ts, by simp, fun _ _ => rfl, fun i s hi hs => ?_, fun vals w hL hts => ?_⟩
    · rw [List.getElem?_eq_none hi] at hs; cases hs
    · rw [← hfr]; exact hw vals w hL hts
  | cons o rest ih =>
    intro ts fr hfr hops hw
    obtain ⟨s, hg, hob, hrest⟩ := hw
    have ho : ops[ts.length]? = some o := by have := hops 0; simpa using this.symm
    have hd : dstOf ops ts.length = o.dst := by simp [dstOf, ho]
    obtain ⟨all, h1, h2, h3, h4⟩ := ih (ts ++ [s]) (fun vals => (fr vals).put o.dst (s.u vals)) (fun vals => by
        rw [List.length_append, List.length_singleton]
        unfold frU
        rw [hd]
        have e1 : (ts ++ [s])[ts.length]? = some s := by simp
        have e2 : frU ops a0 (ts ++ [s]) vals ts.length = frU ops a0 ts vals ts.length := frU_more _ fun k hk => List.getElem?_append_left hk
        rw [e1, hfr vals, e2])
      (fun j => by have := hops (j + 1); rw [List.length_append, List.length_singleton]; simpa [Nat.add_assoc, Nat.add_comm 1 j] using this) hrest
    rw [List.length_append, List.length_singleton] at h1 h2 h3
    have hlen : ts.length < all.length := by rw [h1]; omega
    have hk : ∀ k, k < ts.length → all[k]? = ts[k]? := fun k hk => by rw [h2 k (by omega)]; exact List.getElem?_append_left hk
    have hs : all[ts.length]? = some s := by rw [h2 ts.length (by omega)]; simp
    refine ⟨all, by rw [h1]; simp; omega, hk, fun i s' hi hs' => ?_, h4⟩
    by_cases hit : i = ts.length
    · subst hit
      rw [hs] at hs'
      injection hs' with hs'
      subst hs'
      refine ⟨hg, o, ho, fun vals w hL hdep => ?_⟩
      have e : frU ops a0 all vals ts.length = fr vals := by rw [hfr vals]; exact frU_more _ hk
      rw [e]
      refine hob vals w hL fun e he hb s2 hs2 => hdep e he hb s2 ?_
      have hlt : e.on < ts.length := by
        rcases Nat.lt_or_ge e.on ts.length with h' | h'
        · exact h'
        · rw [List.getElem?_eq_none h'] at hs2; cases hs2
      rw [List.getElem?_take, if_pos hlt, hk _ hlt]
      exact hs2
    · exact h3 i s' (by omega) hs'

/-- **ONE WALK SERVES EVERY ORDER.** -/
theorem wp_region_tame {ops : List Oper} {id : Nat} {a0 : Act} {w0 : World} (hm : P.follows .mixedOrders = true) (htd : tidy ops.toArray = true) (hLr : ∀ w, L w w) (hLt : ∀ a b c, L a b → L b c → L a c)
    (h : walk P ops.toArray L w0.drew Q ops [] (fun _ => a0)) : (Code.region id ops.toArray true).wp P Q a0 w0 := by
  obtain ⟨all, h1, _, h3, h4⟩ := walk_all (a0 := a0) ops [] (fun _ => a0) (fun _ => rfl) (fun j => by simp) h
  have htid := tidy_spec htd
  have hsz : all.length = ops.toArray.size := by simpa using h1
  have sd : ∀ i, i < ops.toArray.size → ∃ s, all[i]? = some s := fun i hi => ⟨all[i]'(by omega), List.getElem?_eq_getElem (by omega)⟩
  refine region (ts := fun i v w => ∀ s, all[i]? = some s → s.t v w) hm htd hLr hLt (fun i v w w' hl ht s hs => (h3 i s (by simp) hs).1.1 v w w' hl (ht s hs)) ?_ ?_
  · intro i o ho vals w hL hdep
    have hi : i < ops.toArray.size := (Array.getElem?_eq_some_iff.1 ho).1
    obtain ⟨s, hs⟩ := sd i hi
    obtain ⟨hg, o', ho', hob⟩ := h3 i s (by simp) hs
    rw [ho] at ho'
    injection ho' with ho'
    subst ho'
    have hob := hob vals w hL fun e he hb s2 hs2 => hdep e he hb s2 (by
      rw [List.getElem?_take] at hs2
      split at hs2
      · exact hs2
      · cases hs2)
    have hagree : ∀ d ∈ o.looksAt ops.toArray, (stF ops.toArray a0 (fun _ => true) vals i).tmps[d]? = (frU ops.toArray a0 all vals i).tmps[d]? := by
      intro d hd
      refine (frU_slot d i fun k hk hdk s2 hs2 => ?_).symm
      rcases htid.looks i o ho d hd k hdk with rfl | ⟨e, he, hb, rfl⟩ | ⟨hik, _⟩
      · omega
      · exact (h3 e.on s2 (by simp) hs2).1.2 vals w (hdep e he hb s2 hs2)
      · omega
    have hsel : ∀ cs b, o.op ≠ .select cs b := fun cs b => htid.noSel i o cs b ho
    have hwe := wanted_agree (ops := ops.toArray) hagree
    by_cases hw : Region.wanted o (yielded ops.toArray (frU ops.toArray a0 all vals i).tmps) = true
    · rw [if_pos hw] at hob
      rw [if_pos (hwe.trans hw)]
      unfold Op at hob ⊢
      rw [exec_agree hsel hagree]
      have key : ∀ r : Result Next, upon P (fun v w' => L w w' ∧ s.t v w') r → upon P (fun v w' => L w w' ∧ ∀ s', all[i]? = some s' → s'.t v w') r := by
        intro r hr
        have conv : ∀ v w', L w w' ∧ s.t v w' → L w w' ∧ ∀ s', all[i]? = some s' → s'.t v w' := fun v w' hh => ⟨hh.1, fun s' hs' => by rw [hs] at hs'; injection hs' with hs'; subst hs'; exact hh.2⟩
        cases r with
        | ok n w' =>
          cases n <;> simp only [upon] at hr ⊢
          case value u => exact conv _ _ hr
          case skip => exact conv _ _ hr
          case enter f args => exact hr.mono fun e w'' ⟨v, he, hh⟩ => ⟨v, he, conv _ _ hh⟩
        | halt x w' => simp only [upon] at hr
      exact key _ hob
    · rw [if_neg hw] at hob
      rw [if_neg (fun h => hw (hwe.symm.trans h))]
      intro s' hs'
      rw [hs] at hs'
      injection hs' with hs'
      subst hs'
      exact hob
  · intro vals w hL hts
    have e : stF ops.toArray a0 (fun _ => true) vals ops.toArray.size = frU ops.toArray a0 all vals all.length := by
      rw [hsz]
      have hu : ∀ n, n ≤ ops.toArray.size → stF ops.toArray a0 (fun _ => true) vals n = frU ops.toArray a0 all vals n := by
        intro n
        induction n with
        | zero => intro _; rfl
        | succ n ih =>
          intro hn
          unfold stF frU
          obtain ⟨s, hs⟩ := sd n (by omega)
          rw [ih (by omega), hs]
          simp only [if_true]
          rw [(h3 n s (by simp) hs).1.2 vals w (hts n (by omega) s hs)]
      exact hu _ (Nat.le_refl _)
    rw [e]
    exact h4 vals w hL fun i s hs => hts i (by
      rcases Nat.lt_or_ge i all.length with h' | h'
      · omega
      · rw [List.getElem?_eq_none h'] at hs; cases hs) s hs
/-- One value, in a later world. (A name of its own, so that no simp lays it open.) -/
def Is (L : World → World → Prop) (w : World) (c v : Value) (w' : World) : Prop := L w w' ∧ v = c
theorem Is.mk {w w' : World} {c : Value} (h : L w w') : Is L w c c w' := ⟨h, rfl⟩
/-- Some value, of which this lasts. -/
def Has (L : World → World → Prop) (w : World) (t : TP) (v : Value) (w' : World) : Prop := L w w' ∧ t v w'
theorem Has.mk {w w' : World} {t : TP} {v : Value} (h : L w w') (k : t v w') : Has L w t v w' := ⟨h, k⟩

/-- The operation yields one value, whatever the order. -/
theorem walk_known {ops : Array Oper} {o : Oper} {rest : List Oper} {ts : List Said} {fr : (Nat → Value) → Act}
    (hw : ∀ vals : Nat → Value, Region.wanted o (yielded ops (fr vals).tmps) = true)
    (h : ∃ c : Value, (∀ (vals : Nat → Value) w, L W w → depF o ts vals w → Op P o (fr vals) w (Is L w c)) ∧
      walk P ops L W Q rest (ts ++ [⟨fun v _ => v = c, fun _ => c⟩]) (fun vals => (fr vals).put o.dst c)) : walk P ops L W Q (o :: rest) ts fr :=
  let ⟨c, h, hr⟩ := h
  ⟨⟨fun v _ => v = c, fun _ => c⟩, ⟨fun _ _ _ _ hh => hh, fun _ _ hh => hh.symm⟩, fun vals w hL hd => by rw [if_pos (hw vals)]; exact h vals w hL hd, hr⟩

/-- The operation is not wanted. -/
theorem walk_off {ops : Array Oper} {o : Oper} {rest : List Oper} {ts : List Said} {fr : (Nat → Value) → Act}
    (hw : ∀ vals : Nat → Value, Region.wanted o (yielded ops (fr vals).tmps) = false)
    (hr : walk P ops L W Q rest (ts ++ [⟨fun v _ => v = undef, fun _ => undef⟩]) (fun vals => (fr vals).put o.dst undef)) : walk P ops L W Q (o :: rest) ts fr :=
  ⟨⟨fun v _ => v = undef, fun _ => undef⟩, ⟨fun _ _ _ _ hh => hh, fun _ _ hh => hh.symm⟩, fun vals w _ _ => by rw [if_neg (by rw [hw vals]; decide)], hr⟩

/-- The operation yields some value, of which this lasts. -/
theorem walk_some {ops : Array Oper} {o : Oper} {rest : List Oper} {ts : List Said} {fr : (Nat → Value) → Act} (t : TP)
    (hw : ∀ vals : Nat → Value, Region.wanted o (yielded ops (fr vals).tmps) = true)
    (hst : ∀ v w w', L w w' → t v w → t v w')
    (h : ∀ (vals : Nat → Value) w, L W w → depF o ts vals w → Op P o (fr vals) w (Has L w t))
    (hr : walk P ops L W Q rest (ts ++ [⟨t, fun vals => vals ts.length⟩]) (fun vals => (fr vals).put o.dst (vals ts.length))) : walk P ops L W Q (o :: rest) ts fr :=
  ⟨⟨t, fun vals => vals ts.length⟩, ⟨hst, fun _ _ _ => rfl⟩, fun vals w hL hd => by rw [if_pos (hw vals)]; exact h vals w hL hd, hr⟩

theorem walk_end {ops : Array Oper} {ts : List Said} {fr : (Nat → Value) → Act} (h : ∀ (vals : Nat → Value) w, L W w → (∀ (i : Nat) (s : Said), ts[i]? = some s → s.t (vals i) w) → Q .normal (fr vals) w) : walk P ops L W Q [] ts fr := h
end

/-- The later world: of what was there nothing has turned. -/
def Later (w w' : World) : Prop := Go.RowKit.Below w.heap.size w w'
theorem Later.refl (w : World) : Later w w := Go.RowKit.Below.refl _ _
theorem Later.trans (a b c : World) (h : Later a b) (k : Later b c) : Later a c := Go.RowKit.Below.trans h (Go.RowKit.Below.mono k (Go.RowKit.Below.size h))

/-- A callee's contract that ends in 'Below'. -/
theorem known {P : Program} {f : FuncId} {args : Array Value} {w : World} {c : Value} (h : Calls P f args w fun e w' => e = .returned c ∧ Go.RowKit.Below w.heap.size w w') :
    Calls P f args w fun e w'' => ∃ v, e = .returned v ∧ Is Later w c v w'' := h.mono fun _ _ ⟨he, hb⟩ => ⟨_, he, hb, rfl⟩
theorem known_same {P : Program} {f : FuncId} {args : Array Value} {w : World} {c : Value} (h : Calls P f args w fun e w' => e = .returned c ∧ w = w') :
    Calls P f args w fun e w'' => ∃ v, e = .returned v ∧ Is Later w c v w'' := h.mono fun _ _ ⟨he, hb⟩ => ⟨_, he, by subst hb; exact Later.refl _, rfl⟩
theorem has {P : Program} {f : FuncId} {args : Array Value} {w : World} {t : TP} (h : Calls P f args w fun e w' => ∃ v, e = .returned v ∧ t v w' ∧ Go.RowKit.Below w.heap.size w w') :
    Calls P f args w fun e w'' => ∃ v, e = .returned v ∧ Has Later w t v w'' := h.mono fun _ _ ⟨v, he, ht, hb⟩ => ⟨v, he, hb, ht⟩

end Go.Proofs.YtfajnflfonechaaDoor.Tame
