/- DERIVED. The walk through an expression: hand, the closure, Walk; its contract for a loop. -/
import Derived.RangeFuncNested
import Derived.RangeFuncBound
import Derived.RangeFuncCalls
import Derived.RangeFuncLeaves
import Derived.Shelf.Abstract
import Derived.Shelf.RegionOpen
import Derived.WalkKit
import Derived.OwnWalkIn
import Derived.TacticsInMore
import Derived.LoopNIn
import Derived.LoopIn
import Derived.Test.YtfajnflfonechaaDoorEx1
namespace Go.Proofs.YtfajnflfonechaaDoor
open Go.RowKit Go.Shelf
attribute [local go_sem] Oper.semAt_some

theorem room_of_none {F : Fence} (hd : F.depth = none) (k : Nat) : F.room k := fun d h => by rw [hd] at h; cases h
/-- Where no depth is asked the figures are all one. -/
theorem RoundIn.anyDepth {F : Fence} (hd : F.depth = none) {m m' : Nat} {P : Program} {l : Nat} {f : FuncId} {tmps : Array Value} {assign body : Code} {w : World} {R : Ending → World → Prop}
    (h : RoundIn F m P l f tmps assign body w R) : RoundIn F m' P l f tmps assign body w R := ⟨h.1, fun c cs _ => h.2 c cs (room_of_none hd _)⟩
theorem YieldAt.anyDepth {F : Fence} (hd : F.depth = none) {m : Nat} (m' : Nat) {P : Program} {l : Nat} {args : Array Value} {W : World} {R : Ending → World → Prop} (h : YieldAt F m P l args W R) : YieldAt F m' P l args W R := by
  obtain ⟨fn, tmps, assign, body, hy, hR⟩ := h
  exact ⟨fn, tmps, assign, body, hy, RoundIn.anyDepth hd hR⟩

/-- An expression as it is handed out: its slice, and what it is, with its kids lying in the world W0. -/
structure Item (W0 : World) (S : Nat → Prop) where
  A : Option Addr
  c : Nat
  x : X
  kids : KS W0 S A x.ks
  ok : x.ok
  small : x.size ≤ 1099511627775
def Item.v {W0 : World} {S : Nat → Prop} (i : Item W0 S) : Value := ev i.x i.A i.c

/-- What a loop's body keeps: of what lay below n₀ all but the blocks of E; and all other cells but those of E. -/
structure Kp (n₀ : Nat) (E : Nat → Prop) (W W' : World) : Prop where
  size : W.heap.size ≤ W'.heap.size
  old : ∀ b, b < n₀ → ¬ E b → W'.heap[b]? = W.heap[b]?
  cells : ∀ (b : Nat) c t fr, W.heap[b]? = some (.cells c t fr) → ¬ E b → W'.heap[b]? = W.heap[b]?
theorem Kp.refl (n₀ : Nat) (E : Nat → Prop) (W : World) : Kp n₀ E W W := ⟨Nat.le_refl _, fun _ _ _ => rfl, fun _ _ _ _ _ _ => rfl⟩
theorem Kp.trans {n₀ : Nat} {E : Nat → Prop} {A B C : World} (h : Kp n₀ E A B) (k : Kp n₀ E B C) : Kp n₀ E A C :=
  ⟨Nat.le_trans h.size k.size, fun b hb he => (k.old b hb he).trans (h.old b hb he), fun b c t fr hc he => (k.cells b c t fr ((h.cells b c t fr hc he).trans hc) he).trans (h.cells b c t fr hc he)⟩
theorem Kp.of_later {n₀ : Nat} {E : Nat → Prop} {W W' : World} (h : Below W.heap.size W W') (hn : n₀ ≤ W.heap.size) : Kp n₀ E W W' :=
  ⟨h.size, fun b hb _ => h.block b (by omega), fun b _ _ _ hc _ => h.block b (Array.getElem?_eq_some_iff.1 hc).1⟩
theorem Kp.set {n₀ : Nat} {E : Nat → Prop} {W : World} {p : Addr} (u : Value) (hp : E p.block) : Kp n₀ E W (W.setCell p u) :=
  ⟨by simp, fun b _ he => Below.heap_setCell W p u b (fun e => he (by rw [e]; exact hp)), fun b _ _ _ _ he => Below.heap_setCell W p u b (fun e => he (by rw [e]; exact hp))⟩
theorem kp_b {n₀ : Nat} {E : Nat → Prop} {w : World} (hn : n₀ ≤ w.heap.size) (W : World) (l : Nat) (o o' : Obj) (hl : w.heap.size ≤ l) (h : W.heap[l]? = some o) (hc : o.isCells = false) (_ : o.isWalk = false) : Kp n₀ E W (W.putObj l o') := by
  have hg := grownBy_putObj' W l o'
  refine ⟨hg.size, fun b hb _ => hg.block b (by have := (Array.getElem?_eq_some_iff.1 h).1; omega) (by intro e; injection e with e; omega), fun b c t fr hb _ => hg.block b (Array.getElem?_eq_some_iff.1 hb).1 ?_⟩
  intro e
  injection e with e
  subst e
  rw [h] at hb
  injection hb with hb
  subst hb
  simp [Obj.isCells] at hc
theorem Kp.row {n₀ : Nat} {E : Nat → Prop} {W W' : World} {g : Nat} {t : TypeId} {cs : Array Value} (h : Kp n₀ E W W') (hr : Row W g t cs) (he : ¬ E g) : Row W' g t cs := (h.cells g _ _ _ hr he).trans hr

/-- What hand hands back: all have come, or the walk was cut short. -/
def Handed_ {α : Type} (tree : α → X) (n₀ : Nat) (E : Nat → Prop) (J Jx : List α → World → Prop) (pre : List α) (ws : List X) (W : World) (e : Ending) (W' : World) : Prop :=
  (e = .returned (.bool true) ∧ (∃ ys : List α, ys.map tree = ws ∧ J (pre ++ ys) W') ∧ Kp n₀ E W W') ∨ (e = .returned (.bool false) ∧ ∃ ys : List α, ys.map tree <+: ws ∧ Jx (pre ++ ys) W')

theorem KS.kid_in {W0 W : World} {S : Nat → Prop} {A : Option Addr} {xs : List X} {i : Nat} {x : X} (h : KS W0 S A xs) (hm : ∀ b, S b → W.heap[b]? = W0.heap[b]?) (hi : xs[i]? = some x) :
    ∃ b off A' c, A = some ⟨b, off, none⟩ ∧ W.cell? ⟨b, off + i * 5, none⟩ = some (.int .i64 x.k) ∧ W.cell? ⟨b, off + i * 5 + 1, none⟩ = some (.int .i64 x.o) ∧ W.cell? ⟨b, off + i * 5 + 2, none⟩ = some (.int .i64 x.n) ∧ W.cell? ⟨b, off + i * 5 + 3, none⟩ = some (.string ⟨x.s.toArray⟩) ∧
      W.cell? ⟨b, off + i * 5 + 4, none⟩ = some (.slice A' x.ks.length c) ∧ KS W0 S A' x.ks ∧ S b := by
  obtain ⟨b, off, hA, he⟩ := h.kid hi
  have hb := he.block
  obtain ⟨A', c, c0, c1, c2, c3, c4, hk⟩ := he.ev
  have hc : ∀ i, W.cell? ⟨b, i, none⟩ = W0.cell? ⟨b, i, none⟩ := fun i => World.cell?_of_block (hm b hb)
  exact ⟨b, off, A', c, hA, (hc _).trans c0, (hc _).trans c1, (hc _).trans c2, (hc _).trans c3, (hc _).trans c4, hk, hb⟩

set_option maxRecDepth 100000 in
set_option maxHeartbeats 4000000 in
theorem hand_in (W0 : World) (S E : Nat → Prop) (n₀ l M : Nat) (hS : ∀ b, S b → b < n₀ ∧ ¬ E b) (hE : ∀ b, E b → b < n₀) (J Jx : List (Item W0 S) → World → Prop)
    (hJ : ∀ pre W W', J pre W → Below W.heap.size W W' → J pre W')
    (hY : ∀ m pre x W, J pre W → pre.length < M → YieldAt Fence.wide m Tryd.prog l #[Item.v x] W fun e W' =>
      (e = .returned (.bool true) ∧ J (pre ++ [x]) W' ∧ Kp n₀ E W W') ∨ (e = .returned (.bool false) ∧ Jx (pre ++ [x]) W')) (N : Nat) :
    ∀ (n : Nat) (it : Item W0 S) (pre : List (Item W0 S)) (W : World), it.x.size ≤ N → N ≤ 1099511627775 → (∀ b, S b → W.heap[b]? = W0.heap[b]?) → n₀ ≤ W.heap.size → J pre W → pre.length + it.x.size ≤ M →
      CallsIn Fence.wide n Tryd.prog 106 #[it.v, .func (.yield l) #[] #[]] W (Handed_ (·.x) n₀ E J Jx pre it.x.walk W) := by
  induction N with
  | zero => intro n it pre W h; have := it.x.size_pos; omega
  | succ N ih =>
    intro n it pre W hN hM hW hnW hj hM2
    have hdd : ∀ k : Nat, (Fence.wide.depth.isSome = true → 1 ≤ k) := fun k h => by cases h
    obtain ⟨A, c, ⟨k, o, m, s, ks⟩, hk, hok, hsm⟩ := it
    have hlen := X.sizes_length ks
    have HOKS : Hid (X.oks ks) := by have := hok; unfold X.ok at this; exact Lib.hid this.2.2
    simp only [X.size] at hN hM2
    obtain ⟨fn, tmps, assign, body, hy, hR0⟩ := hY (n - 1) pre ⟨A, c, ⟨k, o, m, s, ks⟩, hk, hok, hsm⟩ _ (hJ pre W (W.alloc (.cells #[.int .i64 k, .int .i64 o, .int .i64 m, .string ⟨s.toArray⟩, .slice A ks.length c] 61)) hj ((Below.refl _ _).alloc (Nat.le_refl _) _)) (by omega)
    have HK : Hid (KS W0 S A ks) := Lib.hid hk
    have HW := Lib.hid hW
    have HR1 := Lib.hid (Row.made W 61 #[.int .i64 k, .int .i64 o, .int .i64 m, .string ⟨s.toArray⟩, .slice A ks.length c])
    have hne : ¬ E W.heap.size := fun h => by have := hE _ h; omega
    have HNE := Lib.hid hne
    -- what the first round leaves
    have hR := hR0.mono (R' := fun e W' => (e = .returned (.bool true) ∧ W'.cell? ⟨W.heap.size, 4, none⟩ = some (.slice A ks.length c) ∧ Hid (J (pre ++ [⟨A, c, ⟨k, o, m, s, ks⟩, hk, hok, hsm⟩]) W' ∧ Kp n₀ E W W')) ∨ (e = .returned (.bool false) ∧ Hid (Jx (pre ++ [⟨A, c, ⟨k, o, m, s, ks⟩, hk, hok, hsm⟩]) W')))
      (fun e W' h => h.elim (fun ⟨he, h1, h2⟩ => .inl ⟨he, by have := (h2.row HR1.out HNE.out).cell 4; simpa using this, Lib.hid ⟨h1, (Kp.of_later ((Below.refl _ _).alloc (Nat.le_refl _) _) hnW).trans h2⟩⟩) (fun ⟨he, h1⟩ => .inr ⟨he, Lib.hid h1⟩))
    clear hR0 hW hj hne
    have HYY := Lib.hid hY
    have HJJ := Lib.hid hJ
    have HS := Lib.hid hS
    clear hY hJ hS
    simp only [Item.v, ev, X.k, X.o, X.n, X.s, X.ks] at hy ⊢
    refine callsIn_of_wp Tryd.func106 rfl trivial ?_ rfl
    simp only [Tryd.ntmps106, List.size_toArray, List.length_cons, List.length_nil, Nat.reduceAdd, Nat.reduceSub, Array.replicate_succ, Array.replicate_zero, List.push_toArray, List.append_toArray, List.nil_append, List.cons_append]
    gi_wp2_with ((try refine ⟨hdd _, ?_⟩); refine hR.mono ?_; clear hR; rintro e W2 (⟨rfl, c4', H2⟩ | ⟨rfl, H2⟩))
    · obtain ⟨hj1, hkp1⟩ := H2.out
      clear H2
      gi_loopw [4, 14] (fun r i wr => r = .bool false ∧ ∃ (j : Nat) (ys : List (Item W0 S)), j ≤ ks.length ∧ i = .int .i64 j ∧ ys.map (·.x) = .mk k o m s ks :: X.walks (ks.take j) ∧ J (pre ++ ys) wr ∧ Kp n₀ E W wr) (fun _ i _ => ks.length - (intOf i).toNat)
      case atStart => exact ⟨rfl, 0, [⟨A, c, ⟨k, o, m, s, ks⟩, hk, hok, hsm⟩], by omega, rfl, by simp [X.walks], hj1, hkp1⟩
      case round =>
        obtain ⟨rfl, j, ys, hj, rfl, hys, hjr, hkr⟩ := hrel
        have HYS := Lib.hid hys
        have HJR := Lib.hid hjr
        have HKR := Lib.hid hkr
        have hws := hkr.size
        have hlw : ys.length = 1 + X.sizes (ks.take j) := by
          have := congrArg List.length hys
          simp [X.walks_length] at this
          omega
        clear hj1 hkp1 c4' hys hjr hkr
        by_cases hlt : j < ks.length
        · obtain ⟨y, hy1⟩ : ∃ y, ks[j]? = some y := ⟨_, List.getElem?_eq_getElem hlt⟩
          have hmv : ∀ b, S b → wr.heap[b]? = W0.heap[b]? := fun b hb => (HKR.out.old b (HS.out b hb).1 (HS.out b hb).2).trans (HW.out b hb)
          have HMV := Lib.hid hmv
          obtain ⟨b, off, A', c', rfl, d0, d1, d2, d3, d4, hk', hsb⟩ := HK.out.kid_in hmv hy1
          have hbl : b < wr.heap.size := by have := (HS.out b hsb).1; omega
          have hst := X.sizes_take hy1
          have hle := X.sizes_take_le ks (j + 1)
          have HC : Hid (CallsIn Fence.wide (n - 1) Tryd.prog 106 #[.agg #[.int .i64 y.k, .int .i64 y.o, .int .i64 y.n, .string ⟨y.s.toArray⟩, .slice A' y.ks.length c'], .func (.yield l) #[] #[]] (wr.alloc (.cells #[.int .i64 y.k, .int .i64 y.o, .int .i64 y.n, .string ⟨y.s.toArray⟩, .slice A' y.ks.length c'] 61)) fun e w3 => (e = .returned (.bool true) ∧ Hid ((∃ zs : List (Item W0 S), zs.map (·.x) = y.walk ∧ J (pre ++ ys ++ zs) w3) ∧ Kp n₀ E (wr.alloc (.cells #[.int .i64 y.k, .int .i64 y.o, .int .i64 y.n, .string ⟨y.s.toArray⟩, .slice A' y.ks.length c'] 61)) w3)) ∨ (e = .returned (.bool false) ∧ Hid (∃ zs : List (Item W0 S), zs.map (·.x) <+: y.walk ∧ Jx (pre ++ ys ++ zs) w3))) :=
            (ih (n - 1) ⟨A', c', y, hk', X.oks_at hy1 HOKS.out, by have := X.sizes_at hy1; omega⟩ (pre ++ ys) _ (by have := X.sizes_at hy1; simp only; omega) (by omega) (fun q hq => (Below.heap_alloc _ _ _ (by have := (HS.out q hq).1; omega)).trans (HMV.out q hq)) (by simp; omega) (HJJ.out _ wr _ HJR.out ((Below.refl _ _).alloc (Nat.le_refl _) _)) (by rw [List.length_append, hlw]; simp only; omega)).mono fun e w3 h => h.elim (fun ⟨he, h1, h2⟩ => .inl ⟨he, Lib.hid ⟨h1, h2⟩⟩) (fun ⟨he, h1⟩ => .inr ⟨he, Lib.hid h1⟩)
          have HY1 := Lib.hid hy1
          clear hy1 hst hle hmv ih
          gi_wp2_with (refine ⟨trivial, hdd _, ?_⟩; gi_at_call 106; refine HC.out.mono ?_; rintro e w3 (⟨rfl, H3⟩ | ⟨rfl, H3⟩))
          · obtain ⟨⟨zs, hz, hjz⟩, hkz⟩ := H3.out
            go_roundw
            case rel => exact ⟨rfl, j + 1, ys ++ zs, by omega, by go_num, by rw [List.map_append, HYS.out, hz, X.walks_take HY1.out]; simp, by rw [← List.append_assoc]; exact hjz, HKR.out.trans ((Kp.of_later ((Below.refl _ _).alloc (Nat.le_refl _) _) (by omega)).trans hkz)⟩
            case measure => simp [intOf]; omega
          · obtain ⟨zs, hz, hjz⟩ := H3.out
            refine bodyPost_ret (results_tmp rfl _ _ _) rfl ?_
            refine .inr ⟨rfl, ys ++ zs, ?_, by rw [← List.append_assoc]; exact hjz⟩
            rw [List.map_append, HYS.out, X.walk, List.cons_append]
            have h1 := X.walks_take HY1.out
            obtain ⟨r, hr⟩ := hz
            refine ⟨r ++ X.walks (ks.drop (j + 1)), ?_⟩
            have h2 := X.walks_append (ks.take (j + 1)) (ks.drop (j + 1))
            rw [List.take_append_drop] at h2
            rw [h2, h1, ← hr]
            simp [List.append_assoc]
        · obtain rfl : j = ks.length := by omega
          gi_wp2
          go_ret
          exact .inl ⟨rfl, ⟨ys, by rw [HYS.out, List.take_length, X.walk], HJR.out⟩, HKR.out⟩
    · go_ret
      exact .inr ⟨rfl, _, by simp only [List.map_cons, List.map_nil, X.walk]; exact ⟨X.walks ks, rfl⟩, H2.out⟩
end Go.Proofs.YtfajnflfonechaaDoor
