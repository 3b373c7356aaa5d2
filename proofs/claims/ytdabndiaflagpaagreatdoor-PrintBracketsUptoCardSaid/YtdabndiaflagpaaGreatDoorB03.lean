/- Parts: Table, Vars, AllVT, Walk, Walk2, Ex2. -/
import Derived.Test.YtdabndiaflagpaaGreatDoorRows
import Derived.Lib.LaidTab
import Derived.Deep.Fields
import Derived.Test.YtdabndiaflagpaaGreatDoorB00
import Derived.RangeFuncNested
import Derived.RangeFuncBound
import Derived.RangeFuncCalls
import Derived.RangeFuncLeaves
import Derived.Shelf.Abstract
import Derived.Shelf.RegionOpen
import Derived.WalkKit
import Derived.OwnWalkIn
import Derived.TacticsInMore
import Derived.LoopNIn
import Derived.LoopIn
set_option maxRecDepth 100000
set_option maxHeartbeats 4000000
set_option linter.unusedVariables false
namespace Go.Proofs.YtdabndiaflagpaaGreatDoor
open Go.RowKit Go.Deep

def litV : Lit → Value
  | .int k n => .int k n
  | .bool b => .bool b
  | .string l => .string ⟨l.toArray⟩
  | _ => undef

section
variable {H : Type} {enc : TypeId × Value → H} {P : Program} {w : World} {base : Nat} {sp : Nat → Bool} {held : Bool}
theorem cells_of_rows {t e : TypeId} {fs : Array Field} {n fuel : Nat} {cs : List Value} {rows : List (List Lit)} {p : List MemPlace} (ht : P.underlying t = some (.array n e)) (he : P.underlying e = some (.struct fs)) (hone : oneCellFields P fs = true) (hC : P.cellsOf e = fs.size) (hct : P.cellsOf t = n * fs.size)
    (hk : ∀ (j : Nat) (f : Field), fs[j]? = some f → ∀ (m : Nat) (v : Value) (l : Lit) (q : List MemPlace), DataW.trod enc P w base sp held m f.type [v] = some (.lit l, q) → v = litV l)
    (hr : ∀ r ∈ rows, r.length = fs.size)
    (h : DataW.trod enc P w base sp held fuel t cs = some (.agg (rows.map fun r => .agg (r.map .lit)), p)) : ∀ (i j : Nat) (r : List Lit) (l : Lit), rows[i]? = some r → r[j]? = some l → cs[i * fs.size + j]? = some (litV l) := by
  cases fuel with
  | zero => simp [DataW.trod] at h
  | succ fuel =>
    simp only [DataW.trod, ht, hC, hct] at h
    split at h
    · rename_i hl
      obtain ⟨xs, hm, hx⟩ := Option.map_eq_some_iff.1 h
      have hxs : xs.map (·.1) = rows.map fun r => (DataW.agg (r.map .lit) : DataW H) := by
        have := congrArg Prod.fst hx
        simpa using this
      intro i j r l hi hj
      have hin : i < n := by
        have h1 : xs.length = n := by simpa using Lib.mapM_length hm
        have h2 : xs.length = rows.length := by have := congrArg List.length hxs; simpa using this
        have h3 : i < rows.length := by
          rcases Nat.lt_or_ge i rows.length with h' | h'
          · exact h'
          · rw [List.getElem?_eq_none h'] at hi; cases hi
        omega
      obtain ⟨b, hb, hf⟩ := Lib.mapM_at hm i i (by simp [hin])
      have h2 : (xs.map (·.1))[i]? = some b.1 := by simp [hb]
      rw [hxs] at h2
      simp only [List.getElem?_map, hi, Option.map_some, Option.some.injEq] at h2
      obtain ⟨ys, m, _, hy, hlen, hyl, hg⟩ := DataW.trod_struct he hf
      have hy1 : b.1 = .agg (ys.map (·.1)) := by rw [hy]
      rw [hy1] at h2
      injection h2 with h2
      have hjr : j < r.length := by
        rcases Nat.lt_or_ge j r.length with h' | h'
        · exact h'
        · rw [List.getElem?_eq_none h'] at hj; cases hj
      have hjf : j < fs.size := by rw [← hr r (List.mem_of_getElem? hi)]; exact hjr
      have hyj : ys[j]? = some (ys[j]'(by omega)) := List.getElem?_eq_getElem (by omega)
      have h3 : (ys.map (·.1))[j]? = some (DataW.lit l) := by rw [← h2]; simp [hj]
      simp only [List.getElem?_map, hyj, Option.map_some, Option.some.injEq] at h3
      have hfj : fs[j]? = some fs[j] := Array.getElem?_eq_getElem hjf
      obtain ⟨ho, hc⟩ := hone_of hone j fs[j] hfj
      have h4 := hg j fs[j] hfj
      rw [ho, hc] at h4
      have hcl : ((cs.drop (i * fs.size)).take fs.size).length = fs.size := by rw [hlen, hC]
      have h5 : (((cs.drop (i * fs.size)).take fs.size).drop j).take 1 = [((cs.drop (i * fs.size)).take fs.size)[j]'(by omega)] := by
        rw [List.drop_eq_getElem_cons (by omega)]
        rfl
      rw [h5, hyj] at h4
      have h6 : ys[j]'(by omega) = (DataW.lit l, (ys[j]'(by omega)).2) := by rw [← h3]
      rw [h6] at h4
      have h7 := hk j fs[j] hfj _ _ l _ h4
      rw [← h7]
      have h8 : ((cs.drop (i * fs.size)).take fs.size)[j]? = some (((cs.drop (i * fs.size)).take fs.size)[j]'(by omega)) := List.getElem?_eq_getElem (by omega)
      rw [← h8, List.getElem?_take, if_pos hjf, List.getElem?_drop]
    · cases h
end

def shapesL : List (List Lit) := [[.int .i64 0, .int .i64 9223372036854775807, .bool false, .int .i64 0, .int .i64 0], [.int .i64 0, .int .i64 1, .bool false, .int .i64 0, .int .i64 0], [.int .i64 0, .int .i64 0, .bool true, .int .i64 0, .int .i64 0], [.int .i64 2, .int .i64 0, .bool false, .int .i64 1, .int .i64 1], [.int .i64 15, .int .i64 0, .bool false, .int .i64 2, .int .i64 2], [.int .i64 0, .int .i64 0, .bool false, .int .i64 3, .int .i64 3], [.int .i64 0, .int .i64 0, .bool true, .int .i64 0, .int .i64 1000]]
/-- The table stands as it is written. -/
def ShapesAt (w : World) : Prop := ∀ (i j : Nat) (r : List Lit) (l : Lit), shapesL[i]? = some r → r[j]? = some l → w.cell? ⟨4, i * 5 + j, none⟩ = some (litV l)

theorem gShapes : Tryz.prog.globalNamed "shuttlecock/ast.shapes" = some 4 := by kernel_rfl
theorem gShapesType : (Tryz.prog.globals[4]?).map (·.type) = some 203 := by kernel_rfl

theorem ShapesAt.move {w w' : World} (h : ShapesAt w) (hb : w'.heap[4]? = w.heap[4]?) : ShapesAt w' := fun i j r l hi hj => (World.cell?_of_block hb).trans (h i j r l hi hj)
theorem ShapesAt.lt {w : World} (h : ShapesAt w) : 4 < w.heap.size := World.block_lt_of_cell? w _ (h 0 0 _ _ rfl rfl)
theorem ShapesAt.later {w w' : World} (h : ShapesAt w) (hb : Below w.heap.size w w') : ShapesAt w' := h.move (hb.block _ h.lt)

/-! ### Plain -/
def calP (s : T) (named : Bool) : Prop := if named = true then nameB s = true else s = []
def fitK (lo g : Int) (named : Bool) (few most : Nat) (x : X) : Prop := 0 ≤ x.o ∧ x.o ≤ lo ∧ 0 ≤ x.n ∧ x.n ≤ g ∧ calP x.s named ∧ few ≤ x.ks.length ∧ x.ks.length ≤ most
def fitP (x : X) : Prop :=
  (x.k = 0 ∧ fitK 0 9223372036854775807 false 0 0 x) ∨ (x.k = 1 ∧ fitK 0 1 false 0 0 x) ∨ (x.k = 2 ∧ fitK 0 0 true 0 0 x) ∨ (x.k = 3 ∧ fitK 2 0 false 1 1 x) ∨ (x.k = 4 ∧ fitK 15 0 false 2 2 x) ∨ (x.k = 5 ∧ fitK 0 0 false 3 3 x) ∨ (x.k = 6 ∧ fitK 0 0 true 0 1000 x)
noncomputable def fitB (x : X) : Bool := @decide (fitP x) (Classical.propDecidable _)
theorem fitB_true {x : X} (h : fitP x) : fitB x = true := @decide_eq_true _ (Classical.propDecidable _) h
theorem fitB_false {x : X} (h : ¬ fitP x) : fitB x = false := @decide_eq_false _ (Classical.propDecidable _) h
mutual
noncomputable def X.shape : X → Bool
  | .mk k o n s ks => X.shapes ks && fitB (.mk k o n s ks)
noncomputable def X.shapes : List X → Bool
  | [] => true
  | x :: xs => x.shape && X.shapes xs
end
mutual
theorem X.shape_walk (x : X) : x.shape = x.walk.all fitB := by
  cases x with
  | mk k o n s ks => simp only [X.shape, X.walk, List.all_cons, X.shapes_walk ks]; exact Bool.and_comm _ _
theorem X.shapes_walk (xs : List X) : X.shapes xs = (X.walks xs).all fitB := by
  cases xs with
  | nil => rfl
  | cons x xs => simp only [X.shapes, X.walks, List.all_append, X.shape_walk x, X.shapes_walk xs]
end
theorem X.shapes_at {xs : List X} {i : Nat} {x : X} (h : xs[i]? = some x) (hf : x.shape = false) : X.shapes xs = false := by
  induction xs generalizing i with
  | nil => simp at h
  | cons y ys ih =>
    cases i with
    | zero => simp at h; subst h; simp [X.shapes, hf]
    | succ i => simp at h; simp [X.shapes, ih h]
theorem X.shapes_all {xs : List X} (h : ∀ (i : Nat) x, xs[i]? = some x → x.shape = true) : X.shapes xs = true := by
  induction xs with
  | nil => rfl
  | cons y ys ih => simp only [X.shapes, Bool.and_eq_true]; exact ⟨h 0 y rfl, ih fun i x hi => h (i + 1) x (by simpa using hi)⟩

end Go.Proofs.YtdabndiaflagpaaGreatDoor
namespace Go.Proofs.YtdabndiaflagpaaGreatDoor
open Go.RowKit

end Go.Proofs.YtdabndiaflagpaaGreatDoor
namespace Go.Proofs.YtdabndiaflagpaaGreatDoor
open Go.RowKit

end Go.Proofs.YtdabndiaflagpaaGreatDoor
namespace Go.Proofs.YtdabndiaflagpaaGreatDoor
open Go.RowKit Go.Shelf
attribute [local go_sem] Oper.semAt_some

theorem room_of_none {F : Fence} (hd : F.depth = none) (k : Nat) : F.room k := fun d h => by rw [hd] at h; cases h
/-- Where no depth is asked the figures are all one. -/
theorem RoundIn.anyDepth {F : Fence} (hd : F.depth = none) {m m' : Nat} {P : Program} {l : Nat} {f : FuncId} {tmps : Array Value} {assign body : Code} {w : World} {R : Ending → World → Prop}
    (h : RoundIn F m P l f tmps assign body w R) : RoundIn F m' P l f tmps assign body w R := ⟨h.1, fun c cs _ => h.2 c cs (room_of_none hd _)⟩
theorem YieldAt.anyDepth {F : Fence} (hd : F.depth = none) {m : Nat} (m' : Nat) {P : Program} {l : Nat} {args : Array Value} {W : World} {R : Ending → World → Prop} (h : YieldAt F m P l args W R) : YieldAt F m' P l args W R := by
  obtain ⟨fn, tmps, assign, body, hy, hR⟩ := h
  exact ⟨fn, tmps, assign, body, hy, RoundIn.anyDepth hd hR⟩

/-- An expression as it is handed out: its slice, and what it is, with its kids lying in the world W0. -/
structure Item (W0 : World) (S : Nat → Prop) where
  A : Option Addr
  c : Nat
  x : X
  kids : KS W0 S A x.ks
  ok : x.ok
  small : x.size ≤ 1099511627775
def Item.v {W0 : World} {S : Nat → Prop} (i : Item W0 S) : Value := ev i.x i.A i.c

/-- What a loop's body keeps: of what lay below n₀ all but the blocks of E; and all other cells but those of E. -/
structure KpW (n₀ : Nat) (E : Nat → Prop) (W W' : World) : Prop where
  size : W.heap.size ≤ W'.heap.size
  old : ∀ b, b < n₀ → ¬ E b → W'.heap[b]? = W.heap[b]?
  cells : ∀ (b : Nat) c t fr, W.heap[b]? = some (.cells c t fr) → ¬ E b → W'.heap[b]? = W.heap[b]?
theorem KpW.trans {n₀ : Nat} {E : Nat → Prop} {A B C : World} (h : KpW n₀ E A B) (k : KpW n₀ E B C) : KpW n₀ E A C :=
  ⟨Nat.le_trans h.size k.size, fun b hb he => (k.old b hb he).trans (h.old b hb he), fun b c t fr hc he => (k.cells b c t fr ((h.cells b c t fr hc he).trans hc) he).trans (h.cells b c t fr hc he)⟩
theorem KpW.of_later {n₀ : Nat} {E : Nat → Prop} {W W' : World} (h : Below W.heap.size W W') (hn : n₀ ≤ W.heap.size) : KpW n₀ E W W' :=
  ⟨h.size, fun b hb _ => h.block b (by omega), fun b _ _ _ hc _ => h.block b (Array.getElem?_eq_some_iff.1 hc).1⟩
theorem kp_b {n₀ : Nat} {E : Nat → Prop} {w : World} (hn : n₀ ≤ w.heap.size) (W : World) (l : Nat) (o o' : Obj) (hl : w.heap.size ≤ l) (h : W.heap[l]? = some o) (hc : o.isCells = false) (_ : o.isWalk = false) : KpW n₀ E W (W.putObj l o') := by
  have hg := grownBy_putObj' W l o'
  refine ⟨hg.size, fun b hb _ => hg.block b (by have := (Array.getElem?_eq_some_iff.1 h).1; omega) (by intro e; injection e with e; omega), fun b c t fr hb _ => hg.block b (Array.getElem?_eq_some_iff.1 hb).1 ?_⟩
  intro e
  injection e with e
  subst e
  rw [h] at hb
  injection hb with hb
  subst hb
  simp [Obj.isCells] at hc
theorem KpW.row {n₀ : Nat} {E : Nat → Prop} {W W' : World} {g : Nat} {t : TypeId} {cs : Array Value} (h : KpW n₀ E W W') (hr : Row W g t cs) (he : ¬ E g) : Row W' g t cs := (h.cells g _ _ _ hr he).trans hr

/-- What hand hands back: all have come, or the walk was cut short. -/
def Handed_ {α : Type} (tree : α → X) (n₀ : Nat) (E : Nat → Prop) (J Jx : List α → World → Prop) (pre : List α) (ws : List X) (W : World) (e : Ending) (W' : World) : Prop :=
  (e = .returned (.bool true) ∧ (∃ ys : List α, ys.map tree = ws ∧ J (pre ++ ys) W') ∧ KpW n₀ E W W') ∨ (e = .returned (.bool false) ∧ ∃ ys : List α, ys.map tree <+: ws ∧ Jx (pre ++ ys) W')

theorem KS.kid_in {W0 W : World} {S : Nat → Prop} {A : Option Addr} {xs : List X} {i : Nat} {x : X} (h : KS W0 S A xs) (hm : ∀ b, S b → W.heap[b]? = W0.heap[b]?) (hi : xs[i]? = some x) :
    ∃ b off A' c, A = some ⟨b, off, none⟩ ∧ W.cell? ⟨b, off + i * 5, none⟩ = some (.int .i64 x.k) ∧ W.cell? ⟨b, off + i * 5 + 1, none⟩ = some (.int .i64 x.o) ∧ W.cell? ⟨b, off + i * 5 + 2, none⟩ = some (.int .i64 x.n) ∧ W.cell? ⟨b, off + i * 5 + 3, none⟩ = some (.string ⟨x.s.toArray⟩) ∧
      W.cell? ⟨b, off + i * 5 + 4, none⟩ = some (.slice A' x.ks.length c) ∧ KS W0 S A' x.ks ∧ S b := by
  obtain ⟨b, off, hA, he⟩ := h.kid hi
  have hb := he.block
  obtain ⟨A', c, c0, c1, c2, c3, c4, hk⟩ := he.ev
  have hc : ∀ i, W.cell? ⟨b, i, none⟩ = W0.cell? ⟨b, i, none⟩ := fun i => World.cell?_of_block (hm b hb)
  exact ⟨b, off, A', c, hA, (hc _).trans c0, (hc _).trans c1, (hc _).trans c2, (hc _).trans c3, (hc _).trans c4, hk, hb⟩

set_option maxRecDepth 100000 in
set_option maxHeartbeats 4000000 in
theorem hand_in (W0 : World) (S E : Nat → Prop) (n₀ l M : Nat) (hS : ∀ b, S b → b < n₀ ∧ ¬ E b) (hE : ∀ b, E b → b < n₀) (J Jx : List (Item W0 S) → World → Prop)
    (hJ : ∀ pre W W', J pre W → Below W.heap.size W W' → J pre W')
    (hY : ∀ m pre x W, J pre W → pre.length < M → YieldAt Fence.wide m Tryz.prog l #[Item.v x] W fun e W' =>
      (e = .returned (.bool true) ∧ J (pre ++ [x]) W' ∧ KpW n₀ E W W') ∨ (e = .returned (.bool false) ∧ Jx (pre ++ [x]) W')) (N : Nat) :
    ∀ (n : Nat) (it : Item W0 S) (pre : List (Item W0 S)) (W : World), it.x.size ≤ N → N ≤ 1099511627775 → (∀ b, S b → W.heap[b]? = W0.heap[b]?) → n₀ ≤ W.heap.size → J pre W → pre.length + it.x.size ≤ M →
      CallsIn Fence.wide n Tryz.prog 137 #[it.v, .func (.yield l) #[] #[]] W (Handed_ (·.x) n₀ E J Jx pre it.x.walk W) := by
  induction N with
  | zero => intro n it pre W h; have := it.x.size_pos; omega
  | succ N ih =>
    intro n it pre W hN hM hW hnW hj hM2
    have hdd : ∀ k : Nat, (Fence.wide.depth.isSome = true → 1 ≤ k) := fun k h => by cases h
    obtain ⟨A, c, ⟨k, o, m, s, ks⟩, hk, hok, hsm⟩ := it
    have hlen := X.sizes_length ks
    have HOKS : Hid (X.oks ks) := by have := hok; unfold X.ok at this; exact Lib.hid this.2.2
    simp only [X.size] at hN hM2
    obtain ⟨fn, tmps, assign, body, hy, hR0⟩ := hY (n - 1) pre ⟨A, c, ⟨k, o, m, s, ks⟩, hk, hok, hsm⟩ _ (hJ pre W (W.alloc (.cells #[.int .i64 k, .int .i64 o, .int .i64 m, .string ⟨s.toArray⟩, .slice A ks.length c] 46)) hj ((Below.refl _ _).alloc (Nat.le_refl _) _)) (by omega)
    have HK : Hid (KS W0 S A ks) := Lib.hid hk
    have HW := Lib.hid hW
    have HR1 := Lib.hid (Row.made W 46 #[.int .i64 k, .int .i64 o, .int .i64 m, .string ⟨s.toArray⟩, .slice A ks.length c])
    have hne : ¬ E W.heap.size := fun h => by have := hE _ h; omega
    have HNE := Lib.hid hne
    -- what the first round leaves
    have hR := hR0.mono (R' := fun e W' => (e = .returned (.bool true) ∧ W'.cell? ⟨W.heap.size, 4, none⟩ = some (.slice A ks.length c) ∧ Hid (J (pre ++ [⟨A, c, ⟨k, o, m, s, ks⟩, hk, hok, hsm⟩]) W' ∧ KpW n₀ E W W')) ∨ (e = .returned (.bool false) ∧ Hid (Jx (pre ++ [⟨A, c, ⟨k, o, m, s, ks⟩, hk, hok, hsm⟩]) W')))
      (fun e W' h => h.elim (fun ⟨he, h1, h2⟩ => .inl ⟨he, by have := (h2.row HR1.out HNE.out).cell 4; simpa using this, Lib.hid ⟨h1, (KpW.of_later ((Below.refl _ _).alloc (Nat.le_refl _) _) hnW).trans h2⟩⟩) (fun ⟨he, h1⟩ => .inr ⟨he, Lib.hid h1⟩))
    clear hR0 hW hj hne
    have HYY := Lib.hid hY
    have HJJ := Lib.hid hJ
    have HS := Lib.hid hS
    clear hY hJ hS
    simp only [Item.v, ev, X.k, X.o, X.n, X.s, X.ks] at hy ⊢
    refine callsIn_of_wp Tryz.func137 rfl trivial ?_ rfl
    simp only [Tryz.ntmps137, List.size_toArray, List.length_cons, List.length_nil, Nat.reduceAdd, Nat.reduceSub, Array.replicate_succ, Array.replicate_zero, List.push_toArray, List.append_toArray, List.nil_append, List.cons_append]
    gi_wp2_with ((try refine ⟨hdd _, ?_⟩); refine hR.mono ?_; clear hR; rintro e W2 (⟨rfl, c4', H2⟩ | ⟨rfl, H2⟩))
    · obtain ⟨hj1, hkp1⟩ := H2.out
      clear H2
      gi_loopw [4, 14] (fun r i wr => r = .bool false ∧ ∃ (j : Nat) (ys : List (Item W0 S)), j ≤ ks.length ∧ i = .int .i64 j ∧ ys.map (·.x) = .mk k o m s ks :: X.walks (ks.take j) ∧ J (pre ++ ys) wr ∧ KpW n₀ E W wr) (fun _ i _ => ks.length - (intOf i).toNat)
      case atStart => exact ⟨rfl, 0, [⟨A, c, ⟨k, o, m, s, ks⟩, hk, hok, hsm⟩], by omega, rfl, by simp [X.walks], hj1, hkp1⟩
      case round =>
        obtain ⟨rfl, j, ys, hj, rfl, hys, hjr, hkr⟩ := hrel
        have HYS := Lib.hid hys
        have HJR := Lib.hid hjr
        have HKR := Lib.hid hkr
        have hws := hkr.size
        have hlw : ys.length = 1 + X.sizes (ks.take j) := by
          have := congrArg List.length hys
          simp [X.walks_length] at this
          omega
        clear hj1 hkp1 c4' hys hjr hkr
        by_cases hlt : j < ks.length
        · obtain ⟨y, hy1⟩ : ∃ y, ks[j]? = some y := ⟨_, List.getElem?_eq_getElem hlt⟩
          have hmv : ∀ b, S b → wr.heap[b]? = W0.heap[b]? := fun b hb => (HKR.out.old b (HS.out b hb).1 (HS.out b hb).2).trans (HW.out b hb)
          have HMV := Lib.hid hmv
          obtain ⟨b, off, A', c', rfl, d0, d1, d2, d3, d4, hk', hsb⟩ := HK.out.kid_in hmv hy1
          have hbl : b < wr.heap.size := by have := (HS.out b hsb).1; omega
          have hst := X.sizes_take hy1
          have hle := X.sizes_take_le ks (j + 1)
          have HC : Hid (CallsIn Fence.wide (n - 1) Tryz.prog 137 #[.agg #[.int .i64 y.k, .int .i64 y.o, .int .i64 y.n, .string ⟨y.s.toArray⟩, .slice A' y.ks.length c'], .func (.yield l) #[] #[]] (wr.alloc (.cells #[.int .i64 y.k, .int .i64 y.o, .int .i64 y.n, .string ⟨y.s.toArray⟩, .slice A' y.ks.length c'] 46)) fun e w3 => (e = .returned (.bool true) ∧ Hid ((∃ zs : List (Item W0 S), zs.map (·.x) = y.walk ∧ J (pre ++ ys ++ zs) w3) ∧ KpW n₀ E (wr.alloc (.cells #[.int .i64 y.k, .int .i64 y.o, .int .i64 y.n, .string ⟨y.s.toArray⟩, .slice A' y.ks.length c'] 46)) w3)) ∨ (e = .returned (.bool false) ∧ Hid (∃ zs : List (Item W0 S), zs.map (·.x) <+: y.walk ∧ Jx (pre ++ ys ++ zs) w3))) :=
            (ih (n - 1) ⟨A', c', y, hk', X.oks_at hy1 HOKS.out, by have := X.sizes_at hy1; omega⟩ (pre ++ ys) _ (by have := X.sizes_at hy1; simp only; omega) (by omega) (fun q hq => (Below.heap_alloc _ _ _ (by have := (HS.out q hq).1; omega)).trans (HMV.out q hq)) (by simp; omega) (HJJ.out _ wr _ HJR.out ((Below.refl _ _).alloc (Nat.le_refl _) _)) (by rw [List.length_append, hlw]; simp only; omega)).mono fun e w3 h => h.elim (fun ⟨he, h1, h2⟩ => .inl ⟨he, Lib.hid ⟨h1, h2⟩⟩) (fun ⟨he, h1⟩ => .inr ⟨he, Lib.hid h1⟩)
          have HY1 := Lib.hid hy1
          clear hy1 hst hle hmv ih
          gi_wp2_with (refine ⟨trivial, hdd _, ?_⟩; gi_at_call 137; refine HC.out.mono ?_; rintro e w3 (⟨rfl, H3⟩ | ⟨rfl, H3⟩))
          · obtain ⟨⟨zs, hz, hjz⟩, hkz⟩ := H3.out
            go_roundw
            case rel => exact ⟨rfl, j + 1, ys ++ zs, by omega, by go_num, by rw [List.map_append, HYS.out, hz, X.walks_take HY1.out]; simp, by rw [← List.append_assoc]; exact hjz, HKR.out.trans ((KpW.of_later ((Below.refl _ _).alloc (Nat.le_refl _) _) (by omega)).trans hkz)⟩
            case measure => simp [intOf]; omega
          · obtain ⟨zs, hz, hjz⟩ := H3.out
            refine bodyPost_ret (results_tmp rfl _ _ _) rfl ?_
            refine .inr ⟨rfl, ys ++ zs, ?_, by rw [← List.append_assoc]; exact hjz⟩
            rw [List.map_append, HYS.out, X.walk, List.cons_append]
            have h1 := X.walks_take HY1.out
            obtain ⟨r, hr⟩ := hz
            refine ⟨r ++ X.walks (ks.drop (j + 1)), ?_⟩
            have h2 := X.walks_append (ks.take (j + 1)) (ks.drop (j + 1))
            rw [List.take_append_drop] at h2
            rw [h2, h1, ← hr]
            simp [List.append_assoc]
        · obtain rfl : j = ks.length := by omega
          gi_wp2
          go_ret
          exact .inl ⟨rfl, ⟨ys, by rw [HYS.out, List.take_length, X.walk], HJR.out⟩, HKR.out⟩
    · go_ret
      exact .inr ⟨rfl, _, by simp only [List.map_cons, List.map_nil, X.walk]; exact ⟨X.walks ks, rfl⟩, H2.out⟩
end Go.Proofs.YtdabndiaflagpaaGreatDoor
namespace Go.Proofs.YtdabndiaflagpaaGreatDoor
open Go.RowKit Go.Shelf
attribute [local go_sem] Oper.semAt_some

/-- The closure that Walk makes. -/
theorem walk1_in (W0 : World) (S E : Nat → Prop) (n₀ l M : Nat) (hS : ∀ b, S b → b < n₀ ∧ ¬ E b) (hE : ∀ b, E b → b < n₀) (J Jx : List (Item W0 S) → World → Prop)
    (hJ : ∀ pre W W', J pre W → Below W.heap.size W W' → J pre W') (n : Nat)
    (hY : ∀ pre x W, J pre W → pre.length < M → YieldAt Fence.wide (n - 1) Tryz.prog l #[Item.v x] W fun e W' =>
      (e = .returned (.bool true) ∧ J (pre ++ [x]) W' ∧ KpW n₀ E W W') ∨ (e = .returned (.bool false) ∧ Jx (pre ++ [x]) W')) 
    (it : Item W0 S) (p : Nat) (W : World) (hsz : it.x.size ≤ 1099511627775) (hW : ∀ b, S b → W.heap[b]? = W0.heap[b]?) (hnW : n₀ ≤ W.heap.size) (hj : J [] W) (hM : it.x.size ≤ M)
    (hp : Row W p 46 #[.int .i64 it.x.k, .int .i64 it.x.o, .int .i64 it.x.n, .string ⟨it.x.s.toArray⟩, .slice it.A it.x.ks.length it.c]) :
    CallsIn Fence.wide n Tryz.prog 136 #[.func (.yield l) #[] #[], .pointer (some ⟨p, 0, none⟩)] W fun e W' => (∃ v, e = .returned v) ∧
      ((∃ ys : List (Item W0 S), ys.map (·.x) = it.x.walk ∧ J ys W') ∨ (∃ ys : List (Item W0 S), ys.map (·.x) <+: it.x.walk ∧ Jx ys W')) := by
  have hdd : ∀ k : Nat, (Fence.wide.depth.isSome = true → 1 ≤ k) := fun k h => by cases h
  have hh := hand_in W0 S E n₀ l M hS hE J Jx hJ (fun m pre x W hj hl => YieldAt.anyDepth rfl m (hY pre x W hj hl)) it.x.size (n - 1) it [] W (Nat.le_refl _) hsz hW hnW hj (by simpa using hM)
  have c0 := hp.cell 0
  have c1 := hp.cell 1
  have c2 := hp.cell 2
  have c3 := hp.cell 3
  have c4 := hp.cell 4
  simp at c0 c1 c2 c3 c4
  simp only [Item.v, ev] at hh
  have HH : Hid (CallsIn Fence.wide (n - 1) Tryz.prog 137 #[.agg #[.int .i64 it.x.k, .int .i64 it.x.o, .int .i64 it.x.n, .string ⟨it.x.s.toArray⟩, .slice it.A it.x.ks.length it.c], .func (.yield l) #[] #[]] W fun e W' => (∃ v, e = .returned v) ∧ Hid
      ((∃ ys : List (Item W0 S), ys.map (·.x) = it.x.walk ∧ J ys W') ∨ (∃ ys : List (Item W0 S), ys.map (·.x) <+: it.x.walk ∧ Jx ys W'))) := hh.mono fun e W' h => h.elim (fun ⟨he, ⟨ys, h1, h2⟩, _⟩ => ⟨⟨_, he⟩, Lib.hid (.inl ⟨ys, h1, by simpa using h2⟩)⟩) (fun ⟨he, ys, h1, h2⟩ => ⟨⟨_, he⟩, Lib.hid (.inr ⟨ys, h1, by simpa using h2⟩)⟩)
  clear hh hp hj hY hJ hW
  refine callsIn_of_wp Tryz.func136 rfl trivial ?_ rfl
  simp only [Tryz.ntmps136, List.size_toArray, List.length_cons, List.length_nil, Nat.reduceAdd, Nat.reduceSub, Array.replicate_succ, Array.replicate_zero, List.push_toArray, List.append_toArray, List.nil_append, List.cons_append]
  gi_wp2_with (refine ⟨trivial, hdd _, ?_⟩; gi_at_call 137; refine HH.out.mono ?_; rintro e w3 ⟨⟨v, rfl⟩, H3⟩)
  go_end0
  exact ⟨⟨_, rfl⟩, H3.out⟩

/-- Walk hands back a closure over a box of its own. -/
def Walked (x : X) (A : Option Addr) (c : Nat) (w : World) (e : Ending) (w' : World) : Prop :=
  e = .returned (.func (.func 136) #[] #[.pointer (some ⟨w.heap.size, 0, none⟩)]) ∧ w' = w.alloc (.cells #[.int .i64 x.k, .int .i64 x.o, .int .i64 x.n, .string ⟨x.s.toArray⟩, .slice A x.ks.length c] 46)
theorem Walk_any (x : X) (A : Option Addr) (c : Nat) (w : World) : Calls Tryz.prog 108 #[ev x A c] w (Walked x A c w) := by
  simp only [ev]
  go_enter Tryz.func108, Tryz.ntmps108
  go_wp2_with fail
  go_ret
  exact ⟨rfl, rfl⟩

theorem abides_later {β : Type} {B : Nat} {J : β → World → Prop} (h : AbidesFrom B J) : ∀ pre W W', J pre W → Below W.heap.size W W' → J pre W' :=
  fun pre W W' hj hb => h pre W W' none hj (only_below hb none) (fun r e => by cases e)

/-- The closure as a loop's iterator: w is the world in which the loop begins. -/
theorem walk_stops (W0 : World) (S E : Nat → Prop) (n₀ n : Nat) (hS : ∀ b, S b → b < n₀ ∧ ¬ E b) (hE : ∀ b, E b → b < n₀) (it : Item W0 S) (p : Nat) (w : World) (hsz : it.x.size ≤ 1099511627775) (hw : ∀ b, S b → w.heap[b]? = W0.heap[b]?) (hn : n₀ ≤ w.heap.size)
    (hS2 : ∀ b, S b → b < w.heap.size) (hp : Row w p 46 #[.int .i64 it.x.k, .int .i64 it.x.o, .int .i64 it.x.n, .string ⟨it.x.s.toArray⟩, .slice it.A it.x.ks.length it.c]) :
    SeqStopsK Fence.wide n Tryz.prog 136 #[.pointer (some ⟨p, 0, none⟩)] (fun i : Item W0 S => #[Item.v i]) (KpW n₀ E) (fun ys => ys.map (·.x) = it.x.walk) (fun ys => ys.map (·.x) <+: it.x.walk) it.x.size w :=
  fun l J Jx W hW hJ _ hY h0 => walk1_in W0 S E n₀ l it.x.size hS hE J Jx (abides_later hJ) n hY it p W hsz (fun b hb => (hW.block b (hS2 b hb)).trans (hw b hb)) (Nat.le_trans hn hW.size) h0 (Nat.le_refl _) (hp.below hW hp.lt)

end Go.Proofs.YtdabndiaflagpaaGreatDoor
namespace Go.Proofs.YtdabndiaflagpaaGreatDoor
open Go.RowKit

theorem refDepth_any (N : Nat) : ∀ (x : X) (A : Option Addr) (c : Nat) (w : World) (S : Nat → Prop), x.size ≤ N → N ≤ 1099511627776 → KS w S A x.ks → (∀ b, S b → b < w.heap.size) →
    Calls Tryz.prog 38 #[ev x A c] w fun e w' => e = .returned (.int .i64 (x.depth : Nat)) ∧ Below w.heap.size w w' := by
  induction N with
  | zero => intro x A c w S h; have := x.size_pos; omega
  | succ N ih =>
    intro x A c w S hN hM hk hS
    obtain ⟨k, o, n, s, ks⟩ := x
    simp only [X.size, X.depth, X.ks, ev, X.k, X.o, X.n, X.s] at hN hk ⊢
    have hr0 := Row.made w 52 #[.int .i64 k, .int .i64 o, .int .i64 n, .string ⟨s.toArray⟩, .slice A ks.length c]
    have hlen := X.sizes_length ks
    have hdep := X.depths_le ks
    have HK := Lib.hid hk
    have HR := Lib.hid hr0
    clear hk hr0
    go_enter Tryz.func38, Tryz.ntmps38
    go_wp2_with fail
    go_loopw [3, 4] (fun m i wr => ∃ j : Nat, j ≤ ks.length ∧ i = .int .i64 j ∧ m = .int .i64 (X.depths (ks.take j) : Nat) ∧ Below (w.heap.size + 1) (w.alloc (.cells #[.int .i64 k, .int .i64 o, .int .i64 n, .string ⟨s.toArray⟩, .slice A ks.length c] 52)) wr)
      (fun _ i _ => ks.length - (intOf i).toNat)
    case atStart => exact ⟨0, by omega, rfl, by simp [X.depths], Below.refl _ _⟩
    case round =>
      obtain ⟨j, hj, rfl, rfl, hb⟩ := hrel
      have c4 := (HR.out.below hb (by omega)).cell 4
      simp at c4
      have hle := X.depths_take_le ks j
      have hbw : Below w.heap.size w wr := ((Below.refl _ w).alloc (Nat.le_refl _) _).trans (hb.mono (by omega))
      have hws := hbw.size
      by_cases hlt : j < ks.length
      · obtain ⟨y, hy⟩ : ∃ y, ks[j]? = some y := ⟨_, List.getElem?_eq_getElem hlt⟩
        obtain ⟨b, off, A', c', rfl, d0, d1, d2, d3, d4, hk', hbl⟩ := HK.out.kid_at hS hbw hy
        have hsz := X.depths_take hy
        have hyl := X.depths_at hy
        have CL := ih y A' c' wr S (by have := X.sizes_at hy; omega) (by omega) hk' (fun b h => Nat.lt_of_lt_of_le (hS b h) hws)
        simp only [ev] at CL
        have HC := Lib.hid CL
        have HZ := Lib.hid hsz
        have HB := Lib.hid hb
        clear CL hy hsz hb hk' hbw
        by_cases hgt : (X.depths (ks.take j) : Int) < (y.depth : Int)
        all_goals
          go_wp2_with (go_at_call 38; refine HC.out.mono ?_; rintro e w1 ⟨rfl, hb1⟩; have HB1 := Lib.hid hb1; clear hb1)
          go_roundw
          case rel => exact ⟨j + 1, by omega, by go_num, by rw [HZ.out]; first | rw [Nat.max_eq_right (by omega)] | rw [Nat.max_eq_left (by omega)], HB.out.trans (HB1.out.mono (by have := HB.out.size; simp at this; omega))⟩
          case measure => simp [intOf]; omega
      · obtain rfl : j = ks.length := by omega
        have HB := Lib.hid hbw
        clear hb hbw
        go_wp2_with fail
        go_ret
        exact ⟨by rw [List.take_length]; go_num, HB.out⟩

def inB (n d : Nat) : Bool := decide (n ≤ d)
theorem inB_true {n d : Nat} (h : n ≤ d) : inB n d = true := decide_eq_true h
theorem inB_false {n d : Nat} (h : ¬ n ≤ d) : inB n d = false := decide_eq_false h

theorem within_any (d : Nat) : ∀ (z : Int) (x : X) (A : Option Addr) (c : Nat) (w : World) (S : Nat → Prop), z = (d : Int) → d ≤ 1000000 → x.ks.length ≤ 1099511627776 → (∀ y ∈ x.ks, y.size ≤ 1099511627776) → KS w S A x.ks → (∀ b, S b → b < w.heap.size) →
    Calls Tryz.prog 107 #[ev x A c, .int .i64 z] w fun e w' => e = .returned (.bool (inB x.depth d)) ∧ Below w.heap.size w w' := by
  induction d with
  | zero =>
    intro z x A c w S hz _ _ _ _ _
    obtain ⟨k, o, n, s, ks⟩ := x
    subst hz
    simp only [X.depth, X.ks, ev, X.k, X.o, X.n, X.s]
    go_enter Tryz.func107, Tryz.ntmps107
    go_wp2_with fail
    go_ret
    exact ⟨by rw [inB_false (by omega)]; rfl, (Below.refl _ _).alloc (Nat.le_refl _) _⟩
  | succ d ih =>
    intro z x A c w S hz hM hlen hsz hk hS
    obtain ⟨k, o, n, s, ks⟩ := x
    simp only [X.depth, X.ks, ev, X.k, X.o, X.n, X.s] at hk hlen hsz ⊢
    have h0 : 0 < z := by omega
    have h9 : z ≤ 1000000 := by omega
    have hz0 : (z == 0) = false := by simp; omega
    have HK := Lib.hid hk
    have HZ := Lib.hid hz
    have HS := Lib.hid hsz
    clear hk hz hsz
    go_enter Tryz.func107, Tryz.ntmps107
    go_wp2_with fail
    go_loopw [12] (fun i wr => ∃ j : Nat, j ≤ ks.length ∧ i = .int .i64 j ∧ X.depths (ks.take j) ≤ d ∧ Below w.heap.size w wr)
      (fun i _ => ks.length - (intOf i).toNat)
    case atStart => exact ⟨0, by omega, rfl, by simp [X.depths], (Below.refl _ _).alloc (Nat.le_refl _) _⟩
    case round =>
      obtain ⟨j, hj, rfl, hd, hbw⟩ := hrel
      have hws := hbw.size
      by_cases hlt : j < ks.length
      · obtain ⟨y, hy⟩ : ∃ y, ks[j]? = some y := ⟨_, List.getElem?_eq_getElem hlt⟩
        obtain ⟨b, off, A', c', rfl, d0, d1, d2, d3, d4, hk', hbl⟩ := HK.out.kid_at hS hbw hy
        have hsz := X.depths_take hy
        have hyl := X.depths_at hy
        have hy9 := HS.out y (List.mem_of_getElem? hy)
        have HD := Lib.hid hd
        by_cases hin : y.depth ≤ d
        · have HC : Hid (∀ w2, Below wr.heap.size wr w2 → Calls Tryz.prog 107 #[.agg #[.int .i64 y.k, .int .i64 y.o, .int .i64 y.n, .string ⟨y.s.toArray⟩, .slice A' y.ks.length c'], .int .i64 (z - 1)] w2 fun e w' => e = .returned (.bool true) ∧ Below w2.heap.size w2 w') :=
            fun w2 hb2 => (ih (z - 1) y A' c' w2 S (by have := HZ.out; omega) (by omega) (Nat.le_trans (Nat.le_trans (X.sizes_length y.ks) (by cases y; simp only [X.size, X.ks]; omega)) hy9) (fun u hu => Nat.le_trans (Nat.le_trans (by obtain ⟨i, hi⟩ := List.mem_iff_getElem?.1 hu; exact X.sizes_at hi) (by cases y; simp only [X.size, X.ks]; omega)) hy9) (hk'.later (fun b h => Nat.lt_of_lt_of_le (hS b h) hws) hb2) (fun b h => Nat.lt_of_lt_of_le (hS b h) (Nat.le_trans hws hb2.size))).mono fun e w' h => ⟨by rw [h.1, inB_true hin], h.2⟩
          have HT := Lib.hid hsz
          have HB := Lib.hid hbw
          clear hy hsz hk' hbw hd
          go_wp2_with (go_at_call 107; refine (HC.out _ ((Below.refl _ _).alloc (Nat.le_refl _) _)).mono ?_; rintro e w1 ⟨rfl, hb1⟩; have HB1 := Lib.hid hb1; clear hb1)
          go_roundw
          case rel => exact ⟨j + 1, by omega, by go_num, by rw [HT.out]; have := HD.out; omega, HB.out.trans (((Below.refl _ _).alloc hws _).trans (HB1.out.mono (by simp; omega)))⟩
          case measure => simp [intOf]; omega
        · have HC : Hid (∀ w2, Below wr.heap.size wr w2 → Calls Tryz.prog 107 #[.agg #[.int .i64 y.k, .int .i64 y.o, .int .i64 y.n, .string ⟨y.s.toArray⟩, .slice A' y.ks.length c'], .int .i64 (z - 1)] w2 fun e w' => e = .returned (.bool false) ∧ Below w2.heap.size w2 w') :=
            fun w2 hb2 => (ih (z - 1) y A' c' w2 S (by have := HZ.out; omega) (by omega) (Nat.le_trans (Nat.le_trans (X.sizes_length y.ks) (by cases y; simp only [X.size, X.ks]; omega)) hy9) (fun u hu => Nat.le_trans (Nat.le_trans (by obtain ⟨i, hi⟩ := List.mem_iff_getElem?.1 hu; exact X.sizes_at hi) (by cases y; simp only [X.size, X.ks]; omega)) hy9) (hk'.later (fun b h => Nat.lt_of_lt_of_le (hS b h) hws) hb2) (fun b h => Nat.lt_of_lt_of_le (hS b h) (Nat.le_trans hws hb2.size))).mono fun e w' h => ⟨by rw [h.1, inB_false hin], h.2⟩
          have HB := Lib.hid hbw
          have HY := Lib.hid hyl
          clear hy hsz hk' hbw hd hyl
          go_wp2_with (go_at_call 107; refine (HC.out _ ((Below.refl _ _).alloc (Nat.le_refl _) _)).mono ?_; rintro e w1 ⟨rfl, hb1⟩; have HB1 := Lib.hid hb1; clear hb1)
          go_ret
          exact ⟨congrArg (fun b => Ending.returned (.bool b)) (inB_false (n := 1 + X.depths ks) (d := d + 1) (by have := HY.out; omega)).symm, HB.out.trans (((Below.refl _ _).alloc hws _).trans (HB1.out.mono (by simp; omega)))⟩
      · obtain rfl : j = ks.length := by omega
        have HB := Lib.hid hbw
        have HD := Lib.hid hd
        clear hbw hd
        go_wp2_with fail
        go_ret
        exact ⟨congrArg (fun b => Ending.returned (.bool b)) (inB_true (n := 1 + X.depths ks) (d := d + 1) (by have := HD.out; rw [List.take_length] at this; omega)).symm, HB.out⟩

end Go.Proofs.YtdabndiaflagpaaGreatDoor
