/- DERIVED. Walk, its closure, its contract for a loop; Size. -/
import Derived.Test.YtfajnflfonechaaDoorWalk
namespace Go.Proofs.YtfajnflfonechaaDoor
open Go.RowKit Go.Shelf
attribute [local go_sem] Oper.semAt_some

/-- The closure that Walk makes. -/
theorem walk1_in (W0 : World) (S E : Nat → Prop) (n₀ l M : Nat) (hS : ∀ b, S b → b < n₀ ∧ ¬ E b) (hE : ∀ b, E b → b < n₀) (J Jx : List (Item W0 S) → World → Prop)
    (hJ : ∀ pre W W', J pre W → Below W.heap.size W W' → J pre W') (n : Nat)
    (hY : ∀ pre x W, J pre W → pre.length < M → YieldAt Fence.wide (n - 1) Tryd.prog l #[Item.v x] W fun e W' =>
      (e = .returned (.bool true) ∧ J (pre ++ [x]) W' ∧ Kp n₀ E W W') ∨ (e = .returned (.bool false) ∧ Jx (pre ++ [x]) W')) 
    (it : Item W0 S) (p : Nat) (W : World) (hsz : it.x.size ≤ 1099511627775) (hW : ∀ b, S b → W.heap[b]? = W0.heap[b]?) (hnW : n₀ ≤ W.heap.size) (hj : J [] W) (hM : it.x.size ≤ M)
    (hp : Row W p 61 #[.int .i64 it.x.k, .int .i64 it.x.o, .int .i64 it.x.n, .string ⟨it.x.s.toArray⟩, .slice it.A it.x.ks.length it.c]) :
    CallsIn Fence.wide n Tryd.prog 105 #[.func (.yield l) #[] #[], .pointer (some ⟨p, 0, none⟩)] W fun e W' => (∃ v, e = .returned v) ∧
      ((∃ ys : List (Item W0 S), ys.map (·.x) = it.x.walk ∧ J ys W') ∨ (∃ ys : List (Item W0 S), ys.map (·.x) <+: it.x.walk ∧ Jx ys W')) := by
  have hdd : ∀ k : Nat, (Fence.wide.depth.isSome = true → 1 ≤ k) := fun k h => by cases h
  have hh := hand_in W0 S E n₀ l M hS hE J Jx hJ (fun m pre x W hj hl => YieldAt.anyDepth rfl m (hY pre x W hj hl)) it.x.size (n - 1) it [] W (Nat.le_refl _) hsz hW hnW hj (by simpa using hM)
  have c0 := hp.cell 0
  have c1 := hp.cell 1
  have c2 := hp.cell 2
  have c3 := hp.cell 3
  have c4 := hp.cell 4
  simp at c0 c1 c2 c3 c4
  simp only [Item.v, ev] at hh
  have HH : Hid (CallsIn Fence.wide (n - 1) Tryd.prog 106 #[.agg #[.int .i64 it.x.k, .int .i64 it.x.o, .int .i64 it.x.n, .string ⟨it.x.s.toArray⟩, .slice it.A it.x.ks.length it.c], .func (.yield l) #[] #[]] W fun e W' => (∃ v, e = .returned v) ∧ Hid
      ((∃ ys : List (Item W0 S), ys.map (·.x) = it.x.walk ∧ J ys W') ∨ (∃ ys : List (Item W0 S), ys.map (·.x) <+: it.x.walk ∧ Jx ys W'))) := hh.mono fun e W' h => h.elim (fun ⟨he, ⟨ys, h1, h2⟩, _⟩ => ⟨⟨_, he⟩, Lib.hid (.inl ⟨ys, h1, by simpa using h2⟩)⟩) (fun ⟨he, ys, h1, h2⟩ => ⟨⟨_, he⟩, Lib.hid (.inr ⟨ys, h1, by simpa using h2⟩)⟩)
  clear hh hp hj hY hJ hW
  refine callsIn_of_wp Tryd.func105 rfl trivial ?_ rfl
  simp only [Tryd.ntmps105, List.size_toArray, List.length_cons, List.length_nil, Nat.reduceAdd, Nat.reduceSub, Array.replicate_succ, Array.replicate_zero, List.push_toArray, List.append_toArray, List.nil_append, List.cons_append]
  gi_wp2_with (refine ⟨trivial, hdd _, ?_⟩; gi_at_call 106; refine HH.out.mono ?_; rintro e w3 ⟨⟨v, rfl⟩, H3⟩)
  go_end0
  exact ⟨⟨_, rfl⟩, H3.out⟩

/-- Walk hands back a closure over a box of its own. -/
def Walked (x : X) (A : Option Addr) (c : Nat) (w : World) (e : Ending) (w' : World) : Prop :=
  e = .returned (.func (.func 105) #[] #[.pointer (some ⟨w.heap.size, 0, none⟩)]) ∧ w' = w.alloc (.cells #[.int .i64 x.k, .int .i64 x.o, .int .i64 x.n, .string ⟨x.s.toArray⟩, .slice A x.ks.length c] 61)
theorem Walk_any (x : X) (A : Option Addr) (c : Nat) (w : World) : Calls Tryd.prog 84 #[ev x A c] w (Walked x A c w) := by
  simp only [ev]
  go_enter Tryd.func84, Tryd.ntmps84
  go_wp2_with fail
  go_ret
  exact ⟨rfl, rfl⟩

theorem abides_later {β : Type} {B : Nat} {J : β → World → Prop} (h : AbidesFrom B J) : ∀ pre W W', J pre W → Below W.heap.size W W' → J pre W' :=
  fun pre W W' hj hb => h pre W W' none hj (only_below hb none) (fun r e => by cases e)

/-- The closure as a loop's iterator: w is the world in which the loop begins. -/
theorem walk_stops (W0 : World) (S E : Nat → Prop) (n₀ n : Nat) (hS : ∀ b, S b → b < n₀ ∧ ¬ E b) (hE : ∀ b, E b → b < n₀) (it : Item W0 S) (p : Nat) (w : World) (hsz : it.x.size ≤ 1099511627775) (hw : ∀ b, S b → w.heap[b]? = W0.heap[b]?) (hn : n₀ ≤ w.heap.size)
    (hS2 : ∀ b, S b → b < w.heap.size) (hp : Row w p 61 #[.int .i64 it.x.k, .int .i64 it.x.o, .int .i64 it.x.n, .string ⟨it.x.s.toArray⟩, .slice it.A it.x.ks.length it.c]) :
    SeqStopsK Fence.wide n Tryd.prog 105 #[.pointer (some ⟨p, 0, none⟩)] (fun i : Item W0 S => #[Item.v i]) (Kp n₀ E) (fun ys => ys.map (·.x) = it.x.walk) (fun ys => ys.map (·.x) <+: it.x.walk) it.x.size w :=
  fun l J Jx W hW hJ _ hY h0 => walk1_in W0 S E n₀ l it.x.size hS hE J Jx (abides_later hJ) n hY it p W hsz (fun b hb => (hW.block b (hS2 b hb)).trans (hw b hb)) (Nat.le_trans hn hW.size) h0 (Nat.le_refl _) (hp.below hW hp.lt)

end Go.Proofs.YtfajnflfonechaaDoor
