/- DERIVED. Walk, its closure, its contract for a loop; Size. -/
import Derived.Test.YtmbdnifehgdjeaaDoorWalk
namespace Go.Proofs.YtmbdnifehgdjeaaDoor
open Go.RowKit Go.Shelf
attribute [local go_sem] Oper.semAt_some

/-- The closure that Walk makes. -/
theorem walk1_in (W0 : World) (S E : Nat → Prop) (n₀ l M : Nat) (hS : ∀ b, S b → b < n₀ ∧ ¬ E b) (hE : ∀ b, E b → b < n₀) (J Jx : List (Item W0 S) → World → Prop)
    (hJ : ∀ pre W W', J pre W → Below W.heap.size W W' → J pre W') (n : Nat)
    (hY : ∀ pre x W, J pre W → pre.length < M → YieldAt Fence.wide (n - 1) Tryd.prog l #[Item.v x] W fun e W' =>
      (e = .returned (.bool true) ∧ J (pre ++ [x]) W' ∧ Kp n₀ E W W') ∨ (e = .returned (.bool false) ∧ Jx (pre ++ [x]) W')) 
    (it : Item W0 S) (p : Nat) (W : World) (hsz : it.x.size ≤ 1099511627775) (hW : ∀ b, S b → W.heap[b]? = W0.heap[b]?) (hnW : n₀ ≤ W.heap.size) (hj : J [] W) (hM : it.x.size ≤ M)
    (hp : Row W p 28 #[.int .i64 it.x.k, .int .i64 it.x.o, .int .i64 it.x.n, .string ⟨it.x.s.toArray⟩, .slice it.A it.x.ks.length it.c]) :
    CallsIn Fence.wide n Tryd.prog 42 #[.func (.yield l) #[] #[], .pointer (some ⟨p, 0, none⟩)] W fun e W' => (∃ v, e = .returned v) ∧
      ((∃ ys : List (Item W0 S), ys.map (·.x) = it.x.walk ∧ J ys W') ∨ (∃ ys : List (Item W0 S), ys.map (·.x) <+: it.x.walk ∧ Jx ys W')) := by
  have hdd : ∀ k : Nat, (Fence.wide.depth.isSome = true → 1 ≤ k) := fun k h => by cases h
  have hh := hand_in W0 S E n₀ l M hS hE J Jx hJ (fun m pre x W hj hl => YieldAt.anyDepth rfl m (hY pre x W hj hl)) it.x.size (n - 1) it [] W (Nat.le_refl _) hsz hW hnW hj (by simpa using hM)
  have c0 := hp.cell 0
  have c1 := hp.cell 1
  have c2 := hp.cell 2
  have c3 := hp.cell 3
  have c4 := hp.cell 4
  simp at c0 c1 c2 c3 c4
  simp only [Item.v, ev] at hh
  have HH : Hid (CallsIn Fence.wide (n - 1) Tryd.prog 43 #[.agg #[.int .i64 it.x.k, .int .i64 it.x.o, .int .i64 it.x.n, .string ⟨it.x.s.toArray⟩, .slice it.A it.x.ks.length it.c], .func (.yield l) #[] #[]] W fun e W' => (∃ v, e = .returned v) ∧ Hid
      ((∃ ys : List (Item W0 S), ys.map (·.x) = it.x.walk ∧ J ys W') ∨ (∃ ys : List (Item W0 S), ys.map (·.x) <+: it.x.walk ∧ Jx ys W'))) := hh.mono fun e W' h => h.elim (fun ⟨he, ⟨ys, h1, h2⟩, _⟩ => ⟨⟨_, he⟩, Lib.hid (.inl ⟨ys, h1, by simpa using h2⟩)⟩) (fun ⟨he, ys, h1, h2⟩ => ⟨⟨_, he⟩, Lib.hid (.inr ⟨ys, h1, by simpa using h2⟩)⟩)
  clear hh hp hj hY hJ hW
  refine callsIn_of_wp Tryd.func42 rfl trivial ?_ rfl
  simp only [Tryd.ntmps42, List.size_toArray, List.length_cons, List.length_nil, Nat.reduceAdd, Nat.reduceSub, Array.replicate_succ, Array.replicate_zero, List.push_toArray, List.append_toArray, List.nil_append, List.cons_append]
  gi_wp2_with (refine ⟨trivial, hdd _, ?_⟩; gi_at_call 43; refine HH.out.mono ?_; rintro e w3 ⟨⟨v, rfl⟩, H3⟩)
  go_end0
  exact ⟨⟨_, rfl⟩, H3.out⟩

/-- Walk hands back a closure over a box of its own. -/
def Walked (x : X) (A : Option Addr) (c : Nat) (w : World) (e : Ending) (w' : World) : Prop :=
  e = .returned (.func (.func 42) #[] #[.pointer (some ⟨w.heap.size, 0, none⟩)]) ∧ w' = w.alloc (.cells #[.int .i64 x.k, .int .i64 x.o, .int .i64 x.n, .string ⟨x.s.toArray⟩, .slice A x.ks.length c] 28)
theorem Walk_any (x : X) (A : Option Addr) (c : Nat) (w : World) : Calls Tryd.prog 17 #[ev x A c] w (Walked x A c w) := by
  simp only [ev]
  go_enter Tryd.func17, Tryd.ntmps17
  go_wp2_with fail
  go_ret
  exact ⟨rfl, rfl⟩

theorem abides_later {β : Type} {B : Nat} {J : β → World → Prop} (h : AbidesFrom B J) : ∀ pre W W', J pre W → Below W.heap.size W W' → J pre W' :=
  fun pre W W' hj hb => h pre W W' none hj (only_below hb none) (fun r e => by cases e)

/-- The closure as a loop's iterator: w is the world in which the loop begins. -/
theorem walk_stops (W0 : World) (S E : Nat → Prop) (n₀ n : Nat) (hS : ∀ b, S b → b < n₀ ∧ ¬ E b) (hE : ∀ b, E b → b < n₀) (it : Item W0 S) (p : Nat) (w : World) (hsz : it.x.size ≤ 1099511627775) (hw : ∀ b, S b → w.heap[b]? = W0.heap[b]?) (hn : n₀ ≤ w.heap.size)
    (hS2 : ∀ b, S b → b < w.heap.size) (hp : Row w p 28 #[.int .i64 it.x.k, .int .i64 it.x.o, .int .i64 it.x.n, .string ⟨it.x.s.toArray⟩, .slice it.A it.x.ks.length it.c]) :
    SeqStopsK Fence.wide n Tryd.prog 42 #[.pointer (some ⟨p, 0, none⟩)] (fun i : Item W0 S => #[Item.v i]) (Kp n₀ E) (fun ys => ys.map (·.x) = it.x.walk) (fun ys => ys.map (·.x) <+: it.x.walk) it.x.size w :=
  fun l J Jx W hW hJ _ hY h0 => walk1_in W0 S E n₀ l it.x.size hS hE J Jx (abides_later hJ) n hY it p W hsz (fun b hb => (hW.block b (hS2 b hb)).trans (hw b hb)) (Nat.le_trans hn hW.size) h0 (Nat.le_refl _) (hp.below hW hp.lt)

set_option maxRecDepth 100000 in
set_option maxHeartbeats 4000000 in
theorem Size_any (x : X) (A : Option Addr) (c : Nat) (w : World) (S : Nat → Prop) (hok : x.ok) (hsz : x.size ≤ 1099511627775) (hk : KS w S A x.ks) (hS : ∀ b, S b → b < w.heap.size) :
    Calls Tryd.prog 14 #[ev x A c] w fun e w' => e = .returned (.int .i64 (x.size : Nat)) ∧ Below w.heap.size w w' := by
  refine (callsIn_wide (n := 3)).1 ?_
  refine callsIn_of_wp_marks Tryd.func14 rfl trivial ?_ rfl
  simp only [Tryd.ntmps14, List.size_toArray, List.length_cons, List.length_nil, Nat.reduceAdd, Nat.reduceSub, Array.replicate_succ, Array.replicate_zero, List.push_toArray, List.append_toArray, List.nil_append, List.cons_append]
  simp only [ev]
  have HW : Hid (∀ w2, Calls Tryd.prog 17 #[.agg #[.int .i64 x.k, .int .i64 x.o, .int .i64 x.n, .string ⟨x.s.toArray⟩, .slice A x.ks.length c]] w2 (Walked x A c w2)) := fun w2 => Walk_any x A c w2
  gi_wp2_with (refine ⟨trivial, ?_⟩; gi_at_call 17; refine (callsIn_wide.2 (HW.out _)).mono ?_; rintro e w2 ⟨rfl, rfl⟩)
  have hz3 : (((w.alloc (.cells #[.int .i64 x.k, .int .i64 x.o, .int .i64 x.n, .string ⟨x.s.toArray⟩, .slice A x.ks.length c] 28)).alloc (.cells #[.int .i64 0] 3)).alloc (.cells #[.int .i64 x.k, .int .i64 x.o, .int .i64 x.n, .string ⟨x.s.toArray⟩, .slice A x.ks.length c] 28)).heap.size = w.heap.size + 3 := by simp
  have hb3 : Below w.heap.size w (((w.alloc (.cells #[.int .i64 x.k, .int .i64 x.o, .int .i64 x.n, .string ⟨x.s.toArray⟩, .slice A x.ks.length c] 28)).alloc (.cells #[.int .i64 0] 3)).alloc (.cells #[.int .i64 x.k, .int .i64 x.o, .int .i64 x.n, .string ⟨x.s.toArray⟩, .slice A x.ks.length c] 28)) := (((Below.refl _ _).alloc (Nat.le_refl _) _).alloc (by simp) _).alloc (by simp; omega) _
  have hr3 : Row (((w.alloc (.cells #[.int .i64 x.k, .int .i64 x.o, .int .i64 x.n, .string ⟨x.s.toArray⟩, .slice A x.ks.length c] 28)).alloc (.cells #[.int .i64 0] 3)).alloc (.cells #[.int .i64 x.k, .int .i64 x.o, .int .i64 x.n, .string ⟨x.s.toArray⟩, .slice A x.ks.length c] 28)) (w.heap.size + 1) 3 #[.int .i64 0] := by
    have := Row.made (w.alloc (.cells #[.int .i64 x.k, .int .i64 x.o, .int .i64 x.n, .string ⟨x.s.toArray⟩, .slice A x.ks.length c] 28)) 3 #[.int .i64 0]
    rw [World.size_alloc] at this
    exact this.alloc _
  have hp3 : Row (((w.alloc (.cells #[.int .i64 x.k, .int .i64 x.o, .int .i64 x.n, .string ⟨x.s.toArray⟩, .slice A x.ks.length c] 28)).alloc (.cells #[.int .i64 0] 3)).alloc (.cells #[.int .i64 x.k, .int .i64 x.o, .int .i64 x.n, .string ⟨x.s.toArray⟩, .slice A x.ks.length c] 28)) (w.heap.size + 2) 28 #[.int .i64 x.k, .int .i64 x.o, .int .i64 x.n, .string ⟨x.s.toArray⟩, .slice A x.ks.length c] := by
    have := Row.made ((w.alloc (.cells #[.int .i64 x.k, .int .i64 x.o, .int .i64 x.n, .string ⟨x.s.toArray⟩, .slice A x.ks.length c] 28)).alloc (.cells #[.int .i64 0] 3)) 28 #[.int .i64 x.k, .int .i64 x.o, .int .i64 x.n, .string ⟨x.s.toArray⟩, .slice A x.ks.length c]
    rw [World.size_alloc, World.size_alloc] at this
    exact this
  generalize ((w.alloc (.cells #[.int .i64 x.k, .int .i64 x.o, .int .i64 x.n, .string ⟨x.s.toArray⟩, .slice A x.ks.length c] 28)).alloc (.cells #[.int .i64 0] 3)).alloc (.cells #[.int .i64 x.k, .int .i64 x.o, .int .i64 x.n, .string ⟨x.s.toArray⟩, .slice A x.ks.length c] 28) = W3 at hz3 hb3 hr3 hp3 ⊢
  refine wpIn_rangeFunc_ownF rfl (by omega) (gf := 42) (lb := #[.pointer (some ⟨w.heap.size + 2, 0, none⟩)]) rfl trivial (enters_of Tryd.func42 (by kernel_rfl) rfl)
    (walk_stops w S (fun b => b = w.heap.size + 1) (w.heap.size + 3) 2 (fun b hb => ⟨by have := hS b hb; omega, by have := hS b hb; omega⟩) (fun b hb => by omega) ⟨A, c, x, hk, hok, hsz⟩ (w.heap.size + 2) W3 hsz (fun b hb => hb3.block b (hS b hb)) (by omega) (fun b hb => by have := hS b hb; omega) hp3)
    (fun h k => h.trans k) (kp_b (by omega)) (Below.refl _ _) (fun _ => rfl)
    (fun pre W => (W.cell? ⟨w.heap.size + 1, 0, none⟩ = some (.int .i64 (pre.length : Nat)) ∧ W.frozen? ⟨w.heap.size + 1, 0, none⟩ = false) ∧ Below w.heap.size w W)
    (fun _ _ _ => False)
    (OwnFrom.and (Own.from (fun s A B row hs hg hr => ⟨cell_kept hs.1 hg hr, (frozen_kept hs.1 hg hr).trans hs.2⟩) _) (ownFrom_below (Nat.le_refl _) (by omega)))
    (fun _ _ _ _ _ hs _ _ => hs)
    ⟨⟨by simpa using hr3.cell 0, hr3.free 0⟩, hb3⟩
    (fun i => { tmps := #[.agg #[.int .i64 x.k, .int .i64 x.o, .int .i64 x.n, .string ⟨x.s.toArray⟩, .slice A x.ks.length c], .pointer (some ⟨w.heap.size, 0, none⟩), .int .i64 0, .pointer (some ⟨w.heap.size + 1, 0, none⟩), .agg #[.int .i64 x.k, .int .i64 x.o, .int .i64 x.n, .string ⟨x.s.toArray⟩, .slice A x.ks.length c], .func (.func 42) #[] #[.pointer (some ⟨w.heap.size + 1 + 1, 0, none⟩)], Item.v i, undef, undef, undef], defers := [] }) ?assign ?body ?done ?stop
  case assign =>
    intro l i W K hK
    gi_wp2
    simpa using hK
  case body =>
    rintro l pre i W ⟨⟨hc, hf⟩, hB⟩ hlen
    simp only at hlen
    have HB := Lib.hid hB
    clear hB
    gi_wp2
    refine ⟨KeepsOthers.setCell _ _ _, Kp.set (p := ⟨w.heap.size + 1, 0, none⟩) _ rfl, ⟨?_, by rw [World.frozen?_setCell]; exact hf⟩, HB.out.setCell (p := ⟨w.heap.size + 1, 0, none⟩) (Nat.le_add_right _ _) _⟩
    rw [List.length_append]
    exact World.cell?_setCell_same' _ _ _ (by rw [hc]; rfl)
  case done =>
    rintro D ys W hD hys ⟨⟨hc, hf⟩, hB⟩ hK
    have hl : ys.length = x.size := by have := congrArg List.length hys; simpa [X.walk_length] using this
    have HB := Lib.hid hB
    have HD := Lib.hid hD
    have HL := Lib.hid hl
    clear hys hB hD hl
    gi_wp2
    refine ⟨by simp, .inl ⟨_, _, rfl, run_takeDeferred hK, ?_⟩⟩
    exact ⟨_, results_tmp rfl _ _ _, by rw [HL.out]; rfl, HB.out.trans (belowK_b (w := w) (Nat.le_refl _) W D _ _ (by have := HD.out; omega) hK rfl rfl)⟩
  case stop =>
    rintro D cc pre W _ _ h _
    exact h.elim

end Go.Proofs.YtmbdnifehgdjeaaDoor
