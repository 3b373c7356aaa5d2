/- DERIVED. For the law of expressions: wrapping; what a value of an expression is. -/
import Derived.Test.YtblfejooagfkcaaDoorAwake3
import Derived.Test.YtblfejooagfkcaaDoorOwn
import Derived.Test.YtblfejooagfkcaaDoorSame2
namespace Go.Proofs.YtblfejooagfkcaaDoor
open Go.RowKit

def X.wrap : Nat → X → X
  | 0, x => x
  | n + 1, x => .mk 3 0 0 [] [X.wrap n x]
theorem X.wrap_size (n : Nat) (x : X) : (X.wrap n x).size = x.size + n := by
  induction n with
  | zero => rfl
  | succ n ih => simp only [X.wrap, X.size, X.sizes, ih]; omega
theorem X.wrap_ok (n : Nat) {x : X} (h : x.ok) : (X.wrap n x).ok := by
  induction n with
  | zero => exact h
  | succ n ih => unfold X.wrap X.ok; refine ⟨by omega, by simp, ?_⟩; unfold X.oks X.oks; exact ⟨ih, trivial⟩

theorem KS.one {w : World} {S S' : Nat → Prop} {g : Nat} {t : TypeId} {x : X} {A : Option Addr} {c : Nat} (hr : Row w g t (c5 x A c).toArray) (hg : S' g) (hS : ∀ b, S b → S' b) (hk : KS w S A x.ks) : KS w S' (some ⟨g, 0, none⟩) [x] :=
  .inr ⟨g, 0, rfl, CX.ecs (S := S) (cs := c5 x A c ++ []) hg hS ⟨A, c, [], rfl, hk, rfl⟩ fun j u hu => by
    rw [List.append_nil] at hu
    rw [Nat.zero_add, hr.cell j, ← hu]
    simp⟩

/-- The value v is that of the expression x. -/
def VX (x : X) (v : Value) (w : World) : Prop := ∃ A c, v = ev x A c ∧ KS w (Old w) A x.ks
theorem VX.later {x : X} {v : Value} {w w' : World} (h : VX x v w) (hl : Tame.Later w w') : VX x v w' := by
  obtain ⟨A, c, hv, hk⟩ := h
  exact ⟨A, c, hv, hk.move fun b hb => ⟨Nat.lt_of_lt_of_le hb (Below.size hl), Below.block hl b hb⟩⟩
theorem KS.old {w w' : World} {A : Option Addr} {ks : List X} (h : KS w (Old w) A ks) (hl : Below w.heap.size w w') : KS w' (Old w') A ks := h.move fun b hb => ⟨Nat.lt_of_lt_of_le hb hl.size, hl.block b hb⟩

/-- The blocks that there are, but for the law's own three boxes. -/
def Sx (h : Nat) (w : World) : Nat → Prop := fun b => b < w.heap.size ∧ b ≠ h ∧ b ≠ h + 1 ∧ b ≠ h + 2
/-- The law's variables: e, wrapped j times; o; the result. -/
structure Vars3 (h : Nat) (e o : X) (j : Nat) (w0 w : World) : Prop where
  e_ : ∃ A c, Row w h 24 (c5 (X.wrap j e) A c).toArray ∧ KS w (Sx h w) A (X.wrap j e).ks
  o_ : ∃ A c, Row w (h + 1) 24 (c5 o A c).toArray ∧ KS w (Sx h w) A o.ks
  r_ : Row w (h + 2) 4 #[.bool false]
  b_ : Below h w0 w
  s_ : h + 3 ≤ w.heap.size

theorem row_sets {w : World} {g : Nat} {t : TypeId} {a b c d e : Value} (h : Row w g t #[a, b, c, d, e]) (p q r s u : Value) :
    Row (((((w.setCell ⟨g, 0, none⟩ p).setCell ⟨g, 1, none⟩ q).setCell ⟨g, 2, none⟩ r).setCell ⟨g, 3, none⟩ s).setCell ⟨g, 4, none⟩ u) g t #[p, q, r, s, u] := by
  have := ((((h.set 0 p).set 1 q).set 2 r).set 3 s).set 4 u
  simpa using this
theorem sets_heap {w : World} {g : Nat} (p q r s u : Value) (b : Nat) (hb : b ≠ g) :
    (((((w.setCell ⟨g, 0, none⟩ p).setCell ⟨g, 1, none⟩ q).setCell ⟨g, 2, none⟩ r).setCell ⟨g, 3, none⟩ s).setCell ⟨g, 4, none⟩ u).heap[b]? = w.heap[b]? := by
  rw [Below.heap_setCell _ _ _ _ hb, Below.heap_setCell _ _ _ _ hb, Below.heap_setCell _ _ _ _ hb, Below.heap_setCell _ _ _ _ hb, Below.heap_setCell _ _ _ _ hb]
theorem sets_below {B : Nat} {w0 w : World} (h : Below B w0 w) {g : Nat} (hg : B ≤ g) (p q r s u : Value) :
    Below B w0 (((((w.setCell ⟨g, 0, none⟩ p).setCell ⟨g, 1, none⟩ q).setCell ⟨g, 2, none⟩ r).setCell ⟨g, 3, none⟩ s).setCell ⟨g, 4, none⟩ u) :=
  ((((h.setCell (p := ⟨g, 0, none⟩) hg p).setCell (p := ⟨g, 1, none⟩) hg q).setCell (p := ⟨g, 2, none⟩) hg r).setCell (p := ⟨g, 3, none⟩) hg s).setCell (p := ⟨g, 4, none⟩) hg u

/-- One wrapping more: a new row that holds e, and the box over it. -/
theorem Vars3.step {h : Nat} {e o : X} {j : Nat} {w0 w : World} (v : Vars3 h e o j w0 w) {A : Option Addr} {c : Nat} (hr : Row w h 24 (c5 (X.wrap j e) A c).toArray) (hk : KS w (Sx h w) A (X.wrap j e).ks) (w1 : World)
    (hw1 : w1 = (((((w.setCell ⟨h, 0, none⟩ (.int .i64 3)).setCell ⟨h, 1, none⟩ (.int .i64 0)).setCell ⟨h, 2, none⟩ (.int .i64 0)).setCell ⟨h, 3, none⟩ (.string ⟨#[]⟩)).setCell ⟨h, 4, none⟩ (.slice (some ⟨w.heap.size, 0, none⟩) 1 1)).alloc (.cells (c5 (X.wrap j e) A c).toArray 24)) :
    Vars3 h e o (j + 1) w0 w1 := by
  obtain ⟨_, ⟨A2, c2, hr2, hk2⟩, hr3, hb, hs⟩ := v
  subst hw1
  have hsz : (((((w.setCell ⟨h, 0, none⟩ (.int .i64 3)).setCell ⟨h, 1, none⟩ (.int .i64 0)).setCell ⟨h, 2, none⟩ (.int .i64 0)).setCell ⟨h, 3, none⟩ (.string ⟨#[]⟩)).setCell ⟨h, 4, none⟩ (.slice (some ⟨w.heap.size, 0, none⟩) 1 1)).heap.size = w.heap.size := by simp
  have hah : ∀ b, b < w.heap.size → b ≠ h → ((((((w.setCell ⟨h, 0, none⟩ (.int .i64 3)).setCell ⟨h, 1, none⟩ (.int .i64 0)).setCell ⟨h, 2, none⟩ (.int .i64 0)).setCell ⟨h, 3, none⟩ (.string ⟨#[]⟩)).setCell ⟨h, 4, none⟩ (.slice (some ⟨w.heap.size, 0, none⟩) 1 1)).alloc (.cells (c5 (X.wrap j e) A c).toArray 24)).heap[b]? = w.heap[b]? := fun b hb hne => (Below.heap_alloc _ _ _ (by rw [hsz]; exact hb)).trans (sets_heap _ _ _ _ _ _ hne)
  have hlt := hr.lt
  refine ⟨⟨some ⟨w.heap.size, 0, none⟩, 1, ?_, ?_⟩, ⟨A2, c2, ?_, ?_⟩, ?_, ?_, ?_⟩
  · have := (row_sets hr (.int .i64 3) (.int .i64 0) (.int .i64 0) (.string ⟨#[]⟩) (.slice (some ⟨w.heap.size, 0, none⟩) 1 1)).alloc (.cells (c5 (X.wrap j e) A c).toArray 24)
    exact this
  · refine KS.one (S := Sx h w) (t := 24) (A := A) (c := c) ?_ ?_ (fun b hb => ⟨?_, hb.2⟩) (hk.move fun b hb => ⟨hb, hah b hb.1 hb.2.1⟩)
    · have := Row.made (((((w.setCell ⟨h, 0, none⟩ (.int .i64 3)).setCell ⟨h, 1, none⟩ (.int .i64 0)).setCell ⟨h, 2, none⟩ (.int .i64 0)).setCell ⟨h, 3, none⟩ (.string ⟨#[]⟩)).setCell ⟨h, 4, none⟩ (.slice (some ⟨w.heap.size, 0, none⟩) 1 1)) 24 (c5 (X.wrap j e) A c).toArray
      rw [hsz] at this
      exact this
    · exact ⟨by rw [World.size_alloc, hsz]; omega, by omega, by omega, by omega⟩
    · have := hb.1; rw [World.size_alloc, hsz]; omega
  · exact (hah _ hr2.lt (by omega)).trans hr2
  · exact hk2.move fun b hb => ⟨⟨by have := hb.1; rw [World.size_alloc, hsz]; omega, hb.2⟩, hah b hb.1 hb.2.1⟩
  · exact (hah _ hr3.lt (by omega)).trans hr3
  · exact (sets_below hb (Nat.le_refl _) _ _ _ _ _).alloc (by rw [hsz]; omega) _
  · rw [World.size_alloc, hsz]; omega

theorem Vars3.later {h : Nat} {e o : X} {j : Nat} {w0 w w' : World} (v : Vars3 h e o j w0 w) (hl : Below w.heap.size w w') : Vars3 h e o j w0 w' := by
  obtain ⟨⟨A1, c1, hr1, hk1⟩, ⟨A2, c2, hr2, hk2⟩, hr3, hb, hs⟩ := v
  have hm : ∀ b, Sx h w b → Sx h w' b ∧ w'.heap[b]? = w.heap[b]? := fun b hb => ⟨⟨Nat.lt_of_lt_of_le hb.1 hl.size, hb.2⟩, hl.block b hb.1⟩
  exact ⟨⟨A1, c1, hr1.below hl hr1.lt, hk1.move hm⟩, ⟨A2, c2, hr2.below hl hr2.lt, hk2.move hm⟩, hr3.below hl hr3.lt, hb.trans (hl.mono (by omega)), Nat.le_trans hs hl.size⟩

theorem seq_nil (g : Nat) (w : World) : Sem.run Tryd.prog (binOp .eql 36 (.func (.func 36) #[] #[.pointer (some ⟨g, 0, none⟩)]) .nilFunc) w = .ok (.bool false) w := by kernel_rfl

theorem with_frame {F : Fence} {n : Nat} {P : Program} {code : Code} {Q : Exit → Act → World → Prop} {a : Act} {w : World} (h : ∀ fr, fr = a → code.wpIn F n P Q fr w) : code.wpIn F n P Q a w := h a rfl

theorem ownFrom_kp {β : Type} {n₀ B : Nat} {E : Nat → Prop} {W0 : World} (hn : n₀ ≤ B) (hB : B ≤ W0.heap.size) : OwnFrom B (fun (_ : β) W => Kp n₀ E W0 W) := fun _ W W' row hs hg hr => by
  refine hs.trans ⟨hg.size, fun b hb _ => hg.block b (by have := hs.size; omega) (fun e => ?_), fun b c t fr hb _ => hg.block b (Array.getElem?_eq_some_iff.1 hb).1 (fun e => ?_)⟩
  · have := (hr b e.symm).1; omega
  · obtain ⟨_, o, ho, hc⟩ := hr b e.symm
    rw [hb] at ho
    injection ho with ho
    subst ho
    simp [Obj.isCells] at hc

/-- What stands at the law's end: the result, and the block for the rounds' deferred calls. -/
def Final3 (h D : Nat) (w0 w : World) : Prop := Row w (h + 2) 4 #[.bool true] ∧ Below h w0 w ∧ w.heap[D]? = some (.deferred (some []))
theorem Final3.later {h D : Nat} {w0 w w' : World} (f : Final3 h D w0 w) (hh : h ≤ w.heap.size) (hl : Tame.Later w w') : Final3 h D w0 w' :=
  ⟨f.1.below hl f.1.lt, f.2.1.trans (Below.mono hl hh), (Below.block hl D (Array.getElem?_eq_some_iff.1 f.2.2).1).trans f.2.2⟩

end Go.Proofs.YtblfejooagfkcaaDoor
