/- DERIVED. The walk of asked: both readers side by side. -/
import Derived.Test.YtclgblmhicabnaaTamg
import Derived.Test.YtclgblmhicabnaaRefR3
import Derived.Test.YtclgblmhicabnaaBack0
namespace Go.Proofs.Ytclgblmhicabnaa
open Go.RowKit Crc Nums Rd
attribute [local go_sem] Tame.Op Tame.upon

theorem RD.far {w w' : World} {p q : Nat} {s s2 : St} (h : RD w p s) (hr : RF w q s2) (hg : w.grownBy w' (some q)) : RD w' p s := by
  obtain ⟨A, c, hrow, hl, rest⟩ := h
  have hne : p ≠ q := by
    intro e
    subst e
    have := (hrow.same hr.1).2
    cases this
  have hlt := hrow.lt
  refine ⟨A, c, hrow.grown hg (by simp; omega), fun hn => ?_, rest⟩
  obtain ⟨b, off, e, hb, hc⟩ := hl hn
  refine ⟨b, off, e, hb, fun j u hu => ?_⟩
  have hbq : b ≠ q := by
    intro e2
    subst e2
    have h1 := hc j u hu
    rw [hr.1.cell] at h1
    have hj : j < s.1.length := by
      rcases Nat.lt_or_ge j s.1.length with h' | h'
      · exact h'
      · rw [List.getElem?_eq_none (by rw [bytesV_length]; exact h')] at hu; cases hu
    rw [bytesV_get _ j hj] at hu
    injection hu with hu
    subst hu
    rcases hk : off + j with _ | _ | k
    · rw [hk] at h1; simp at h1
    · rw [hk] at h1; simp at h1
    · rw [hk] at h1; simp at h1
  rw [World.cell?_of_block (hg.block b (by omega) (by simp; omega))]
  exact hc j u hu

/-- What reader p, and the document's reader q, are asked leaves. -/
def Sides (a p q : Nat) (j : Nat) (x y : World) : Prop := if j = a then Only p x y else Only q x y ∧ ((∃ s, RF x q s) → ∃ s, RF y q s)
theorem Sides.refl (a p q j : Nat) (w : World) : Sides a p q j w w := by
  unfold Sides
  split
  · exact only_refl _ _
  · exact ⟨only_refl _ _, fun h => h⟩
theorem Sides.left {a p q : Nat} {x y : World} (h : Only p x y) : Sides a p q a x y := by unfold Sides; rw [if_pos rfl]; exact h
theorem Sides.right {a b p q : Nat} {x y : World} (hab : a ≠ b) (h : Only q x y) {s : St} (hs : RF y q s) : Sides a p q b x y := by
  unfold Sides; rw [if_neg (by omega)]; exact ⟨h, fun _ => ⟨s, hs⟩⟩

def Vars (br bw A p q d m : Nat) (w : World) : Prop := Row w br 40 #[.pointer (some ⟨p, 0, none⟩)] ∧ Row w bw 42 #[.pointer (some ⟨q, 0, none⟩)] ∧ Row w A 49 #[.int .u8 d, .int .u64 m]
def One (p q : Nat) (s : St) (w : World) : Prop := RD w p s ∧ ∃ s2, RF w q s2
def Two (q : Nat) (s : St) (w : World) : Prop := RF w q s
def Since (H0 : Nat) (W w : World) : Prop := Below H0 W w ∧ H0 ≤ w.heap.size

/-- No two of these blocks are one. -/
def Apart (br bw A p q : Nat) : Prop := br ≠ p ∧ br ≠ q ∧ bw ≠ p ∧ bw ≠ q ∧ A ≠ p ∧ A ≠ q ∧ p ≠ q

theorem Vars.later {br bw A p q d m : Nat} {w w' : World} (hl : Tame.Later w w') (h : Vars br bw A p q d m w) : Vars br bw A p q d m w' :=
  ⟨h.1.below hl h.1.lt, h.2.1.below hl h.2.1.lt, h.2.2.below hl h.2.2.lt⟩
theorem Vars.only {br bw A p q d m k : Nat} {w w' : World} (hl : Only k w w') (h1 : br ≠ k) (h2 : bw ≠ k) (h3 : A ≠ k) (h : Vars br bw A p q d m w) : Vars br bw A p q d m w' :=
  ⟨h.1.grown hl (by simp; omega), h.2.1.grown hl (by simp; omega), h.2.2.grown hl (by simp; omega)⟩
theorem One.later {p q : Nat} {s : St} {w w' : World} (hl : Tame.Later w w') (h : One p q s w) : One p q s w' := by
  obtain ⟨h1, s2, h2⟩ := h
  exact ⟨h1.below hl h1.lt, s2, h2.below hl h2.lt⟩
theorem Two.later {q : Nat} {s : St} {w w' : World} (hl : Tame.Later w w') (h : Two q s w) : Two q s w' := RF.below h hl h.lt
theorem Since.later {H0 : Nat} {W w w' : World} (hl : Tame.Later w w') (h : Since H0 W w) : Since H0 W w' := ⟨h.1.trans (Below.mono hl h.2), Nat.le_trans h.2 hl.size⟩
theorem Since.only {H0 k : Nat} {W w w' : World} (hl : Only k w w') (hk : H0 ≤ k) (h : Since H0 W w) : Since H0 W w' := ⟨h.1.grown hl h.2 (fun x hx => by injection hx with hx; omega), Nat.le_trans h.2 hl.size⟩

theorem Vars.sides {br bw A p q d m a j : Nat} {w w' : World} (hap : Apart br bw A p q) (hs : Sides a p q j w w') (h : Vars br bw A p q d m w) : Vars br bw A p q d m w' := by
  obtain ⟨h1, h2, h3, h4, h5, h6, h7⟩ := hap
  unfold Sides at hs
  split at hs
  · exact h.only hs h1 h3 h5
  · exact h.only hs.1 h2 h4 h6
theorem Since.sides {H0 p q a j : Nat} {W w w' : World} (hp : H0 ≤ p) (hq : H0 ≤ q) (hs : Sides a p q j w w') (h : Since H0 W w) : Since H0 W w' := by
  unfold Sides at hs
  split at hs
  · exact h.only hs hp
  · exact h.only hs.1 hq
theorem One.right {p q a j : Nat} {s : St} {w w' : World} (hj : j ≠ a) (hs : Sides a p q j w w') (h : One p q s w) : One p q s w' := by
  obtain ⟨h1, s2, h2⟩ := h
  unfold Sides at hs
  rw [if_neg hj] at hs
  exact ⟨h1.far h2 hs.1, hs.2 ⟨s2, h2⟩⟩
theorem Two.left {br bw A p q a : Nat} {s : St} {w w' : World} (hap : Apart br bw A p q) (hs : Sides a p q a w w') (h : Two q s w) : Two q s w' := by
  unfold Sides at hs
  rw [if_pos rfl] at hs
  exact RF.other h hs (by have := hap.2.2.2.2.2.2; omega)

def spirits (H0 : Nat) (W : World) (br bw A p q d m a b : Nat) (s t : St) : List Tame.Ghost :=
  [⟨Vars br bw A p q d m, [a, b]⟩, ⟨One p q s, [b]⟩, ⟨Two q t, [a]⟩, ⟨Since H0 W, [a, b]⟩]

theorem two_of {a b j : Nat} (h : [a, b].contains j = true) : j = a ∨ j = b := by simpa using h
theorem one_of {a j : Nat} (h : [a].contains j = true) : j = a := by simpa using h

theorem spirits_ok {H0 : Nat} {W : World} {br bw A p q d m a b : Nat} {s t : St} {w : World} (hab : a ≠ b) (hap : Apart br bw A p q) (hp : H0 ≤ p) (hq : H0 ≤ q)
    (hv : Vars br bw A p q d m w) (h1 : One p q s w) (h2 : Two q t w) (hB : Since H0 W w) :
    ∀ (k : Nat) (g : Tame.Ghost), (spirits H0 W br bw A p q d m a b s t)[k]? = some g → g.g w.drew ∧ (∀ w w', Tame.Later w w' → g.g w → g.g w') ∧
      ∀ j, [a, b].contains j = true → g.keeps.contains j = true → ∀ w w', Sides a p q j w w' → g.g w → g.g w' := by
  have hdr : Tame.Later w w.drew := (Below.refl _ _).drew
  intro k g hk
  rcases k with _ | _ | _ | _ | k
  · obtain rfl : (⟨Vars br bw A p q d m, [a, b]⟩ : Tame.Ghost) = g := by simpa [spirits] using hk
    exact ⟨hv.later hdr, fun _ _ hl h => h.later hl, fun j _ _ w w' hs h => h.sides hap hs⟩
  · obtain rfl : (⟨One p q s, [b]⟩ : Tame.Ghost) = g := by simpa [spirits] using hk
    exact ⟨h1.later hdr, fun _ _ hl h => h.later hl, fun j _ hj w w' hs h => h.right (by have := one_of hj; omega) hs⟩
  · obtain rfl : (⟨Two q t, [a]⟩ : Tame.Ghost) = g := by simpa [spirits] using hk
    exact ⟨h2.later hdr, fun _ _ hl h => h.later hl, fun j _ hj w w' hs h => by
      obtain rfl := one_of hj
      exact h.left hap hs⟩
  · obtain rfl : (⟨Since H0 W, [a, b]⟩ : Tame.Ghost) = g := by simpa [spirits] using hk
    exact ⟨hB.later hdr, fun _ _ hl h => h.later hl, fun j _ _ w w' hs h => h.sides hp hq hs⟩
  · simp [spirits] at hk

/-- What a side hands back, and what is said of it then. -/
def LeftSaid (p q : Nat) (c : Value) (s : St) (v : Value) (w : World) : Prop := v = c ∧ One p q s w
def RightSaid (q : Nat) (c : Value) (s : St) (v : Value) (w : World) : Prop := v = c ∧ Two q s w

/-- What lies where, while both are asked. -/
def Pair (H0 : Nat) (w : World) (br bw : Nat) (s : St) : Prop :=
  ∃ p q, H0 ≤ p ∧ H0 ≤ q ∧ H0 ≤ br ∧ H0 ≤ bw ∧ Row w br 40 #[.pointer (some ⟨p, 0, none⟩)] ∧ Row w bw 42 #[.pointer (some ⟨q, 0, none⟩)] ∧ RD w p s ∧ RF w q s

end Go.Proofs.Ytclgblmhicabnaa
