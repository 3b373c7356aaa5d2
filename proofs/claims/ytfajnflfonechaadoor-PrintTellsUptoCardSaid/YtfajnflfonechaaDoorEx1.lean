/- DERIVED. Walks of the functions that count: the document's Size. -/
import Derived.Test.YtfajnflfonechaaDoorTree
import Derived.Test.YtfajnflfonechaaDoorProg
namespace Go.Proofs.YtfajnflfonechaaDoor
open Go.RowKit

theorem KS.kid_at {w w' : World} {S : Nat → Prop} {A : Option Addr} {xs : List X} {i : Nat} {x : X} (h : KS w S A xs) (hS : ∀ b, S b → b < w.heap.size) (hb : Below w.heap.size w w') (hi : xs[i]? = some x) :
    ∃ b off A' c, A = some ⟨b, off, none⟩ ∧ w'.cell? ⟨b, off + i * 5, none⟩ = some (.int .i64 x.k) ∧ w'.cell? ⟨b, off + i * 5 + 1, none⟩ = some (.int .i64 x.o) ∧ w'.cell? ⟨b, off + i * 5 + 2, none⟩ = some (.int .i64 x.n) ∧ w'.cell? ⟨b, off + i * 5 + 3, none⟩ = some (.string ⟨x.s.toArray⟩) ∧
      w'.cell? ⟨b, off + i * 5 + 4, none⟩ = some (.slice A' x.ks.length c) ∧ KS w' S A' x.ks ∧ b < w.heap.size := by
  obtain ⟨b, off, hA, he⟩ := h.kid hi
  obtain ⟨A', c, c0, c1, c2, c3, c4, hk⟩ := (EC.move (S' := S) (fun b h => ⟨h, hb.block b (hS b h)⟩) x b _ he).ev
  exact ⟨b, off, A', c, hA, c0, c1, c2, c3, c4, hk, hS b he.block⟩

theorem refSize_any (N : Nat) : ∀ (x : X) (A : Option Addr) (c : Nat) (w : World) (S : Nat → Prop), x.size ≤ N → N ≤ 1099511627776 → KS w S A x.ks → (∀ b, S b → b < w.heap.size) →
    Calls Tryd.prog 11 #[ev x A c] w fun e w' => e = .returned (.int .i64 (x.size : Nat)) ∧ Below w.heap.size w w' := by
  induction N with
  | zero => intro x A c w S h; have := x.size_pos; omega
  | succ N ih =>
    intro x A c w S hN hM hk hS
    obtain ⟨k, o, n, s, ks⟩ := x
    simp only [X.size, X.ks, ev, X.k, X.o, X.n, X.s] at hN hk ⊢
    have hr0 := Row.made w 46 #[.int .i64 k, .int .i64 o, .int .i64 n, .string ⟨s.toArray⟩, .slice A ks.length c]
    have hlen := X.sizes_length ks
    have HK := Lib.hid hk
    have HR := Lib.hid hr0
    clear hk hr0
    go_enter Tryd.func11, Tryd.ntmps11
    go_wp2_with fail
    go_loopw [3, 4] (fun m i wr => ∃ j : Nat, j ≤ ks.length ∧ i = .int .i64 j ∧ m = .int .i64 (1 + X.sizes (ks.take j) : Nat) ∧ Below (w.heap.size + 1) (w.alloc (.cells #[.int .i64 k, .int .i64 o, .int .i64 n, .string ⟨s.toArray⟩, .slice A ks.length c] 46)) wr)
      (fun _ i _ => ks.length - (intOf i).toNat)
    case atStart => exact ⟨0, by omega, rfl, by simp [X.sizes], Below.refl _ _⟩
    case round =>
      obtain ⟨j, hj, rfl, rfl, hb⟩ := hrel
      have c4 := (HR.out.below hb (by omega)).cell 4
      simp at c4
      have hle := X.sizes_take_le ks j
      have hbw : Below w.heap.size w wr := ((Below.refl _ w).alloc (Nat.le_refl _) _).trans (hb.mono (by omega))
      have hws := hbw.size
      by_cases hlt : j < ks.length
      · obtain ⟨y, hy⟩ : ∃ y, ks[j]? = some y := ⟨_, List.getElem?_eq_getElem hlt⟩
        obtain ⟨b, off, A', c', rfl, d0, d1, d2, d3, d4, hk', hbl⟩ := HK.out.kid_at hS hbw hy
        have hsz := X.sizes_take hy
        have hyl := X.sizes_take_le ks (j + 1)
        have CL := ih y A' c' wr S (by have := X.sizes_at hy; omega) (by omega) hk' (fun b h => Nat.lt_of_lt_of_le (hS b h) hws)
        simp only [ev] at CL
        have HC := Lib.hid CL
        have HY := Lib.hid hy
        have HZ := Lib.hid hsz
        have HB := Lib.hid hb
        rw [hsz] at hyl
        clear CL hy hsz hb hk' hbw
        go_wp2_with (go_at_call 11; refine HC.out.mono ?_; rintro e w1 ⟨rfl, hb1⟩; have HB1 := Lib.hid hb1; clear hb1)
        go_roundw
        case rel => exact ⟨j + 1, by omega, by go_num, by rw [HZ.out]; go_num, HB.out.trans (HB1.out.mono (by have := HB.out.size; simp at this; omega))⟩
        case measure => simp [intOf]; omega
      · obtain rfl : j = ks.length := by omega
        have HB := Lib.hid hbw
        clear hb hbw
        go_wp2_with fail
        go_ret
        exact ⟨by simp, HB.out⟩
