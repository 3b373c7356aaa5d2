/- DERIVED. A slice of asks that came in, as a list that lies in memory; WireReads whatever the lengths. -/
import Derived.Test.YtclgblmhicabnaaReads
import Derived.Test.YtclgblmhicabnaaRead
import Derived.Deep.Slices
import Derived.ChangeSame
namespace Go.Proofs.Ytclgblmhicabnaa
open Go.RowKit Go.ChangeShapes

theorem asksV_length (l : List (Nat × Nat)) : (asksV l).length = 2 * l.length := by
  induction l with
  | nil => rfl
  | cons a l ih => simp [asksV, ih]; omega

theorem read_asks {H : Type} {enc : TypeId × Value → H} {W : World} {a0 : Option Addr} {len cap fuel : Nat} {x : DataW H × List MemPlace}
    (hf : DataW.trod enc Try.prog W 0 (fun _ => true) true fuel 39 [.slice a0 len cap] = some x) :
    ∃ ks : List (Nat × Nat), ks.length = len ∧ Lies W W.heap.size a0 (asksV ks) ∧ (∀ a ∈ ks, a.1 < 256 ∧ a.2 < 18446744073709551616) ∧ len ≤ 9223372036854775807 := by
  rcases Go.Deep.open_slice Try.underlying39 hf with ⟨hcs, _⟩ | ⟨a, len', cap', m, n, D, Pl, hcs, _, hl, hm, hmm, _, hx⟩
  · simp at hcs
    obtain ⟨rfl, rfl, rfl⟩ := hcs
    exact ⟨[], rfl, Lies.none_, by simp, by omega⟩
  · simp at hcs
    obtain ⟨rfl, rfl, rfl⟩ := hcs
    simp only [if_true] at hmm
    subst hmm
    unfold maxLen at hm
    have h2 : Try.prog.cellsOf 49 = 2 := by kernel_rfl
    have each : ∀ i, ∃ dm : Nat × Nat, i < len → dm.1 < 256 ∧ dm.2 < 18446744073709551616 ∧ W.cell? ((a.add (i * 2)).add 0) = some (.int .u8 (dm.1 : Nat)) ∧ W.cell? ((a.add (i * 2)).add 1) = some (.int .u64 (dm.2 : Nat)) := by
      intro i
      by_cases hi : i < len
      · obtain ⟨cs', hc, ht⟩ := hx i (by omega)
        rw [h2] at hc
        obtain ⟨_, hlen, hcell⟩ := World.cells?_some hc
        obtain ⟨y0, y1, k, _, _, t0, t1⟩ := trod_struct2 Try.underlying49 ht
        obtain ⟨d, hd, _, wd⟩ := DataW.trod_int Try.underlying5 t0
        obtain ⟨e, he, _, we⟩ := DataW.trod_int Try.underlying22 t1
        have b1 := Go.bounds_u8 wd
        have b2 := Go.bounds_u64 we
        have c5 : Try.prog.cellsOf 5 = 1 := by kernel_rfl
        have c22 : Try.prog.cellsOf 22 = 1 := by kernel_rfl
        match cs', hlen with
        | [u, v], _ =>
          simp [c5] at hd
          simp [c22] at he
          subst hd
          subst he
          refine ⟨(d.toNat, e.toNat), fun _ => ⟨by show d.toNat < 256; omega, by show e.toNat < 18446744073709551616; omega, ?_, ?_⟩⟩
          · rw [hcell 0 (by omega), show ((d.toNat : Nat) : Int) = d by omega]
            rfl
          · rw [hcell 1 (by omega), show ((e.toNat : Nat) : Int) = e by omega]
            rfl
      · exact ⟨(0, 0), fun h => absurd h hi⟩
    obtain ⟨F, hF⟩ := Classical.skolem.1 each
    refine ⟨(List.range len).map F, by simp, fun hn => ?_, fun y hy => ?_, by omega⟩
    · have hpos : 0 < len := by
        rcases Nat.eq_zero_or_pos len with h0 | h0
        · exfalso
          apply hn
          subst h0
          rfl
        · exact h0
      obtain ⟨b, off, spot⟩ := a
      have hspot : spot = none := by simpa [Addr.add] using World.cell?_spot (hF 0 hpos).2.2.1
      subst hspot
      refine ⟨b, off, rfl, ?_, fun j u hu => ?_⟩
      · have := (hF 0 hpos).2.2.1
        rw [addr_add, addr_add] at this
        exact World.block_lt_of_cell? W _ this
      · have hj : j < 2 * len := by
          rcases Nat.lt_or_ge j (2 * len) with h' | h'
          · exact h'
          · rw [List.getElem?_eq_none (by rw [asksV_length]; simpa using h')] at hu; cases hu
        have hk : j / 2 < ((List.range len).map F).length := by simp; omega
        have hg := asksV_get ((List.range len).map F) (j / 2) hk
        have hFk := hF (j / 2) (by omega)
        have e1 : ((List.range len).map F)[j / 2] = F (j / 2) := by simp
        rw [e1] at hg
        rw [addr_add, addr_add, addr_add] at hFk
        by_cases hpar : j % 2 = 0
        · have hj2 : j = 2 * (j / 2) := by omega
          rw [hj2, hg.1] at hu
          rw [← hu, ← hFk.2.2.1]
          congr 2
          omega
        · have hj2 : j = 2 * (j / 2) + 1 := by omega
          rw [hj2, hg.2] at hu
          rw [← hu, ← hFk.2.2.2]
          congr 2
          omega
    · obtain ⟨i, hi, rfl⟩ := List.mem_map.1 hy
      have := hF i (by simpa using hi)
      exact ⟨this.1, this.2.1⟩

set_option maxRecDepth 100000 in
set_option maxHeartbeats 1000000 in
theorem reads_great (A C : Option Addr) (c d n m : Nat) (w : World) (hn : n ≤ 9223372036854775807) (hm : m ≤ 9223372036854775807) (h : 600 < n ∨ 40 < m) :
    Calls Try.prog 4 #[.slice A n c, .slice C m d] w fun e w' => e = .returned (.bool true) ∧ Below w.heap.size w w' := by
  by_cases h1 : 600 < n
  · clear h
    go_enter Try.func4, Try.ntmps4
    go_wp2_with fail
    go_ret
    exact ⟨rfl, Below.refl _ _⟩
  · have h2 : 40 < m := by omega
    clear h
    go_enter Try.func4, Try.ntmps4
    go_wp2_with fail
    go_ret
    exact ⟨rfl, Below.refl _ _⟩

theorem reads_any (A C : Option Addr) (c d n m : Nat) (l : List UInt8) (ks : List (Nat × Nat)) (w : World) (hn : l.length = n) (hm : ks.length = m) (hA : Lies w w.heap.size A (bytesV l)) (hC : Lies w w.heap.size C (asksV ks))
    (hk : ∀ a ∈ ks, a.1 < 256 ∧ a.2 < 18446744073709551616) (h1 : n ≤ 9223372036854775807) (h2 : m ≤ 9223372036854775807) :
    Calls Try.prog 4 #[.slice A n c, .slice C m d] w fun e w' => e = .returned (.bool true) ∧ Below w.heap.size w w' := by
  by_cases h : 600 < n ∨ 40 < m
  · exact reads_great A C c d n m w h1 h2 h
  · subst hn
    subst hm
    exact reads_main A C c d l ks w hA hC hk (by omega) (by omega)

end Go.Proofs.Ytclgblmhicabnaa
