/- DERIVED. Slices of numbers and of strings that came in, as lists that lie in memory; WireBack whatever their lengths. -/
import Derived.Test.YtfclmiijelpjbaaBack
import Derived.Test.YtfclmiijelpjbaaRead
import Derived.SliceStrings
namespace Go.Proofs.Ytfclmiijelpjbaa
open Go.RowKit Go.ChangeShapes

theorem read_nums {w : World} {a : Option Addr} {len cap : Nat} {zs : List Int}
    (h : (a = none ∧ len = 0 ∧ cap = 0 ∧ zs = []) ∨
      ∃ x, a = some x ∧ len ≤ cap ∧ cap ≤ maxLen ∧ zs.length = cap ∧ (∀ i, i < zs.length → w.cell? (x.add i) = some (.int .u64 (zs.getD i 0))) ∧ ∀ n ∈ zs, (Lit.int .u64 n).wf = true) :
    ∃ l : List Nat, l.length = len ∧ Lies w w.heap.size a (numsV l) ∧ (∀ x ∈ l, x < 18446744073709551616) ∧ len ≤ 9223372036854775807 := by
  rcases h with ⟨rfl, rfl, rfl, rfl⟩ | ⟨x, rfl, hl, hm, hz, hc, hw⟩
  · exact ⟨[], rfl, Lies.none_, by simp, by omega⟩
  · unfold maxLen at hm
    have hb := fun n hn => Go.bounds_u64 (hw n hn)
    refine ⟨(zs.take len).map fun n => n.toNat, by simp; omega, fun hn => ?_, fun x hx => ?_, by omega⟩
    · have hpos : 0 < zs.length := by
        rcases Nat.eq_zero_or_pos zs.length with h0 | h0
        · exfalso
          apply hn
          have : zs = [] := List.eq_nil_of_length_eq_zero h0
          subst this
          simp [numsV]
        · exact h0
      obtain ⟨b, off, rfl, hc2⟩ := Go.ints_at hc hpos
      refine ⟨b, off, rfl, ?_, fun j u hu => ?_⟩
      · have := hc2 0 hpos
        exact World.block_lt_of_cell? w _ this
      · have hj : j < len ∧ j < zs.length := by
          rcases Nat.lt_or_ge j (min len zs.length) with h' | h'
          · omega
          · rw [List.getElem?_eq_none (by simp [numsV]; omega)] at hu; cases hu
        rw [hc2 j hj.2, ← hu]
        have hb := hb (zs[j]) (List.getElem_mem hj.2)
        have e1 : zs.getD j 0 = zs[j] := by simp [List.getD, hj.2]
        have e2 : (numsV ((zs.take len).map fun n => n.toNat))[j]? = some (.int .u64 ((zs[j]).toNat : Int)) := by
          simp [numsV, hj.1, hj.2]
        rw [e1, e2, Int.toNat_of_nonneg hb.1]
    · obtain ⟨n, hn, rfl⟩ := List.mem_map.1 hx
      have := hb n (List.mem_of_mem_take hn)
      omega

theorem read_strs {H : Type} {enc : TypeId × Value → H} {W : World} {a0 : Option Addr} {len cap fuel : Nat} {x : DataW H × List MemPlace}
    (hf : DataW.trod enc Try.prog W 0 (fun _ => true) true fuel 55 [.slice a0 len cap] = some x) :
    ∃ l : List ByteArray, l.length = len ∧ Lies W W.heap.size a0 (strsV l) ∧ (∀ s ∈ l, s.size ≤ 9223372036854775807) ∧ len ≤ 9223372036854775807 := by
  rcases open_strings Try.underlying55 Try.underlying9 (by kernel_rfl) hf with ⟨hcs, _⟩ | ⟨a, len', cap', ss, hcs, _, hl, hm, hz, _, hcell, hsz⟩
  · simp at hcs
    obtain ⟨rfl, rfl, rfl⟩ := hcs
    exact ⟨[], rfl, Lies.none_, by simp, by omega⟩
  · simp at hcs
    obtain ⟨rfl, rfl, rfl⟩ := hcs
    simp only [if_true] at hz
    unfold maxLen at hm hsz
    obtain ⟨b, off, spot⟩ := a
    refine ⟨ss.take len, by simp; omega, fun hn => ?_, fun s hs => hsz s (List.mem_of_mem_take hs), by omega⟩
    have hpos : 0 < ss.length := by
      rcases Nat.eq_zero_or_pos ss.length with h0 | h0
      · exfalso
        apply hn
        have : ss = [] := List.eq_nil_of_length_eq_zero h0
        subst this
        simp [strsV]
      · exact h0
    have hspot : spot = none := by simpa [Addr.add] using World.cell?_spot (hcell 0 hpos)
    subst hspot
    refine ⟨b, off, rfl, ?_, fun j u hu => ?_⟩
    · have := hcell 0 hpos
      exact World.block_lt_of_cell? W _ this
    · have hj : j < len ∧ j < ss.length := by
        rcases Nat.lt_or_ge j (min len ss.length) with h' | h'
        · omega
        · rw [List.getElem?_eq_none (by simp [strsV]; omega)] at hu; cases hu
      have h1 := hcell j hj.2
      rw [addr_add] at h1
      rw [h1, ← hu]
      have e1 : ss.getD j ByteArray.empty = ss[j] := by simp [List.getD, hj.2]
      rw [e1]
      simp [strsV, hj.1, hj.2]

set_option maxRecDepth 100000 in
set_option maxHeartbeats 1000000 in
theorem back_great (A C : Option Addr) (c d n m : Nat) (w : World) (hn : n ≤ 9223372036854775807) (hm : m ≤ 9223372036854775807) (h : 20 < n ∨ 20 < m) :
    Calls Try.prog 5 #[.slice A n c, .slice C m d] w fun e w' => e = .returned (.bool true) ∧ Below w.heap.size w w' := by
  by_cases h1 : 20 < n
  · clear h
    go_enter Try.func5, Try.ntmps5
    go_wp2_with fail
    go_ret
    exact ⟨rfl, Below.refl _ _⟩
  · have h2 : 20 < m := by omega
    clear h
    go_enter Try.func5, Try.ntmps5
    go_wp2_with fail
    go_ret
    exact ⟨rfl, Below.refl _ _⟩

theorem back_any (A C : Option Addr) (c d n m : Nat) (vs : List Nat) (ls : List ByteArray) (w : World) (hn : vs.length = n) (hm : ls.length = m) (hA : Lies w w.heap.size A (numsV vs)) (hC : Lies w w.heap.size C (strsV ls))
    (hv : ∀ x ∈ vs, x < 18446744073709551616) (hs : ∀ s ∈ ls, s.size ≤ 9223372036854775807) (h1 : n ≤ 9223372036854775807) (h2 : m ≤ 9223372036854775807) :
    Calls Try.prog 5 #[.slice A n c, .slice C m d] w fun e w' => e = .returned (.bool true) ∧ Below w.heap.size w w' := by
  by_cases h : 20 < n ∨ 20 < m
  · exact back_great A C c d n m w h1 h2 h
  · subst hn
    subst hm
    exact back_main A C c d vs ls w hA hC hv hs (by omega) (by omega)

end Go.Proofs.Ytfclmiijelpjbaa
