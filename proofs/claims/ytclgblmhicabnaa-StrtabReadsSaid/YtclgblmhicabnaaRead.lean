/- DERIVED. A slice of bytes that came in, as the row's reader shows it, is a list of bytes that lies in memory. -/
import Derived.Test.YtclgblmhicabnaaApp
import Derived.OpenShut
namespace Go.Proofs.Ytclgblmhicabnaa
open Go.RowKit

theorem byte_wf {n : Int} (h : (Lit.int .u8 n).wf = true) : 0 ≤ n ∧ n < 256 := by
  have := Go.bounds_u8 h
  omega

theorem read_bytes {w : World} {a : Option Addr} {len cap : Nat} {zs : List Int}
    (h : (a = none ∧ len = 0 ∧ cap = 0 ∧ zs = []) ∨
      ∃ x, a = some x ∧ len ≤ cap ∧ cap ≤ maxLen ∧ zs.length = cap ∧ (∀ i, i < zs.length → w.cell? (x.add i) = some (.int .u8 (zs.getD i 0))) ∧ ∀ n ∈ zs, (Lit.int .u8 n).wf = true) :
    ∃ l : List UInt8, l.length = len ∧ Lies w w.heap.size a (bytesV l) ∧ len ≤ 9223372036854775807 := by
  rcases h with ⟨rfl, rfl, rfl, rfl⟩ | ⟨x, rfl, hl, hm, hz, hc, hw⟩
  · exact ⟨[], rfl, Lies.none_, by omega⟩
  · unfold maxLen at hm
    refine ⟨(zs.take len).map fun n => UInt8.ofNat n.toNat, by simp; omega, fun hn => ?_, by omega⟩
    have hpos : 0 < zs.length := by
      rcases Nat.eq_zero_or_pos zs.length with h0 | h0
      · exfalso
        apply hn
        have : zs = [] := List.eq_nil_of_length_eq_zero h0
        subst this
        simp [bytesV]
      · exact h0
    obtain ⟨b, off, rfl, hc2⟩ := Go.ints_at hc hpos
    refine ⟨b, off, rfl, ?_, fun j u hu => ?_⟩
    · have := hc2 0 hpos
      exact World.block_lt_of_cell? w _ this
    · have hj : j < len ∧ j < zs.length := by
        rcases Nat.lt_or_ge j (min len zs.length) with h' | h'
        · omega
        · rw [List.getElem?_eq_none (by simp [bytesV]; omega)] at hu; cases hu
      rw [hc2 j hj.2, ← hu]
      have hb := byte_wf (hw (zs[j]) (List.getElem_mem hj.2))
      have e1 : zs.getD j 0 = zs[j] := by simp [List.getD, hj.2]
      have e2 : (bytesV ((zs.take len).map fun n => UInt8.ofNat n.toNat))[j]? = some (byteV (UInt8.ofNat (zs[j]).toNat)) := by
        simp [bytesV, hj.1, hj.2]
      rw [e1, e2, byteV, UInt8.toNat_ofNat_of_lt' (by show (zs[j]).toNat < 256; omega)]
      congr 2
      omega

end Go.Proofs.Ytclgblmhicabnaa
