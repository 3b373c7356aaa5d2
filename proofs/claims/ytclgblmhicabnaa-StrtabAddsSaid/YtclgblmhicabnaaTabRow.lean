/- DERIVED. A slice of strings that came in, as a list of texts that lies in memory; StrtabAdds whatever the lengths. -/
import Derived.Test.YtclgblmhicabnaaTab6
import Derived.SliceStrings
namespace Go.Proofs.Ytclgblmhicabnaa
open Go.RowKit Go.ChangeShapes

def strsW (l : List ByteArray) : List Value := l.map .string
theorem read_strsW {H : Type} {enc : TypeId × Value → H} {W : World} {a0 : Option Addr} {len cap fuel : Nat} {x : DataW H × List MemPlace}
    (hf : DataW.trod enc Try.prog W 0 (fun _ => true) true fuel 55 [.slice a0 len cap] = some x) :
    ∃ l : List ByteArray, l.length = len ∧ Lies W W.heap.size a0 (strsW l) ∧ (∀ s ∈ l, s.size ≤ 9223372036854775807) ∧ len ≤ 9223372036854775807 := by
  rcases open_strings Try.underlying55 Try.underlying9 (by kernel_rfl) hf with ⟨hcs, _⟩ | ⟨a, len', cap', ss, hcs, _, hl, hm, hz, _, hcell, hsz⟩
  · simp at hcs
    obtain ⟨rfl, rfl, rfl⟩ := hcs
    exact ⟨[], rfl, Lies.none_, by simp, by omega⟩
  · simp at hcs
    obtain ⟨rfl, rfl, rfl⟩ := hcs
    simp only [if_true] at hz
    unfold maxLen at hm hsz
    obtain ⟨b, off, spot⟩ := a
    refine ⟨ss.take len, by simp; omega, fun hn => ?_, fun s hs => hsz s (List.mem_of_mem_take hs), by omega⟩
    have hpos : 0 < ss.length := by
      rcases Nat.eq_zero_or_pos ss.length with h0 | h0
      · exfalso
        apply hn
        have : ss = [] := List.eq_nil_of_length_eq_zero h0
        subst this
        simp [strsW]
      · exact h0
    have hspot : spot = none := by simpa [Addr.add] using World.cell?_spot (hcell 0 hpos)
    subst hspot
    refine ⟨b, off, rfl, ?_, fun j u hu => ?_⟩
    · have := hcell 0 hpos
      exact World.block_lt_of_cell? W _ this
    · have hj : j < len ∧ j < ss.length := by
        rcases Nat.lt_or_ge j (min len ss.length) with h' | h'
        · omega
        · rw [List.getElem?_eq_none (by simp [strsW]; omega)] at hu; cases hu
      have h1 := hcell j hj.2
      rw [addr_add] at h1
      rw [h1, ← hu]
      have e1 : ss.getD j ByteArray.empty = ss[j] := by simp [List.getD, hj.2]
      rw [e1]
      simp [strsW, hj.1, hj.2]


theorem read_txts {H : Type} {enc : TypeId × Value → H} {W : World} {a0 : Option Addr} {len cap fuel : Nat} {x : DataW H × List MemPlace}
    (hf : DataW.trod enc Try.prog W 0 (fun _ => true) true fuel 55 [.slice a0 len cap] = some x) :
    ∃ l : List T, l.length = len ∧ Lies W W.heap.size a0 (txts l) ∧ (∀ s ∈ l, s.length ≤ 9223372036854775807) ∧ len ≤ 9223372036854775807 := by
  obtain ⟨l, h1, h2, h3, h4⟩ := read_strsW hf
  refine ⟨l.map fun s => s.data.toList, by simpa using h1, ?_, ?_, h4⟩
  · have e : txts (l.map fun s => s.data.toList) = strsW l := by
      simp only [txts, strsW, List.map_map]
      rfl
    rw [e]
    exact h2
  · intro s hs
    obtain ⟨b, hb, rfl⟩ := List.mem_map.1 hs
    exact h3 b hb

set_option maxRecDepth 100000 in
set_option maxHeartbeats 1000000 in
theorem adds_any (A0 : Option Addr) (c0 n : Nat) (ls : List T) (long i : Int) (w : World) (hn : ls.length = n) (hA : Lies w w.heap.size A0 (txts ls)) (hs : ∀ x ∈ ls, x.length ≤ 9223372036854775807) (hm : n ≤ 9223372036854775807)
    (hlo : -9223372036854775808 ≤ i) (hhi : i ≤ 9223372036854775807) :
    Calls Try.prog 7 #[.slice A0 n c0, .int .i64 long, .int .i64 i] w fun e w' => e = .returned (.bool true) ∧ Below w.heap.size w w' := by
  by_cases h : n ≤ 60
  · subst hn
    exact adds_main A0 c0 ls long i w hA h hs hlo hhi
  · clear hn
    go_enter Try.func7, Try.ntmps7
    go_wp2_with fail
    go_ret
    exact ⟨rfl, Below.refl _ _⟩

end Go.Proofs.Ytclgblmhicabnaa
