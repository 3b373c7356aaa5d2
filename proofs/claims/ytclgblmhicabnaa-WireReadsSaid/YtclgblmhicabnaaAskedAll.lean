/- DERIVED. asked, whatever is asked. -/
import Derived.Test.YtclgblmhicabnaaAsked4
namespace Go.Proofs.Ytclgblmhicabnaa
open Go.RowKit

theorem asked_any (H0 br bw d m : Nat) (s : Rd.St) (w : World) (h : Pair H0 w br bw s) (hd : d < 256) (hm : m < 18446744073709551616) (h0 : H0 ≤ w.heap.size) :
    Calls Try.prog 22 #[.pointer (some ⟨br, 0, none⟩), .pointer (some ⟨bw, 0, none⟩), .agg #[.int .u8 d, .int .u64 m]] w fun e w' => e = .returned (.bool true) ∧ (∃ s', Pair H0 w' br bw s') ∧ Below H0 w w' := by
  have hc : d % 7 = 0 ∨ d % 7 = 1 ∨ d % 7 = 2 ∨ d % 7 = 3 ∨ d % 7 = 4 ∨ d % 7 = 5 ∨ d % 7 = 6 := by omega
  rcases hc with h' | h' | h' | h' | h' | h' | h'
  · exact asked_0 H0 br bw d m s w h hd h0 h'
  · exact asked_1 H0 br bw d m s w h hd h0 h'
  · exact asked_2 H0 br bw d m s w h hd h0 h'
  · exact asked_3 H0 br bw d m s w h hd h0 h'
  · exact asked_4 H0 br bw d m s w h hd hm h0 h'
  · exact asked_5 H0 br bw d m s w h hd h0 h'
  · exact asked_6 H0 br bw d m s w h hd h0 h'

end Go.Proofs.Ytclgblmhicabnaa
