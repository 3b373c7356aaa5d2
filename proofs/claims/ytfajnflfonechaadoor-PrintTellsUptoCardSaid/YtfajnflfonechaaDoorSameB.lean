/- DERIVED. Two small facts. -/
import Derived.Test.YtfajnflfonechaaDoorEx1
namespace Go.Proofs.YtfajnflfonechaaDoor
open Go.RowKit

theorem ret_b {a b : Bool} (h : a = b) : Ending.returned (.bool a) = Ending.returned (.bool b) := by rw [h]
theorem X.kids_le {x : X} {M : Nat} (h : x.size ≤ M) : X.sizes x.ks + 1 ≤ M := by cases x; simp only [X.size, X.ks] at h ⊢; omega

end Go.Proofs.YtfajnflfonechaaDoor
