/- Parts: PsX8, PsX9, PsY0. -/
import Derived.Test.YtdabndiaflagpaaGreatDoorB22
set_option maxRecDepth 100000
set_option maxHeartbeats 4000000
set_option linter.unusedVariables false
namespace Go.Proofs.YtdabndiaflagpaaGreatDoor
open Go.RowKit

end Go.Proofs.YtdabndiaflagpaaGreatDoor
namespace Go.Proofs.YtdabndiaflagpaaGreatDoor
open Go.RowKit

/-! ### Names of a group, as they come -/
end Go.Proofs.YtdabndiaflagpaaGreatDoor
namespace Go.Proofs.YtdabndiaflagpaaGreatDoor
open Go.RowKit

/-! ### A loop: what is still to do, behind what has come -/
/-! ### Groups -/
theorem entryP_few {n : Nat} {L L' : List Tk} {x : T} (h : entryP n L = .ok x L') : n < 1000 := by
  unfold entryP at h
  split at h
  · split at h
    · cases h
    · omega
  · cases h
theorem namesF_few (n : Nat) : ∀ (f : Nat) (acc ts : List T) (L L' : List Tk), n + acc.length ≤ 1000 → namesF f n acc L = .ok ts L' → n + ts.length ≤ 1000
  | 0, acc, ts, L, L', _, h => by unfold namesF at h; cases h
  | f + 1, acc, ts, L, L', hn, h => by
    unfold namesF at h
    split at h
    · obtain ⟨x, L1, h1, h2⟩ := bind_ok h
      exact namesF_few n f _ ts L1 L' (by have := entryP_few h1; simp; omega) h2
    · injection h with h _; rw [← h]; exact hn
theorem groupP_few {n : Nat} {L L' : List Tk} {vs : List Vr} (h : groupP n L = .ok vs L') : n + vs.length ≤ 1000 := by
  obtain ⟨ts, L1, h1, h2⟩ := bind_ok h
  obtain ⟨x, L2, h3, h4⟩ := bind_ok h1
  have := namesF_few n _ _ _ _ _ (by have := entryP_few h3; simp; omega) h4
  obtain ⟨_, L3, _, h5⟩ := bind_ok h2
  obtain ⟨ty, L4, _, h6⟩ := bind_ok h5
  injection h6 with h6 _
  rw [← h6, List.length_map]; exact this
/-! ### Lists of variables -/
end Go.Proofs.YtdabndiaflagpaaGreatDoor
