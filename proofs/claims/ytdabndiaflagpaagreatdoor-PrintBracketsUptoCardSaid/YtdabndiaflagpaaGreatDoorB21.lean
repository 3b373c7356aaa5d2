/- Parts: PsX1, PsX2, PsX3, PsX4, PsX5, PsX6. -/
import Derived.Test.YtdabndiaflagpaaGreatDoorB10
import Derived.Deep.LoopGhost
set_option maxRecDepth 100000
set_option maxHeartbeats 4000000
set_option linter.unusedVariables false
namespace Go.Proofs.YtdabndiaflagpaaGreatDoor
open Go.RowKit

/-! ### Plain: what comes next, where it may have given up -/
/-! ### In memory -/
end Go.Proofs.YtdabndiaflagpaaGreatDoor
namespace Go.Proofs.YtdabndiaflagpaaGreatDoor
open Go.RowKit

end Go.Proofs.YtdabndiaflagpaaGreatDoor
namespace Go.Proofs.YtdabndiaflagpaaGreatDoor
open Go.RowKit

def more (o : Nat) : Nat := if o < 400 then o + 1 else o
end Go.Proofs.YtdabndiaflagpaaGreatDoor
namespace Go.Proofs.YtdabndiaflagpaaGreatDoor
open Go.RowKit

def z5 : Array Value := #[.int .i64 0, .int .i64 0, .int .i64 0, .string ⟨#[]⟩, .slice none 0 0]
end Go.Proofs.YtdabndiaflagpaaGreatDoor
namespace Go.Proofs.YtdabndiaflagpaaGreatDoor
open Go.RowKit

def s5 (x : T) : Array Value := #[.int .i64 2, .int .i64 0, .int .i64 0, .string ⟨x.toArray⟩, .slice none 0 0]
end Go.Proofs.YtdabndiaflagpaaGreatDoor
namespace Go.Proofs.YtdabndiaflagpaaGreatDoor
open Go.RowKit

def x5 (x : X) (A : Option Addr) (c : Nat) : Array Value := #[.int .i64 x.k, .int .i64 x.o, .int .i64 x.n, .string ⟨x.s.toArray⟩, .slice A x.ks.length c]
end Go.Proofs.YtdabndiaflagpaaGreatDoor
