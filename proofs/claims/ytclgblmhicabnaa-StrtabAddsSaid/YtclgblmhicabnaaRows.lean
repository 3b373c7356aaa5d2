/-
  No cell of these rows narrows 'for every input' (looked for: loops, veiled, ifaces, maps, wideKeys, modest, calm, conditions, laid).
  DERIVED. THE GIVEN ROWS OF THIS SEAT. 6 by the template 'for every input the law returns true; each argument reads behind the call as it read before'; 0 by the template 'total and deterministic' (their statements: YtclgblmhicabnaaTotals.lean).
  GIVEN WITH THE SEED: the statements are not yours to turn. If you find one false, say at which input.
  Laid BY PROGRAM, IN A SANDBOX (cutbox-rows.mjs): the forced cells as the released guide's own fill.sh prints them over the translation 0536ef0938809a90… (all of the seat's roots in one cut). By AI agents, Wed Nov 11 2026. No macro, syntax, notation, axiom, sorry.
-/
import Derived.Test.YtclgblmhicabnaaChecked
import GoSem.Claim
import GoSem.ClaimJoined
import GoSem.ClaimMapViews
import Derived.JoinedTies
import Derived.KernelRfl
namespace Go.Proofs.Ytclgblmhicabnaa
/- THE CELL 'sum', in the pinned program and in every row, IS THE sha256 OF THE DUMP (.gsa) THAT YtclgblmhicabnaaProg.lean LOADS. Nothing in Lean hashes anything: it is a label: what it is worth is what the hold of that sum in a sandbox is worth. -/
noncomputable def Try.pinned : Pinned := { name := "ytclgblmhicabnaa", sum := "0536ef0938809a90ea937b0621cff57daf1aaf58ebb20c2321e79f330f972921", checked := Try.checked }
namespace Rows
def none {H : Type} : Left H := { results := [], args := [] }

/-- 'shuttlecocklaw01.WirePuts': WHATEVER THE INPUT: true; the input reads as it did. -/
def wirePutsSpec : ChangeSpec := { name := "wirePuts", fn := fun _ => fun
  | [d1, d2, d3] => { results := [.lit (.bool true)], args := [d1, d2, d3] }
  | _ => none }
def wirePutsRow : OpenClaim := { program := "ytclgblmhicabnaa", sum := "0536ef0938809a90ea937b0621cff57daf1aaf58ebb20c2321e79f330f972921", func := "shuttlecock/shuttlecocklaw01.WirePuts", spec := "wirePuts", recurses := true, apart := false }
def WirePutsSaid : Prop := wirePutsRow.holds Try.pinned (OpenSpec.ofChange wirePutsSpec)

/-- ITS FALSE NEIGHBOUR: 'it returns false'. Refute it at one input. -/
def wirePutsWrong : ChangeSpec := { name := "wirePuts", fn := fun _ => fun
  | [d1, d2, d3] => { results := [.lit (.bool false)], args := [d1, d2, d3] }
  | _ => none }
def WirePutsWrongFalsely : Prop := wirePutsRow.holds Try.pinned (OpenSpec.ofChange wirePutsWrong)

/-- 'shuttlecocklaw01.WireReads': WHATEVER THE INPUT: true; the input reads as it did. -/
def wireReadsSpec : ChangeSpec := { name := "wireReads", fn := fun _ => fun
  | [d1, d2] => { results := [.lit (.bool true)], args := [d1, d2] }
  | _ => none }
def wireReadsRow : OpenClaim := { program := "ytclgblmhicabnaa", sum := "0536ef0938809a90ea937b0621cff57daf1aaf58ebb20c2321e79f330f972921", func := "shuttlecock/shuttlecocklaw01.WireReads", spec := "wireReads", apart := false }
def WireReadsSaid : Prop := wireReadsRow.holds Try.pinned (OpenSpec.ofChange wireReadsSpec)

/-- ITS FALSE NEIGHBOUR: 'it returns false'. Refute it at one input. -/
def wireReadsWrong : ChangeSpec := { name := "wireReads", fn := fun _ => fun
  | [d1, d2] => { results := [.lit (.bool false)], args := [d1, d2] }
  | _ => none }
def WireReadsWrongFalsely : Prop := wireReadsRow.holds Try.pinned (OpenSpec.ofChange wireReadsWrong)

/-- 'shuttlecocklaw01.WireBack': WHATEVER THE INPUT: true; the input reads as it did. -/
def wireBackSpec : ChangeSpec := { name := "wireBack", fn := fun _ => fun
  | [d1, d2] => { results := [.lit (.bool true)], args := [d1, d2] }
  | _ => none }
def wireBackRow : OpenClaim := { program := "ytclgblmhicabnaa", sum := "0536ef0938809a90ea937b0621cff57daf1aaf58ebb20c2321e79f330f972921", func := "shuttlecock/shuttlecocklaw01.WireBack", spec := "wireBack", apart := false }
def WireBackSaid : Prop := wireBackRow.holds Try.pinned (OpenSpec.ofChange wireBackSpec)

/-- ITS FALSE NEIGHBOUR: 'it returns false'. Refute it at one input. -/
def wireBackWrong : ChangeSpec := { name := "wireBack", fn := fun _ => fun
  | [d1, d2] => { results := [.lit (.bool false)], args := [d1, d2] }
  | _ => none }
def WireBackWrongFalsely : Prop := wireBackRow.holds Try.pinned (OpenSpec.ofChange wireBackWrong)

/-- 'shuttlecocklaw01.WireBursts': WHATEVER THE INPUT: true; the input reads as it did. -/
def wireBurstsSpec : ChangeSpec := { name := "wireBursts", fn := fun _ => fun
  | [d1, d2, d3] => { results := [.lit (.bool true)], args := [d1, d2, d3] }
  | _ => none }
def wireBurstsRow : OpenClaim := { program := "ytclgblmhicabnaa", sum := "0536ef0938809a90ea937b0621cff57daf1aaf58ebb20c2321e79f330f972921", func := "shuttlecock/shuttlecocklaw01.WireBursts", spec := "wireBursts", apart := false }
def WireBurstsSaid : Prop := wireBurstsRow.holds Try.pinned (OpenSpec.ofChange wireBurstsSpec)

/-- ITS FALSE NEIGHBOUR: 'it returns false'. Refute it at one input. -/
def wireBurstsWrong : ChangeSpec := { name := "wireBursts", fn := fun _ => fun
  | [d1, d2, d3] => { results := [.lit (.bool false)], args := [d1, d2, d3] }
  | _ => none }
def WireBurstsWrongFalsely : Prop := wireBurstsRow.holds Try.pinned (OpenSpec.ofChange wireBurstsWrong)

/-- 'shuttlecocklaw02.StrtabAdds': WHATEVER THE INPUT: true; the input reads as it did. -/
def strtabAddsSpec : ChangeSpec := { name := "strtabAdds", fn := fun _ => fun
  | [d1, d2, d3] => { results := [.lit (.bool true)], args := [d1, d2, d3] }
  | _ => none }
def strtabAddsRow : OpenClaim := { program := "ytclgblmhicabnaa", sum := "0536ef0938809a90ea937b0621cff57daf1aaf58ebb20c2321e79f330f972921", func := "shuttlecock/shuttlecocklaw02.StrtabAdds", spec := "strtabAdds", recurses := true, apart := false }
def StrtabAddsSaid : Prop := strtabAddsRow.holds Try.pinned (OpenSpec.ofChange strtabAddsSpec)

/-- ITS FALSE NEIGHBOUR: 'it returns false'. Refute it at one input. -/
def strtabAddsWrong : ChangeSpec := { name := "strtabAdds", fn := fun _ => fun
  | [d1, d2, d3] => { results := [.lit (.bool false)], args := [d1, d2, d3] }
  | _ => none }
def StrtabAddsWrongFalsely : Prop := strtabAddsRow.holds Try.pinned (OpenSpec.ofChange strtabAddsWrong)

/-- 'shuttlecocklaw02.StrtabReads': WHATEVER THE INPUT: true; the input reads as it did. -/
def strtabReadsSpec : ChangeSpec := { name := "strtabReads", fn := fun _ => fun
  | [d] => { results := [.lit (.bool true)], args := [d] }
  | _ => none }
def strtabReadsRow : OpenClaim := { program := "ytclgblmhicabnaa", sum := "0536ef0938809a90ea937b0621cff57daf1aaf58ebb20c2321e79f330f972921", func := "shuttlecock/shuttlecocklaw02.StrtabReads", spec := "strtabReads", apart := false }
def StrtabReadsSaid : Prop := strtabReadsRow.holds Try.pinned (OpenSpec.ofChange strtabReadsSpec)

/-- ITS FALSE NEIGHBOUR: 'it returns false'. Refute it at one input. -/
def strtabReadsWrong : ChangeSpec := { name := "strtabReads", fn := fun _ => fun
  | [d] => { results := [.lit (.bool false)], args := [d] }
  | _ => none }
def StrtabReadsWrongFalsely : Prop := strtabReadsRow.holds Try.pinned (OpenSpec.ofChange strtabReadsWrong)

/- THE SECOND FORM. 'bulk': how many values and letters a reading holds, each counted each time it is reached (what is shared counts as often as it is met; a slice's spare places count too). A statement '..UptoSaid' is the law's where the arguments, and the package variables that the reading takes, are together of bulk at most 1048576: NARROWER than '..Said'. Prove '..Said' where nothing that the law and all that it calls make is longer than what came in: it says more and counts as full. Else prove '..UptoSaid'. A law counts once. -/
mutual
def uptoBulk {H : Type} : DataW H → Nat
  | .lit (.string bytes) => bytes.length + 1
  | .lit _ => 1
  | .nil => 1
  | .ptr d => uptoBulk d + 1
  | .slice elems spare => uptoBulkAll elems + uptoBulkAll spare + 1
  | .agg parts => uptoBulkAll parts + 1
  | .iface _ d => uptoBulk d + 1
  | .map entries => uptoBulkEntries entries + 1
  | .held _ => 1
def uptoBulkAll {H : Type} : List (DataW H) → Nat
  | [] => 0
  | d :: r => uptoBulk d + uptoBulkAll r
def uptoBulkEntries {H : Type} : List (Lit × DataW H) → Nat
  | [] => 0
  | x :: r => uptoBulkEntry x + uptoBulkEntries r
def uptoBulkEntry {H : Type} : Lit × DataW H → Nat
  | (.string bytes, d) => bytes.length + uptoBulk d + 1
  | (_, d) => uptoBulk d + 1
 end
def uptoSmall : (H : Type) → List (DataW H) → Bool := fun _ ds => decide (uptoBulkAll ds ≤ 1048576)
def OpenSpec.upto (s : _root_.Go.ChangeSpec) : _root_.Go.OpenSpec := { _root_.Go.OpenSpec.ofChange s with cond := some uptoSmall }

/-- 'shuttlecocklaw01.WirePuts', WHERE WHAT IT READS IS OF BULK AT MOST 1048576: true; the input reads as it did. -/
def wirePutsUptoRow : OpenClaim := { program := "ytclgblmhicabnaa", sum := "0536ef0938809a90ea937b0621cff57daf1aaf58ebb20c2321e79f330f972921", func := "shuttlecock/shuttlecocklaw01.WirePuts", spec := "wirePuts", recurses := true, apart := false, narrowed := true }
def WirePutsUptoSaid : Prop := wirePutsUptoRow.holds Try.pinned (OpenSpec.upto wirePutsSpec)

/-- 'shuttlecocklaw01.WireReads', WHERE WHAT IT READS IS OF BULK AT MOST 1048576: true; the input reads as it did. -/
def wireReadsUptoRow : OpenClaim := { program := "ytclgblmhicabnaa", sum := "0536ef0938809a90ea937b0621cff57daf1aaf58ebb20c2321e79f330f972921", func := "shuttlecock/shuttlecocklaw01.WireReads", spec := "wireReads", apart := false, narrowed := true }
def WireReadsUptoSaid : Prop := wireReadsUptoRow.holds Try.pinned (OpenSpec.upto wireReadsSpec)

/-- 'shuttlecocklaw01.WireBack', WHERE WHAT IT READS IS OF BULK AT MOST 1048576: true; the input reads as it did. -/
def wireBackUptoRow : OpenClaim := { program := "ytclgblmhicabnaa", sum := "0536ef0938809a90ea937b0621cff57daf1aaf58ebb20c2321e79f330f972921", func := "shuttlecock/shuttlecocklaw01.WireBack", spec := "wireBack", apart := false, narrowed := true }
def WireBackUptoSaid : Prop := wireBackUptoRow.holds Try.pinned (OpenSpec.upto wireBackSpec)

/-- 'shuttlecocklaw01.WireBursts', WHERE WHAT IT READS IS OF BULK AT MOST 1048576: true; the input reads as it did. -/
def wireBurstsUptoRow : OpenClaim := { program := "ytclgblmhicabnaa", sum := "0536ef0938809a90ea937b0621cff57daf1aaf58ebb20c2321e79f330f972921", func := "shuttlecock/shuttlecocklaw01.WireBursts", spec := "wireBursts", apart := false, narrowed := true }
def WireBurstsUptoSaid : Prop := wireBurstsUptoRow.holds Try.pinned (OpenSpec.upto wireBurstsSpec)

/-- 'shuttlecocklaw02.StrtabAdds', WHERE WHAT IT READS IS OF BULK AT MOST 1048576: true; the input reads as it did. -/
def strtabAddsUptoRow : OpenClaim := { program := "ytclgblmhicabnaa", sum := "0536ef0938809a90ea937b0621cff57daf1aaf58ebb20c2321e79f330f972921", func := "shuttlecock/shuttlecocklaw02.StrtabAdds", spec := "strtabAdds", recurses := true, apart := false, narrowed := true }
def StrtabAddsUptoSaid : Prop := strtabAddsUptoRow.holds Try.pinned (OpenSpec.upto strtabAddsSpec)

/-- 'shuttlecocklaw02.StrtabReads', WHERE WHAT IT READS IS OF BULK AT MOST 1048576: true; the input reads as it did. -/
def strtabReadsUptoRow : OpenClaim := { program := "ytclgblmhicabnaa", sum := "0536ef0938809a90ea937b0621cff57daf1aaf58ebb20c2321e79f330f972921", func := "shuttlecock/shuttlecocklaw02.StrtabReads", spec := "strtabReads", apart := false, narrowed := true }
def StrtabReadsUptoSaid : Prop := strtabReadsUptoRow.holds Try.pinned (OpenSpec.upto strtabReadsSpec)

end Rows
end Go.Proofs.Ytclgblmhicabnaa
