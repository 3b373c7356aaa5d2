/- PrintBrackets, WHERE WHAT IT READS IS OF BULK AT MOST 1048576: for every expression and every byte the call returns true, and each argument reads afterwards as it read before. -/
import Derived.Test.YtdabndiaflagpaaGreatDoorCards
import Derived.Test.YtdabndiaflagpaaGreatDoorTie
import Derived.WalkKit
import Derived.ProofKit
import Derived.OpenShut
import Derived.Deep.DeepHandedRow
import Derived.Lib.LaidTab
import Derived.Deep.DeepWitnessRowRef
import Derived.ChangeOld
import Derived.Below
import Derived.Test.YtdabndiaflagpaaGreatDoorB29
import Derived.Test.YtdabndiaflagpaaGreatDoorB31
set_option maxRecDepth 100000
set_option maxHeartbeats 4000000
set_option linter.unusedVariables false
namespace Go.Proofs.YtdabndiaflagpaaGreatDoor.printBrackets
open Go.ChangeShapes Go.WideShapes Go.ChangeAt Go.RowKit
set_option linter.unusedVariables false

theorem own : ownKnob Tryz.prog.godebug = none := by kernel_rfl
theorem laidOut : laidOutB Tryz.prog = true := by kernel_rfl

theorem of_c5 {x : X} {A : Option Addr} {c : Nat} {cs : Array Value} (h : cs.toList = c5 x A c) : Value.agg cs = ev x A c := by
  have : cs = (c5 x A c).toArray := by rw [← h]
  rw [this]
  rfl

/-- WHAT THE WALKS GIVE. -/
theorem walk (e : X) (A : Option Addr) (c : Nat) (z : Int) (w : World) (hk : KS w (Old w) A e.ks) (hs : e.size ≤ 1099511627775) (hok : e.ok) (hz0 : 0 ≤ z) (hz9 : z ≤ 255) (he : LexEnv w) (hpe : PaEnv w.heap.size w) (ht : ShapesAt w) (hpr : PrEnv w.heap.size w) :
    Calls Tryz.prog 6 #[ev e A c, .int .u8 z] w fun q w' => q = .returned (.bool true) ∧ Below w.heap.size w w' :=
  brackets_any e A c z w hz0 hz9 hok hs hk he hpe ht hpr (Lib.hid fun w2 hb => awake6_any w2 (ht.later hb) ((hpr.later hb).up hb.size))

set_option maxRecDepth 100000 in
theorem contract (H : Type) (enc : TypeId × Value → H) (W : World) (base : Nat) (args : Array Value) (ds gs : List (DataW H)) (before : List MemPlace)
    (hval : ∀ (j : Nat) t v, Tryz.f6.params[j]? = some t → args[j]? = some v → Value.okWide Tryz.prog W .any base t v)
    (hW : DataW.Whole enc Tryz.prog Tryz.f6.params.toList Rows.printBracketsSpec.vars false W args.toList ds gs before) (hS : Rows.uptoSmall H (ds ++ gs) = true) (hSh : W.ShapedOpen Tryz.prog) (hL : laidMetH Tryz.prog Rows.printBracketsUptoRow.laid W) :
    Calls Tryz.prog 6 args W fun e W' => ∃ v, e = .returned v ∧ Rows.printBracketsSpec.post enc Tryz.prog Tryz.f6 false true false false W args v W' := by
  have hW' := hW
  obtain ⟨p, q, hA0, hV, rfl, hfz, hnd⟩ := hW
  have hA : DataW.TrodAll enc Tryz.prog W 0 (fun _ => true) true Tryz.f6.params.toList args.toList ds p := hA0
  rw [Tryz.params6] at hA hval
  obtain ⟨v0, vs0, d0, ds0, p0, q0, hargs, rfl, rfl, h0, r0⟩ := trodAll_cons hA
  obtain ⟨v1, vs1, d1, ds1, p1, q1, rfl, rfl, rfl, h1, r1⟩ := trodAll_cons r0
  obtain ⟨rfl, rfl, rfl⟩ := trodAll_nil r1
  obtain rfl : args = #[v0, v1] := by cases args; simp_all
  obtain ⟨rfl, rfl⟩ := trodVars_none hV
  obtain ⟨cs0, rfl, hcs0⟩ := okWide_struct Tryz.underlying52 (hval 0 _ v0 rfl rfl)
  obtain ⟨z, rfl, rfl, rfl, w2⟩ := open_int Tryz.underlying5 (hval 1 _ v1 rfl rfl) h1
  have k0 := h0
  have k1 := h1
  have lt0 : ∀ x ∈ p0, x.block < W.heap.size := by obtain ⟨m, hm⟩ := k0; exact DataW.trod_lt m _ _ _ hm
  have hB : Rows.uptoBulkAll ([d0, .lit (.int .u8 z)] ++ []) ≤ 1048576 := of_decide_eq_true hS
  have hb0 : Rows.uptoBulk d0 ≤ 1048576 := Nat.le_trans (bulk_mem (by simp)) hB
  obtain ⟨x0, A0, c0, he0, hk0, hok0, hl0⟩ : ∃ x, ReadX W d0 cs0.toList x := by
    obtain ⟨fuel, hf⟩ := h0
    exact read_x 1048576 d0 fuel _ p0 hb0 (by omega) hf
  have h9 := br_split hL
  have ht := shapes_at5 h9
  have he := lexEnv_at5 h9 hSh
  have hpe := paEnv_at5 h9
  have hpr := brEnv_at hL
  have hz := Go.bounds_u8 w2
  have hs0 := X.size_le x0
  clear hA0 
  have e0 := of_c5 he0
  have wk := walk x0 A0 c0 z W hk0 (by omega) hok0 (by omega) (by omega) he hpe ht hpr
  rw [← e0] at wk
  refine wk.mono fun e W' ⟨he, bel⟩ => ?_
  subst he
  exact ⟨_, rfl, _, _, _, [], _, [], hW', trodAll_mk1 (shut_bool Tryz.underlying4 _), (trodAll_cons_mk (Below.trod laidOut (by kernel_rfl) (of_decide_eq_true (by kernel_rfl)) k0 bel lt0) (trodAll_cons_mk (Below.trod laidOut (by kernel_rfl) (of_decide_eq_true (by kernel_rfl)) k1 bel (by simp)) trodAll_mk0)), rfl, bel.frame _, fun h => by cases h⟩

def wargs : Array Value := #[.agg #[.int .i64 0, .int .i64 0, .int .i64 0, .string ⟨#[]⟩, .slice none 0 0], .int .u8 0]
def zeroD {H : Type} : DataW H := .agg [.lit (.int .i64 0), .lit (.int .i64 0), .lit (.int .i64 0), .lit (.string []), .nil]
theorem reads (os : Os) {H : Type} (enc : TypeId × Value → H) : ∃ places, DataW.whole enc Tryz.prog ((World.doorLaid Tryz.prog 200 os).forCall (fun _ _ => 0) ⟨#[], wargs, []⟩).memory Tryz.f6.params.toList Rows.printBracketsSpec.vars false wargs.toList 16 = some ([zeroD, .lit (.int .u8 0)], [], places) :=
  ⟨[], by kernel_rfl⟩
theorem small {H : Type} : Rows.uptoSmall H ([zeroD, .lit (.int .u8 0)] ++ []) = true := by kernel_rfl

set_option maxRecDepth 100000 in
theorem liftedUpto (os : Os) (started : os.Started) (H : Type) (enc : TypeId × Value → H) (F : Stop.Interp) :
    ReturnsInHanded {} Tryz.checked os 6 .any ((Rows.OpenSpec.upto Rows.printBracketsSpec).preRow enc Tryz.prog Tryz.f6 Rows.printBracketsUptoRow.domain false Rows.printBracketsUptoRow.laid) (((Rows.OpenSpec.upto Rows.printBracketsSpec).at F).post enc Tryz.prog Tryz.f6 false true false false) := by
  obtain ⟨places, hx⟩ := reads os enc
  refine returnsInHanded_of_row (C := Tryz.checked) (s := Rows.OpenSpec.upto Rows.printBracketsSpec) own started (by kernel_rfl) Tryz.func6
    (witness_row_atRef (enc := enc) (C := Tryz.checked) false (World.doorLaid Tryz.prog 200 os) wargs rfl (by kernel_rfl) (by kernel_rfl) (by kernel_rfl)
      (OpenSpec.preRow_of_cond 16 hx (by kernel_rfl) (fun k hk => by cases hk; exact small) (by kernel_rfl) (br_door_met os _))) ?_
  intro W base args ds gs before hval hW _ hcond _ hL hSh _
  exact contract H enc W base args ds gs before hval hW (hcond _ rfl) hSh hL

theorem saidUpto : Rows.PrintBracketsUptoSaid :=
  OpenClaim.holds_of_cond 6 Tryz.f6 rfl rfl rfl rfl rfl rfl rfl ⟨rfl, rfl, rfl, rfl, rfl⟩ rfl rfl rfl rfl rfl (by kernel_rfl) Tryz.func6 (by kernel_rfl)
    (of_decide_eq_true (by kernel_rfl)) (by unfold Func.isWrapper; first | (rw [if_pos (by decide +kernel)]; kernel_rfl) | (rw [if_neg (by decide +kernel)]; exact ⟨rfl, rfl⟩))
    (fun os started H enc _ F => by rw [OpenClaim.pre_eq_preRow]; exact liftedUpto os started H enc F)

/-- What the card asks of the looks and of the parameters' stand-ins. -/
theorem plain (f : FuncId) (fn : Func) (hf : Tryz.pinned.checked.prog.funcNamed "shuttlecock/shuttlecocklaw06.PrintBrackets" = some f) (hfn : Tryz.pinned.checked.prog.funcs[f]? = some fn) :
    true = Tryz.pinned.checked.prog.looks [] ∧ ∀ (j : Nat) t, fn.params[j]? = some t → Tryz.pinned.checked.prog.wantsStandIn t = false := by
  obtain rfl : f = 6 := Option.some.inj ((show Tryz.prog.funcNamed "shuttlecock/shuttlecocklaw06.PrintBrackets" = some 6 by kernel_rfl).symm.trans hf) |>.symm
  obtain rfl : fn = Tryz.f6 := (Option.some.inj (Tryz.func6.symm.trans hfn)).symm
  refine ⟨by kernel_rfl, fun j t ht => ?_⟩
  rw [Tryz.params6] at ht
  have hm : t = 52 ∨ t = 5 := by
    have := Array.mem_of_getElem? ht
    simp at this
    omega
  rcases hm with rfl | rfl
  · exact (show Tryz.prog.wantsStandIn 52 = false by kernel_rfl)
  · exact (show Tryz.prog.wantsStandIn 5 = false by kernel_rfl)

/-- ████ THE SECOND FORM's CARD ████ -/
theorem cardUpto : Rows.PrintBracketsUptoCardSaid :=
  Claim7.holds_tied_plain_at .later [] _ _ _ _ saidUpto (fun _ h => by cases h) (by kernel_rfl) (fun _ h => by cases h) printBracketsUpto_row_tie rfl ⟨rfl, rfl⟩ (by kernel_rfl) rfl plain (by kernel_rfl)
end Go.Proofs.YtdabndiaflagpaaGreatDoor.printBrackets
