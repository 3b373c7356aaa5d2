/- DERIVED. The examples of chapter 1, as the statements of layer 1 ask them (awake). -/
import Derived.Test.YtclgblmhicabnaaSum2
import Derived.Test.YtclgblmhicabnaaPuts
import Derived.Lib.SlBytesConst
namespace Go.Proofs.Ytclgblmhicabnaa
open Go.RowKit Crc Nums

def digits9 : List UInt8 := [49, 50, 51, 52, 53, 54, 55, 56, 57]
theorem crc9 : crc digits9 = 3421780262 := by decide +kernel
theorem var300 : var 300 = [172, 2] := by decide +kernel

theorem run_str_of {w : World} {B : Nat} {v : Value} {l : List UInt8} (src e dst : TypeId) (hs : Try.prog.underlying src = some (.slice e)) (he : Try.prog.underlying e = some (.int .u8)) (hd : Try.prog.underlying dst = some .string)
    (h : Owns w B e v (bytesV l)) : (convert src dst v).run Try.prog w = .ok (.string ⟨l.toArray⟩) w := by
  obtain ⟨A, c, rfl, hl⟩ := h.form
  exact run_str (P := Try.prog) w src e dst hs he hd A _ c l (bytesV_length l) hl

set_option maxRecDepth 100000 in
set_option maxHeartbeats 1000000 in
theorem awake1_any (w : World) :
    Calls Try.prog 20 #[] w fun e w' => e = .returned (.bool true) ∧ Below w.heap.size w w' := by
  have kc := fun (w : World) (C : Array Value) (n c : Nat) => Lib.run_convert_bytes_const (P := Try.prog) w 23 5 C n c Try.underlying23 Try.underlying5
  go_enter Try.func20, Try.ntmps20
  go_wp2_with fail
  refine (Sum_any _ 9 digits9 _ (lies_marked w #[.int .u8 49, .int .u8 50, .int .u8 51, .int .u8 52, .int .u8 53, .int .u8 54, .int .u8 55, .int .u8 56, .int .u8 57] 5 _) (by decide)).mono ?_
  rintro e w1 ⟨rfl, hB1⟩
  rw [crc9]
  have H0 : Hid (Below w.heap.size w w1) := ((Below.refl _ _).alloc (Nat.le_refl _) _).trans (hB1.mono (by simp))
  clear hB1
  go_wp2_with fail
  refine (PutVar_any w1.heap.size _ [] 300 w1 (.inl (Owns.nil w1 w1.heap.size 5)) (Nat.le_refl _) (by omega) (by simp)).mono ?_
  rintro e w2 ⟨v2, rfl, hO, hB2⟩
  rw [var300, List.nil_append] at hO
  have hc := run_str_of (w := w2) 23 5 9 Try.underlying23 Try.underlying5 Try.underlying9 hO
  have H2 : Hid (Below w.heap.size w w2) := H0.out.trans (hB2.mono H0.out.size)
  clear hB2 hO
  go_wp2_with fail
  go_ret
  exact ⟨rfl, H2.out⟩

end Go.Proofs.Ytclgblmhicabnaa
