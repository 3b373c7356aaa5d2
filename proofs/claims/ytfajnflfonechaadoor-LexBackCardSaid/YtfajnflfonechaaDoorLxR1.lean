/- DERIVED. The reference's tokens: begins. -/
import Derived.Test.YtfajnflfonechaaDoorLxS
import Derived.Test.YtfajnflfonechaaDoorLxC
namespace Go.Proofs.YtfajnflfonechaaDoor
open Go.RowKit

theorem ext_len (l p : T) : (l.take p.length = p) ↔ p.isPrefixOf l = true := by
  rw [List.isPrefixOf_iff_prefix, List.prefix_iff_eq_take]
  exact ⟨fun h => h.symm, fun h => h.symm⟩
theorem str_mid (s : T) (i n : Nat) : (⟨s.toArray⟩ : ByteArray).extract i (i + n) = ⟨((s.drop i).take n).toArray⟩ := by
  apply ByteArray.ext
  simp [ByteArray.data_extract, List.take_drop]
theorem run_mid (s : T) (i n : Nat) (j : Int) (hj : j = ((i + n : Nat) : Int)) (h : i + n ≤ s.length) (w : World) : (Instr.slice 9 (.string ⟨s.toArray⟩) (some (.int .i64 (i : Int))) (some (.int .i64 j)) none).run Tryd.prog w = .ok (.string ⟨((s.drop i).take n).toArray⟩) w := by
  subst hj
  rw [run_slice_string _ _ _ _ _ _ _ Tryd.underlying9 (by omega) (by omega) (by show _ ≤ ((s.toArray.size : Nat) : Int); simp; omega), Int.toNat_natCast, Int.toNat_natCast, str_mid]
set_option maxRecDepth 100000 in
set_option maxHeartbeats 4000000 in
theorem begins_any (s p : T) (i : Nat) (w : World) (hs : s.length ≤ 1000000) (hp : p.length ≤ 1000) (hi : i ≤ s.length) :
    Calls Tryd.prog 28 #[.string ⟨s.toArray⟩, .int .i64 (i : Int), .string ⟨p.toArray⟩] w fun e w' => e = .returned (.bool (p.isPrefixOf (s.drop i))) ∧ w = w' := by
  by_cases h : i + p.length ≤ s.length
  · have h1 : (p.length : Int) ≤ (s.length : Int) - (i : Int) := by omega
    have hr := run_mid s i p.length ((i : Int) + (p.length : Int)) (by omega) h
    have HX : Hid (((s.drop i).take p.length == p) = p.isPrefixOf (s.drop i)) := Lib.hid (by rw [Bool.eq_iff_iff, beq_iff_eq]; exact ext_len _ _)
    go_enter Tryd.func28, Tryd.ntmps28
    go_wp2_with fail
    go_ret
    exact ⟨ret_bool HX.out, rfl⟩
  · have h1 : (s.length : Int) - (i : Int) < (p.length : Int) := by omega
    have HP : Hid (p.isPrefixOf (s.drop i) = false) := Lib.hid ((Bool.not_eq_true _).mp fun hh => by have := prefix_len hh; rw [List.length_drop] at this; omega)
    clear h
    go_enter Tryd.func28, Tryd.ntmps28
    go_wp2_with fail
    go_ret
    exact ⟨ret_bool HP.out.symm, rfl⟩

end Go.Proofs.YtfajnflfonechaaDoor
