/- DERIVED. The walks of what puts numbers and runs. -/
import Derived.Test.YtclgblmhicabnaaRows
import Derived.Test.YtclgblmhicabnaaApp
import Derived.Test.YtclgblmhicabnaaNums
import Derived.WalkKit
import Derived.WalkSpells
import Derived.WalkLawsBesides
import Derived.Laws.BitsAll
import Derived.Handy
namespace Go.Proofs.Ytclgblmhicabnaa
open Go.RowKit Crc Nums

theorem byte_of (n : Nat) (h : n < 256) : Value.int .u8 (n : Int) = byteV (UInt8.ofNat n) := by
  unfold byteV
  rw [UInt8.toNat_ofNat_of_lt' h]

theorem or_128 (y : Nat) : bits BinOp.or IntKind.u8 ((y : Int) % 256) 128 = ((y % 128 + 128 : Nat) : Int) := by
  have h := u8_or_nat (y % 256) 128 (by omega) (by omega)
  have e : (y % 256) ||| 128 = y % 128 + 128 := by
    have h2 := Nat.two_pow_add_eq_or_of_lt (i := 7) (b := y % 128) (by omega) 1
    have h3 : (y % 256) ||| 128 = (y % 128) ||| 128 := by
      apply Nat.eq_of_testBit_eq; intro j
      rw [Nat.testBit_or, Nat.testBit_or, show (256 : Nat) = 2 ^ 8 from rfl, show (128 : Nat) = 2 ^ 7 from rfl, Nat.testBit_mod_two_pow, Nat.testBit_mod_two_pow, Nat.testBit_two_pow]
      by_cases h8 : j = 7
      · subst h8; simp
      · by_cases h7 : j < 7
        · have : j < 8 := by omega
          simp [h7, this]
        · have : ¬ j < 8 := by omega
          simp [h7, this]
    rw [h3, Nat.or_comm]
    have : (2 : Nat) ^ 7 * 1 = 128 := rfl
    rw [this] at h2
    rw [← h2]; omega
  rw [e] at h
  exact h

theorem u8_info : (Try.prog.info? 5).map (fun i => (i.zero, i.size, i.bytes)) = some (some (.int .u8 0), 1, 1) := by kernel_rfl

set_option maxRecDepth 100000 in
set_option maxHeartbeats 1000000 in
theorem PutVar_any (B : Nat) (v : Value) (xs : List Value) (x : Nat) (w : World) (hown : Src w B 5 v xs) (hB : B ≤ w.heap.size) (hx : x < 18446744073709551616) (hn : xs.length ≤ 1099511627776) :
    Calls Try.prog 12 #[v, .int .u64 x] w fun e w' => ∃ v', e = .returned v' ∧ Owns w' B 5 v' (xs ++ bytesV (var x)) ∧ Below B w w' := by
  obtain ⟨i0, hi0, hz0, hz1, hz2⟩ := info_parts u8_info
  have HO := Lib.hid hown
  clear hown
  go_enter Try.func12, Try.ntmps12
  go_wp2_with fail
  go_loopw [0, 1] (fun s k wr => ∃ (d : List UInt8) (y : Nat), var x = d ++ var y ∧ y < 18446744073709551616 ∧ k = .int .u64 y ∧ Src wr B 5 s (xs ++ bytesV d) ∧ Below B w wr) (fun _ k _ => (intOf k).toNat)
  case atStart => exact ⟨[], x, rfl, hx, rfl, by simpa [bytesV] using HO.out, Below.refl _ _⟩
  case round =>
    obtain ⟨d, y, hd, hy, rfl, hO, hBe⟩ := hrel
    have HD := Lib.hid hd
    clear hd
    have HO2 := Lib.hid hO
    clear hO
    have hdl : d.length ≤ 11 := by
      have := congrArg List.length HD.out
      rw [List.length_append] at this
      have h2 := (var_length x).2
      omega
    have hxl : (xs ++ bytesV d).length ≤ 1099511627787 := by rw [List.length_append, bytesV_length]; omega
    have HB := Lib.hid hBe
    have hsz := hBe.size
    clear hBe
    by_cases hlt : y < 128
    · go_wp2_with (first
        | (at_builtin; go_must (refine wpList_app_src _ rfl (.tmp 15) (.tmp 18) _ rfl B 5 i0 _ 1 Try.underlying23 hi0 hz0 hz1 hz2 rfl (by omega) _ rfl _ (HO2.out.later ((Below.refl _ _).alloc (Nat.le_refl _) _)) _ _ _ rfl _ (lies_new _ _ _) rfl (by omega) ?_ ?c1 ?c2 ?c3; intro v1 w1 hO1 hB1)))
      case c1 => rfl
      case c2 => rw [List.length_append] at hxl; omega
      case c3 => simp; omega
      go_ret
      refine ⟨v1, rfl, ?_, ?_⟩
      · rw [HD.out, bytesV_append, ← List.append_assoc, var_small y hlt]
        have := byte_of y (by omega)
        rw [this] at hO1
        exact hO1
      · exact HB.out.trans (((Below.refl _ _).alloc (by omega) _).trans hB1)
    · have hor := or_128 y
      go_wp2_with (first
        | (at_builtin; go_must (refine wpList_app_src _ rfl (.tmp 7) (.tmp 11) _ rfl B 5 i0 _ 1 Try.underlying23 hi0 hz0 hz1 hz2 rfl (by omega) _ rfl _ (HO2.out.later ((Below.refl _ _).alloc (Nat.le_refl _) _)) _ _ _ rfl _ (lies_new _ _ _) rfl (by omega) ?_ ?c1 ?c2 ?c3; intro v1 w1 hO1 hB1)))
      case c1 => rfl
      case c2 => rw [List.length_append] at hxl; omega
      case c3 => simp; omega
      refine ⟨⟨d ++ [UInt8.ofNat (y % 128 + 128)], y / 128, ?_, by omega, by go_num, ?_, ?_⟩, by simp [intOf]; omega⟩
      · rw [HD.out, var_step y hlt hy, List.append_assoc]; rfl
      · have e := byte_of (y % 128 + 128) (by omega)
        have e2 : Value.int .u8 ((y : Int) % 128 + 128) = byteV (UInt8.ofNat (y % 128 + 128)) := by rw [← e]; congr 1
        rw [e2] at hO1
        rw [bytesV_append, ← List.append_assoc]
        exact .inl hO1
      · exact HB.out.trans (((Below.refl _ _).alloc (by omega) _).trans hB1)

end Go.Proofs.Ytclgblmhicabnaa
