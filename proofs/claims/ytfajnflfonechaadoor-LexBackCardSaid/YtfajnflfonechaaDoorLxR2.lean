/- DERIVED. The reference's places. -/
import Derived.Test.YtfajnflfonechaaDoorLxR1
import Derived.Test.YtfajnflfonechaaDoorLxP
import Derived.WalkMore
import Derived.Deep.LoopGhost
namespace Go.Proofs.YtfajnflfonechaaDoor
open Go.RowKit

set_option maxRecDepth 100000 in
set_option maxHeartbeats 4000000 in
theorem place_any (s : T) (a : Nat) (w : World) (hs : s.length ≤ 1000000) (ha : a ≤ s.length) :
    Calls Tryd.prog 8 #[.string ⟨s.toArray⟩, .int .i64 (a : Int)] w fun e w' => e = .returned (.tuple #[.int .i64 (plAt s a).1, .int .i64 (plAt s a).2]) ∧ w = w' := by
  go_enter Tryd.func8, Tryd.ntmps8
  go_wp2_with fail
  go_loopg [6, 7, 8] a (fun g l c k wr => ∃ i : Nat, i + g = a ∧ k = .int .i64 (i : Int) ∧ l = .int .i64 (plAt s i).1 ∧ c = .int .i64 (plAt s i).2 ∧ w = wr)
  case atStart => exact ⟨0, by omega, rfl, rfl, rfl, rfl⟩
  case round =>
    obtain ⟨i, hi, rfl, rfl, rfl, rfl⟩ := hrel
    have hpb := plS_bound (s.take i) (1, 1) (by decide) (by decide)
    have hti : (s.take i).length ≤ 1000000 := by rw [List.length_take]; omega
    obtain ⟨z1, hz1⟩ : ∃ z, z = (plAt s i).1 := ⟨_, rfl⟩
    obtain ⟨z2, hz2⟩ : ∃ z, z = (plAt s i).2 := ⟨_, rfl⟩
    have hb1 : 1 ≤ z1 ∧ z1 ≤ 2000000 ∧ 1 ≤ z2 ∧ z2 ≤ 2000000 := by rw [hz1, hz2]; unfold plAt; simp only at hpb; omega
    obtain ⟨hb1, hb2, hb3, hb4⟩ := hb1
    have HZ1 := Lib.hid hz1
    have HZ2 := Lib.hid hz2
    rw [← hz1, ← hz2]
    clear hpb hti hz1 hz2
    by_cases hlt : i < a
    · have hlt2 : i < s.length := by omega
      obtain ⟨c, h', hc, hcc⟩ := byte_at hlt2
      have HS : Hid (plAt s (i + 1) = if c = 10 then (z1 + 1, 1) else (z1, z2 + 1)) := Lib.hid (by unfold plAt; rw [take_snoc hc, plS_snoc, HZ1.out, HZ2.out]; rfl)
      clear hc
      by_cases h10 : c = 10
      · subst h10
        have HS2 : Hid (plAt s (i + 1) = (z1 + 1, 1)) := Lib.hid (by rw [HS.out, if_pos rfl])
        go_wp2_with fail
        go_roundg (a - (i + 1))
        case rel => exact ⟨i + 1, by omega, by go_num, by rw [HS2.out], by rw [HS2.out], rfl⟩
        case measure => omega
      · have HS2 : Hid (plAt s (i + 1) = (z1, z2 + 1)) := Lib.hid (by rw [HS.out, if_neg h10])
        have hn : ¬ ((c.toNat : Int) = 10) := fun e => h10 (by apply UInt8.toNat_inj.1; exact Int.ofNat.inj e)
        go_wp2_with fail
        go_roundg (a - (i + 1))
        case rel => exact ⟨i + 1, by omega, by go_num, by rw [HS2.out], by rw [HS2.out], rfl⟩
        case measure => omega
    · obtain rfl : i = a := by omega
      go_wp2_with fail
      go_ret2
      exact ⟨by rw [HZ1.out, HZ2.out]; rfl, rfl⟩

end Go.Proofs.YtfajnflfonechaaDoor
