/- DERIVED. The code's text in memory; it passes bytes. -/
import Derived.Test.YtfajnflfonechaaDoorLxC
namespace Go.Proofs.YtfajnflfonechaaDoor
open Go.RowKit

/-- The text's struct. -/
def TxR (w : World) (b : Nat) (l : T) (p : Int × Int) (tv mv : Value) : Prop := Row w b 69 #[.string ⟨l.toArray⟩, .int .i64 p.1, .int .i64 p.2, tv, mv]
def okP (p : Int × Int) : Prop := 1 ≤ p.1 ∧ p.1 ≤ 10000000 ∧ 1 ≤ p.2 ∧ p.2 ≤ 10000000
theorem take_snoc {s : T} {i : Nat} {c : UInt8} (h : s[i]? = some c) : s.take (i + 1) = s.take i ++ [c] := by rw [List.take_add_one, h]; rfl

set_option maxRecDepth 100000 in
set_option maxHeartbeats 1000000 in
theorem pass_any (x r : T) (b : Nat) (p : Int × Int) (tv mv : Value) (w : World) (hl : x.length ≤ 1000000) (hp1 : 1 ≤ p.1) (hp2 : p.1 ≤ 5000000) (hp3 : 1 ≤ p.2) (hp4 : p.2 ≤ 5000000) (hr : TxR w b (x ++ r) p tv mv) :
    Calls Tryd.prog 67 #[.pointer (some ⟨b, 0, none⟩), .string ⟨x.toArray⟩] w fun e w' => e = .returned (.tuple #[]) ∧ TxR w' b r (plS p x) tv mv ∧ w.grownBy w' (some b) := by
  have hcb := Lib.run_convert_string_bytes (P := Tryd.prog) w 9 80 5 ⟨x.toArray⟩ Tryd.underlying9 Tryd.underlying80 Tryd.underlying5
  have HB : Hid (Below w.heap.size w (Lib.bytesWorld w 5 ⟨x.toArray⟩)) := Lib.hid (bytesWorld_below _ _ _)
  have HC : Hid (∀ (j : Nat) (c : UInt8), x[j]? = some c → (Lib.bytesWorld w 5 ⟨x.toArray⟩).cell? ⟨w.heap.size, j, none⟩ = some (.int .u8 (c.toNat : Int))) := fun j c hj => by
    have hlt : j < x.length := by
      rcases Nat.lt_or_ge j x.length with h' | h'
      · exact h'
      · rw [List.getElem?_eq_none h'] at hj; cases hj
    rw [Lib.bytesWorld_cell w _ _ j (by simpa [ByteArray.size] using hlt)]
    simp [List.getD, hj]
  have hsz : w.heap.size < (Lib.bytesWorld w 5 ⟨x.toArray⟩).heap.size := by rw [Lib.bytesWorld_size]; omega
  generalize Lib.bytesWorld w 5 ⟨x.toArray⟩ = wb at hcb HB HC hsz
  generalize grownCap w (⟨x.toArray⟩ : ByteArray).size 0 5 = cp at hcb
  have hbw : b < w.heap.size := Row.lt hr
  have HR0 : Hid (TxR wb b (x ++ r) p tv mv) := Row.below hr HB.out hbw
  have HD := Lib.hid (str_drop (x ++ r) x.length)
  clear hr
  go_enter Tryd.func67, Tryd.ntmps67
  go_wp2_with fail
  go_loopw [9] (fun k wr => ∃ i : Nat, i ≤ x.length ∧ k = .int .i64 i ∧ TxR wr b (x ++ r) (plS p (x.take i)) tv mv ∧ wb.grownBy wr (some b)) (fun k _ => x.length - (intOf k).toNat)
  case atStart => exact ⟨0, by omega, rfl, HR0.out, only_refl _ _⟩
  case round =>
    obtain ⟨i, hi, rfl, ht, hg⟩ := hrel
    have HT := Lib.hid ht
    have HG := Lib.hid hg
    have hpb := plS_bound (x.take i) p hp1 hp3
    have hti : (x.take i).length = i := by simp; omega
    rw [hti] at hpb
    have HPB := Lib.hid hpb
    have hrow : Row wr b 69 #[.string ⟨(x ++ r).toArray⟩, .int .i64 (plS p (x.take i)).1, .int .i64 (plS p (x.take i)).2, tv, mv] := ht
    clear ht hg hti
    by_cases hlt : i < x.length
    · obtain ⟨c, h', hc, _⟩ := byte_at hlt
      have hcell : wr.cell? ⟨w.heap.size, i, none⟩ = some (.int .u8 (c.toNat : Int)) := (HG.out.cell_far ⟨w.heap.size, i, none⟩ hsz (by intro e; have e2 : w.heap.size = b := Option.some.inj e; omega)).trans (HC.out i c hc)
      have HS : Hid (x.take (i + 1) = x.take i ++ [c]) := Lib.hid (take_snoc hc)
      have HROW := Lib.hid hrow
      obtain ⟨z1, hz1⟩ : ∃ z, z = (plS p (x.take i)).1 := ⟨_, rfl⟩
      obtain ⟨z2, hz2⟩ : ∃ z, z = (plS p (x.take i)).2 := ⟨_, rfl⟩
      have HZ : Hid (∀ q, q = (if c = 10 then (z1 + 1, 1) else (z1, z2 + 1)) → plS p (x.take (i + 1)) = q) := fun q hq => by rw [HS.out, plS_snoc, hq, hz1, hz2]
      rw [← hz1, ← hz2] at HROW hpb
      have c0 := HROW.out.cell 0
      have c1 := HROW.out.cell 1
      have c2 := HROW.out.cell 2
      have f0 := HROW.out.free 0
      have f1 := HROW.out.free 1
      have f2 := HROW.out.free 2
      simp at c0 c1 c2
      have b1 := hpb.1
      have b2 := hpb.2.1
      have b3 : z1 ≤ 6000000 := by omega
      have b4 : z2 ≤ 6000000 := by omega
      clear hrow hz1 hz2 hc hpb
      by_cases h10 : c = 10
      · subst h10
        have hq : plS p (x.take (i + 1)) = (z1 + 1, 1) := HZ.out _ rfl
        have HQ := Lib.hid hq
        clear hq
        simp at hcell
        go_wp2_with fail
        go_roundw
        case rel =>
          refine ⟨i + 1, by omega, by go_num, ?_, ?_⟩
          · rw [HQ.out]
            have := ((HROW.out.set 2 (.int .i64 (z2 + 1))).set 1 (.int .i64 (z1 + 1))).set 2 (.int .i64 1)
            unfold TxR
            simpa using this
          · exact only_set (only_set (only_set HG.out 2 _) 1 _) 2 _
        case measure => simp [intOf]; omega
      · have hne : ((c.toNat : Int) == 10) = false := beq_eq_false_iff_ne.2 (fun h => h10 (UInt8.toNat_inj.1 (by simp only [UInt8.reduceToNat]; omega)))
        have hq : plS p (x.take (i + 1)) = (z1, z2 + 1) := HZ.out _ (by rw [if_neg h10])
        have HQ := Lib.hid hq
        clear hq h10
        go_wp2_with fail
        go_roundw
        case rel =>
          refine ⟨i + 1, by omega, by go_num, ?_, ?_⟩
          · rw [HQ.out]
            have := HROW.out.set 2 (.int .i64 (z2 + 1))
            unfold TxR
            simpa using this
          · exact only_set HG.out 2 _
        case measure => simp [intOf]; omega
    · obtain rfl : i = x.length := by omega
      rw [List.take_length] at hrow
      have HROW := Lib.hid hrow
      have c0 := hrow.cell 0
      have f0 := hrow.free 0
      simp at c0
      clear hrow hpb
      go_wp2_with fail
      go_end0
      have hd : (⟨(x ++ r).toArray⟩ : ByteArray).extract x.length (x.length + r.length) = ⟨r.toArray⟩ := by
        have := HD.out
        rw [List.length_append, List.drop_left] at this
        exact this
      rw [hd]
      refine ⟨rfl, ?_, ?_⟩
      · have := HROW.out.set 0 (.string ⟨r.toArray⟩)
        unfold TxR
        simpa using this
      · exact only_set ((show w.grownBy wb (some b) from ⟨HB.out.os, HB.out.tape, HB.out.output, HB.out.size, fun k hk _ => HB.out.block k hk⟩).trans HG.out) 0 _

end Go.Proofs.YtfajnflfonechaaDoor
