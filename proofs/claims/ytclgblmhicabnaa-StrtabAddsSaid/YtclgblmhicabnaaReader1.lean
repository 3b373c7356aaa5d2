/- DERIVED. The walks of the reader: Fail, take, number and what is made of them. -/
import Derived.Test.YtclgblmhicabnaaRows
import Derived.Test.YtclgblmhicabnaaRd
import Derived.Test.YtclgblmhicabnaaPuts2
namespace Go.Proofs.Ytclgblmhicabnaa
open Go.RowKit Crc Nums Rd

/-- Block p is a reader: what it has left lies in blocks below it. -/
def RD (w : World) (p : Nat) (s : St) : Prop :=
  ∃ A c, Row w p 84 #[.slice A s.1.length c, .int .i64 s.2] ∧ Lies w p A (bytesV s.1) ∧ s.1.length ≤ c ∧ c ≤ 9223372036854775807 ∧ (s.2 ≠ 0 → s.1 = [])

theorem RD.valid {w : World} {p : Nat} {s : St} (h : RD w p s) : s.2 ≠ 0 → s.1 = [] := by
  obtain ⟨A, c, _, _, _, _, hv⟩ := h
  exact hv
theorem RD.other {w w' : World} {p q : Nat} {s : St} (h : RD w p s) (hg : w.grownBy w' (some q)) (hpq : p < q) : RD w' p s := by
  obtain ⟨A, c, hr, hl, h1, h2⟩ := h
  have hlt := hr.lt
  refine ⟨A, c, hr.grown hg (by simp; omega), hl.keep fun a ha => World.cell?_of_block (hg.block a.block (by omega) (by simp; omega)), h1, h2⟩
theorem RD.below {w w' : World} {p B : Nat} {s : St} (h : RD w p s) (hb : Below B w w') (hp : p < B) : RD w' p s := by
  obtain ⟨A, c, hr, hl, h1, h2⟩ := h
  exact ⟨A, c, hr.below hb hp, hl.keep fun a ha => hb.cell (by omega), h1, h2⟩
theorem RD.lt {w : World} {p : Nat} {s : St} (h : RD w p s) : p < w.heap.size := by
  obtain ⟨A, c, hr, _⟩ := h
  exact hr.lt

theorem fail_id {e : Int} {s : St} (h : s.2 ≠ 0 ∨ e = 0) : fail e s = s := by
  unfold fail
  rw [if_neg]
  rintro ⟨h1, h2⟩
  rcases h with h | h
  · exact h h1
  · exact h2 h
theorem fail_do {e : Int} {s : St} (h1 : s.2 = 0) (h2 : e ≠ 0) : fail e s = ([], e) := by
  unfold fail
  rw [if_pos ⟨h1, h2⟩]

/-- A reader that has given up. -/
theorem RD.gone {w : World} {p : Nat} {s : St} {e : Int} (h : RD w p s) : RD ((w.setCell ⟨p, 0, none⟩ (.slice none 0 0)).setCell ⟨p, 1, none⟩ (.int .i64 e)) p ([], e) := by
  obtain ⟨A, c, hr, hl, h1, h2⟩ := h
  refine ⟨none, 0, ?_, Lies.none_, Nat.le_refl _, by omega, fun _ => rfl⟩
  have := (hr.set 0 (.slice none 0 0)).set 1 (.int .i64 e)
  exact this

set_option maxRecDepth 100000 in
set_option maxHeartbeats 1000000 in
theorem Fail_any (p : Nat) (e : Int) (s : St) (w : World) (h : RD w p s) :
    Calls Try.prog 51 #[.pointer (some ⟨p, 0, none⟩), .int .i64 e] w fun en w' => en = .returned (.tuple #[]) ∧ RD w' p (fail e s) ∧ w.grownBy w' (some p) := by
  have HH := Lib.hid h
  obtain ⟨A, c, hr, _, _, _, _⟩ := h
  have c0 := hr.cell 0
  have c1 := hr.cell 1
  have f0 := hr.free 0
  have f1 := hr.free 1
  simp at c0 c1
  clear hr
  by_cases he : s.2 = 0
  · have t0 : (s.2 == 0) = true := by rw [he]; rfl
    by_cases hz : e = 0
    · have t1 : (e != 0) = false := by rw [hz]; rfl
      have HS := Lib.hid (fail_id (e := e) (s := s) (.inr hz))
      clear he hz
      go_enter Try.func51, Try.ntmps51
      go_wp2_with fail
      go_end0
      exact ⟨rfl, by rw [HS.out]; exact HH.out, only_refl _ _⟩
    · have t1 : (e != 0) = true := bne_iff_ne.2 hz
      have HS := Lib.hid (fail_do he hz)
      clear he hz
      go_enter Try.func51, Try.ntmps51
      go_wp2_with fail
      go_end0
      exact ⟨rfl, by rw [HS.out]; exact HH.out.gone, only_set (only_set (only_refl _ _) _ _) _ _⟩
  · have t0 : (s.2 == 0) = false := beq_eq_false_iff_ne.2 he
    have HS := Lib.hid (fail_id (e := e) (s := s) (.inl he))
    clear he
    go_enter Try.func51, Try.ntmps51
    go_wp2_with fail
    go_end0
    exact ⟨rfl, by rw [HS.out]; exact HH.out, only_refl _ _⟩

/-- What a call that reads from reader p hands back and leaves. -/
def Took (w : World) (p : Nat) (l : List UInt8) (s : St) (en : Ending) (w' : World) : Prop :=
  ∃ A c, en = .returned (.slice A l.length c) ∧ Lies w' p A (bytesV l) ∧ RD w' p s ∧ w.grownBy w' (some p)

theorem take_short {n : Nat} {s : St} (h : s.1.length < n) : take_ n s = ([], fail 1 s) := by unfold take_; rw [if_pos h]
theorem take_long {n : Nat} {s : St} (h : ¬ s.1.length < n) : take_ n s = (s.1.take n, (s.1.drop n, s.2)) := by unfold take_; rw [if_neg h]

theorem took_ok {w : World} {p n c : Nat} {s : St} {A : Option Addr} (hr : Row w p 84 #[.slice A s.1.length c, .int .i64 s.2]) (hl : Lies w p A (bytesV s.1)) (h1 : s.1.length ≤ c) (h2 : c ≤ 9223372036854775807) (hval : s.2 ≠ 0 → s.1 = []) (hn : ¬ s.1.length < n) :
    Took w p (s.1.take n) (s.1.drop n, s.2) (.returned (.slice A n c)) (w.setCell ⟨p, 0, none⟩ (.slice (if c = n then A else A.map (·.add n)) (s.1.length - n) (c - n))) := by
  have hlen : (s.1.take n).length = n := by rw [List.length_take]; omega
  refine ⟨A, c, by rw [hlen], ?_, ⟨if c = n then A else A.map (·.add n), c - n, ?_, ?_, ?_, by omega, fun hz => by rw [hval hz]; simp⟩, only_set (only_refl _ _) _ _⟩
  · rw [← bytesV_take]
    exact (hl.take n).store (Nat.le_refl _) _ _
  · have := hr.set 0 (.slice (if c = n then A else A.map (·.add n)) (s.1.length - n) (c - n))
    rw [List.length_drop]
    exact this
  · refine Lies.store ?_ (Nat.le_refl _) _ _
    rw [← bytesV_drop]
    by_cases hc : c = n
    · have : (bytesV s.1).drop n = [] := List.drop_eq_nil_of_le (by rw [bytesV_length]; omega)
      rw [this]
      exact Lies.none_
    · rw [if_neg hc]
      exact hl.drop n
  · rw [List.length_drop]; omega

set_option maxRecDepth 100000 in
set_option maxHeartbeats 1000000 in
theorem take_any (p n : Nat) (s : St) (w : World) (h : RD w p s) (hn : n < 18446744073709551616) :
    Calls Try.prog 53 #[.pointer (some ⟨p, 0, none⟩), .int .u64 n] w (Took w p (take_ n s).1 (take_ n s).2) := by
  have HH := Lib.hid h
  obtain ⟨A, c, hr, hl, h1, h2, hval⟩ := h
  have c0 := hr.cell 0
  have c1 := hr.cell 1
  have f0 := hr.free 0
  have f1 := hr.free 1
  simp at c0 c1
  have HR := Lib.hid hr
  have HL := Lib.hid hl
  have HV := Lib.hid hval
  clear hr hl hval
  by_cases hlt : s.1.length < n
  · have HT := Lib.hid (take_short hlt)
    go_enter Try.func53, Try.ntmps53
    go_wp2_with (go_at_call 51; refine (Fail_any p 1 s w HH.out).mono ?_; rintro e w1 ⟨rfl, hR1, hG1⟩)
    go_ret
    rw [HT.out]
    exact ⟨none, 0, rfl, Lies.none_, hR1, hG1⟩
  · have HT := Lib.hid (take_long hlt)
    have HK := fun n hn => Lib.hid (took_ok (n := n) HR.out HL.out h1 h2 HV.out hn)
    go_enter Try.func53, Try.ntmps53
    by_cases hcn : c = n
    · subst hcn
      go_wp2_with fail
      go_ret
      rw [HT.out]
      have := (HK c hlt).out
      have e : s.1.length - c = 0 := by omega
      rw [if_pos rfl, e, Nat.sub_self] at this
      exact this
    · go_wp2_with fail
      go_ret
      rw [HT.out]
      have := (HK n hlt).out
      rw [if_neg hcn] at this
      exact this

theorem le_next (l : List UInt8) (i : Nat) (hi : i < l.length) (h4 : i < 4) :
    bits BinOp.or IntKind.u32 (le (l.take i) : Nat) (((l[i]).toNat : Int) * 2 ^ (8 * i) % 4294967296) = ((le (l.take (i + 1)) : Nat) : Int) := by
  have hc := (l[i]).toNat_lt
  have hl := le_lt (l.take i)
  rw [List.length_take, Nat.min_eq_left (by omega)] at hl
  have e256 : (256 : Nat) ^ i = 2 ^ (8 * i) := by rw [Nat.pow_mul]
  have hp : (2 : Nat) ^ (8 * i) ≤ 2 ^ 24 := Nat.pow_le_pow_right (by omega) (by omega)
  have hm : (l[i]).toNat * 2 ^ (8 * i) < 4294967296 := by
    have : (l[i]).toNat * 2 ^ (8 * i) ≤ 255 * 2 ^ 24 := Nat.mul_le_mul (by omega) hp
    omega
  have e1 : (((l[i]).toNat : Int) * 2 ^ (8 * i) % 4294967296) = (((l[i]).toNat * 2 ^ (8 * i) : Nat) : Int) := by
    have h3 : (((2 ^ (8 * i) : Nat) : Int)) = (2 : Int) ^ (8 * i) := Int.natCast_pow 2 _
    rw [← h3, ← Int.natCast_mul]
    omega
  have hl2 : le (l.take i) < 4294967296 := by rw [e256] at hl; omega
  have e2 := u32_or_nat (le (l.take i)) ((l[i]).toNat * 2 ^ (8 * i)) hl2 hm
  rw [e1, e2]
  congr 1
  rw [e256] at hl
  rw [List.take_succ_eq_append_getElem hi, le_append, List.length_take, Nat.min_eq_left (by omega), e256]
  have e3 := Nat.two_pow_add_eq_or_of_lt hl (l[i]).toNat
  rw [Nat.or_comm, Nat.mul_comm, ← e3]
  simp [le]
  omega

def Numbered (w : World) (p : Nat) (k : IntKind) (x : Nat) (s : St) (en : Ending) (w' : World) : Prop :=
  en = .returned (.int k (x : Int)) ∧ RD w' p s ∧ w.grownBy w' (some p)

set_option maxRecDepth 100000 in
set_option maxHeartbeats 1000000 in
theorem number_any (p n : Nat) (s : St) (w : World) (h : RD w p s) (hn : n ≤ 4) :
    Calls Try.prog 54 #[.pointer (some ⟨p, 0, none⟩), .int .u64 n] w (Numbered w p .u32 (num n s).1 (num n s).2) := by
  have HH := Lib.hid h
  clear h
  go_enter Try.func54, Try.ntmps54
  go_wp2_with fail
  refine (take_any p n s w HH.out (by omega)).mono ?_
  rintro e w1 ⟨A, c, rfl, hl, hR, hG⟩
  have hlen := take_length n s
  obtain ⟨l, hld⟩ : ∃ l, l = (take_ n s).1 := ⟨_, rfl⟩
  rw [← hld] at hl hlen ⊢
  have HLD := Lib.hid hld
  have HL := Lib.hid hl
  have HR := Lib.hid hR
  have HG := Lib.hid hG
  clear hld hl hR hG
  go_wp2_with fail
  go_loop [5, 12] (fun v k => ∃ i : Nat, i ≤ l.length ∧ k = .int .i64 i ∧ v = .int .u32 (le (l.take i) : Nat)) (fun _ k => l.length - (intOf k).toNat)
  case atStart => exact ⟨0, by omega, rfl, rfl⟩
  case round =>
    obtain ⟨i, hi, rfl, rfl⟩ := hrel
    by_cases hlt : i < l.length
    · obtain ⟨b, off, rfl, hb, hc⟩ := HL.out.at_ (bytesV_get l i hlt)
      have hcl := (l[i]).toNat_lt
      have hnx := le_next l i hlt (by omega)
      go_wp2
      go_round
      case rel => exact ⟨i + 1, by omega, by go_num, rfl⟩
      case measure => simp [intOf]; omega
    · go_wp2
      go_ret
      have : l.take i = l := List.take_of_length_le (by omega)
      rw [this]
      refine ⟨?_, HR.out, HG.out⟩
      rw [HLD.out]
      rfl

theorem num1_lt (s : St) : (num 1 s).1 < 256 := by simpa using num_lt 1 s
theorem num2_lt (s : St) : (num 2 s).1 < 65536 := by simpa using num_lt 2 s
theorem num4_lt (s : St) : (num 4 s).1 < 4294967296 := by simpa using num_lt 4 s

set_option maxRecDepth 100000 in
set_option maxHeartbeats 1000000 in
theorem Byte_any (p : Nat) (s : St) (w : World) (h : RD w p s) :
    Calls Try.prog 46 #[.pointer (some ⟨p, 0, none⟩)] w (Numbered w p .u8 (num 1 s).1 (num 1 s).2) := by
  have hlt := num1_lt s
  have HN := Lib.hid (number_any p 1 s w h (by omega))
  clear h
  go_enter Try.func46, Try.ntmps46
  go_wp2_with fail
  refine HN.out.mono ?_
  rintro e w1 ⟨rfl, hR, hG⟩
  go_wp2_with fail
  go_ret
  exact ⟨rfl, hR, hG⟩

set_option maxRecDepth 100000 in
set_option maxHeartbeats 1000000 in
theorem U16_any (p : Nat) (s : St) (w : World) (h : RD w p s) :
    Calls Try.prog 28 #[.pointer (some ⟨p, 0, none⟩)] w (Numbered w p .u16 (num 2 s).1 (num 2 s).2) := by
  have hlt := num2_lt s
  have HN := Lib.hid (number_any p 2 s w h (by omega))
  clear h
  go_enter Try.func28, Try.ntmps28
  go_wp2_with fail
  refine HN.out.mono ?_
  rintro e w1 ⟨rfl, hR, hG⟩
  go_wp2_with fail
  go_ret
  exact ⟨rfl, hR, hG⟩

set_option maxRecDepth 100000 in
set_option maxHeartbeats 1000000 in
theorem U32_any (p : Nat) (s : St) (w : World) (h : RD w p s) :
    Calls Try.prog 29 #[.pointer (some ⟨p, 0, none⟩)] w (Numbered w p .u32 (num 4 s).1 (num 4 s).2) := by
  have hlt := num4_lt s
  have HN := Lib.hid (number_any p 4 s w h (by omega))
  clear h
  go_enter Try.func29, Try.ntmps29
  go_wp2_with fail
  refine HN.out.mono ?_
  rintro e w1 ⟨rfl, hR, hG⟩
  go_wp2_with fail
  go_ret
  exact ⟨rfl, hR, hG⟩

set_option maxRecDepth 100000 in
set_option maxHeartbeats 1000000 in
theorem Left_any (p : Nat) (s : St) (w : World) (h : RD w p s) :
    Calls Try.prog 23 #[.pointer (some ⟨p, 0, none⟩)] w fun e w' => e = .returned (.int .i64 s.1.length) ∧ w = w' := by
  obtain ⟨A, c, hr, _, h1, h2, _⟩ := h
  have c0 := hr.cell 0
  simp at c0
  clear hr
  go_enter Try.func23, Try.ntmps23
  go_wp2_with fail
  go_ret
  exact ⟨rfl, rfl⟩

set_option maxRecDepth 100000 in
set_option maxHeartbeats 1000000 in
theorem Err_any (p : Nat) (s : St) (w : World) (h : RD w p s) :
    Calls Try.prog 24 #[.pointer (some ⟨p, 0, none⟩)] w fun e w' => e = .returned (.int .i64 s.2) ∧ w = w' := by
  obtain ⟨A, c, hr, _, h1, h2, _⟩ := h
  have c1 := hr.cell 1
  simp at c1
  clear hr
  go_enter Try.func24, Try.ntmps24
  go_wp2_with fail
  go_ret
  exact ⟨rfl, rfl⟩

/-- What End tells. -/
def endOf (s : St) : Int := if 0 < s.1.length then 2 else s.2

set_option maxRecDepth 100000 in
set_option maxHeartbeats 1000000 in
theorem End_any (p : Nat) (s : St) (w : World) (h : RD w p s) :
    Calls Try.prog 25 #[.pointer (some ⟨p, 0, none⟩)] w fun e w' => e = .returned (.int .i64 (endOf s)) ∧ w = w' := by
  have HL := Lib.hid (Left_any p s w h)
  obtain ⟨A, c, hr, _, h1, h2, _⟩ := h
  have c1 := hr.cell 1
  simp at c1
  clear hr
  by_cases h0 : 0 < s.1.length
  · have HE : Hid (endOf s = 2) := by unfold endOf Hid; rw [if_pos h0]
    go_enter Try.func25, Try.ntmps25
    go_wp2_with (go_at_call 23; refine HL.out.mono ?_; rintro e w1 ⟨rfl, rfl⟩)
    go_ret
    exact ⟨by rw [HE.out]; rfl, rfl⟩
  · have HE : Hid (endOf s = s.2) := by unfold endOf Hid; rw [if_neg h0]
    go_enter Try.func25, Try.ntmps25
    go_wp2_with (go_at_call 23; refine HL.out.mono ?_; rintro e w1 ⟨rfl, rfl⟩)
    go_ret
    exact ⟨by rw [HE.out]; rfl, rfl⟩

end Go.Proofs.Ytclgblmhicabnaa
