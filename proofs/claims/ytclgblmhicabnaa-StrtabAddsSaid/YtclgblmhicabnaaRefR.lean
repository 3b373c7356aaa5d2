/- DERIVED. The walks of the document's own reader. -/
import Derived.Test.YtclgblmhicabnaaReader3
import Derived.Test.YtclgblmhicabnaaRefs
namespace Go.Proofs.Ytclgblmhicabnaa
open Go.RowKit Crc Nums Rd

/-- Block p is the document's reader. -/
def RF (w : World) (p : Nat) (s : St) : Prop :=
  Row w p 44 #[.string ⟨s.1.toArray⟩, .int .i64 s.2] ∧ s.1.length ≤ 1099511627776 ∧ (s.2 ≠ 0 → s.1 = [])

theorem RF.lt {w : World} {p : Nat} {s : St} (h : RF w p s) : p < w.heap.size := h.1.lt
theorem RF.other {w w' : World} {p q : Nat} {s : St} (h : RF w p s) (hg : w.grownBy w' (some q)) (hpq : p ≠ q) : RF w' p s :=
  ⟨h.1.grown hg (by simp; omega), h.2⟩
theorem RF.below {w w' : World} {p B : Nat} {s : St} (h : RF w p s) (hb : Below B w w') (hp : p < B) : RF w' p s := ⟨h.1.below hb hp, h.2⟩
theorem RF.gone {w : World} {p : Nat} {s : St} {e : Int} (h : RF w p s) : RF ((w.setCell ⟨p, 1, none⟩ (.int .i64 e)).setCell ⟨p, 0, none⟩ (.string ⟨#[]⟩)) p ([], e) := by
  refine ⟨?_, by simp, fun _ => rfl⟩
  have := (h.1.set 1 (.int .i64 e)).set 0 (.string ⟨#[]⟩)
  exact this

set_option maxRecDepth 100000 in
set_option maxHeartbeats 1000000 in
theorem refFail_any (p : Nat) (e : Int) (s : St) (w : World) (h : RF w p s) :
    Calls Try.prog 52 #[.pointer (some ⟨p, 0, none⟩), .int .i64 e] w fun en w' => en = .returned (.tuple #[]) ∧ RF w' p (fail e s) ∧ w.grownBy w' (some p) := by
  have HH := Lib.hid h
  obtain ⟨hr, _, _⟩ := h
  have c0 := hr.cell 0
  have c1 := hr.cell 1
  have f0 := hr.free 0
  have f1 := hr.free 1
  simp at c0 c1
  clear hr
  by_cases he : s.2 = 0
  · have t0 : (s.2 == 0) = true := by rw [he]; rfl
    by_cases hz : e = 0
    · have t1 : (e != 0) = false := by rw [hz]; rfl
      have HS := Lib.hid (fail_id (e := e) (s := s) (.inr hz))
      clear he hz
      go_enter Try.func52, Try.ntmps52
      go_wp2_with fail
      go_end0
      exact ⟨rfl, by rw [HS.out]; exact HH.out, only_refl _ _⟩
    · have t1 : (e != 0) = true := bne_iff_ne.2 hz
      have HS := Lib.hid (fail_do he hz)
      clear he hz
      go_enter Try.func52, Try.ntmps52
      go_wp2_with fail
      go_end0
      exact ⟨rfl, by rw [HS.out]; exact HH.out.gone, only_set (only_set (only_refl _ _) _ _) _ _⟩
  · have t0 : (s.2 == 0) = false := beq_eq_false_iff_ne.2 he
    have HS := Lib.hid (fail_id (e := e) (s := s) (.inl he))
    clear he
    go_enter Try.func52, Try.ntmps52
    go_wp2_with fail
    go_end0
    exact ⟨rfl, by rw [HS.out]; exact HH.out, only_refl _ _⟩

theorem Str.extract_mk' (l : List UInt8) (a b : Nat) : (⟨l.toArray⟩ : ByteArray).extract a b = ⟨((l.drop a).take (b - a)).toArray⟩ := by
  apply ByteArray.ext
  simp [ByteArray.data_extract]

/-- A run of bytes, handed back as a string. -/
def Got_ (w : World) (p : Nat) (l : List UInt8) (s : St) (en : Ending) (w' : World) : Prop :=
  en = .returned (.string ⟨l.toArray⟩) ∧ RF w' p s ∧ w.grownBy w' (some p)

set_option maxRecDepth 100000 in
set_option maxHeartbeats 1000000 in
theorem refRaw_any (p n : Nat) (s : St) (w : World) (h : RF w p s) (hn : n < 18446744073709551616) :
    Calls Try.prog 59 #[.pointer (some ⟨p, 0, none⟩), .int .u64 n] w (Got_ w p (take_ n s).1 (take_ n s).2) := by
  have HH := Lib.hid h
  obtain ⟨hr, hl, hv⟩ := h
  have c0 := hr.cell 0
  have c1 := hr.cell 1
  have f0 := hr.free 0
  have f1 := hr.free 1
  simp at c0 c1
  have hlen : (⟨s.1.toArray⟩ : ByteArray).size = s.1.length := by simp [ByteArray.size]
  obtain ⟨S, hS⟩ : ∃ S : ByteArray, S = ⟨s.1.toArray⟩ := ⟨_, rfl⟩
  rw [← hS] at hlen c0
  have HS := Lib.hid hS
  have HV := Lib.hid hv
  clear hr hv hS
  have hlen' : S.size ≤ 1099511627776 := by omega
  have HL := Lib.hid hlen
  by_cases hlt : S.size < n
  · have HT := Lib.hid (take_short (n := n) (s := s) (by omega))
    clear hlen hl
    have hne : (fail 1 s).2 ≠ 0 := fail_ne (by omega)
    have HF := Lib.hid (refFail_any p 1 s w HH.out)
    obtain ⟨u, hu⟩ : ∃ u, u = fail 1 s := ⟨_, rfl⟩
    rw [← hu] at HF HT hne
    have t0 : (u.2 != 0) = true := bne_iff_ne.2 hne
    clear hne hu
    go_enter Try.func59, Try.ntmps59
    go_wp2_with fail
    refine HF.out.mono ?_
    rintro e w1 ⟨rfl, hR1, hG1⟩
    have d1 := hR1.1.cell 1
    simp at d1
    have HR1 := Lib.hid hR1
    have HG1 := Lib.hid hG1
    clear hR1 hG1
    go_wp2_with fail
    go_ret
    rw [HT.out]
    exact ⟨rfl, HR1.out, HG1.out⟩
  · have HT := Lib.hid (take_long (n := n) (s := s) (by omega))
    clear hlen hl
    by_cases he : s.2 = 0
    · have t0 : (s.2 != 0) = false := by rw [he]; rfl
      clear he
      go_enter Try.func59, Try.ntmps59
      go_wp2_with fail
      go_ret
      have e1 : S.extract 0 n = ⟨(s.1.take n).toArray⟩ := by rw [HS.out]; exact (Str.extract_mk' s.1 0 n).trans (by simp)
      have e2 : S.extract n S.size = ⟨(s.1.drop n).toArray⟩ := by
        rw [HL.out, HS.out]
        refine (Str.extract_mk' s.1 n s.1.length).trans ?_
        rw [List.take_of_length_le (by simp)]
      rw [HT.out, e2]
      refine ⟨?_, ⟨?_, ?_, fun hz => by rw [HV.out hz]; simp⟩, only_set (only_refl _ _) _ _⟩
      · show Ending.returned (.string (S.extract 0 n)) = _
        rw [e1]
      · exact HH.out.1.set 0 _
      · simp only [List.length_drop]
        have := HL.out
        omega
    · have t0 : (s.2 != 0) = true := bne_iff_ne.2 he
      have HE := Lib.hid (HV.out he)
      clear he
      go_enter Try.func59, Try.ntmps59
      go_wp2_with fail
      go_ret
      rw [HT.out, HE.out, List.take_nil, List.drop_nil]
      have := HH.out
      rw [show s = (s.1, s.2) from rfl, HE.out] at this
      exact ⟨rfl, this, only_refl _ _⟩

/-- A number, handed back. -/
def Counted (w : World) (p : Nat) (x : Nat) (s : St) (en : Ending) (w' : World) : Prop :=
  en = .returned (.int .u64 (x : Int)) ∧ RF w' p s ∧ w.grownBy w' (some p)

theorem le_drop (l : List UInt8) (j : Nat) (h : j < l.length) : le (l.drop j) = (l[j]).toNat + 256 * le (l.drop (j + 1)) := by
  rw [List.drop_eq_getElem_cons h, le]
theorem le_drop_lt (l : List UInt8) (j : Nat) (h : l.length ≤ 4) : le (l.drop j) < 4294967296 := by
  have h1 := le_lt (l.drop j)
  have h2 : 256 ^ (l.drop j).length ≤ 256 ^ 4 := Nat.pow_le_pow_right (by omega) (by rw [List.length_drop]; omega)
  omega

set_option maxRecDepth 100000 in
set_option maxHeartbeats 1000000 in
theorem refNum_any (p n : Nat) (s : St) (w : World) (h : RF w p s) (hn : n ≤ 4) :
    Calls Try.prog 47 #[.pointer (some ⟨p, 0, none⟩), .int .u64 n] w (Counted w p (num n s).1 (num n s).2) := by
  have HR := Lib.hid (refRaw_any p n s w h (by omega))
  have hl := take_length n s
  unfold Rd.num
  obtain ⟨l, hl2⟩ : ∃ l, l = (take_ n s).1 := ⟨_, rfl⟩
  obtain ⟨u, hu⟩ : ∃ u, u = (take_ n s).2 := ⟨_, rfl⟩
  rw [← hl2, ← hu] at HR ⊢
  rw [← hl2] at hl
  have hl4 : l.length ≤ 4 := by omega
  obtain ⟨S, hS⟩ : ∃ S : ByteArray, S = ⟨l.toArray⟩ := ⟨_, rfl⟩
  have hlen : S.size = l.length := by rw [hS]; simp [ByteArray.size]
  have hget : ∀ (j : Nat) (h1 : j < S.size) (h2 : j < l.length), (S[j]).toNat = (l[j]).toNat := by subst hS; intro j _ _; rfl
  clear h hl2 hu hl
  go_enter Try.func47, Try.ntmps47
  go_wp2_with fail
  refine HR.out.mono ?_
  rintro e w1 ⟨rfl, hF, hG⟩
  rw [← hS]
  have HS := Lib.hid hS
  have HF := Lib.hid hF
  have HG := Lib.hid hG
  have HGet := Lib.hid hget
  have HLen := Lib.hid hlen
  have hs4 : S.size ≤ 4 := by omega
  clear hF hG hS hget hlen
  go_wp2_with fail
  go_loop [6, 7] (fun v k => ∃ j : Nat, j ≤ S.size ∧ k = .int .i64 ((j : Int) - 1) ∧ v = .int .u64 (le (l.drop j) : Nat)) (fun _ k => (intOf k + 1).toNat)
  case atStart => exact ⟨S.size, by omega, rfl, by rw [HLen.out, List.drop_length]; rfl⟩
  case round =>
    obtain ⟨j, hj, rfl, rfl⟩ := hrel
    cases j with
    | zero =>
      go_wp2_with fail
      go_ret
      exact ⟨rfl, HF.out, HG.out⟩
    | succ j =>
      have hjl : j < l.length := by have := HLen.out; omega
      have hd := le_drop l j hjl
      have hb := le_drop_lt l j hl4
      rw [← HGet.out j hj hjl] at hd
      obtain ⟨x, hx⟩ : ∃ x, x = le (l.drop (j + 1)) := ⟨_, rfl⟩
      obtain ⟨y, hy⟩ : ∃ y, y = le (l.drop j) := ⟨_, rfl⟩
      rw [← hx] at hd ⊢
      rw [← hy] at hd hb
      have HY := Lib.hid hy
      clear hx hy
      have e1 : (((j + 1 : Nat) : Int) - 1) = (j : Int) := by omega
      rw [e1]
      clear e1
      have hc := (S[j]).toNat_lt
      go_wp2_with fail
      go_round
      case rel => exact ⟨j, by omega, by go_num, by rw [← HY.out]; exact congrArg _ (by omega)⟩
      case measure => simp [intOf]

set_option maxRecDepth 100000 in
set_option maxHeartbeats 1000000 in
theorem refEnd_any (p : Nat) (s : St) (w : World) (h : RF w p s) :
    Calls Try.prog 26 #[.pointer (some ⟨p, 0, none⟩)] w fun e w' => e = .returned (.int .i64 (endOf s)) ∧ w = w' := by
  obtain ⟨hr, hl, hv⟩ := h
  have c0 := hr.cell 0
  have c1 := hr.cell 1
  simp at c0 c1
  obtain ⟨S, hS⟩ : ∃ S : ByteArray, S = ⟨s.1.toArray⟩ := ⟨_, rfl⟩
  rw [← hS] at c0
  clear hr
  by_cases he : s.2 = 0
  · have t0 : (s.2 == 0) = true := by rw [he]; rfl
    have hSl : S.toList = s.1 := by rw [ByteArray.toList_eq, hS]
    by_cases hz : s.1 = []
    · have t1 : S.toList.isEmpty = true := by rw [hSl, hz]; rfl
      have HE : Hid (endOf s = s.2) := Lib.hid (by unfold endOf; rw [if_neg (by rw [hz]; simp)])
      clear he hz hv hS hSl
      go_enter Try.func26, Try.ntmps26
      go_wp2_with fail
      go_ret
      rw [HE.out]
      exact ⟨rfl, rfl⟩
    · have t1 : S.toList.isEmpty = false := by rw [hSl]; exact List.isEmpty_eq_false_iff.2 hz
      have HE : Hid (endOf s = 2) := Lib.hid (by unfold endOf; rw [if_pos (List.length_pos_iff.2 hz)])
      clear he hz hv hS hSl
      go_enter Try.func26, Try.ntmps26
      go_wp2_with fail
      go_ret
      rw [HE.out]
      exact ⟨rfl, rfl⟩
  · have t0 : (s.2 == 0) = false := beq_eq_false_iff_ne.2 he
    have HE : Hid (endOf s = s.2) := Lib.hid (by unfold endOf; rw [if_neg (by rw [hv he]; simp)])
    clear he hv hS
    go_enter Try.func26, Try.ntmps26
    go_wp2_with fail
    go_ret
    rw [HE.out]
    exact ⟨rfl, rfl⟩

end Go.Proofs.Ytclgblmhicabnaa
