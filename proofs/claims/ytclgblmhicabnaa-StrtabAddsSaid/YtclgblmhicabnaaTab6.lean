/- DERIVED. StrtabAdds: the law. -/
import Derived.Test.YtclgblmhicabnaaTab5
namespace Go.Proofs.Ytclgblmhicabnaa
open Go.RowKit Crc Nums Rd
attribute [local go_sem] Tame.Op Tame.upon

/-- What stands between two rounds: the table, the document's list, what lay before. -/
def Both (H0 : Nat) (W : World) (p : Nat) (xs : List T) (A : Option Addr) (w : World) : Prop :=
  (∃ w0, TB w0 H0 p xs ∧ Below w0.heap.size w0 w ∧ (xs ≠ [] → ∀ a, A = some a → w0.heap.size ≤ a.block)) ∧ Lies w w.heap.size A (txts xs) ∧ Past H0 W w

theorem Both.tab {H0 p : Nat} {W w : World} {xs : List T} {A : Option Addr} (h : Both H0 W p xs A w) : TB w H0 p xs := by
  obtain ⟨⟨w0, h0, h1, _⟩, _⟩ := h
  exact h0.later h1
theorem Both.later {H0 p : Nat} {W w w' : World} {xs : List T} {A : Option Addr} (h : Both H0 W p xs A w) (hl : Below w.heap.size w w') : Both H0 W p xs A w' := by
  obtain ⟨⟨w0, h0, h1, h2⟩, h3, h4⟩ := h
  exact ⟨⟨w0, h0, h1.trans (hl.mono h1.size), h2⟩, (h3.below hl).more hl.size, Past.later hl h4⟩

theorem Both.step {H0 p : Nat} {W w w1 w2 : World} {xs ys : List T} {A A' : Option Addr} (h : Both H0 W p xs A w)
    (hT : TB w1 H0 p ys) (hB : Below H0 w w1) (hsame : ys = xs → w = w1) (hl : Lies w2 w2.heap.size A' (txts ys)) (hb : Below w1.heap.size w1 w2)
    (he : ys = xs → A' = A) (hne : ys ≠ xs → ∀ a, A' = some a → w1.heap.size ≤ a.block) : Both H0 W p ys A' w2 := by
  obtain ⟨⟨w0, h0, h1, h2⟩, h3, h4⟩ := h
  by_cases e : ys = xs
  · have e1 := hsame e
    subst e1
    have e2 := he e
    subst e2
    subst e
    exact ⟨⟨w0, h0, h1.trans (hb.mono h1.size), h2⟩, hl, Past.later hb h4⟩
  · refine ⟨⟨w1, hT, hb, fun _ a ha => hne e a ha⟩, hl, Past.later hb ⟨h4.1.trans hB, Nat.le_trans h4.2 hB.size⟩⟩

/-- Behind the table's Add the document's list is as it was. -/
theorem Both.list {H0 p : Nat} {W w w1 : World} {xs : List T} {A : Option Addr} (h : Both H0 W p xs A w) (hv : ∀ w0, TB w0 H0 p xs → Below w0.heap.size w0 w → Between w0.heap.size w w1) (hs : w.heap.size ≤ w1.heap.size) : Lies w1 w1.heap.size A (txts xs) := by
  obtain ⟨⟨w0, h0, h1, h2⟩, h3, h4⟩ := h
  exact (hv w0 h0 h1).lies hs h3 (fun a ha hn => h2 (by rintro rfl; exact hn rfl) a ha)

theorem addX_short {xs : List T} {l : T} (h : ∀ x ∈ xs, x.length ≤ 65535) : ∀ x ∈ (addX xs l).1, x.length ≤ 65535 := by
  unfold addX
  split
  · exact h
  · split
    · exact h
    · rename_i h1 h2
      intro x hx
      rw [List.mem_append] at hx
      rcases hx with hx | hx
      · exact h x hx
      · simp at hx; subst hx; omega
theorem addX_length (xs : List T) (l : T) : (addX xs l).1.length ≤ xs.length + 1 := by
  unfold addX
  split
  · show xs.length ≤ _; omega
  · split
    · show xs.length ≤ _; omega
    · show (xs ++ [l]).length ≤ _; simp

theorem zeros_own {w : World} {B g n : Nat} (h : w.ownsRow B 5 1 (.slice (some ⟨g, 0, none⟩) n n) n (madeCells (Value.int .u8 0).cells (n * 1)).toList) : Owns w B 5 (.slice (some ⟨g, 0, none⟩) n n) (bytesV (List.replicate n 0)) := by
  have e : (madeCells (Value.int .u8 0).cells (n * 1)).toList = bytesV (List.replicate n 0) := by
    show (madeCells #[.int .u8 0] (n * 1)).toList = _
    rw [toList_madeCells_one]
    simp [bytesV, byteV]
  unfold Owns
  rw [← e]
  rw [show (madeCells (Value.int .u8 0).cells (n * 1)).toList.length = n by rw [h.1]; omega]
  exact h

theorem room_le {xs : List T} (h : ∀ x ∈ xs, x.length ≤ 65535) : room xs ≤ xs.length * 65546 := by
  unfold room
  induction xs with
  | nil => simp
  | cons a l ih =>
    have h1 := h a (by simp)
    have h2 := ih (fun x hx => h x (by simp [hx]))
    simp only [List.map_cons, List.sum_cons, List.length_cons]
    omega

def zzz : T := [122, 122, 122]

/-- What Get tells of a number. -/
def GotV (b : Bool) (v : Value) : Prop := ∃ s : ByteArray, v = .tuple #[.string s, .bool b]

/-- What is asked as a long text. -/
def longT (l : T) : T := List.replicate (65530 + l.length % 20) (l.headD 0)

set_option maxRecDepth 100000 in
set_option maxHeartbeats 8000000 in
theorem adds_main (A0 : Option Addr) (c0 : Nat) (ls : List T) (long i : Int) (w : World) (hA : Lies w w.heap.size A0 (txts ls)) (h1 : ls.length ≤ 60) (hs : ∀ x ∈ ls, x.length ≤ 9223372036854775807)
    (hlo : -9223372036854775808 ≤ i) (hhi : i ≤ 9223372036854775807) :
    Calls Try.prog 7 #[.slice A0 ls.length c0, .int .i64 long, .int .i64 i] w fun e w' => e = .returned (.bool true) ∧ Below w.heap.size w w' := by
  obtain ⟨i0, hi0, hz0, hz1, hz2⟩ := info_parts u8_info
  have HA := Lib.hid hA
  have HS := Lib.hid hs
  clear hA hs
  go_enter Try.func7, Try.ntmps7
  go_wp2_with (go_at_call 32; refine (New_any w).mono ?_; rintro e w1 ⟨p, rfl, hT, hB1⟩; have HT1 := Lib.hid hT; have HB1 := Lib.hid hB1; clear hT hB1)
  go_loopw [8, 9] (fun v k wr => ∃ (j : Nat) (xs : List T) (A : Option Addr) (c : Nat), j ≤ ls.length ∧ k = .int .i64 j ∧ xs.length ≤ j ∧ v = .slice A xs.length c ∧ Both w.heap.size w p xs A wr ∧ ∀ x ∈ xs, x.length ≤ 65535) (fun _ k _ => ls.length - (intOf k).toNat)
  case atStart => exact ⟨0, [], none, 0, by omega, rfl, by simp, rfl, ⟨⟨w1, HT1.out, Below.refl _ _, fun _ => fun a h => by cases h⟩, Lies.none_, HB1.out, HB1.out.size⟩, by simp⟩
  case round =>
    obtain ⟨j, xs, A, c, hj, rfl, hx, rfl, hBo, hsh⟩ := hrel
    have HBo := Lib.hid hBo
    have HSH := Lib.hid hsh
    clear hBo hsh HT1 HB1
    by_cases hlt : j < ls.length
    · have hl9 := HS.out _ (List.getElem_mem hlt)
      obtain ⟨g0, o0, rfl, hg0, hcell⟩ := (HA.out.below HBo.out.2.2.1).at_ (txts_get ls j hlt)
      unfold txt at hcell
      obtain ⟨l, hl⟩ : ∃ l, l = ls[j] := ⟨_, rfl⟩
      rw [← hl] at hcell hl9
      clear hl
      by_cases h300 : 300 < l.length
      · go_wp2_with fail
        go_ret
        exact ⟨rfl, HBo.out.2.2.1⟩
      · have h3 : l.length ≤ 300 := by omega
        clear h300 hl9
        by_cases hq : (j : Int) = long
        case' neg =>
          have t0 : ((j : Int) == long) = false := beq_eq_false_iff_ne.2 hq
          obtain ⟨m, rfl⟩ : ∃ m, m = l := ⟨_, rfl⟩
          have HM : Hid (m.length ≤ 65549) := Lib.hid (by omega)
          have HBc := HBo
          clear hq
          go_wp2_with fail
        case' pos =>
          subst hq
          by_cases hnil : l = []
          case' pos =>
            have te : l.isEmpty = true := by rw [hnil]; rfl
            obtain ⟨m, rfl⟩ : ∃ m, m = l := ⟨_, rfl⟩
            have HM : Hid (m.length ≤ 65549) := Lib.hid (by omega)
            have HBc := HBo
            clear hnil
            go_wp2_with fail
          case' neg =>
            have hpos : 0 < l.length := List.length_pos_iff.2 hnil
            have te : l.isEmpty = false := by simpa using hnil
            have HLT : Hid (longT l = List.replicate (65530 + l.length % 20) l[0]) := by
              show longT l = _
              unfold longT
              congr 1
              cases l with
              | nil => exact absurd rfl hnil
              | cons a r => rfl
            have hsz0 := HBo.out.2.2.2
            obtain ⟨M, hM⟩ : ∃ M : Nat, (65600 : Int) = M := ⟨65600, rfl⟩
            have HM0 := Lib.hid hM
            have hM1 : (M : Int) ≤ 65600 := by omega
            have hM2 : (65600 : Int) ≤ (M : Int) := by omega
            clear hnil hM
            go_wp2_with (at_make; go_must (refine wpList_make_full _ rfl _ _ 23 rfl wr.heap.size 5 i0 _ 1 Try.underlying23 hi0 hz0 hz1 .i64 .i64 65600 65600 M rfl rfl HM0.out HM0.out ?_ ?_ ?_ ?_; (focus (rw [hz2]; omega)); (focus (unfold maxLen; omega)); (focus (exact Nat.le_refl _)); intro w2 hO2 hG2; have HO2 : Hid (Owns w2 wr.heap.size 5 (.slice (some ⟨wr.heap.size, 0, none⟩) M M) (bytesV (List.replicate M 0))) := Lib.hid (zeros_own hO2); have HG2 : Hid (Below wr.heap.size wr w2) := Lib.hid (grown_below hG2 (Nat.le_refl _) (fun k hk => by cases hk)); clear hO2 hG2))
            obtain ⟨wo, rfl⟩ : ∃ wo : World, wo = wr := ⟨_, rfl⟩
            go_loopw [12] (fun k wi => ∃ (q : Nat) (L : T), q ≤ M ∧ k = .int .i64 q ∧ (M ≤ L.length ∧ L.length ≤ M) ∧ (∀ z (hz : z < L.length), z < q → L[z] = l[0]) ∧ Owns wi wo.heap.size 5 (.slice (some ⟨wo.heap.size, 0, none⟩) M M) (bytesV L) ∧ Below wo.heap.size wo wi) (fun k _ => M - (intOf k).toNat)
            case atStart => exact ⟨0, List.replicate M 0, by omega, rfl, ⟨by rw [List.length_replicate]; omega, by rw [List.length_replicate]; omega⟩, fun z hz h => by omega, HO2.out, HG2.out⟩
            case' round =>
              obtain ⟨q, L, hq, rfl, ⟨hL1, hL2⟩, hLe, hO, hG⟩ := hrel
              have HLE := Lib.hid hLe
              have HO := Lib.hid hO
              have HG := Lib.hid hG
              clear hLe hO hG
              by_cases hlq : q < M
              case' pos =>
                obtain ⟨b0, hc0⟩ : ∃ b0 : Int, wr.cell? ⟨wo.heap.size, q, none⟩ = some (.int .u8 b0) := ⟨_, by rw [HO.out.cell q (by rw [bytesV_length]; omega), bytesV_get L q (by omega)]⟩
                have hf0 := HO.out.free q
                have hst := Lib.hid (HO.out.store q (.int .u8 ((l[0]).toNat : Int)))
                have HL1 := Lib.hid hL1
                have HL2 := Lib.hid hL2
                have hq' : (q : Int) < (M : Int) := by omega
                have HLQ := Lib.hid hlq
                clear hL1 hL2 hlq hq
                go_wp2_with fail
                have hlq := HLQ.out
                refine ⟨⟨q + 1, L.set q l[0], by omega, by go_num, by rw [List.length_set]; exact ⟨HL1.out, HL2.out⟩, fun z hz h => ?_, ?_, ?_⟩, by simp [intOf]; omega⟩
                · rw [List.getElem_set]
                  split
                  · rfl
                  · exact HLE.out z (by rw [List.length_set] at hz; exact hz) (by omega)
                · have := hst.out
                  rw [bytesV_set] at this
                  exact this
                · exact HG.out.setCell (p := ⟨wo.heap.size, q, none⟩) (Nat.le_refl _) _
              case' neg =>
                have HL : Hid (L.take (65530 + l.length % 20) = longT l) := by
                  show L.take (65530 + l.length % 20) = longT l
                  rw [HLT.out]
                  apply List.ext_getElem
                  · rw [List.length_take, List.length_replicate]; omega
                  · intro z hz1 hz2
                    rw [List.getElem_take, List.getElem_replicate]
                    rw [List.length_take] at hz1
                    exact HLE.out z (by omega) (by omega)
                obtain ⟨N, hN⟩ : ∃ N, N = 65530 + l.length % 20 := ⟨_, rfl⟩
                have eN : (65530 : Int) + ((List.length l : Nat) : Int) % 20 = (N : Int) := by omega
                have hN2 : (N : Int) ≤ (M : Int) := by omega
                have hconv := run_str (P := Try.prog) wr 23 5 9 Try.underlying23 Try.underlying5 Try.underlying9 (some ⟨wo.heap.size, 0, none⟩) N M (longT l) (by rw [← HL.out, List.length_take]; omega) (by rw [← HL.out, ← bytesV_take]; exact HO.out.lies.take _)
                have hm0 : (longT l).length ≤ 65549 := by rw [HLT.out, List.length_replicate]; omega
                obtain ⟨m, hm9⟩ : ∃ m, m = longT l := ⟨_, rfl⟩
                rw [← hm9] at hconv hm0
                clear hm9
                have HM := Lib.hid hm0
                have HBc := Lib.hid (HBo.out.later HG.out)
                have hq' : (M : Int) ≤ q := by omega
                clear hm0 hL1 hL2 hlq hq hN
                go_wp2_with fail
        all_goals
          obtain ⟨⟨w0, g1, g2, g3⟩, g4, g5⟩ := HBc.out
          have hsm := addX_short (l := m) HSH.out
          have hlm := addX_length xs m
          obtain ⟨r, hr⟩ : ∃ r, r = addX xs m := ⟨_, rfl⟩
          have HCA : Hid (Calls Try.prog 33 #[.pointer (some ⟨p, 0, none⟩), .string ⟨m.toArray⟩] wr (AddedB w0.heap.size wr w.heap.size p r xs)) := by rw [hr]; exact Add_at w0 _ p xs m wr g1 g2 (by have := HM.out; omega) HSH.out (by omega)
          have HCR : Hid (∀ W, Lies W W.heap.size A (txts xs) → Calls Try.prog 34 #[.slice A xs.length c, .string ⟨m.toArray⟩] W (Listed W A xs r)) := fun W h => by rw [hr]; exact refAdd_any A c xs m W h (by omega) (by have := HM.out; omega)
          rw [← hr] at hsm hlm
          have HSM := Lib.hid hsm
          have G3 := Lib.hid g3
          have G4 := Lib.hid g4
          clear hr hsm g1 g2 g3 g4 g5
          refine HCA.out.mono ?_
          rintro e w3 ⟨⟨rfl, hT3, hB3⟩, hV3, hS3⟩
          have HT3 := Lib.hid hT3
          have HB3 := Lib.hid hB3
          have HS3 := Lib.hid hS3
          have HL3 : Hid (Lies w3 w3.heap.size A (txts xs)) := Lib.hid (hV3.lies hB3.size G4.out (fun a ha hn => G3.out (by rintro rfl; exact hn rfl) a ha))
          clear hT3 hB3 hV3 hS3
          go_wp2_with fail
          refine (HCR.out _ HL3.out).mono ?_
          rintro e w4 ⟨A4, c4, rfl, hl4, hb4, he4, hn4⟩
          have HBo4 : Hid (Both w.heap.size w p r.1 A4 w4) := Lib.hid (HBc.out.step HT3.out HB3.out HS3.out hl4 hb4 he4 hn4)
          have HL4 := Lib.hid hl4
          clear hl4 hb4 he4 hn4
          go_wp2_with (go_at_call 35; refine (like_any A4 _ p c4 r.1 w4 HBo4.out.tab HL4.out (fun x hx => by have := HSM.out x hx; unfold maxLen; omega)).mono ?_; rintro e w5 ⟨rfl, rfl⟩)
          exact ⟨⟨j + 1, r.1, A4, c4, by omega, by go_num, by omega, rfl, HBo4.out, HSM.out⟩, by simp [intOf]; omega⟩
    · have hx60 : xs.length ≤ 60 := by omega
      have hrm := room_le HSH.out
      have hrm2 : room xs ≤ 3932760 := Nat.le_trans hrm (Nat.mul_le_mul_right 65546 hx60)
      have htl := texts_room xs
      have hvl := (var_length xs.length).2
      obtain ⟨L, hL⟩ : ∃ L, L = tabB xs := ⟨_, rfl⟩
      have hLl : L.length ≤ 3932771 := by rw [hL]; unfold tabB; rw [List.length_append]; omega
      have HT := Lib.hid HBo.out.tab
      have HP := Lib.hid HBo.out.2.2
      have HFD := Lib.hid (Find_any w.heap.size p xs zzz wr HT.out (by unfold maxLen zzz; decide))
      have CF : Hid (∀ W, Lies W W.heap.size A (txts xs) → Calls Try.prog 38 #[.slice A xs.length c, .string ⟨#[122, 122, 122]⟩] W fun e w' => e = .returned (.int .i64 (num_ xs zzz)) ∧ W = w') := fun W h => refFind_any A c xs zzz W h (by omega)
      have CP : Hid (∀ W v, Full W v (bytesV [9]) → TB W w.heap.size p xs → Calls Try.prog 39 #[.pointer (some ⟨p, 0, none⟩), v] W (fun e w' => ∃ v, e = .returned v ∧ Tame.Has Tame.Later W (fun v w => Owns w 0 5 v (bytesV (9 :: L))) v w')) := fun W v hf hT => by
        rw [hL]
        exact Tame.has ((TabPut_any W.heap.size p _ xs v (bytesV [9]) W hT hf.src rfl (by simp [bytesV]; omega)).mono fun e w' ⟨v', he, ho, hb⟩ => ⟨v', he, by rw [← bytesV_append] at ho; exact ho.base (Nat.zero_le _), hb⟩)
      have CRP : Hid (∀ W, Lies W W.heap.size A (txts xs) → Calls Try.prog 40 #[.slice A xs.length c] W fun e w' => e = .returned (.string ⟨L.toArray⟩) ∧ Below W.heap.size W w') := fun W h => by rw [hL]; exact refTabPut_any A c xs W h (by omega) (by omega)
      have HT9 : Hid (∀ W, Tame.Later wr.drew W → TB W w.heap.size p xs) := fun W h => HT.out.later ((Below.refl _ _).drew.trans h)
      have HL9 : Hid (∀ W, Tame.Later wr.drew W → Lies W W.heap.size A (txts xs)) := fun W h => (HBo.out.later ((Below.refl _ _).drew.trans h)).2.1
      have HLL := Lib.hid hLl
      have hcat : ((⟨#[9]⟩ : ByteArray) ++ ⟨L.toArray⟩) = ⟨(9 :: L).toArray⟩ := by rw [show (#[9] : Array UInt8) = ([9] : List UInt8).toArray from rfl, ByteArray.mk_append_mk]; rfl
      clear hL htl hvl hrm hrm2 hLl
      obtain ⟨b, HG⟩ : ∃ b : Bool, Hid (Calls Try.prog 36 #[.pointer (some ⟨p, 0, none⟩), .int .i64 i] wr fun e w' => (∃ s : ByteArray, e = .returned (.tuple #[.string s, .bool b])) ∧ wr = w') ∧ Hid ((b = true ∧ 0 ≤ i ∧ i < (xs.length : Int)) ∨ (b = false ∧ i < 0) ∨ (b = false ∧ 0 ≤ i ∧ (xs.length : Int) ≤ i)) := by
        by_cases h0 : i < 0
        · exact ⟨false, (Get_none _ p i xs wr HT.out (.inl h0)).mono fun e w' ⟨he, hw⟩ => ⟨⟨_, he⟩, hw⟩, .inr (.inl ⟨rfl, h0⟩)⟩
        · by_cases h1 : i < (xs.length : Int)
          · obtain ⟨k, rfl⟩ := Int.eq_ofNat_of_zero_le (by omega : 0 ≤ i)
            exact ⟨true, (Get_any _ p k xs wr HT.out (by omega)).mono fun e w' ⟨he, hw⟩ => ⟨⟨_, he⟩, hw⟩, .inl ⟨rfl, by omega, h1⟩⟩
          · exact ⟨false, (Get_none _ p i xs wr HT.out (.inr (by omega))).mono fun e w' ⟨he, hw⟩ => ⟨⟨_, he⟩, hw⟩, .inr (.inr ⟨rfl, by omega, by omega⟩)⟩
      obtain ⟨HG, HGC⟩ := HG
      go_wp2_with (go_at_call 36; refine HG.out.mono ?_; rintro e w5 ⟨⟨s5, rfl⟩, rfl⟩)
      obtain ⟨n, z, hz, HFV, HNV⟩ : ∃ (n : Int) (z : Bool), (decide (0 ≤ n) = z) ∧ Hid (∃ k : Int, FoundV xs zzz = .tuple #[.int .i64 k, .bool z]) ∧ Hid (num_ xs zzz = n) := by
        by_cases hz : zzz ∈ xs
        · exact ⟨((xs.idxOf zzz : Nat) : Int), true, decide_eq_true (by omega), ⟨_, by unfold FoundV; rw [decide_eq_true hz]⟩, num_in hz⟩
        · exact ⟨-1, false, rfl, ⟨_, by unfold FoundV; rw [decide_eq_false hz]⟩, num_out hz⟩
      obtain ⟨k9, hk9⟩ := HFV.out
      rw [HNV.out] at CF
      refine HFD.out.mono ?_
      rintro e w6 ⟨rfl, rfl⟩
      rw [hk9]
      clear hk9 HFV HNV HG HFD HBo HT HSH
      obtain ⟨x0, x1, hx0, hx1, hxb⟩ : ∃ x0 x1 : Bool, decide (0 ≤ i) = x0 ∧ decide (i < (xs.length : Int)) = x1 ∧ Hid (b = (x0 && x1)) := ⟨_, _, rfl, rfl, by
        show b = _
        rcases HGC.out with ⟨h, h1, h2⟩ | ⟨h, h1⟩ | ⟨h, h1, h2⟩
        · rw [h, decide_eq_true h1, decide_eq_true h2]; rfl
        · rw [h, decide_eq_false (by omega : ¬ 0 ≤ i)]; rfl
        · rw [h, decide_eq_false (by omega : ¬ i < (xs.length : Int))]; simp⟩
      obtain rfl := hxb.out
      clear hxb
      cases x0
      all_goals
        clear HGC
        simp only [Bool.true_and, Bool.false_and]
        go_wp2_with fail
        refine Tame.wp_region_tame (by kernel_rfl) (by kernel_rfl) Tame.Later.refl Tame.Later.trans ?_
        repeat
          ((first
            | (refine Tame.walk_off (fun _ => rfl) ?_)
            | (refine Tame.walk_known (o := ⟨some 119, _, _, _, _, _⟩) (fun _ => rfl) ?_; apply Exists.intro; refine ⟨fun vals w2 hL hd => ?_, ?_⟩; (focus (have HC := Lib.hid (CF.out w2 (HL9.out w2 hL)); clear hd; go_simp; exact Tame.known_same HC.out)))
            | (refine Tame.walk_some (o := ⟨some 125, _, _, _, _, _⟩) (fun v w => Full w v (bytesV [9])) (fun _ => rfl) (fun v w w' hl h => Full.later h hl) (fun vals w2 hL hd => ?_) ?_; (focus (have hn := Full.made w2 #[.int .u8 9] 5 1 rfl (by omega); clear hd; go_simp; exact Tame.Has.mk ((Below.refl _ _).alloc (Nat.le_refl _) _) hn)))
            | (refine Tame.walk_some (o := ⟨some 126, _, _, _, _, _⟩) (fun v w => Owns w 0 5 v (bytesV (9 :: L))) (fun _ => rfl) (fun v w w' hl h => Owns.below_all h hl) (fun vals w2 hL hd => ?_) ?_; (focus (have hf : Full w2 (vals 19) (bytesV [9]) := hd ⟨19, .data⟩ (by simp) rfl _ rfl; have HC := Lib.hid (CP.out w2 (vals 19) hf (HT9.out w2 hL)); clear hd hf; go_simp; exact HC.out)))
            | (refine Tame.walk_known (o := ⟨some 127, _, _, _, _, _⟩) (fun _ => rfl) ?_; apply Exists.intro; refine ⟨fun vals w2 hL hd => ?_, ?_⟩; (focus (have ho : Owns w2 0 5 (vals 20) (bytesV (9 :: L)) := hd ⟨20, .data⟩ (by simp) rfl _ rfl; have hc := run_str_of 23 5 9 Try.underlying23 Try.underlying5 Try.underlying9 ho; clear hd ho; go_simp; exact Tame.Is.mk (Tame.Later.refl _))))
            | (refine Tame.walk_known (o := ⟨some 129, _, _, _, _, _⟩) (fun _ => rfl) ?_; apply Exists.intro; refine ⟨fun vals w2 hL hd => ?_, ?_⟩; (focus (have HC := Lib.hid (CRP.out w2 (HL9.out w2 hL)); clear hd; go_simp; exact Tame.known HC.out)))
            | (refine Tame.walk_known (o := ⟨some 130, _, _, _, _, _⟩) (fun _ => rfl) ?_; apply Exists.intro; refine ⟨fun vals w2 hL hd => ?_, ?_⟩; (focus (clear hd; go_simp; rw [if_neg]; (focus exact Tame.Is.mk (Tame.Later.refl _)); have hq := HLL.out; clear HLL; simp at hq ⊢; omega)))
            | (refine Tame.walk_known (o := ⟨some 134, _, _, _, _, _⟩) (fun _ => rfl) ?_; apply Exists.intro; refine ⟨fun vals w2 hL hd => ?_, ?_⟩; (focus (clear hd; go_simp; exact Tame.known (awake2_any _))))
            | (refine Tame.walk_known (fun _ => rfl) ?_; apply Exists.intro; refine ⟨fun vals w2 hL hd => ?_, ?_⟩; (focus (go_simp; first | exact Tame.Is.mk (Tame.Later.refl _) | (rw [if_neg]; (focus exact Tame.Is.mk (Tame.Later.refl _)); omega)))))
           simp only [Act.put, List.setIfInBounds_toArray, List.set_cons_zero, List.set_cons_succ, List.nil_append, List.cons_append, List.length_cons, List.length_nil, Nat.zero_add, Nat.reduceAdd])
        refine Tame.walk_end fun vals w5 hL5 hts => ?_
        have W5 := Lib.hid (HP.out.later' hL5)
        clear hts hL5
        go_wp2_with fail
        go_ret
        exact ⟨rfl, W5.out.1⟩

end Go.Proofs.Ytclgblmhicabnaa
