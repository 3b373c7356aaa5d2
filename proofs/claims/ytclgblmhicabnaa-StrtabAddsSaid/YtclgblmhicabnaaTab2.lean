/- DERIVED. The walks of the table: Add, Put; of the document's list: Find, Add, Put; like. -/
import Derived.Test.YtclgblmhicabnaaTab1
import Derived.Test.YtclgblmhicabnaaPuts2
import Derived.Test.YtclgblmhicabnaaRefs
import Derived.Test.YtclgblmhicabnaaShelf
namespace Go.Proofs.Ytclgblmhicabnaa
open Go.RowKit Crc Nums

/-- Whatever comes: the texts then, the number that is told, the error. -/
def addX (xs : List T) (l : T) : List T × Int × Int :=
  if l ∈ xs then (xs, (xs.idxOf l : Nat), 0) else if 65535 < l.length ∨ 16777215 ≤ xs.length then (xs, 0, 4) else (xs ++ [l], (xs.length : Nat), 0)

def Added (w : World) (B p : Nat) (r : List T × Int × Int) (en : Ending) (w' : World) : Prop :=
  en = .returned (.tuple #[.int .i64 r.2.1, .int .i64 r.2.2]) ∧ TB w' B p r.1 ∧ Below B w w'

set_option maxRecDepth 100000 in
set_option maxHeartbeats 1000000 in
theorem StrClone_any (l : T) (w : World) (hl : l.length ≤ 281474976710656) :
    Calls Try.prog 57 #[.string ⟨l.toArray⟩] w fun e w' => e = .returned (.string ⟨l.toArray⟩) ∧ Below w.heap.size w w' := by
  go_enter Try.func57, Try.ntmps57
  go_wp2_with (go_at_call 60; refine (Try.stringslite_Clone ⟨l.toArray⟩ w hl).mono ?_; rintro e w1 ⟨rfl, hB1⟩; have HB1 := Lib.hid hB1; clear hB1)
  go_ret
  exact ⟨rfl, HB1.out⟩

/-- .. with what it spares. -/
def AddedB (q : Nat) (w : World) (B p : Nat) (r : List T × Int × Int) (xs : List T) (en : Ending) (w' : World) : Prop := Added w B p r en w' ∧ Between q w w' ∧ (r.1 = xs → w = w')

set_option maxRecDepth 100000 in
set_option maxHeartbeats 2000000 in
theorem Add_at (w0 : World) (B p : Nat) (xs : List T) (l : T) (w : World) (h0 : TB w0 B p xs) (hw : Below w0.heap.size w0 w) (hl : l.length ≤ 1099511627776) (hs : ∀ x ∈ xs, x.length ≤ 65535) (hx : xs.length < 1099511627776) :
    Calls Try.prog 33 #[.pointer (some ⟨p, 0, none⟩), .string ⟨l.toArray⟩] w (AddedB w0.heap.size w B p (addX xs l) xs) := by
  have h := h0.later hw
  have HT := Lib.hid h
  have HT0 := Lib.hid h0
  have HW := Lib.hid hw
  clear h0 hw
  have hsz : (⟨l.toArray⟩ : ByteArray).size = l.length := by simp [ByteArray.size]
  by_cases hlong : 65535 < l.length
  · have HA : Hid (addX xs l = (xs, 0, 4)) := by
      show addX xs l = _
      unfold addX
      rw [if_neg (fun hm => by have := hs l hm; omega), if_pos (.inl hlong)]
    clear h hs
    go_enter Try.func33, Try.ntmps33
    go_wp2_with fail
    go_ret2
    rw [HA.out]
    exact ⟨⟨rfl, HT.out, Below.refl _ _⟩, Between.refl _ _, fun _ => rfl⟩
  · have HF := Lib.hid (Find_any B p xs l w h (by unfold maxLen; omega))
    have HL := Lib.hid (Len_any B p xs w h)
    by_cases hm : l ∈ xs
    · have HA : Hid (addX xs l = (xs, ((xs.idxOf l : Nat) : Int), 0)) := by
        show addX xs l = _
        unfold addX
        rw [if_pos hm]
      have HV : Hid (FoundV xs l = .tuple #[.int .i64 ((xs.idxOf l : Nat) : Int), .bool true]) := by
        show FoundV xs l = _
        unfold FoundV
        simp [hm]
      clear h hs hm
      go_enter Try.func33, Try.ntmps33
      go_wp2_with (go_at_call 37; refine HF.out.mono ?_; rintro e w1 ⟨rfl, rfl⟩; rw [HV.out])
      go_ret2
      rw [HA.out]
      exact ⟨⟨rfl, HT.out, Below.refl _ _⟩, Between.refl _ _, fun _ => rfl⟩
    · have HV : Hid (FoundV xs l = .tuple #[.int .i64 0, .bool false]) := by
        show FoundV xs l = _
        unfold FoundV
        simp [hm]
      by_cases hfull : 16777215 ≤ xs.length
      · have HA : Hid (addX xs l = (xs, 0, 4)) := by
          show addX xs l = _
          unfold addX
          rw [if_neg hm, if_pos (.inr hfull)]
        have t0 : decide ((16777215 : Int) ≤ ((xs.length : Nat) : Int)) = true := by rw [decide_eq_true_eq]; omega
        clear h hs hm hfull hx
        go_enter Try.func33, Try.ntmps33
        go_wp2_with (first
          | (go_at_call 37; refine HF.out.mono ?_; rintro e w1 ⟨rfl, rfl⟩; rw [HV.out])
          | (go_at_call 55; refine HL.out.mono ?_; rintro e w1 ⟨rfl, rfl⟩))
        go_ret2
        rw [HA.out]
        exact ⟨⟨rfl, HT.out, Below.refl _ _⟩, Between.refl _ _, fun _ => rfl⟩
      · have HA : Hid (addX xs l = (xs ++ [l], ((xs.length : Nat) : Int), 0)) := by
          show addX xs l = _
          unfold addX
          rw [if_neg hm, if_neg (by omega)]
        have t0 : decide ((16777215 : Int) ≤ ((xs.length : Nat) : Int)) = false := by rw [decide_eq_false_iff_not]; omega
        clear hfull
        have HN := Lib.hid hm
        have HC := Lib.hid (StrClone_any l w (by omega))
        have hB := h.lt
        clear h hs hm
        go_enter Try.func33, Try.ntmps33
        go_wp2_with (first
          | (go_at_call 37; refine HF.out.mono ?_; rintro e w1 ⟨rfl, rfl⟩; rw [HV.out])
          | (go_at_call 55; refine HL.out.mono ?_; rintro e w1 ⟨rfl, rfl⟩)
          | (go_at_call 57; refine HC.out.mono ?_; rintro e w1 ⟨rfl, hB1⟩; have HB1 := Lib.hid hB1; clear hB1)
          | (go_at_call 56; refine (keep_at w0 B p xs l _ HT0.out (HW.out.trans (HB1.out.mono HW.out.size)) (by unfold maxLen; omega) HN.out hx).mono ?_; rintro e w2 ⟨⟨rfl, hT2, hB2⟩, hV2⟩; have HT2 := Lib.hid hT2; have HB2 := Lib.hid hB2; have HV2 := Lib.hid hV2; clear hT2 hB2 hV2))
        go_ret2
        rw [HA.out]
        exact ⟨⟨rfl, HT2.out, (HB1.out.mono (by omega)).trans HB2.out⟩, (Between.of_later HB1.out).trans HV2.out HB1.out.size, fun h => by have := congrArg List.length h; simp at this⟩

theorem Add_any (B p : Nat) (xs : List T) (l : T) (w : World) (h : TB w B p xs) (hl : l.length ≤ 1099511627776) (hs : ∀ x ∈ xs, x.length ≤ 65535) (hx : xs.length < 1099511627776) :
    Calls Try.prog 33 #[.pointer (some ⟨p, 0, none⟩), .string ⟨l.toArray⟩] w (Added w B p (addX xs l)) :=
  (Add_at w B p xs l w h (Below.refl _ _) hl hs hx).mono fun _ _ h => h.1

/-- A list's texts as bytes, one behind the other. -/
def texts_ (xs : List T) : List UInt8 := xs.flatMap text
def tabB (xs : List T) : List UInt8 := var xs.length ++ texts_ xs
theorem texts_take (xs : List T) (k : Nat) (h : k < xs.length) : texts_ (xs.take (k + 1)) = texts_ (xs.take k) ++ text xs[k] := by
  unfold texts_
  rw [List.take_succ_eq_append_getElem h, List.flatMap_append]
  simp

/-- How many bytes they take at most. -/
def room (xs : List T) : Nat := (xs.map fun l => l.length + 11).sum
theorem texts_room (xs : List T) : (texts_ xs).length ≤ room xs := by
  unfold texts_ room
  induction xs with
  | nil => simp
  | cons a l ih =>
    simp only [List.flatMap_cons, List.length_append, List.map_cons, List.sum_cons]
    have := (var_length a.length).2
    have e : (text a).length = (var a.length).length + a.length := by unfold text; rw [List.length_append]
    rw [e]
    omega
theorem room_take (xs : List T) (k : Nat) (h : k < xs.length) : room (xs.take k) + xs[k].length + 11 ≤ room xs := by
  unfold room
  have e : (xs.map fun l => l.length + 11).sum = ((xs.take (k + 1)).map fun l => l.length + 11).sum + ((xs.drop (k + 1)).map fun l => l.length + 11).sum := by
    rw [← List.sum_append, ← List.map_append, List.take_append_drop]
  rw [e, List.take_succ_eq_append_getElem h, List.map_append, List.sum_append]
  simp
  omega

set_option maxRecDepth 100000 in
set_option maxHeartbeats 2000000 in
theorem TabPut_any (B p C : Nat) (xs : List T) (v : Value) (ys : List Value) (w : World) (h : TB w C p xs) (hv : Src w B 5 v ys) (hB : B = w.heap.size) (hn : ys.length + room xs ≤ 1099511627000) :
    Calls Try.prog 39 #[.pointer (some ⟨p, 0, none⟩), v] w fun e w' => ∃ v', e = .returned v' ∧ Owns w' B 5 v' (ys ++ bytesV (tabB xs)) ∧ Below B w w' := by
  subst hB
  have HL := Lib.hid (Len_any C p xs w h)
  have HV := Lib.hid hv
  have hsh := h.short
  obtain ⟨v0, b, q, D, hr, ho, hm, hd, h1, h2, h3, h4, h5, h6, h7⟩ := h
  obtain ⟨A, c, rfl, hl⟩ := ho.form
  rw [txts_length] at hr
  have HC : Hid (∀ w1, Below w.heap.size w w1 → w1.cell? ⟨p, 0, none⟩ = some (.slice A xs.length c)) := fun w1 hb => by rw [(hr.below hb hr.lt).cell]; rfl
  have HA : Hid (∀ w1, Below w.heap.size w w1 → Lies w1 w.heap.size A (txts xs)) := fun w1 hb => hl.below hb
  clear hr ho hm hd h1 h2 h3 h4 h5 h7 hl hv
  go_enter Try.func39, Try.ntmps39
  go_wp2_with (first
    | (go_at_call 55; refine HL.out.mono ?_; rintro e w1 ⟨rfl, rfl⟩)
    | (go_at_call 12; (refine (PutVar_any w.heap.size _ ys xs.length _ HV.out (Nat.le_refl _) (by omega) (by omega)).mono ?_; rintro e w1 ⟨v1, rfl, hO1, hB1⟩; have hc0 := HC.out w1 hB1; have HO1 := Lib.hid hO1; have HB1 := Lib.hid hB1; clear hO1 hB1)))
  have hb := bytesV_length (var xs.length)
  have hvl := (var_length xs.length).2
  go_loopw [1, 17] (fun v k wr => ∃ i : Nat, i ≤ xs.length ∧ k = .int .i64 i ∧ Owns wr w.heap.size 5 v (ys ++ bytesV (var xs.length ++ texts_ (xs.take i))) ∧ Below w.heap.size w wr) (fun _ k _ => xs.length - (intOf k).toNat)
  case atStart => exact ⟨0, by omega, rfl, by simpa [texts_] using HO1.out, HB1.out⟩
  case round =>
    obtain ⟨i, hi, rfl, hO, hBe⟩ := hrel
    have HO := Lib.hid hO
    have HB := Lib.hid hBe
    have hsz := hBe.size
    clear hO hBe
    by_cases hlt : i < xs.length
    · obtain ⟨g, off, rfl, hg, hcell⟩ := (HA.out wr HB.out).at_ (txts_get xs i hlt)
      unfold txt at hcell
      have hrt := room_take xs i hlt
      have hrl := texts_room (xs.take i)
      have HPT := Lib.hid (PutText_any w.heap.size _ _ ⟨xs[i].toArray⟩ wr HO.out.src hsz (by simp [ByteArray.size]; omega) (by simp [ByteArray.size, bytesV_length]; omega))
      go_wp2_with (go_at_call 14; refine HPT.out.mono ?_; rintro e w2 ⟨v2, rfl, hO2, hB2⟩; have HO2 := Lib.hid hO2; have HB2 := Lib.hid (HB.out.trans hB2); clear hO2 hB2)
      refine ⟨⟨i + 1, by omega, by go_num, ?_, HB2.out⟩, by simp [intOf]; omega⟩
      have := HO2.out
      rw [List.append_assoc, ← bytesV_append, List.append_assoc] at this
      rw [texts_take xs i hlt]
      exact this
    · go_wp2_with fail
      go_ret
      have e : xs.take i = xs := List.take_of_length_le (by omega)
      have := HO.out
      rw [e] at this
      exact ⟨_, rfl, this, HB.out⟩

end Go.Proofs.Ytclgblmhicabnaa
