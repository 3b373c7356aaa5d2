/- DERIVED. The walks of the document's list: Find, Add, Put; like. -/
import Derived.Test.YtclgblmhicabnaaTab2
namespace Go.Proofs.Ytclgblmhicabnaa
open Go.RowKit Crc Nums

theorem str_ne {a b : T} (h : a ≠ b) : (⟨a.toArray⟩ : ByteArray) ≠ ⟨b.toArray⟩ := fun e => h (by injection e with e; simpa using e)

theorem num_found {xs : List T} {l : T} {i : Nat} (hi : i < xs.length) (h : xs[i] = l) (hb : ∀ j (hj : j < xs.length), j < i → xs[j] ≠ l) : num_ xs l = (i : Nat) := by
  have hm : l ∈ xs := h ▸ List.getElem_mem hi
  unfold num_
  rw [if_pos hm]
  have h2 : xs.idxOf l < xs.length := List.idxOf_lt_length_of_mem hm
  have h3 : xs[xs.idxOf l] = l := List.getElem_idxOf h2
  have h4 : ¬ xs.idxOf l < i := fun hlt => hb _ h2 hlt h3
  have h5 : ¬ i < xs.idxOf l := fun hlt => by
    have := List.not_of_lt_findIdx (p := fun x => x == l) (xs := xs) hlt
    simp [h] at this
  congr 1
  omega
theorem num_none {xs : List T} {l : T} (hb : ∀ j (hj : j < xs.length), xs[j] ≠ l) : num_ xs l = -1 := by
  unfold num_
  rw [if_neg]
  intro hm
  obtain ⟨j, hj, e⟩ := List.getElem_of_mem hm
  exact hb j hj e

set_option maxRecDepth 100000 in
set_option maxHeartbeats 1000000 in
theorem refFind_any (A : Option Addr) (c : Nat) (xs : List T) (l : T) (w : World) (hA : Lies w w.heap.size A (txts xs)) (hn : xs.length ≤ 9223372036854775807) :
    Calls Try.prog 38 #[.slice A xs.length c, .string ⟨l.toArray⟩] w fun e w' => e = .returned (.int .i64 (num_ xs l)) ∧ w = w' := by
  have HA := Lib.hid hA
  clear hA
  go_enter Try.func38, Try.ntmps38
  go_wp2_with fail
  go_loop [5] (fun k => ∃ i : Nat, i ≤ xs.length ∧ k = .int .i64 i ∧ ∀ j (hj : j < xs.length), j < i → xs[j] ≠ l) (fun k => xs.length - (intOf k).toNat)
  case atStart => exact ⟨0, by omega, rfl, fun j hj h => by omega⟩
  case round =>
    obtain ⟨i, hi, rfl, hb⟩ := hrel
    have HB := Lib.hid hb
    clear hb
    by_cases hlt : i < xs.length
    · obtain ⟨g, off, rfl, hg, hcell⟩ := HA.out.at_ (txts_get xs i hlt)
      unfold txt at hcell
      by_cases he : xs[i] = l
      · have HN := Lib.hid (num_found hlt he HB.out)
        rw [he] at hcell
        clear he
        go_wp2_with fail
        go_ret
        exact ⟨by rw [HN.out]; rfl, rfl⟩
      · have hne : (xs[i] == l) = false := by simpa using he
        have HE := Lib.hid he
        clear he
        go_wp2_with fail
        refine ⟨⟨i + 1, by omega, by go_num, fun j hj h => ?_⟩, by simp [intOf]; omega⟩
        by_cases hji : j = i
        · subst hji; exact HE.out
        · exact HB.out j hj (by omega)
    · have HN := Lib.hid (num_none (xs := xs) (l := l) (fun j hj => HB.out j hj (by omega)))
      go_wp2_with fail
      go_ret
      exact ⟨by rw [HN.out]; rfl, rfl⟩

set_option maxRecDepth 100000 in
set_option maxHeartbeats 1000000 in
theorem like_any (A : Option Addr) (C p c : Nat) (xs : List T) (w : World) (h : TB w C p xs) (hA : Lies w w.heap.size A (txts xs)) (hs : ∀ x ∈ xs, x.length ≤ maxLen) :
    Calls Try.prog 35 #[.pointer (some ⟨p, 0, none⟩), .slice A xs.length c] w fun e w' => e = .returned (.bool true) ∧ w = w' := by
  have HA := Lib.hid hA
  have HL := Lib.hid (Len_any C p xs w h)
  have HT := Lib.hid h
  have HS := Lib.hid hs
  have hsh := h.short
  have HN := Lib.hid h.nodup
  clear hA h hs
  go_enter Try.func35, Try.ntmps35
  go_wp2_with (go_at_call 55; refine HL.out.mono ?_; rintro e w1 ⟨rfl, rfl⟩)
  go_loop [5] (fun k => ∃ i : Nat, i ≤ xs.length ∧ k = .int .i64 i) (fun k => xs.length - (intOf k).toNat)
  case atStart => exact ⟨0, by omega, rfl⟩
  case round =>
    obtain ⟨i, hi, rfl⟩ := hrel
    by_cases hlt : i < xs.length
    · obtain ⟨g, off, rfl, hg, hcell⟩ := HA.out.at_ (txts_get xs i hlt)
      unfold txt at hcell
      have HG := Lib.hid (Get_any C p i xs w HT.out hlt)
      have HF : Hid (Calls Try.prog 37 #[.pointer (some ⟨p, 0, none⟩), .string ⟨xs[i].toArray⟩] w fun e w' => e = .returned (.tuple #[.int .i64 (i : Nat), .bool true]) ∧ w = w') := by
        have h1 := Find_any C p xs xs[i] w HT.out (HS.out _ (List.getElem_mem hlt))
        have e : FoundV xs xs[i] = .tuple #[.int .i64 (i : Nat), .bool true] := by
          unfold FoundV
          have hm : xs[i] ∈ xs := List.getElem_mem hlt
          rw [if_pos hm, idx_get HN.out hlt, decide_eq_true hm]
        rw [e] at h1
        exact h1
      go_wp2_with (first
        | (go_at_call 36; refine HG.out.mono ?_; rintro e w1 ⟨rfl, rfl⟩)
        | (go_at_call 37; refine HF.out.mono ?_; rintro e w1 ⟨rfl, rfl⟩))
      go_round
      case rel => exact ⟨i + 1, by omega, by go_num⟩
      case measure => simp [intOf]; omega
    · go_wp2_with fail
      go_ret
      exact ⟨rfl, rfl⟩

/-- A list that is handed back: new, or what came in. -/
def Listed (w : World) (A0 : Option Addr) (xs : List T) (r : List T × Int × Int) (en : Ending) (w' : World) : Prop :=
  ∃ A c, en = .returned (.tuple #[.slice A r.1.length c, .int .i64 r.2.1, .int .i64 r.2.2]) ∧ Lies w' w'.heap.size A (txts r.1) ∧ Below w.heap.size w w' ∧ (r.1 = xs → A = A0) ∧ (r.1 ≠ xs → ∀ a, A = some a → w.heap.size ≤ a.block)

theorem num_in {xs : List T} {l : T} (h : l ∈ xs) : num_ xs l = ((xs.idxOf l : Nat) : Int) := if_pos h
theorem num_out {xs : List T} {l : T} (h : l ∉ xs) : num_ xs l = -1 := if_neg h

set_option maxRecDepth 100000 in
set_option maxHeartbeats 1000000 in
theorem refAdd_any (A : Option Addr) (c : Nat) (xs : List T) (l : T) (w : World) (hA : Lies w w.heap.size A (txts xs)) (hn : xs.length ≤ 1099511627776) (hl : l.length ≤ 1099511627776) :
    Calls Try.prog 34 #[.slice A xs.length c, .string ⟨l.toArray⟩] w (Listed w A xs (addX xs l)) := by
  obtain ⟨i0, hi0, hz0, hz1, hz2⟩ := info_parts str_info
  have HA := Lib.hid hA
  have HF := Lib.hid (refFind_any A c xs l w hA (by omega))
  have hsz : (⟨l.toArray⟩ : ByteArray).size = l.length := by simp [ByteArray.size]
  clear hA
  by_cases hm : l ∈ xs
  · have HX : Hid (addX xs l = (xs, ((xs.idxOf l : Nat) : Int), 0)) := by
      show addX xs l = _
      unfold addX
      rw [if_pos hm]
    have HV := Lib.hid (num_in hm)
    clear hm
    go_enter Try.func34, Try.ntmps34
    go_wp2_with (go_at_call 38; refine HF.out.mono ?_; rintro e w1 ⟨rfl, rfl⟩; rw [HV.out])
    go_ret3
    rw [HX.out]
    exact ⟨A, c, rfl, HA.out, Below.refl _ _, fun _ => rfl, fun h => absurd rfl h⟩
  · have HV := Lib.hid (num_out hm)
    by_cases hlong : 65535 < l.length
    · have HX : Hid (addX xs l = (xs, 0, 4)) := by
        show addX xs l = _
        unfold addX
        rw [if_neg hm, if_pos (.inl hlong)]
      clear hm
      go_enter Try.func34, Try.ntmps34
      go_wp2_with (go_at_call 38; refine HF.out.mono ?_; rintro e w1 ⟨rfl, rfl⟩; rw [HV.out])
      go_ret3
      rw [HX.out]
      exact ⟨A, c, rfl, HA.out, Below.refl _ _, fun _ => rfl, fun h => absurd rfl h⟩
    · by_cases hfull : 16777215 ≤ xs.length
      · have HX : Hid (addX xs l = (xs, 0, 4)) := by
          show addX xs l = _
          unfold addX
          rw [if_neg hm, if_pos (.inr hfull)]
        have t0 : decide ((16777215 : Int) ≤ ((xs.length : Nat) : Int)) = true := by rw [decide_eq_true_eq]; omega
        clear hm hfull hn
        go_enter Try.func34, Try.ntmps34
        go_wp2_with (go_at_call 38; refine HF.out.mono ?_; rintro e w1 ⟨rfl, rfl⟩; rw [HV.out])
        go_ret3
        rw [HX.out]
        exact ⟨A, c, rfl, HA.out, Below.refl _ _, fun _ => rfl, fun h => absurd rfl h⟩
      · have HX : Hid (addX xs l = (xs ++ [l], ((xs.length : Nat) : Int), 0)) := by
          show addX xs l = _
          unfold addX
          rw [if_neg hm, if_neg (by omega)]
        have t0 : decide ((16777215 : Int) ≤ ((xs.length : Nat) : Int)) = false := by rw [decide_eq_false_iff_not]; omega
        have hx : xs.length < 16777215 := by omega
        clear hfull hm
        go_enter Try.func34, Try.ntmps34
        go_wp2_with (first
          | (go_at_call 38; refine HF.out.mono ?_; rintro e w1 ⟨rfl, rfl⟩; rw [HV.out])
          | (at_builtin; (refine wpList_app (o := ⟨some 26, _, _, _, _, _⟩) _ rfl (.tmp 24) (.tmp 25) _ rfl w.heap.size 9 i0 _ 16 Try.underlying55 hi0 hz0 hz1 hz2 rfl (by omega) _ rfl [] (Owns.made w #[] 0 rfl (Nat.le_refl _) (by simp [maxLen])) _ _ _ rfl (txts xs) (HA.out.below ((Below.refl _ _).alloc (Nat.le_refl _) _) |>.more (by simp)) (txts_length xs).symm ?_ ?_ ?_ ?_; rotate_left; (focus exact txts_one xs); (focus (simp [txts_length]; omega)); (focus simp); intro v1 w1 hO1 hB1; have HO1 := Lib.hid hO1; have HB1 := Lib.hid hB1; clear hO1 hB1))
          | (at_builtin; go_must (refine wpList_app (o := ⟨some 29, _, _, _, _, _⟩) _ rfl (.tmp 26) (.tmp 28) _ rfl w.heap.size 9 i0 _ 16 Try.underlying55 hi0 hz0 hz1 hz2 rfl (by omega) _ rfl _ (HO1.out.alloc _) _ _ _ rfl [txt l] (lies_new _ _ _) rfl ?_ ?_ ?_ ?_; rotate_left; (focus (intro u hu; simp at hu; subst hu; rfl)); (focus (simp [txts_length]; omega)); (focus (have := HB1.out.size; simp at this ⊢; omega)); intro v2 w2 hO2 hB2; have HO2 := Lib.hid hO2; have HB2 := Lib.hid hB2; clear hO2 hB2)))
        go_ret3
        rw [HX.out]
        have hO := HO2.out
        rw [List.nil_append, show txts xs ++ [txt l] = txts (xs ++ [l]) by simp [txts]] at hO
        obtain ⟨A2, c2, rfl, hl2⟩ := hO.form
        have hs1 := HB1.out.size
        simp at hs1
        refine ⟨A2, c2, by rw [txts_length]; rfl, hl2, ?_, fun h => by have := congrArg List.length h; simp at this, fun _ a ha => by subst ha; exact (hO.lt _ rfl).1⟩
        exact (((Below.refl _ _).alloc (Nat.le_refl _) _).trans HB1.out).trans (((Below.refl _ _).alloc (by omega) _).trans HB2.out)

set_option maxRecDepth 100000 in
set_option maxHeartbeats 1000000 in
theorem refTabPut_any (A : Option Addr) (c : Nat) (xs : List T) (w : World) (hA : Lies w w.heap.size A (txts xs)) (hr : room xs ≤ 1099511627000) (hn : xs.length ≤ 1099511627776) :
    Calls Try.prog 40 #[.slice A xs.length c] w fun e w' => e = .returned (.string ⟨(tabB xs).toArray⟩) ∧ Below w.heap.size w w' := by
  have HA := Lib.hid hA
  clear hA
  go_enter Try.func40, Try.ntmps40
  go_wp2_with (go_at_call 13; refine (refPutVar_any 9 xs.length _ (by omega) (by omega)).mono ?_; rintro e w1 ⟨rfl, hB1⟩; have HB1 := Lib.hid hB1; clear hB1)
  have hvl := (var_length xs.length).2
  go_loopw [3, 4] (fun v k wr => ∃ i : Nat, i ≤ xs.length ∧ k = .int .i64 i ∧ v = .string ⟨(var xs.length ++ texts_ (xs.take i)).toArray⟩ ∧ Below w.heap.size w wr) (fun _ k _ => xs.length - (intOf k).toNat)
  case atStart => exact ⟨0, by omega, rfl, by simp [texts_], HB1.out⟩
  case round =>
    obtain ⟨i, hi, rfl, rfl, hBe⟩ := hrel
    have HB := Lib.hid hBe
    have hsz := hBe.size
    clear hBe
    by_cases hlt : i < xs.length
    · obtain ⟨g, off, rfl, hg, hcell⟩ := (HA.out.below HB.out).at_ (txts_get xs i hlt)
      unfold txt at hcell
      have hrt := room_take xs i hlt
      have hrl := texts_room (xs.take i)
      have HPT := Lib.hid (refPutText_any ⟨xs[i].toArray⟩ wr (by simp [ByteArray.size]; omega))
      have htt := texts_take xs i hlt
      have hvt := (var_length xs[i].length).2
      have hte : (text xs[i]).length = (var xs[i].length).length + xs[i].length := by unfold text; rw [List.length_append]
      have hst : ({ data := (var xs.length ++ texts_ (xs.take i)).toArray } : ByteArray).size ≤ 1099511627011 := by simp [ByteArray.size]; omega
      have htx : ({ data := (text xs[i]).toArray } : ByteArray).size ≤ 1099511627711 := by simp [ByteArray.size]; omega
      go_wp2_with (go_at_call 15; refine HPT.out.mono ?_; rintro e w2 ⟨rfl, hB2⟩; have HB2 := Lib.hid (HB.out.trans (hB2.mono hsz)); clear hB2)
      refine ⟨⟨i + 1, by omega, by go_num, ?_, HB2.out⟩, by simp [intOf]; omega⟩
      rw [htt, ← List.append_assoc, ByteArray.mk_append_mk]
    · go_wp2_with fail
      go_ret
      have e : xs.take i = xs := List.take_of_length_le (by omega)
      rw [e]
      exact ⟨rfl, HB.out⟩

end Go.Proofs.Ytclgblmhicabnaa
