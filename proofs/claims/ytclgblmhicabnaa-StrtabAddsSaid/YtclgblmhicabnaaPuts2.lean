/- DERIVED. The walks of Put16, Put32, PutText, PutSection. -/
import Derived.Test.YtclgblmhicabnaaPuts
import Derived.Test.YtclgblmhicabnaaSum2
namespace Go.Proofs.Ytclgblmhicabnaa
open Go.RowKit Crc Nums

theorem u8_wrap (n : Nat) : ((n : Int) % 256) = ((n % 256 : Nat) : Int) := by omega

theorem byteV_ofNat (n : Nat) : byteV (UInt8.ofNat n) = .int .u8 ((n % 256 : Nat) : Int) := by
  unfold byteV
  rw [show (UInt8.ofNat n).toNat = n % 256 by simp]

theorem low2_cells (x : Nat) (hx : x < 65536) : [Value.int IntKind.u8 ((x : Int) % 256), Value.int IntKind.u8 ((x : Int) / 256)] = bytesV (low 2 x) := by
  simp only [bytesV, low, List.map_cons, List.map_nil, byteV_ofNat]
  congr 2
  · congr 1; omega
  · congr 1; omega

theorem low4_cells (x : Nat) (hx : x < 4294967296) : [Value.int IntKind.u8 ((x : Int) % 256), Value.int IntKind.u8 ((x : Int) / 256 % 256), Value.int IntKind.u8 ((x : Int) / 65536 % 256), Value.int IntKind.u8 ((x : Int) / 16777216)] = bytesV (low 4 x) := by
  simp only [bytesV, low, List.map_cons, List.map_nil, byteV_ofNat]
  congr 1
  · congr 1; omega
  · congr 1
    · congr 1; omega
    · congr 1
      · congr 1; omega
      · congr 1
        congr 1; omega

set_option maxRecDepth 100000 in
set_option maxHeartbeats 1000000 in
theorem Put16_any (B : Nat) (v : Value) (xs : List Value) (x : Nat) (w : World) (hown : Src w B 5 v xs) (hB : B ≤ w.heap.size) (hx : x < 65536) (hn : xs.length ≤ 1099511627776) :
    Calls Try.prog 9 #[v, .int .u16 x] w fun e w' => ∃ v', e = .returned v' ∧ Owns w' B 5 v' (xs ++ bytesV (low 2 x)) ∧ Below B w w' := by
  obtain ⟨i0, hi0, hz0, hz1, hz2⟩ := info_parts u8_info
  have HO := Lib.hid hown
  clear hown
  go_enter Try.func9, Try.ntmps9
  go_wp2_with (at_builtin; go_must (refine wpList_app_src _ rfl (.tmp 5) (.tmp 11) _ rfl B 5 i0 _ 1 Try.underlying23 hi0 hz0 hz1 hz2 rfl (by omega) _ rfl _ (HO.out.later ((Below.refl _ _).alloc (Nat.le_refl _) _)) _ _ _ rfl _ (lies_new _ _ _) rfl (by omega) ?_ ?c1 ?c2 ?c3; intro v1 w1 hO1 hB1))
  case c1 => repeat' (first | rfl | apply And.intro)
  case c2 => first | omega | (simp; omega)
  case c3 => first | omega | (simp; omega)
  go_ret
  rw [low2_cells x hx] at hO1
  exact ⟨v1, rfl, hO1, ((Below.refl _ _).alloc (by omega) _).trans hB1⟩

set_option maxRecDepth 100000 in
set_option maxHeartbeats 1000000 in
theorem Put32_any (B : Nat) (v : Value) (xs : List Value) (x : Nat) (w : World) (hown : Src w B 5 v xs) (hB : B ≤ w.heap.size) (hx : x < 4294967296) (hn : xs.length ≤ 1099511627776) :
    Calls Try.prog 11 #[v, .int .u32 x] w fun e w' => ∃ v', e = .returned v' ∧ Owns w' B 5 v' (xs ++ bytesV (low 4 x)) ∧ Below B w w' := by
  obtain ⟨i0, hi0, hz0, hz1, hz2⟩ := info_parts u8_info
  have HO := Lib.hid hown
  clear hown
  go_enter Try.func11, Try.ntmps11
  go_wp2_with (at_builtin; go_must (refine wpList_app_src _ rfl (.tmp 5) (.tmp 17) _ rfl B 5 i0 _ 1 Try.underlying23 hi0 hz0 hz1 hz2 rfl (by omega) _ rfl _ (HO.out.later ((Below.refl _ _).alloc (Nat.le_refl _) _)) _ _ _ rfl _ (lies_new _ _ _) rfl (by omega) ?_ ?c1 ?c2 ?c3; intro v1 w1 hO1 hB1))
  case c1 => repeat' (first | rfl | apply And.intro)
  case c2 => first | omega | (simp; omega)
  case c3 => first | omega | (simp; omega)
  go_ret
  rw [low4_cells x hx] at hO1
  exact ⟨v1, rfl, hO1, ((Below.refl _ _).alloc (by omega) _).trans hB1⟩

set_option maxRecDepth 100000 in
set_option maxHeartbeats 1000000 in
theorem PutText_any (B : Nat) (v : Value) (xs : List Value) (s : ByteArray) (w : World) (hown : Src w B 5 v xs) (hB : B ≤ w.heap.size) (hs : s.size ≤ 1099511627700) (hn : xs.length + s.size ≤ 1099511627776) :
    Calls Try.prog 14 #[v, .string s] w fun e w' => ∃ v', e = .returned v' ∧ Owns w' B 5 v' (xs ++ bytesV (text s.data.toList)) ∧ Below B w w' := by
  obtain ⟨i0, hi0, hz0, hz1, hz2⟩ := info_parts u8_info
  have HO := Lib.hid hown
  clear hown
  go_enter Try.func14, Try.ntmps14
  go_wp2_with fail
  refine (PutVar_any B v xs s.size w HO.out hB (by omega) (by omega)).mono ?_
  rintro e w1 ⟨v1, rfl, hO1, hB1⟩
  have HO1 := Lib.hid hO1
  have HB1 := Lib.hid hB1
  have hsz := hB1.size
  have hl := (var_length s.size).2
  clear hO1 hB1
  go_wp2_with (at_builtin; go_must (refine wpList_app_str _ rfl (.tmp 9) (.tmp 10) _ _ rfl B 5 i0 Try.underlying23 Try.underlying9 hi0 hz0 hz1 hz2 _ rfl _ HO1.out s rfl ?_ ?c2 ?c3; intro v2 w2 hO2 hB2))
  case c2 => simp [bytesV_length]; omega
  case c3 => omega
  go_ret
  refine ⟨v2, rfl, ?_, HB1.out.trans hB2⟩
  rw [text, bytesV_append, ← List.append_assoc]
  have e : s.data.toList.length = s.size := by simp
  rw [e]
  exact hO2

theorem sec_lies {w w' : World} {H : Nat} {A : Option Addr} {xs : List Value} (h : Lies w w.heap.size A xs) (hH : H = w.heap.size) (hb : Below H w w') : Lies w' w'.heap.size A xs := by
  subst hH
  exact (h.below hb).more hb.size

theorem sec_owns {w w' : World} {B H : Nat} {e : TypeId} {v : Value} {xs : List Value} (h : Src w B e v xs) (hH : H = w.heap.size) (hb : Below H w w') : Src w' B e v xs := by
  subst hH
  exact h.later hb
theorem sec_cells (id : UInt8) (l : List UInt8) : ([] ++ [Value.int IntKind.u8 (id.toNat : Int)] ++ bytesV (low 4 l.length) ++ bytesV l ++ bytesV (low 4 (crc l))) = bytesV (section_ id l) := by
  simp [section_, bytesV, byteV]
theorem sec_length (id : UInt8) (l : List UInt8) : (section_ id l).length = l.length + 9 := by
  simp [section_, low_length]; omega

set_option maxRecDepth 100000 in
set_option maxHeartbeats 1000000 in
theorem PutSection_any (B : Nat) (v : Value) (xs : List Value) (id : UInt8) (A : Option Addr) (c : Nat) (l : List UInt8) (w : World) (hown : Src w B 5 v xs) (hA : Lies w w.heap.size A (bytesV l)) (hB : B ≤ w.heap.size) (hs : l.length ≤ 2147483648) (hn : xs.length ≤ 549755813888) :
    Calls Try.prog 16 #[v, .int .u8 id.toNat, .slice A l.length c] w fun e w' => ∃ v', e = .returned v' ∧ Owns w' B 5 v' (xs ++ bytesV (section_ id l)) ∧ Below B w w' := by
  obtain ⟨i0, hi0, hz0, hz1, hz2⟩ := info_parts u8_info
  have HO := Lib.hid hown
  have HA := Lib.hid hA
  clear hown hA
  go_enter Try.func16, Try.ntmps16
  have HS := Lib.hid (crc_lt l)
  have hid := id.toNat_lt
  obtain ⟨H, hH⟩ : ∃ H, H = w.heap.size := ⟨_, rfl⟩
  have HH := Lib.hid hH
  have hHB : B ≤ H := by omega
  clear hH
  go_wp2_with (first
    | (at_make; go_must (refine wpList_mk _ rfl _ _ _ rfl w.heap.size 5 i0 _ 1 Try.underlying23 hi0 hz0 hz1 hz2 (by omega) .i64 .i64 _ (9 + l.length) rfl rfl ?_ ?_ ?_ ?_; rotate_left; (focus (first | rfl | omega | (simp; done))); (focus omega); (focus exact Nat.le_refl _); intro w1 hO1 hB1; rw [← HH.out] at hO1 hB1 ⊢; have HO1 := Lib.hid hO1; have HB1 := Lib.hid hB1; have hs1 := hB1.size; rw [← HH.out] at hs1; clear hO1 hB1))
    | (at_builtin; refine wpList_app _ rfl (.tmp 12) (.tmp 14) _ rfl H 5 i0 _ 1 Try.underlying23 hi0 hz0 hz1 hz2 rfl (by omega) _ rfl _ (HO1.out.alloc _) _ _ _ rfl _ (lies_new _ _ _) rfl ?_ ?_ ?_ ?_; rotate_left; (focus (intro u hu; simp at hu; subst hu; rfl)); (focus (simp; done)); (focus (simp; omega)); intro v2 w2 hO2 hB2; have HO2 := Lib.hid hO2; have HB2 := Lib.hid hB2; have hs2 := hB2.size; rw [World.size_alloc] at hs2; clear hO2 hB2)
    | (go_at_call 11; (with_reducible refine (Put32_any H v2 _ l.length w2 HO2.out.src (by omega) (by omega) (by simp)).mono ?_); rintro e w3 ⟨v3, rfl, hO3, hB3⟩; have HO3 := Lib.hid hO3; have HB3 := Lib.hid hB3; have hs3 := hB3.size; clear hO3 hB3)
    | (at_builtin; refine wpList_app _ rfl (.tmp 21) (.tmp 22) _ rfl H 5 i0 _ 1 Try.underlying23 hi0 hz0 hz1 hz2 rfl (by omega) _ rfl _ HO3.out _ _ _ rfl _ (sec_lies HA.out HH.out (HB1.out.trans (((Below.refl _ _).alloc (by omega) _).trans (HB2.out.trans HB3.out)))) (bytesV_length l).symm ?_ ?_ ?_ ?_; rotate_left; (focus exact bytesV_one l); (focus (simp [bytesV_length, low_length]; omega)); (focus omega); intro v4 w4 hO4 hB4; have HO4 := Lib.hid hO4; have HB4 := Lib.hid hB4; have hs4 := hB4.size; clear hO4 hB4)
    | (go_at_call 18; (with_reducible refine (Sum_any A c l w4 (sec_lies HA.out HH.out (HB1.out.trans (((Below.refl _ _).alloc (by omega) _).trans (HB2.out.trans (HB3.out.trans HB4.out))))) (by omega)).mono ?_); rintro e w5 ⟨rfl, hB5⟩; have HO5 := Lib.hid (HO4.out.below_all hB5); have HB5 := Lib.hid (hB5.mono (B' := H) (by omega)); have hs5 := hB5.size; clear hB5)
    | (go_at_call 11; (with_reducible refine (Put32_any H v4 _ (crc l) w5 HO5.out.src (by omega) HS.out (by simp [bytesV_length, low_length]; omega)).mono ?_); rintro e w6 ⟨v6, rfl, hO6, hB6⟩; rw [sec_cells id l] at hO6; obtain ⟨A6, c6, rfl, hL6⟩ := hO6.form; have HL6 := Lib.hid hL6; have HB6 : Hid (Below H w w6) := HB1.out.trans (((Below.refl _ _).alloc (by omega) _).trans (HB2.out.trans (HB3.out.trans (HB4.out.trans (HB5.out.trans hB6))))); have hs6 := hB6.size; clear hO6 hB6 hL6)
    | (at_builtin; go_must (refine wpList_app_src _ rfl (.tmp 28) (.tmp 29) _ rfl B 5 i0 _ 1 Try.underlying23 hi0 hz0 hz1 hz2 rfl (by omega) v rfl xs (sec_owns HO.out HH.out HB6.out) _ _ _ rfl _ HL6.out rfl (by rw [bytesV_length, sec_length]; omega) ?_ ?_ ?_ ?_; rotate_left; (focus exact bytesV_one _); (focus (simp [bytesV_length, sec_length]; omega)); (focus omega); intro v7 w7 hO7 hB7; have HO7 := Lib.hid hO7; have HB7 := Lib.hid hB7; clear hO7 hB7)))
  go_ret
  refine ⟨v7, rfl, ?_, (HB6.out.mono hHB).trans HB7.out⟩
  exact HO7.out

end Go.Proofs.Ytclgblmhicabnaa
