/- DERIVED. The walk of WirePuts. -/
import Derived.Test.YtfclmiijelpjbaaRefs
import Derived.Test.YtfclmiijelpjbaaAwake
namespace Go.Proofs.Ytfclmiijelpjbaa
open Go.RowKit Crc Nums
attribute [local go_sem] Tame.Op Tame.upon

theorem seven (l : List UInt8) : bytesV (7 :: l) = bytesV [7] ++ bytesV l := rfl

theorem conv_own {W : World} {B : Nat} {v : Value} {l : List UInt8} (h : Owns W B 5 v (bytesV (7 :: l))) :
    (convert 23 9 v).run Try.prog W = .ok (.string (({ data := #[7] } : ByteArray) ++ { data := l.toArray })) W := by
  have e : (({ data := #[7] } : ByteArray) ++ { data := l.toArray }) = ⟨(7 :: l).toArray⟩ := by
    have := ByteArray.mk_append_mk [7] l
    exact this
  rw [e]
  exact run_str_of 23 5 9 Try.underlying23 Try.underlying5 Try.underlying9 h

set_option maxRecDepth 100000 in
set_option maxHeartbeats 8000000 in
theorem puts_main (x : Nat) (s : ByteArray) (id : UInt8) (w : World) (hx : x < 18446744073709551616) (hs : s.size ≤ 600) :
    Calls Try.prog 3 #[.int .u64 x, .string s, .int .u8 id.toNat] w fun e w' => e = .returned (.bool true) ∧ Below w.heap.size w w' := by
  obtain ⟨y, hy, hyl⟩ : ∃ y, y = x % 65536 ∧ y < 65536 := ⟨_, rfl, by omega⟩
  obtain ⟨z, hz, hzl⟩ : ∃ z, z = x % 4294967296 ∧ z < 4294967296 := ⟨_, rfl, by omega⟩
  have e1 : IntKind.u16.wrap (x : Int) = (y : Int) := by rw [IntKind.wrap_u16]; omega
  have e2 : IntKind.u32.wrap (x : Int) = (z : Int) := by rw [IntKind.wrap_u32']; omega
  have e3 : ((x : Int)).tmod 65536 = (y : Int) := by rw [Int.tmod_eq_emod_of_nonneg (by omega)]; omega
  have e4 : ((x : Int)).tmod 4294967296 = (z : Int) := by rw [Int.tmod_eq_emod_of_nonneg (by omega)]; omega
  obtain ⟨L2, h2⟩ : ∃ L, L = low 2 y := ⟨_, rfl⟩
  obtain ⟨L4, h4⟩ : ∃ L, L = low 4 z := ⟨_, rfl⟩
  obtain ⟨LV, hV⟩ : ∃ L, L = var x := ⟨_, rfl⟩
  have l2 : L2.length ≤ 2 := by rw [h2, low_length]; omega
  have l4 : L4.length ≤ 4 := by rw [h4, low_length]; omega
  have lV : LV.length ≤ 11 := by rw [hV]; exact (var_length x).2
  have P16 : ∀ W v, Full W v (bytesV [7]) → Calls Try.prog 9 #[v, .int .u16 y] W fun e w' => ∃ v', e = .returned v' ∧ Owns w' W.heap.size 5 v' (bytesV [7] ++ bytesV L2) ∧ Below W.heap.size W w' := fun W v hf => by
    rw [h2]; exact Put16_any W.heap.size v _ y W hf.src (Nat.le_refl _) hyl (by simp [bytesV])
  have P32 : ∀ W v, Full W v (bytesV [7]) → Calls Try.prog 11 #[v, .int .u32 z] W fun e w' => ∃ v', e = .returned v' ∧ Owns w' W.heap.size 5 v' (bytesV [7] ++ bytesV L4) ∧ Below W.heap.size W w' := fun W v hf => by
    rw [h4]; exact Put32_any W.heap.size v _ z W hf.src (Nat.le_refl _) hzl (by simp [bytesV])
  have PV : ∀ W v, Full W v (bytesV [7]) → Calls Try.prog 12 #[v, .int .u64 x] W fun e w' => ∃ v', e = .returned v' ∧ Owns w' W.heap.size 5 v' (bytesV [7] ++ bytesV LV) ∧ Below W.heap.size W w' := fun W v hf => by
    rw [hV]; exact PutVar_any W.heap.size v _ x W hf.src (Nat.le_refl _) hx (by simp [bytesV])
  have R2 : Hid (∀ W, Calls Try.prog 10 #[.int .u64 y, .int .i64 2] W fun e w' => e = .returned (.string ⟨L2.toArray⟩) ∧ Below W.heap.size W w') := fun W => by
    rw [h2]; exact refPut_any y 2 W (by omega) (by omega)
  have R4 : Hid (∀ W, Calls Try.prog 10 #[.int .u64 z, .int .i64 4] W fun e w' => e = .returned (.string ⟨L4.toArray⟩) ∧ Below W.heap.size W w') := fun W => by
    rw [h4]; exact refPut_any z 4 W (by omega) (by omega)
  have RV : Hid (∀ W, Calls Try.prog 13 #[.int .u64 x] W fun e w' => e = .returned (.string ⟨LV.toArray⟩) ∧ Below W.heap.size W w') := fun W => by
    rw [hV]; exact refPutVar_any 9 x W hx (by omega)
  have PT : ∀ W v, Full W v (bytesV [7]) → Calls Try.prog 14 #[v, .string s] W fun e w' => ∃ v', e = .returned v' ∧ Owns w' W.heap.size 5 v' (bytesV [7] ++ bytesV (text s.data.toList)) ∧ Below W.heap.size W w' := fun W v hf =>
    PutText_any W.heap.size v _ s W hf.src (Nat.le_refl _) (by omega) (by simp [bytesV]; omega)
  have PS : ∀ W v A c, Full W v (bytesV [7]) → Lies W W.heap.size A (bytesV s.data.toList) → Calls Try.prog 16 #[v, .int .u8 id.toNat, .slice A s.size c] W fun e w' => ∃ v', e = .returned v' ∧ Owns w' W.heap.size 5 v' (bytesV [7] ++ bytesV (section_ id s.data.toList)) ∧ Below W.heap.size W w' := fun W v A c hf hA => by
    have := PutSection_any W.heap.size v _ id A c s.data.toList W hf.src hA (Nat.le_refl _) (by simp; omega) (by simp [bytesV])
    simpa using this
  have SS : ∀ W A c, Lies W W.heap.size A (bytesV s.data.toList) → Calls Try.prog 18 #[.slice A s.size c] W fun e w' => e = .returned (.int .u32 (crc s.data.toList : Nat)) ∧ Below W.heap.size W w' := fun W A c hA => by
    have := Sum_any A c s.data.toList W hA (by simp; omega)
    simpa using this
  have RT := Lib.hid (fun W => refPutText_any s W (by omega))
  have RS := Lib.hid (fun W => refPutSection_any id s W (by omega))
  have RU := Lib.hid (fun W => refSum_any s W (by omega))
  have lT : (text s.data.toList).length ≤ 611 := by
    have := (var_length s.size).2
    simp [text]; omega
  have lS : (section_ id s.data.toList).length ≤ 609 := by rw [sec_length]; simp; omega
  clear h2 h4 hV hy hz
  go_enter Try.func3, Try.ntmps3
  go_wp2_with fail
  refine Tame.wp_region_tame (by kernel_rfl) (by kernel_rfl) Tame.Later.refl Tame.Later.trans ?_
  repeat
    ((first
      | (refine Tame.walk_some (o := ⟨some 10, _, _, _, _, _⟩) (fun v w => Full w v (bytesV [7])) (fun _ => rfl) (fun v w w' hl h => Full.later h hl) (fun vals w hL hd => ?_) ?_; (focus (have hn := Full.made w #[.int .u8 7] 5 1 rfl (by omega); go_simp; exact Tame.Has.mk ((Below.refl _ _).alloc (Nat.le_refl _) _) hn)))
      | (refine Tame.walk_some (o := ⟨some 21, _, _, _, _, _⟩) (fun v w => Full w v (bytesV [7])) (fun _ => rfl) (fun v w w' hl h => Full.later h hl) (fun vals w hL hd => ?_) ?_; (focus (have hn := Full.made w #[.int .u8 7] 5 1 rfl (by omega); go_simp; exact Tame.Has.mk ((Below.refl _ _).alloc (Nat.le_refl _) _) hn)))
      | (refine Tame.walk_some (o := ⟨some 33, _, _, _, _, _⟩) (fun v w => Full w v (bytesV [7])) (fun _ => rfl) (fun v w w' hl h => Full.later h hl) (fun vals w hL hd => ?_) ?_; (focus (have hn := Full.made w #[.int .u8 7] 5 1 rfl (by omega); go_simp; exact Tame.Has.mk ((Below.refl _ _).alloc (Nat.le_refl _) _) hn)))
      | (refine Tame.walk_some (o := ⟨some 13, _, _, _, _, _⟩) (fun v w => Owns w 0 5 v (bytesV (7 :: L2))) (fun _ => rfl) (fun v w w' hl h => Owns.below_all h hl) (fun vals w hL hd => ?_) ?_; (focus (have hf : Full w (vals 0) (bytesV [7]) := hd ⟨0, .data⟩ (by simp) rfl _ rfl; clear hd; go_simp; exact Tame.has ((P16 w (vals 0) hf).mono fun e w' ⟨v', he, ho, hb⟩ => ⟨v', he, by rw [seven]; exact ho.base (Nat.zero_le _), hb⟩))))
      | (refine Tame.walk_some (o := ⟨some 24, _, _, _, _, _⟩) (fun v w => Owns w 0 5 v (bytesV (7 :: L4))) (fun _ => rfl) (fun v w w' hl h => Owns.below_all h hl) (fun vals w hL hd => ?_) ?_; (focus (have hf : Full w (vals 11) (bytesV [7]) := hd ⟨11, .data⟩ (by simp) rfl _ rfl; clear hd; go_simp; exact Tame.has ((P32 w (vals 11) hf).mono fun e w' ⟨v', he, ho, hb⟩ => ⟨v', he, by rw [seven]; exact ho.base (Nat.zero_le _), hb⟩))))
      | (refine Tame.walk_some (o := ⟨some 35, _, _, _, _, _⟩) (fun v w => Owns w 0 5 v (bytesV (7 :: LV))) (fun _ => rfl) (fun v w w' hl h => Owns.below_all h hl) (fun vals w hL hd => ?_) ?_; (focus (have hf : Full w (vals 23) (bytesV [7]) := hd ⟨23, .data⟩ (by simp) rfl _ rfl; clear hd; go_simp; exact Tame.has ((PV w (vals 23) hf).mono fun e w' ⟨v', he, ho, hb⟩ => ⟨v', he, by rw [seven]; exact ho.base (Nat.zero_le _), hb⟩))))
      | (refine Tame.walk_known (o := ⟨some 14, _, _, _, _, _⟩) (fun _ => rfl) ?_; apply Exists.intro; refine ⟨fun vals w hL hd => ?_, ?_⟩; (focus (have ho : Owns w 0 5 (vals 3) (bytesV (7 :: L2)) := hd ⟨3, .data⟩ (by simp) rfl _ rfl; have hc := conv_own ho; clear hd ho; go_simp; exact Tame.Is.mk (Tame.Later.refl _))))
      | (refine Tame.walk_known (o := ⟨some 25, _, _, _, _, _⟩) (fun _ => rfl) ?_; apply Exists.intro; refine ⟨fun vals w hL hd => ?_, ?_⟩; (focus (have ho : Owns w 0 5 (vals 14) (bytesV (7 :: L4)) := hd ⟨14, .data⟩ (by simp) rfl _ rfl; have hc := conv_own ho; clear hd ho; go_simp; exact Tame.Is.mk (Tame.Later.refl _))))
      | (refine Tame.walk_known (o := ⟨some 36, _, _, _, _, _⟩) (fun _ => rfl) ?_; apply Exists.intro; refine ⟨fun vals w hL hd => ?_, ?_⟩; (focus (have ho : Owns w 0 5 (vals 25) (bytesV (7 :: LV)) := hd ⟨25, .data⟩ (by simp) rfl _ rfl; have hc := conv_own ho; clear hd ho; go_simp; exact Tame.Is.mk (Tame.Later.refl _))))
      | (refine Tame.walk_known (o := ⟨some 17, _, _, _, _, _⟩) (fun _ => rfl) ?_; apply Exists.intro; refine ⟨fun vals w hL hd => ?_, ?_⟩; (focus (go_simp; exact Tame.known (R2.out _))))
      | (refine Tame.walk_known (o := ⟨some 28, _, _, _, _, _⟩) (fun _ => rfl) ?_; apply Exists.intro; refine ⟨fun vals w hL hd => ?_, ?_⟩; (focus (go_simp; exact Tame.known (R4.out _))))
      | (refine Tame.walk_known (o := ⟨some 38, _, _, _, _, _⟩) (fun _ => rfl) ?_; apply Exists.intro; refine ⟨fun vals w hL hd => ?_, ?_⟩; (focus (go_simp; exact Tame.known (RV.out _))))
      | (refine Tame.walk_known (fun _ => rfl) ?_; apply Exists.intro; refine ⟨fun vals w hL hd => ?_, ?_⟩; (focus (go_simp; first | exact Tame.Is.mk (Tame.Later.refl _) | (rw [if_neg]; (focus exact Tame.Is.mk (Tame.Later.refl _)); omega)))))
     simp only [Act.put, List.setIfInBounds_toArray, List.set_cons_zero, List.set_cons_succ, List.nil_append, List.cons_append, List.length_cons, List.length_nil, Nat.zero_add, Nat.reduceAdd])
  refine Tame.walk_end fun vals w2 hL2 hts => ?_
  go_wp2_with fail
  have HL2 : Hid (Below w.heap.size w w2) := (Below.refl _ _).drew.trans hL2
  clear hL2 hts P16 P32 PV R2 R4 RV
  refine Tame.wp_region_tame (by kernel_rfl) (by kernel_rfl) Tame.Later.refl Tame.Later.trans ?_
  repeat
    ((first
      | (refine Tame.walk_some (o := ⟨some 42, _, _, _, _, _⟩) (fun v w => Full w v (bytesV [7])) (fun _ => rfl) (fun v w w' hl h => Full.later h hl) (fun vals w hL hd => ?_) ?_; (focus (have hn := Full.made w #[.int .u8 7] 5 1 rfl (by omega); go_simp; exact Tame.Has.mk ((Below.refl _ _).alloc (Nat.le_refl _) _) hn)))
      | (refine Tame.walk_some (o := ⟨some 51, _, _, _, _, _⟩) (fun v w => Full w v (bytesV [7])) (fun _ => rfl) (fun v w w' hl h => Full.later h hl) (fun vals w hL hd => ?_) ?_; (focus (have hn := Full.made w #[.int .u8 7] 5 1 rfl (by omega); go_simp; exact Tame.Has.mk ((Below.refl _ _).alloc (Nat.le_refl _) _) hn)))
      | (refine Tame.walk_some (o := ⟨some 44, _, _, _, _, _⟩) (fun v w => Owns w 0 5 v (bytesV (7 :: text s.data.toList))) (fun _ => rfl) (fun v w w' hl h => Owns.below_all h hl) (fun vals w hL hd => ?_) ?_; (focus (have hf : Full w (vals 0) (bytesV [7]) := hd ⟨0, .data⟩ (by simp) rfl _ rfl; clear hd; go_simp; exact Tame.has ((PT w (vals 0) hf).mono fun e w' ⟨v', he, ho, hb⟩ => ⟨v', he, by rw [seven]; exact ho.base (Nat.zero_le _), hb⟩))))
      | (refine Tame.walk_known (o := ⟨some 45, _, _, _, _, _⟩) (fun _ => rfl) ?_; apply Exists.intro; refine ⟨fun vals w hL hd => ?_, ?_⟩; (focus (have ho : Owns w 0 5 (vals 2) (bytesV (7 :: text s.data.toList)) := hd ⟨2, .data⟩ (by simp) rfl _ rfl; have hc := conv_own ho; clear hd ho; go_simp; exact Tame.Is.mk (Tame.Later.refl _))))
      | (refine Tame.walk_known (o := ⟨some 47, _, _, _, _, _⟩) (fun _ => rfl) ?_; apply Exists.intro; refine ⟨fun vals w hL hd => ?_, ?_⟩; (focus (go_simp; exact Tame.known (RT.out _))))
      | (refine Tame.walk_some (o := ⟨some 54, _, _, _, _, _⟩) (IsBytes s.size s.data.toList) (fun _ => rfl) (fun v w w' hl h => IsBytes.later h hl) (fun vals w hL hd => ?_) ?_; (focus (have hcb := Lib.run_convert_string_bytes (P := Try.prog) w 9 23 5 s Try.underlying9 Try.underlying23 Try.underlying5; clear hd; go_simp; exact Tame.Has.mk (bytesWorld_below _ _ _) (bytesWorld_is _ _ _ _))))
      | (refine Tame.walk_some (o := ⟨some 55, _, _, _, _, _⟩) (fun v w => Owns w 0 5 v (bytesV (7 :: section_ id s.data.toList))) (fun _ => rfl) (fun v w w' hl h => Owns.below_all h hl) (fun vals w hL hd => ?_) ?_; (focus (have hf : Full w (vals 9) (bytesV [7]) := hd ⟨9, .data⟩ (by simp) rfl _ rfl; obtain ⟨A, c, hv, hA⟩ := hd ⟨12, .data⟩ (by simp) rfl _ rfl; clear hd; go_simp; exact Tame.has ((PS w (vals 9) A c hf hA).mono fun e w' ⟨v', he, ho, hb⟩ => ⟨v', he, by rw [seven]; exact ho.base (Nat.zero_le _), hb⟩))))
      | (refine Tame.walk_known (o := ⟨some 56, _, _, _, _, _⟩) (fun _ => rfl) ?_; apply Exists.intro; refine ⟨fun vals w hL hd => ?_, ?_⟩; (focus (have ho : Owns w 0 5 (vals 13) (bytesV (7 :: section_ id s.data.toList)) := hd ⟨13, .data⟩ (by simp) rfl _ rfl; have hc := conv_own ho; clear hd ho; go_simp; exact Tame.Is.mk (Tame.Later.refl _))))
      | (refine Tame.walk_known (o := ⟨some 59, _, _, _, _, _⟩) (fun _ => rfl) ?_; apply Exists.intro; refine ⟨fun vals w hL hd => ?_, ?_⟩; (focus (go_simp; exact Tame.known (RS.out _))))
      | (refine Tame.walk_some (o := ⟨some 65, _, _, _, _, _⟩) (IsBytes s.size s.data.toList) (fun _ => rfl) (fun v w w' hl h => IsBytes.later h hl) (fun vals w hL hd => ?_) ?_; (focus (have hcb := Lib.run_convert_string_bytes (P := Try.prog) w 9 23 5 s Try.underlying9 Try.underlying23 Try.underlying5; clear hd; go_simp; exact Tame.Has.mk (bytesWorld_below _ _ _) (bytesWorld_is _ _ _ _))))
      | (refine Tame.walk_known (o := ⟨some 66, _, _, _, _, _⟩) (fun _ => rfl) ?_; apply Exists.intro; refine ⟨fun vals w hL hd => ?_, ?_⟩; (focus (obtain ⟨A, c, hv, hA⟩ := hd ⟨23, .data⟩ (by simp) rfl _ rfl; clear hd; go_simp; exact Tame.known (SS w A c hA))))
      | (refine Tame.walk_known (o := ⟨some 68, _, _, _, _, _⟩) (fun _ => rfl) ?_; apply Exists.intro; refine ⟨fun vals w hL hd => ?_, ?_⟩; (focus (go_simp; exact Tame.known_same (RU.out _))))
      | (refine Tame.walk_known (o := ⟨some 72, _, _, _, _, _⟩) (fun _ => rfl) ?_; apply Exists.intro; refine ⟨fun vals w hL hd => ?_, ?_⟩; (focus (go_simp; exact Tame.known (awake1_any _))))
      | (refine Tame.walk_known (fun _ => rfl) ?_; apply Exists.intro; refine ⟨fun vals w hL hd => ?_, ?_⟩; (focus (go_simp; first | exact Tame.Is.mk (Tame.Later.refl _) | (rw [if_neg]; (focus exact Tame.Is.mk (Tame.Later.refl _)); omega)))))
     simp only [Act.put, List.setIfInBounds_toArray, List.set_cons_zero, List.set_cons_succ, List.nil_append, List.cons_append, List.length_cons, List.length_nil, Nat.zero_add, Nat.reduceAdd])
  refine Tame.walk_end fun vals w3 hL3 hts => ?_
  go_wp2_with fail
  go_ret
  exact ⟨rfl, HL2.out.trans ((Below.refl _ _).drew.trans (Below.mono (B := w2.heap.size) hL3 HL2.out.size))⟩

set_option maxRecDepth 100000 in
set_option maxHeartbeats 1000000 in
theorem puts_any (x : Nat) (s : ByteArray) (id : UInt8) (w : World) (hx : x < 18446744073709551616) (hs : s.size ≤ 9223372036854775807) :
    Calls Try.prog 3 #[.int .u64 x, .string s, .int .u8 id.toNat] w fun e w' => e = .returned (.bool true) ∧ Below w.heap.size w w' := by
  by_cases h : s.size ≤ 600
  · exact puts_main x s id w hx h
  · go_enter Try.func3, Try.ntmps3
    go_wp2_with fail
    go_ret
    exact ⟨rfl, Below.refl _ _⟩

end Go.Proofs.Ytfclmiijelpjbaa
