/- DERIVED. The walks of the document's own puts. -/
import Derived.Test.YtclgblmhicabnaaPuts2
import Derived.Deep.RegionWith
import Derived.Test.YtclgblmhicabnaaTame
namespace Go.Proofs.Ytclgblmhicabnaa
open Go.RowKit Crc Nums
attribute [local go_sem] Tame.Op Tame.upon

theorem low_snoc (k : Nat) : ∀ v : Nat, low (k + 1) v = low k v ++ [UInt8.ofNat (v / 256 ^ k % 256)] := by
  induction k with
  | zero => intro v; simp [low]
  | succ k ih =>
    intro v
    have h1 : low (k + 1 + 1) v = UInt8.ofNat (v % 256) :: low (k + 1) (v / 256) := rfl
    have h2 : low (k + 1) v = UInt8.ofNat (v % 256) :: low k (v / 256) := rfl
    rw [h1, ih, h2, Nat.div_div_eq_div_mul, Nat.pow_succ, Nat.mul_comm 256]
    rfl

theorem run_str1 (n : Nat) (h : n < 256) (z : Int) (hz : z = (n : Int)) (W : World) :
    (convert 23 9 (.slice (some ⟨W.heap.size, 0, none⟩) 1 1)).run Try.prog (W.alloc (.cells #[.int .u8 z] 5)) = .ok (.string ⟨#[UInt8.ofNat n]⟩) (W.alloc (.cells #[.int .u8 z] 5)) := by
  subst hz
  have h2 := lies_new W #[.int .u8 (n : Int)] 5
  have e : (#[Value.int .u8 (n : Int)] : Array Value).toList = bytesV [UInt8.ofNat n] := by
    show [Value.int .u8 (n : Int)] = [byteV (UInt8.ofNat n)]
    rw [byte_of n h]
  rw [e] at h2
  exact run_str (P := Try.prog) _ 23 5 9 Try.underlying23 Try.underlying5 Try.underlying9 _ 1 1 [UInt8.ofNat n] rfl h2

set_option maxRecDepth 100000 in
set_option maxHeartbeats 1000000 in
theorem refPut_any (x n : Nat) (w : World) (hx : x < 18446744073709551616) (hn : n ≤ 8) :
    Calls Try.prog 10 #[.int .u64 x, .int .i64 n] w fun e w' => e = .returned (.string ⟨(low n x).toArray⟩) ∧ Below w.heap.size w w' := by
  go_enter Try.func10, Try.ntmps10
  go_wp2_with fail
  go_loopw [0, 5, 6] (fun v s k wr => ∃ (i y : Nat), i ≤ n ∧ k = .int .i64 i ∧ v = .int .u64 y ∧ y < 18446744073709551616 ∧ y = x / 256 ^ i ∧ s = .string ⟨(low i x).toArray⟩ ∧ Below w.heap.size w wr) (fun _ _ k _ => n - (intOf k).toNat)
  case atStart => exact ⟨0, x, by omega, rfl, rfl, hx, by simp, rfl, Below.refl _ _⟩
  case round =>
    obtain ⟨i, y, hi, rfl, rfl, hy, hyx, rfl, hB⟩ := hrel
    have HY := Lib.hid hyx
    have HB := Lib.hid hB
    have hsz := hB.size
    clear hyx hB
    by_cases hlt : i < n
    · have hc := run_str1 (y % 256) (by omega) ((y : Int) % 256) (by omega)
      have hl := low_length i x
      obtain ⟨L, hL⟩ : ∃ L, L = low i x := ⟨_, rfl⟩
      rw [← hL] at hl ⊢
      have HL := Lib.hid hL
      clear hL
      go_wp2
      refine ⟨⟨i + 1, y / 256, by omega, by go_num, by go_num, by omega, ?_, ?_, HB.out.alloc hsz _⟩, by simp [intOf]; omega⟩
      · rw [HY.out, Nat.div_div_eq_div_mul, Nat.pow_succ]
      · rw [low_snoc, ← HY.out, ← HL.out, ByteArray.mk_append_mk]
    · go_wp2
      go_ret
      have : i = n := by omega
      subst this
      exact ⟨rfl, HB.out⟩

theorem run_str1d (n : Nat) (h : n < 256) (z : Int) (hz : z = (n : Int)) (W : World) :
    (convert 23 9 (.slice (some ⟨W.heap.size, 0, none⟩) 1 1)).run Try.prog (W.alloc (.cells #[.int .u8 z] 5)).drew = .ok (.string ⟨#[UInt8.ofNat n]⟩) (W.alloc (.cells #[.int .u8 z] 5)).drew :=
  run_str1 n h z hz W.drew

theorem run_str1_later (n : Nat) (h : n < 256) {z : Int} (hz : z = (n : Int)) {W W' : World} (hb : Below (W.alloc (.cells #[.int .u8 z] 5)).heap.size (W.alloc (.cells #[.int .u8 z] 5)) W') :
    (convert 23 9 (.slice (some ⟨W.heap.size, 0, none⟩) 1 1)).run Try.prog W' = .ok (.string ⟨#[UInt8.ofNat n]⟩) W' := by
  subst hz
  have h2 := lies_new W #[.int .u8 (n : Int)] 5
  have e : (#[Value.int .u8 (n : Int)] : Array Value).toList = bytesV [UInt8.ofNat n] := by
    show [Value.int .u8 (n : Int)] = [byteV (UInt8.ofNat n)]
    rw [byte_of n h]
  rw [e] at h2
  exact run_str (P := Try.prog) _ 23 5 9 Try.underlying23 Try.underlying5 Try.underlying9 _ 1 1 [UInt8.ofNat n] rfl ((h2.below hb).more hb.size)

theorem run_str1_laterd (n : Nat) (h : n < 256) {z : Int} (hz : z = (n : Int)) {W W' : World} (hb : Below (W.alloc (.cells #[.int .u8 z] 5)).drew.heap.size (W.alloc (.cells #[.int .u8 z] 5)).drew W') :
    (convert 23 9 (.slice (some ⟨W.heap.size, 0, none⟩) 1 1)).run Try.prog W' = .ok (.string ⟨#[UInt8.ofNat n]⟩) W' :=
  run_str1_later n h hz (W := W) ⟨hb.os, hb.tape, hb.output, hb.size, hb.block⟩

set_option maxRecDepth 100000 in
set_option maxHeartbeats 2000000 in
theorem refPutVar_any (k : Nat) : ∀ (x : Nat) (w : World), x < 18446744073709551616 → x < 128 ^ (k + 1) →
    Calls Try.prog 13 #[.int .u64 x] w fun e w' => e = .returned (.string ⟨(var x).toArray⟩) ∧ Below w.heap.size w w' := by
  induction k with
  | zero =>
    intro x w hx hk
    have hs : x < 128 := by simpa using hk
    have hc := run_str1 x (by omega) (x : Int) rfl w
    have HV := Lib.hid (var_small x hs)
    clear hk
    go_enter Try.func13, Try.ntmps13
    go_wp2_with fail
    go_ret
    exact ⟨by rw [HV.out]; rfl, (Below.refl _ _).alloc (Nat.le_refl _) _⟩
  | succ k ih =>
    intro x w hx hk
    have ih := Lib.hid ih
    by_cases hs : x < 128
    · have hc := run_str1 x (by omega) (x : Int) rfl w
      have HV := Lib.hid (var_small x hs)
      clear hk
      go_enter Try.func13, Try.ntmps13
      go_wp2_with fail
      go_ret
      exact ⟨by rw [HV.out]; rfl, (Below.refl _ _).alloc (Nat.le_refl _) _⟩
    · have HV := Lib.hid (var_step x hs hx)
      have hk2 : x / 128 < 128 ^ (k + 1) := by rw [Nat.pow_succ] at hk; omega
      have HK := Lib.hid hk2
      clear hk hk2
      go_enter Try.func13, Try.ntmps13
      go_wp2_with fail
      obtain ⟨m, hm, hml⟩ : ∃ m, m = x % 128 ∧ m < 128 := ⟨_, rfl, by omega⟩
      obtain ⟨b, hb, hbl⟩ : ∃ b, b = m + 128 ∧ b < 256 := ⟨_, rfl, by omega⟩
      obtain ⟨y, hy, hyl⟩ : ∃ y, y = x / 128 ∧ y < 18446744073709551616 := ⟨_, rfl, by omega⟩
      have e1 : ((x : Int)).tmod 128 = (m : Int) := by rw [Int.tmod_eq_emod_of_nonneg (by omega)]; omega
      have hvl := (var_length y).2
      have e2 : IntKind.u8.wrap (m : Int) = (m : Int) := by rw [IntKind.wrap_u8']; omega
      have e3 : IntKind.u8.wrap ((m : Int) + 128) = (b : Int) := by rw [IntKind.wrap_u8']; omega
      have e4 : IntKind.u64.wrap ((x : Int) / 128) = (y : Int) := by rw [IntKind.wrap_u64]; omega
      have HM := Lib.hid hm
      have HBb := Lib.hid hb
      have HY := Lib.hid hy
      have hK : y < 128 ^ (k + 1) := by rw [hy]; exact HK.out
      have HK2 := Lib.hid hK
      clear hm hb hy hK
      have hc := fun W => run_str1d b hbl (b : Int) rfl W
      have hcW := fun W => run_str1 b hbl (b : Int) rfl W
      go_region_with (go_at_call 13; refine (ih.out y _ hyl HK2.out).mono ?_; rintro e w2 ⟨rfl, hB2⟩; (try have hcL := run_str1_laterd b hbl rfl hB2); have HB2 := Lib.hid hB2; clear hB2)
      all_goals
        go_wp2_with fail
        go_ret
        refine ⟨?_, ?_⟩
        · rw [HV.out, ← HY.out, ← HM.out, ← HBb.out, ByteArray.mk_append_mk]
          rfl
        · first
            | exact (((Below.refl _ _).alloc (Nat.le_refl _) _).drew).trans (HB2.out.mono (by simp))
            | exact (((Below.refl _ _).drew).trans HB2.out).alloc HB2.out.size _

set_option maxRecDepth 100000 in
set_option maxHeartbeats 1000000 in
theorem refPutText_any (s : ByteArray) (w : World) (hs : s.size ≤ 1099511627776) :
    Calls Try.prog 15 #[.string s] w fun e w' => e = .returned (.string ⟨(text s.data.toList).toArray⟩) ∧ Below w.heap.size w w' := by
  have hvl := (var_length s.size).2
  go_enter Try.func15, Try.ntmps15
  go_wp2_with (go_at_call 13; refine (refPutVar_any 9 s.size _ (by omega) (by omega)).mono ?_; rintro e w2 ⟨rfl, hB2⟩)
  go_ret
  refine ⟨?_, hB2⟩
  show Ending.returned (.string ({ data := (var s.size).toArray } ++ s)) = _
  rw [text, show s.data.toList.length = s.size by simp, ← ByteArray.mk_append_mk]

theorem lies_newd (w : World) (cs : Array Value) (t : TypeId) : Lies (w.alloc (.cells cs t)).drew (w.alloc (.cells cs t)).drew.heap.size (some ⟨w.heap.size, 0, none⟩) cs.toList := lies_new w cs t
theorem Lies.later {w w' : World} {A : Option Addr} {xs : List Value} (h : Lies w w.heap.size A xs) (hb : Below w.heap.size w w') : Lies w' w'.heap.size A xs := (h.below hb).more hb.size
theorem conv_of (n : Nat) (h : n < 256) {W : World} {A : Option Addr} {c : Nat} (hl : Lies W W.heap.size A (#[Value.int .u8 (n : Int)] : Array Value).toList) :
    (convert 23 9 (.slice A 1 c)).run Try.prog W = .ok (.string ⟨#[UInt8.ofNat n]⟩) W := by
  have e : (#[Value.int .u8 (n : Int)] : Array Value).toList = bytesV [UInt8.ofNat n] := by
    show [Value.int .u8 (n : Int)] = [byteV (UInt8.ofNat n)]
    rw [byte_of n h]
  rw [e] at hl
  exact run_str (P := Try.prog) _ 23 5 9 Try.underlying23 Try.underlying5 Try.underlying9 _ 1 c [UInt8.ofNat n] rfl hl

theorem sec_text (id : UInt8) (s : ByteArray) (L1 L2 : List UInt8) (h1 : L1 = low 4 s.size) (h2 : L2 = low 4 (crc s.data.toList)) :
    ((({ data := #[id] } : ByteArray) ++ { data := L1.toArray } ++ s ++ { data := L2.toArray })) = ⟨(section_ id s.data.toList).toArray⟩ := by
  subst h1 h2
  apply ByteArray.ext
  apply Array.ext'
  simp [section_, ByteArray.data_append]

set_option maxRecDepth 100000 in
set_option maxHeartbeats 4000000 in
theorem refPutSection_any (id : UInt8) (s : ByteArray) (w : World) (hs : s.size ≤ 2147483648) :
    Calls Try.prog 17 #[.int .u8 id.toNat, .string s] w fun e w' => e = .returned (.string ⟨(section_ id s.data.toList).toArray⟩) ∧ Below w.heap.size w w' := by
  have hid := id.toNat_lt
  have hl1 := low_length 4 s.size
  have hl2 := low_length 4 (crc s.data.toList)
  have HC := Lib.hid (crc_lt s.data.toList)
  obtain ⟨L1, h1⟩ : ∃ L, L = low 4 s.size := ⟨_, rfl⟩
  obtain ⟨L2, h2⟩ : ∃ L, L = low 4 (crc s.data.toList) := ⟨_, rfl⟩
  rw [← h1] at hl1
  rw [← h2] at hl2
  have H1 := Lib.hid h1
  have H2 := Lib.hid h2
  have hl1' : L1.length ≤ 4 := by omega
  have hl2' : L2.length ≤ 4 := by omega
  clear h1 h2 hl1 hl2
  have c1 : ∀ W, Calls Try.prog 10 #[.int .u64 s.size, .int .i64 4] W fun e w' => e = .returned (.string ⟨L1.toArray⟩) ∧ Below W.heap.size W w' := fun W => by
    rw [H1.out]; exact refPut_any s.size 4 W (by omega) (by omega)
  obtain ⟨q, hq⟩ : ∃ q, q = crc s.data.toList := ⟨_, rfl⟩
  have c2 : ∀ W, Calls Try.prog 10 #[.int .u64 q, .int .i64 4] W fun e w' => e = .returned (.string ⟨L2.toArray⟩) ∧ Below W.heap.size W w' := fun W => by
    rw [H2.out, hq]; exact refPut_any _ 4 W (Nat.lt_trans HC.out (by omega)) (by omega)
  have c3 : ∀ W, Calls Try.prog 19 #[.string s] W fun e w' => e = .returned (.int .u32 q) ∧ W = w' := fun W => by
    rw [hq]; exact refSum_any s W (by omega)
  have hql : q < 4294967296 := by rw [hq]; exact HC.out
  have e1 : IntKind.u64.wrap (q : Int) = (q : Int) := by rw [IntKind.wrap_u64]; omega
  have e2 : IntKind.u64.wrap (s.size : Int) = (s.size : Int) := by rw [IntKind.wrap_u64]; omega
  have C1 := Lib.hid c1
  have C2 := Lib.hid c2
  have C3 := Lib.hid c3
  clear c1 c2 c3 hq
  go_enter Try.func17, Try.ntmps17
  go_wp2_with fail
  refine Tame.wp_region_tame (by kernel_rfl) (by kernel_rfl) Tame.Later.refl Tame.Later.trans ?_
  repeat
    ((first
      | (refine Tame.walk_some (o := ⟨some 6, _, _, _, _, _⟩) (fun v w => ∃ A, v = .slice A 1 1 ∧ Lies w w.heap.size A (#[Value.int .u8 (id.toNat : Int)] : Array Value).toList) (fun _ => rfl) (fun v w w' hl ⟨A, hv, hA⟩ => ⟨A, hv, hA.later hl⟩) (fun vals w hL hd => ?_) ?_; (focus (have hn := lies_new w #[.int .u8 (id.toNat : Int)] 5; go_simp; exact Tame.Has.mk ((Below.refl _ _).alloc (Nat.le_refl _) _) ⟨_, rfl, hn⟩)))
      | (refine Tame.walk_known (o := ⟨some 7, _, _, _, _, _⟩) (fun _ => rfl) ?_; apply Exists.intro; refine ⟨fun vals w hL hd => ?_, ?_⟩; (focus (obtain ⟨A, hv, hA⟩ := hd ⟨1, .data⟩ (by simp) rfl _ rfl; have hc := conv_of id.toNat hid (c := 1) hA; clear hd; go_simp; exact Tame.Is.mk (Tame.Later.refl _))))
      | (refine Tame.walk_known (o := ⟨some 11, _, _, _, _, _⟩) (fun _ => rfl) ?_; apply Exists.intro; refine ⟨fun vals w hL hd => ?_, ?_⟩; (focus (go_simp; exact Tame.known (C1.out _))))
      | (refine Tame.walk_known (o := ⟨some 16, _, _, _, _, _⟩) (fun _ => rfl) ?_; apply Exists.intro; refine ⟨fun vals w hL hd => ?_, ?_⟩; (focus (go_simp; exact Tame.known_same (C3.out _))))
      | (refine Tame.walk_known (o := ⟨some 18, _, _, _, _, _⟩) (fun _ => rfl) ?_; apply Exists.intro; refine ⟨fun vals w hL hd => ?_, ?_⟩; (focus (go_simp; exact Tame.known (C2.out _))))
      | (refine Tame.walk_known (fun _ => rfl) ?_; apply Exists.intro; refine ⟨fun vals w hL hd => ?_, ?_⟩; (focus (go_simp; first | exact Tame.Is.mk (Tame.Later.refl _) | (rw [if_neg]; (focus exact Tame.Is.mk (Tame.Later.refl _)); omega)))))
     simp only [Act.put, List.setIfInBounds_toArray, List.set_cons_zero, List.set_cons_succ, List.nil_append, List.cons_append])
  refine Tame.walk_end fun vals w2 hL hts => ?_
  go_wp2
  go_ret
  refine ⟨?_, Below.trans ((Below.refl _ _).drew) (show Below w.heap.size w.drew w2 from hL)⟩
  show Ending.returned (.string (({ data := #[id] } : ByteArray) ++ { data := L1.toArray } ++ s ++ { data := L2.toArray })) = _
  rw [sec_text id s L1 L2 H1.out H2.out]

end Go.Proofs.Ytclgblmhicabnaa
