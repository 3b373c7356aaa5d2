/- DERIVED. The document's texts: digits, levels, texts of the ops. -/
import Derived.Test.YtfajnflfonechaaDoorTx
import Derived.Test.YtfajnflfonechaaDoorWr
import Derived.Test.YtfajnflfonechaaDoorTame
import Derived.Deep.LoopGhost
import Derived.WalkMore
import Derived.Deep.CutRange
namespace Go.Proofs.YtfajnflfonechaaDoor
open Go.RowKit

theorem str_app2 (a b : T) : (⟨a.toArray⟩ : ByteArray) ++ ⟨b.toArray⟩ = ⟨(a ++ b).toArray⟩ := by
  apply ByteArray.ext
  simp

theorem ret_str {a b : ByteArray} (h : a = b) : Ending.returned (.string a) = Ending.returned (.string b) := by rw [h]
set_option maxRecDepth 100000 in
set_option maxHeartbeats 1000000 in
theorem num_any (n : Int) (h0 : 0 ≤ n) (h1 : n ≤ 9223372036854775807) (w : World) : Calls Tryd.prog 37 #[.int .i64 n] w fun e w' => e = .returned (.string ⟨(Lib.decDigits n.toNat).toArray⟩) ∧ Below w.heap.size w w' := by
  obtain ⟨D, hD⟩ : ∃ D, D = Lib.decDigits n.toNat := ⟨_, rfl⟩
  have hDl := dec_len h1
  rw [← hD] at hDl ⊢
  have HD := Lib.hid hD
  clear hD
  go_enter Tryd.func37, Tryd.ntmps37
  go_wp2_with fail
  go_loopg [0, 3] n.toNat (fun g m s wr => ∃ (k : Nat) (t : T), k ≤ g ∧ m = .int .i64 (k : Int) ∧ s = .string ⟨t.toArray⟩ ∧ (k : Int) ≤ n ∧ D = Lib.decDigits k ++ t ∧ Below w.heap.size w wr)
  case atStart => exact ⟨n.toNat, [], Nat.le_refl _, by rw [Int.toNat_of_nonneg h0], rfl, by omega, by rw [HD.out]; simp, Below.refl _ _⟩
  case round =>
    obtain ⟨k, t, hkg, rfl, rfl, hkn, hdd, hbel⟩ := hrel
    have HBL := Lib.hid hbel
    have HDD := Lib.hid hdd
    have htl : t.length ≤ 20 := by have := congrArg List.length hdd; rw [List.length_append] at this; omega
    clear hbel hdd
    obtain ⟨q, r, hkq, hr⟩ : ∃ q r : Nat, k = 10 * q + r ∧ r < 10 := ⟨k / 10, k % 10, by omega, by omega⟩
    subst hkq
    have hm : (r : Int) % 10 = (r : Int) := by omega
    have hd : (10 * (q : Int) + (r : Int)) / 10 = (q : Int) := by omega
    obtain ⟨d8, hd8⟩ : ∃ d8 : UInt8, d8 = UInt8.ofNat (48 + r) := ⟨_, rfl⟩
    have hv8 : (d8.toNat : Int) = 48 + (r : Int) := by rw [hd8, UInt8.toNat_ofNat']; omega
    have hc : (convert 80 9 (.slice (some ⟨wr.heap.size, 0, none⟩) 1 1)).run Tryd.prog (wr.alloc (.cells #[.int .u8 (48 + (r : Int))] 5)) = .ok (.string ⟨([d8] : T).toArray⟩) (wr.alloc (.cells #[.int .u8 (48 + (r : Int))] 5)) :=
      run_str (P := Tryd.prog) _ 80 5 9 Tryd.underlying80 Tryd.underlying5 Tryd.underlying9 (some ⟨wr.heap.size, 0, none⟩) 1 1 [d8] rfl (fun _ => ⟨wr.heap.size, 0, rfl, by simp, fun j u hu => by
        rw [Nat.zero_add, (Row.made wr 5 _).cell j]
        match j, hu with
        | 0, hu => simp only [bytesV, byteV, List.map_cons, List.map_nil] at hu; simp at hu; subst hu; simp [hv8]
        | j + 1, hu => simp [bytesV] at hu⟩)
    have HD8 := Lib.hid hd8
    have hb1 : Below w.heap.size w (wr.alloc (.cells #[.int .u8 (48 + (r : Int))] 5)) := HBL.out.alloc HBL.out.size _
    have HB1 := Lib.hid hb1
    clear hd8 hv8 hb1
    by_cases hq0 : q = 0
    · subst hq0
      have HDR : Hid (D = [d8] ++ t) := Lib.hid (by rw [HDD.out, Nat.mul_zero, Nat.zero_add, Lib.decDigits_one hr, HD8.out])
      have hz : (r : Int) / 10 = 0 := by omega
      clear hd
      go_wp2_with fail
      go_ret
      exact ⟨ret_str ((str_app2 [d8] t).trans (by rw [HDR.out])), HB1.out⟩
    · have HDR : Hid (D = Lib.decDigits q ++ ([d8] ++ t)) := Lib.hid (by
        rw [HDD.out, Lib.decDigits, dif_neg (by omega), List.append_assoc, HD8.out, show (10 * q + r) / 10 = q by omega, show (10 * q + r) % 10 = r by omega])
      have hq1 : ((q : Int) == 0) = false := by simpa using hq0
      go_wp2_with fail
      go_roundg q
      case rel => exact ⟨q, [d8] ++ t, Nat.le_refl _, by go_num, by rw [← str_app2], by omega, HDR.out, HB1.out⟩
      case measure => omega

set_option maxRecDepth 100000 in
set_option maxHeartbeats 1000000 in
theorem refLevel_any (o : Int) (h0 : 0 ≤ o) (h1 : o ≤ 15) (w : World) : Calls Tryd.prog 40 #[.int .i64 o] w fun e w' => e = .returned (.int .i64 (levOf o)) ∧ Below w.heap.size w w' := by
  have : o = 0 ∨ o = 1 ∨ o = 2 ∨ o = 3 ∨ o = 4 ∨ o = 5 ∨ o = 6 ∨ o = 7 ∨ o = 8 ∨ o = 9 ∨ o = 10 ∨ o = 11 ∨ o = 12 ∨ o = 13 ∨ o = 14 ∨ o = 15 := by omega
  rcases this with rfl | rfl | rfl | rfl | rfl | rfl | rfl | rfl | rfl | rfl | rfl | rfl | rfl | rfl | rfl | rfl
  all_goals
    go_enter Tryd.func40, Tryd.ntmps40
    go_wp2_with fail
    go_ret
    exact ⟨rfl, (Below.refl _ _).alloc (Nat.le_refl _) _⟩
/-- A new row of texts. -/
def NewTxs (ts : List T) (v : Value) (w : World) : Prop := ∃ g, v = .slice (some ⟨g, 0, none⟩) ts.length ts.length ∧ Row w g 9 (txs ts)
theorem NewTxs.later {ts : List T} {v : Value} {w w' : World} (h : NewTxs ts v w) (hl : Tame.Later w w') : NewTxs ts v w' := by
  obtain ⟨g, hv, hr⟩ := h
  exact ⟨g, hv, Row.below hr hl hr.lt⟩
set_option maxRecDepth 100000 in
set_option maxHeartbeats 1000000 in
theorem refTexts_any (w : World) : Calls Tryd.prog 41 #[] w fun e w' => ∃ v, e = .returned v ∧ Below w.heap.size w w' ∧ NewTxs opS v w' := by
  go_enter Tryd.func41, Tryd.ntmps41
  go_wp2_with fail
  go_ret
  exact ⟨_, rfl, (Below.refl _ _).alloc (Nat.le_refl _) _, w.heap.size, rfl, Row.made _ _ _⟩
set_option maxRecDepth 100000 in
set_option maxHeartbeats 1000000 in
theorem refPre_any (w : World) : Calls Tryd.prog 39 #[] w fun e w' => ∃ v, e = .returned v ∧ Below w.heap.size w w' ∧ NewTxs preS v w' := by
  go_enter Tryd.func39, Tryd.ntmps39
  go_wp2_with fail
  go_ret
  exact ⟨_, rfl, (Below.refl _ _).alloc (Nat.le_refl _) _, w.heap.size, rfl, Row.made _ _ _⟩
set_option maxRecDepth 100000 in
set_option maxHeartbeats 1000000 in
theorem refLev_any (x : X) (A : Option Addr) (c : Nat) (w : World) (hx : x.shape = true) : Calls Tryd.prog 58 #[ev x A c] w fun e w' => e = .returned (.int .i64 x.lev) ∧ Below w.heap.size w w' := by
  have hf := (shape_open hx).1
  clear hx
  cases x with
  | mk k o n s ks =>
    have hb : Below w.heap.size w (w.alloc (.cells #[.int .i64 k, .int .i64 o, .int .i64 n, .string ⟨s.toArray⟩, .slice A ks.length c] 46)) := (Below.refl _ _).alloc (Nat.le_refl _) _
    have hr : Row (w.alloc (.cells #[.int .i64 k, .int .i64 o, .int .i64 n, .string ⟨s.toArray⟩, .slice A ks.length c] 46)) w.heap.size 46 #[.int .i64 k, .int .i64 o, .int .i64 n, .string ⟨s.toArray⟩, .slice A ks.length c] := Row.made _ _ _
    have HR := Lib.hid hr
    have HB := Lib.hid hb
    clear hb hr
    go_enter Tryd.func58, Tryd.ntmps58
    simp only [ev, X.k, X.o, X.n, X.s, X.ks]
    go_upto_region 1 with fail
    generalize w.alloc (.cells #[.int .i64 k, .int .i64 o, .int .i64 n, .string ⟨s.toArray⟩, .slice A ks.length c] 46) = w0 at HR HB ⊢
    have c0 := HR.out.cell 0
    have c1 := HR.out.cell 1
    simp at c0 c1
    by_cases h4 : k = 4
    · subst h4
      have ho : 0 ≤ o ∧ o ≤ 15 := by
        rcases hf with ⟨h1, _⟩ | ⟨h1, _⟩ | ⟨h1, _⟩ | ⟨h1, _⟩ | ⟨h1, h2⟩ | ⟨h1, _⟩ | ⟨h1, _⟩
        · exact absurd h1 (by simp [X.k])
        · exact absurd h1 (by simp [X.k])
        · exact absurd h1 (by simp [X.k])
        · exact absurd h1 (by simp [X.k])
        · exact ⟨h2.1, h2.2.1⟩
        · exact absurd h1 (by simp [X.k])
        · exact absurd h1 (by simp [X.k])
      have HLL := Lib.hid fun w9 => refLevel_any o ho.1 ho.2 w9
      clear hf ho
      go_wp2_with (go_at_call 40; refine (HLL.out _).mono ?_; rintro e w1 ⟨rfl, h1⟩; have H1 := Lib.hid h1; clear h1)
      go_ret
      exact ⟨rfl, HB.out.trans (H1.out.mono HB.out.size)⟩
    · have h4' : (k == 4) = false := by simpa using h4
      by_cases h5 : k = 5
      · subst h5
        go_wp2_with fail
        go_ret
        exact ⟨rfl, HB.out⟩
      · have h5' : (k == 5) = false := by simpa using h5
        by_cases h3 : k = 3
        · subst h3
          go_wp2_with fail
          go_ret
          exact ⟨rfl, HB.out⟩
        · have h3' : (k == 3) = false := by simpa using h3
          have HL : Hid ((X.mk k o n s ks).lev = 8) := Lib.hid (by unfold X.lev; rw [if_neg (show (X.mk k o n s ks).k ≠ 5 from h5), if_neg (show (X.mk k o n s ks).k ≠ 4 from h4), if_neg (show (X.mk k o n s ks).k ≠ 3 from h3)])
          clear h3 h4 h5 hf
          go_wp2_with fail
          go_ret
          exact ⟨congrArg (fun z => Ending.returned (.int .i64 z)) HL.out.symm, HB.out⟩

end Go.Proofs.YtfajnflfonechaaDoor
