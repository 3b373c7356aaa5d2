/- DERIVED. The law that tokens come out again: the walk. -/
import Derived.Test.YtfajnflfonechaaDoorLxW
import Derived.Deep.CutRange
namespace Go.Proofs.YtfajnflfonechaaDoor
open Go.RowKit

theorem join_snoc {p : T} {ts : List Tk} {i : Nat} {t : Tk} (h : ts[i]? = some t) : joinS p (ts.take (i + 1)) = joinS p (ts.take i) ++ (t.text ++ p) := by
  rw [List.take_add_one, h]
  have : ∀ (l : List Tk), joinS p (l ++ [t]) = joinS p l ++ (t.text ++ p) := by
    intro l
    induction l with
    | nil => simp [joinS]
    | cons x l ih => simp only [List.cons_append, joinS, ih, List.append_assoc]
  exact this _
theorem join_take_len {p : T} (ts : List Tk) (i : Nat) : (joinS p (ts.take i)).length ≤ (joinS p ts).length := by
  have : ∀ (a b : List Tk), joinS p (a ++ b) = joinS p a ++ joinS p b := by
    intro a b
    induction a with
    | nil => simp [joinS]
    | cons x l ih => simp only [List.cons_append, joinS, ih, List.append_assoc]
  conv => rhs; rw [← List.take_append_drop i ts, this, List.length_append]
  omega
theorem alike_at {ts us : List Tk} (h : Alike ts us) {i : Nat} {t : Tk} (ht : ts[i]? = some t) : ∃ u, us[i]? = some u ∧ u.kind = t.kind ∧ u.text = t.text ∧ u.n = t.n := by
  have h1 := congrArg (fun l : List (Int × T × Int) => l[i]?) h
  simp only [List.getElem?_map, ht, Option.map_some] at h1
  cases hu : us[i]? with
  | none => rw [hu] at h1; cases h1
  | some u =>
    rw [hu] at h1
    simp only [Option.map_some, Option.some.injEq, Prod.mk.injEq] at h1
    exact ⟨u, rfl, h1.1.symm, h1.2.1.symm, h1.2.2.symm⟩
theorem str_app (a b : T) : (⟨a.toArray⟩ : ByteArray) ++ ⟨b.toArray⟩ = ⟨(a ++ b).toArray⟩ := by
  apply ByteArray.ext
  simp
theorem alike_len {ts us : List Tk} (h : Alike ts us) : us.length = ts.length := by
  have := congrArg List.length h
  simpa using this.symm

set_option maxRecDepth 100000 in
set_option maxHeartbeats 4000000 in
theorem back_ok (s : T) (ts : List Tk) (how : Int) (h0 : 0 ≤ how) (h255 : how ≤ 255) (w : World) (he : LexEnv w) (hs : s.length ≤ 2000) (hR : lexA s 0 [] = (ts, 0, 0)) : Calls Tryd.prog 4 #[.string ⟨s.toArray⟩, .int .u8 how] w fun e w' => e = .returned (.bool true) ∧ Below w.heap.size w w' := by
  have hne := lexA_ends hR
  obtain ⟨p, hp⟩ : ∃ p, seps[(how % 6).toNat]? = some p := ⟨_, List.getElem?_eq_getElem (show (how % 6).toNat < seps.length by show _ < 6; omega)⟩
  obtain ⟨hjl, hlen, us, hU, hal⟩ := lex_again hR (List.mem_of_getElem? hp)
  have hpos : ((ts.length : Int) == 0) = false := beq_eq_false_iff_ne.2 (by have := List.length_pos_iff.2 hne.1; omega)
  have hul := alike_len hal
  have hjt := fun i => join_take_len (p := p) ts i
  have HJT := Lib.hid hjt
  have HAL := Lib.hid hal
  have HP := Lib.hid hp
  have HCL : Hid (Calls Tryd.prog 6 #[.string ⟨s.toArray⟩] w (LexOk s ts w)) := lex_ok hR w (by omega) he
  have HCU : Hid (∀ w2, Below w.heap.size w w2 → Calls Tryd.prog 6 #[.string ⟨(joinS p ts).toArray⟩] w2 (LexOk (joinS p ts) us w2)) := fun w2 hb => lex_ok hU w2 (by omega) (he.later hb)
  have HAW : Hid (∀ w2, Below w.heap.size w w2 → Calls Tryd.prog 9 #[] w2 fun e w' => e = .returned (.bool true) ∧ Below w2.heap.size w2 w') := fun w2 hb => awake4_any w2 (he.later hb)
  have hs2 : ¬ (2000 : Int) < (s.length : Int) := by omega
  have HUL := Lib.hid hul
  clear he hR hne hU hal hp hjt hul
  go_enter Tryd.func4, Tryd.ntmps4
  go_upto_region 4 with (go_at_call 6; refine HCL.out.mono ?_; rintro e w1 ⟨g, c, rfl, hg, hgs, hrow, hb⟩; have HROW := Lib.hid hrow; have HB := Lib.hid hb; have HG := Lib.hid hg; have HGS := Lib.hid hgs; clear hrow hb hg hgs HCL)
  have HB1 : Hid (Below w.heap.size w (w1.alloc (.cells #[.int .i64 0, .int .i64 0] 24))) := Lib.hid ((HB.out).alloc HB.out.size _)
  have HX1 : Hid (Below w1.heap.size w1 (w1.alloc (.cells #[.int .i64 0, .int .i64 0] 24))) := Lib.hid ((Below.refl _ _).alloc (Nat.le_refl _) _)
  generalize w1.alloc (.cells #[.int .i64 0, .int .i64 0] 24) = wa at HB1 HX1 ⊢
  go_upto_region 6 with fail
  go_cut [8] from 15 (fun v w' => v = .string ⟨p.toArray⟩ ∧ Below wa.heap.size wa w')
  case first =>
    obtain ⟨q, k, hk, hk6⟩ : ∃ (q k : Nat), how = 6 * (q : Int) + (k : Int) ∧ k < 6 := ⟨(how / 6).toNat, (how % 6).toNat, by omega, by omega⟩
    have hmod : (how % 6).toNat = k := by omega
    have hp2 : seps[k]? = some p := by rw [← hmod]; exact HP.out
    have hk2 : k = 0 ∨ k = 1 ∨ k = 2 ∨ k = 3 ∨ k = 4 ∨ k = 5 := by omega
    have hr : how % 6 = (k : Int) := by omega
    clear hmod hk
    rcases hk2 with rfl | rfl | rfl | rfl | rfl | rfl
    all_goals
      obtain rfl := Option.some.inj hp2
      clear hp2
      go_wp2_with fail
      go_meet
      case rel => exact ⟨rfl, (Below.refl _ _).alloc (Nat.le_refl _) _⟩
  case rest =>
    obtain ⟨rfl, hbel⟩ := hcut
    have HBC : Hid (Below w.heap.size w wc) := Lib.hid (HB1.out.trans (hbel.mono HB1.out.size))
    have HTR : Hid (TkRow s wc g ts) := Lib.hid ((HROW.out).later (HX1.out.trans (hbel.mono HX1.out.size)) HGS.out)
    have HGC : Hid (g < wc.heap.size) := Lib.hid (Nat.lt_of_lt_of_le HGS.out (Nat.le_trans HX1.out.size hbel.size))
    clear hbel
    go_wp2_with fail
    go_loopg [9, 10] ts.length (fun g' tv k wr => ∃ i : Nat, i + g' = ts.length ∧ k = .int .i64 (i : Int) ∧ tv = .string ⟨(joinS p (ts.take i)).toArray⟩ ∧ wc = wr)
    case atStart => exact ⟨0, by omega, rfl, rfl, rfl⟩
    case round =>
      obtain ⟨i, hi, rfl, rfl, rfl⟩ := hrel
      by_cases hit : i < ts.length
      · obtain ⟨t, ht⟩ : ∃ t, ts[i]? = some t := ⟨_, List.getElem?_eq_getElem hit⟩
        have hjs := join_snoc (p := p) ht
        have HJS := Lib.hid hjs
        have hj1 := HJT.out i
        have hj2 := HJT.out (i + 1)
        rw [hjs, List.length_append, List.length_append] at hj2
        obtain ⟨y, hy⟩ : ∃ y, y = joinS p (ts.take i) := ⟨_, rfl⟩
        obtain ⟨x, hx⟩ : ∃ x, x = t.text := ⟨_, rfl⟩
        have c1 := (HTR.out i t ht).2.1
        rw [← hy] at hj1 hj2 ⊢
        rw [← hx] at hj2 c1
        have HY := Lib.hid hy
        have HXX := Lib.hid hx
        clear hjs ht hy hx
        go_wp2_with fail
        go_roundg (ts.length - (i + 1))
        case rel => exact ⟨i + 1, by omega, by go_num, by rw [str_app, str_app, HJS.out, ← HY.out, ← HXX.out], rfl⟩
        case measure => omega
      · obtain rfl : i = ts.length := by omega
        rw [List.take_length]
        go_upto_region 13 with (go_at_call 6; refine (HCU.out _ HBC.out).mono ?_; rintro e w2 ⟨g2, c2, rfl, hg2, hgs2, hrow2, hb2⟩; have HROW2 := Lib.hid hrow2; have HB2 := Lib.hid hb2; have HGS2 := Lib.hid hgs2; clear hrow2 hb2 hg2 hgs2 HCU)
        have HB3 : Hid (Below w.heap.size w (w2.alloc (.cells #[.int .i64 0, .int .i64 0] 24))) := Lib.hid ((HBC.out.trans (HB2.out.mono HBC.out.size)).alloc (Nat.le_trans HBC.out.size HB2.out.size) _)
        have HX3 : Hid (Below wc.heap.size wc (w2.alloc (.cells #[.int .i64 0, .int .i64 0] 24))) := Lib.hid ((HB2.out).alloc HB2.out.size _)
        have HX2 : Hid (Below w2.heap.size w2 (w2.alloc (.cells #[.int .i64 0, .int .i64 0] 24))) := Lib.hid ((Below.refl _ _).alloc (Nat.le_refl _) _)
        generalize w2.alloc (.cells #[.int .i64 0, .int .i64 0] 24) = wb at HB3 HX3 HX2 ⊢
        have HTR3 : Hid (TkRow s wb g ts) := Lib.hid ((HTR.out).later HX3.out HGC.out)
        have HTU : Hid (TkRow (joinS p ts) wb g2 us) := Lib.hid ((HROW2.out).later HX2.out HGS2.out)
        have HG3 : Hid (g < wb.heap.size) := Lib.hid (Nat.lt_of_lt_of_le HGC.out HX3.out.size)
        have HG4 : Hid (g2 < wb.heap.size) := Lib.hid (Nat.lt_of_lt_of_le HGS2.out HX2.out.size)
        have hul : us.length = ts.length := HUL.out
        rw [hul]
        clear hul
        go_wp2_with fail
        go_loopg [14] ts.length (fun g' k wr => ∃ i : Nat, i + g' = ts.length ∧ k = .int .i64 (i : Int) ∧ Below wb.heap.size wb wr)
        case atStart => exact ⟨0, by omega, rfl, Below.refl _ _⟩
        case round =>
          obtain ⟨i, hi, rfl, hbel⟩ := hrel
          have HBL := Lib.hid hbel
          clear hbel
          by_cases hit : i < ts.length
          · obtain ⟨t, ht⟩ : ∃ t, ts[i]? = some t := ⟨_, List.getElem?_eq_getElem hit⟩
            obtain ⟨u, hu, hu1, hu2, hu3⟩ := alike_at HAL.out ht
            obtain ⟨c0, c1, c2, _, _⟩ := ((HTR3.out).later HBL.out HG3.out) i t ht
            obtain ⟨r0, r1, r2, _, _⟩ := ((HTU.out).later HBL.out HG4.out) i u hu
            rw [hu1] at r0
            rw [hu2] at r1
            rw [hu3] at r2
            obtain ⟨k, hk⟩ : ∃ k, k = t.kind := ⟨_, rfl⟩
            obtain ⟨x, hx⟩ : ∃ x, x = t.text := ⟨_, rfl⟩
            obtain ⟨n, hn⟩ : ∃ n, n = t.n := ⟨_, rfl⟩
            rw [← hk] at c0 r0
            rw [← hx] at c1 r1
            rw [← hn] at c2 r2
            clear hk hx hn ht hu hu1 hu2 hu3
            go_upto_region 18 with fail
            go_region
            all_goals go_wp2_with fail
            go_roundg (ts.length - (i + 1))
            case rel => exact ⟨i + 1, by omega, by go_num, HBL.out.drew⟩
            case measure => omega
          · obtain rfl : i = ts.length := by omega
            go_wp2_with (go_at_call 9; refine (HAW.out _ (HB3.out.trans (HBL.out.mono HB3.out.size))).mono ?_; rintro e w9 ⟨rfl, hb9⟩; have HB9 := Lib.hid hb9; clear hb9)
            go_ret
            exact ⟨rfl, (HB3.out.trans (HBL.out.mono HB3.out.size)).trans (HB9.out.mono (Nat.le_trans HB3.out.size HBL.out.size))⟩

set_option maxRecDepth 100000 in
set_option maxHeartbeats 4000000 in
theorem lexBack_any (s : T) (how : Int) (h0 : 0 ≤ how) (h255 : how ≤ 255) (w : World) (he : LexEnv w) : Calls Tryd.prog 4 #[.string ⟨s.toArray⟩, .int .u8 how] w fun e w' => e = .returned (.bool true) ∧ Below w.heap.size w w' := by
  by_cases h2000 : (2000 : Int) < (s.length : Int)
  · clear he
    go_enter Tryd.func4, Tryd.ntmps4
    go_wp2_with fail
    go_ret
    exact ⟨rfl, Below.refl _ _⟩
  · rcases lexA_cases s with ⟨ts, hR⟩ | ⟨a, code, hR, hc0⟩
    · exact back_ok s ts how h0 h255 w he (by omega) hR
    · have HCL : Hid (Calls Tryd.prog 6 #[.string ⟨s.toArray⟩] w (LexNo s a code w)) := lex_no hc0 hR w (by omega) he
      have HAW : Hid (∀ w2, Below w.heap.size w w2 → Calls Tryd.prog 9 #[] w2 fun e w' => e = .returned (.bool true) ∧ Below w2.heap.size w2 w') := fun w2 hb => awake4_any w2 (he.later hb)
      have hc1 : (code == 0) = false := beq_eq_false_iff_ne.2 hc0
      have hs2 : ¬ (2000 : Int) < (s.length : Int) := h2000
      clear he hR h2000
      go_enter Tryd.func4, Tryd.ntmps4
      go_upto_region 4 with (go_at_call 6; refine HCL.out.mono ?_; rintro e w1 ⟨rfl, hb⟩; have HB := Lib.hid hb; clear hb HCL)
      obtain ⟨z1, hz1⟩ : ∃ z, z = (plAt s a).1 := ⟨_, rfl⟩
      obtain ⟨z2, hz2⟩ : ∃ z, z = (plAt s a).2 := ⟨_, rfl⟩
      rw [← hz1, ← hz2]
      clear hz1 hz2
      have HB1 : Hid (Below w.heap.size w (w1.alloc (.cells #[.int .i64 z1, .int .i64 z2] 24))) := Lib.hid ((HB.out).alloc HB.out.size _)
      generalize w1.alloc (.cells #[.int .i64 z1, .int .i64 z2] 24) = wa at HB1 ⊢
      go_wp2_with (go_at_call 9; refine (HAW.out _ HB1.out).mono ?_; rintro e w9 ⟨rfl, hb9⟩; have HB9 := Lib.hid hb9; clear hb9)
      go_ret
      exact ⟨rfl, HB1.out.trans (HB9.out.mono HB1.out.size)⟩

end Go.Proofs.YtfajnflfonechaaDoor
