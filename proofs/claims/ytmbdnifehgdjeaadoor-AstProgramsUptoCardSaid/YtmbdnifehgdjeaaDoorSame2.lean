/- DERIVED. Whether two expressions are the same: the document's SameExpr. -/
import Derived.Test.YtmbdnifehgdjeaaDoorSame
import Derived.Test.YtmbdnifehgdjeaaDoorTamg
namespace Go.Proofs.YtmbdnifehgdjeaaDoor
open Go.RowKit
attribute [local go_sem] Tame.Op Tame.upon

set_option maxRecDepth 100000 in
set_option maxHeartbeats 4000000 in
theorem SameExpr_any (N : Nat) (hM : N ≤ 1099511627775) : ∀ (x y : X) (A B : Option Addr) (c d : Nat) (w : World) (S : Nat → Prop), x.size ≤ N → KS w S A x.ks → y.size ≤ 1099511627775 → KS w S B y.ks → (∀ b, S b → b < w.heap.size) →
    Calls Tryd.prog 16 #[ev x A c, ev y B d] w fun e w' => e = .returned (.bool (x.same y)) ∧ Below w.heap.size w w' := by
  induction N with
  | zero => intro x y A B c d w S h; have := x.size_pos; omega
  | succ N ih0 =>
    have ih := ih0 (by omega)
    clear ih0
    intro x y A B c d w S hN hA hy hB hS
    obtain ⟨k, o, n, s, ks⟩ := x
    obtain ⟨k', o', n', s', ks'⟩ := y
    simp only [X.size, X.ks, ev, X.k, X.o, X.n, X.s] at hN hA hy hB ⊢
    by_cases hk : k = k'
    · subst hk
      by_cases ho : o = o'
      · subst ho
        by_cases hn : n = n'
        · subst hn
          by_cases hs : s = s'
          · subst hs
            by_cases hl : ks.length = ks'.length
            · have HE : Hid ((X.mk k o n s ks).same (.mk k o n s ks') = X.sames ks ks') := Lib.hid (by simp [X.same])
              have HL := Lib.hid hl
              rw [← hl]
              clear hl
              have HY := Lib.hid hy
              have HA := Lib.hid hA
              have HB := Lib.hid hB
              have hlen := X.sizes_length ks
              clear hy hA hB
              have hr1 := (Row.made w 24 #[.int .i64 k, .int .i64 o, .int .i64 n, .string ⟨s.toArray⟩, .slice A ks.length c]).alloc (.cells #[.int .i64 k, .int .i64 o, .int .i64 n, .string ⟨s.toArray⟩, .slice B ks.length d] 24)
              have hr2 := Row.made (w.alloc (.cells #[.int .i64 k, .int .i64 o, .int .i64 n, .string ⟨s.toArray⟩, .slice A ks.length c] 24)) 24 #[.int .i64 k, .int .i64 o, .int .i64 n, .string ⟨s.toArray⟩, .slice B ks.length d]
              rw [World.size_alloc] at hr2
              have hBe : Below w.heap.size w ((w.alloc (.cells #[.int .i64 k, .int .i64 o, .int .i64 n, .string ⟨s.toArray⟩, .slice A ks.length c] 24)).alloc (.cells #[.int .i64 k, .int .i64 o, .int .i64 n, .string ⟨s.toArray⟩, .slice B ks.length d] 24)) := ((Below.refl _ _).alloc (Nat.le_refl _) _).alloc (by simp) _
              have hz0 : ((w.alloc (.cells #[.int .i64 k, .int .i64 o, .int .i64 n, .string ⟨s.toArray⟩, .slice A ks.length c] 24)).alloc (.cells #[.int .i64 k, .int .i64 o, .int .i64 n, .string ⟨s.toArray⟩, .slice B ks.length d] 24)).heap.size = w.heap.size + 2 := by simp
              have HR1 := Lib.hid hr1
              have HR2 := Lib.hid hr2
              have HBE := Lib.hid hBe
              have HZ0 := Lib.hid hz0
              clear hr1 hr2 hBe hz0
              go_enter Tryd.func16, Tryd.ntmps16
              go_wp2_with fail
              go_loopw [4, 5] (fun r i wr => r = .bool false ∧ ∃ j : Nat, j ≤ ks.length ∧ i = .int .i64 j ∧ (∀ (q : Nat) x y, q < j → ks[q]? = some x → ks'[q]? = some y → x.same y = true) ∧ Below (w.heap.size + 2) ((w.alloc (.cells #[.int .i64 k, .int .i64 o, .int .i64 n, .string ⟨s.toArray⟩, .slice A ks.length c] 24)).alloc (.cells #[.int .i64 k, .int .i64 o, .int .i64 n, .string ⟨s.toArray⟩, .slice B ks.length d] 24)) wr) (fun _ i _ => ks.length - (intOf i).toNat)
              case atStart => exact ⟨rfl, 0, by omega, rfl, fun q x y h => by omega, Below.refl _ _⟩
              case round =>
                obtain ⟨rfl, j, hj, rfl, hs, hbw0⟩ := hrel
                have R1 := Lib.hid (HR1.out.below hbw0 (by omega))
                have R2 := Lib.hid (HR2.out.below hbw0 (by omega))
                have hbw : Below w.heap.size w wr := HBE.out.trans (hbw0.mono (by omega))
                have hz1 : w.heap.size + 2 ≤ wr.heap.size := by have := hbw0.size; rw [HZ0.out] at this; exact this
                have HBW := Lib.hid hbw0
                have HSM := Lib.hid hs
                have hws := hbw.size
                have c4 := R1.out.cell 4
                simp at c4
                clear hs hbw0
                by_cases hlt : j < ks.length
                · obtain ⟨x, hx1⟩ : ∃ x, ks[j]? = some x := ⟨_, List.getElem?_eq_getElem hlt⟩
                  obtain ⟨y, hy1⟩ : ∃ y, ks'[j]? = some y := ⟨_, List.getElem?_eq_getElem (by have := HL.out; omega)⟩
                  obtain ⟨b, off, A', c', rfl, d0, d1, d2, d3, d4, hk, hbl⟩ := HA.out.kid_at hS hbw hx1
                  obtain ⟨b2, off2, B', c2, rfl, e0, e1, e2, e3, e4, hk2, hbl2⟩ := HB.out.kid_at hS hbw hy1
                  have hb1' : b < wr.heap.size := by omega
                  have hb2' : b2 < wr.heap.size := by omega
                  have HX := Lib.hid hx1
                  have HY1 := Lib.hid hy1
                  have D0 := Lib.hid d0
                  have D1 := Lib.hid d1
                  have D2 := Lib.hid d2
                  have D3 := Lib.hid d3
                  have D4 := Lib.hid d4
                  have E0 := Lib.hid e0
                  have E1 := Lib.hid e1
                  have E2 := Lib.hid e2
                  have E3 := Lib.hid e3
                  have E4 := Lib.hid e4
                  have HC : Hid (∀ w2, Below wr.heap.size wr w2 → Calls Tryd.prog 16 #[.agg #[.int .i64 x.k, .int .i64 x.o, .int .i64 x.n, .string ⟨x.s.toArray⟩, .slice A' x.ks.length c'], .agg #[.int .i64 y.k, .int .i64 y.o, .int .i64 y.n, .string ⟨y.s.toArray⟩, .slice B' y.ks.length c2]] w2 fun e w' => e = .returned (.bool (x.same y)) ∧ Below w2.heap.size w2 w') :=
                    fun w2 hb2 => ih x y A' B' c' c2 w2 S (Nat.le_trans (X.sizes_at hx1) (by omega)) (hk.later (fun b h => Nat.lt_of_lt_of_le (hS b h) hws) hb2) (Nat.le_trans (X.sizes_at hy1) (by have := HY.out; omega)) (hk2.later (fun b h => Nat.lt_of_lt_of_le (hS b h) hws) hb2) (fun b h => Nat.lt_of_lt_of_le (hS b h) (Nat.le_trans hws hb2.size))
                  clear hx1 hy1 hk hk2 hbw d0 d1 d2 d3 d4 e0 e1 e2 e3 e4
                  by_cases he : x.same y = true
                  · have HEE := Lib.hid he
                    rw [he] at HC
                    clear he
                    go_wp2_with fail
                    refine Tame.wp_region_tame (by kernel_rfl) (by kernel_rfl) Tame.Later.refl Tame.Later.trans ?_
                    repeat
                      ((first
                        | (refine Tame.walk_known (o := ⟨some 49, _, _, _, _, _⟩) (fun _ => rfl) ?_; apply Exists.intro; refine ⟨fun vals w2 hL hd => ?_, ?_⟩; (focus (have hb2 : Below wr.heap.size wr w2 := (Below.refl _ wr).drew.trans hL; have c := (R1.out.below (hb2.mono (by have := HBW.out.size; simp at this; omega) : Below (w.heap.size + 2) wr w2) (by omega)).cell 4; clear hd hL hb2; simp at c; go_simp; exact Tame.Is.mk (Tame.Later.refl _))))
                        | (refine Tame.walk_known (o := ⟨some 54, _, _, _, _, _⟩) (fun _ => rfl) ?_; apply Exists.intro; refine ⟨fun vals w2 hL hd => ?_, ?_⟩; (focus (have hb2 : Below wr.heap.size wr w2 := (Below.refl _ wr).drew.trans hL; have c := (R2.out.below (hb2.mono (by have := HBW.out.size; simp at this; omega) : Below (w.heap.size + 2) wr w2) (by omega)).cell 4; clear hd hL hb2; simp at c; go_simp; exact Tame.Is.mk (Tame.Later.refl _))))
                        | (refine Tame.walk_known (o := ⟨some 52, _, _, _, _, _⟩) (fun _ => rfl) ?_; apply Exists.intro; refine ⟨fun vals w2 hL hd => ?_, ?_⟩; (focus (have hb2 : Below wr.heap.size wr w2 := (Below.refl _ wr).drew.trans hL; have f0 := (hb2.cell (p := ⟨b, off + j * 5, none⟩) (show b < _ from hb1')).trans D0.out; have f1 := (hb2.cell (p := ⟨b, off + j * 5 + 1, none⟩) (show b < _ from hb1')).trans D1.out; have f2 := (hb2.cell (p := ⟨b, off + j * 5 + 2, none⟩) (show b < _ from hb1')).trans D2.out; have f3 := (hb2.cell (p := ⟨b, off + j * 5 + 3, none⟩) (show b < _ from hb1')).trans D3.out; have f4 := (hb2.cell (p := ⟨b, off + j * 5 + 4, none⟩) (show b < _ from hb1')).trans D4.out; clear hd hL hb2; go_simp; exact Tame.Is.mk (Tame.Later.refl _))))
                        | (refine Tame.walk_known (o := ⟨some 57, _, _, _, _, _⟩) (fun _ => rfl) ?_; apply Exists.intro; refine ⟨fun vals w2 hL hd => ?_, ?_⟩; (focus (have hb2 : Below wr.heap.size wr w2 := (Below.refl _ wr).drew.trans hL; have f0 := (hb2.cell (p := ⟨b2, off2 + j * 5, none⟩) (show b2 < _ from hb2')).trans E0.out; have f1 := (hb2.cell (p := ⟨b2, off2 + j * 5 + 1, none⟩) (show b2 < _ from hb2')).trans E1.out; have f2 := (hb2.cell (p := ⟨b2, off2 + j * 5 + 2, none⟩) (show b2 < _ from hb2')).trans E2.out; have f3 := (hb2.cell (p := ⟨b2, off2 + j * 5 + 3, none⟩) (show b2 < _ from hb2')).trans E3.out; have f4 := (hb2.cell (p := ⟨b2, off2 + j * 5 + 4, none⟩) (show b2 < _ from hb2')).trans E4.out; clear hd hL hb2; go_simp; exact Tame.Is.mk (Tame.Later.refl _))))
                        | (refine Tame.walk_known (o := ⟨some 58, _, _, _, _, _⟩) (fun _ => rfl) ?_; apply Exists.intro; refine ⟨fun vals w2 hL hd => ?_, ?_⟩; (focus (have hb2 : Below wr.heap.size wr w2 := (Below.refl _ wr).drew.trans hL; have HCC := Lib.hid (HC.out w2 hb2); clear hd hL hb2; go_simp; exact Tame.known HCC.out)))
                        | (refine Tame.walk_known (fun _ => rfl) ?_; apply Exists.intro; refine ⟨fun vals w2 hL hd => ?_, ?_⟩; (focus (go_simp; first | exact Tame.Is.mk (Tame.Later.refl _) | (rw [if_neg]; (focus exact Tame.Is.mk (Tame.Later.refl _)); omega)))))
                       simp only [Act.put, List.setIfInBounds_toArray, List.set_cons_zero, List.set_cons_succ, List.nil_append, List.cons_append])
                    refine Tame.walk_end fun vals w2 hL _ => ?_
                    have HB2 : Hid (Below wr.heap.size wr w2) := (Below.refl _ wr).drew.trans hL
                    clear hL
                    go_wp2_with fail
                    go_roundw
                    case rel => exact ⟨rfl, j + 1, by omega, by go_num, fun q u v hq hu hv => by
                      by_cases e : q = j
                      · subst e; rw [HX.out] at hu; rw [HY1.out] at hv; injection hu with hu; injection hv with hv; rw [← hu, ← hv]; exact HEE.out
                      · exact HSM.out q u v (by omega) hu hv, HBW.out.trans (HB2.out.mono hz1)⟩
                    case measure => simp [intOf]; omega
                  · have he' : x.same y = false := by simpa using he
                    have HEE := Lib.hid he'
                    rw [he'] at HC
                    clear he he'
                    go_wp2_with fail
                    refine Tame.wp_region_tame (by kernel_rfl) (by kernel_rfl) Tame.Later.refl Tame.Later.trans ?_
                    repeat
                      ((first
                        | (refine Tame.walk_known (o := ⟨some 49, _, _, _, _, _⟩) (fun _ => rfl) ?_; apply Exists.intro; refine ⟨fun vals w2 hL hd => ?_, ?_⟩; (focus (have hb2 : Below wr.heap.size wr w2 := (Below.refl _ wr).drew.trans hL; have c := (R1.out.below (hb2.mono (by have := HBW.out.size; simp at this; omega) : Below (w.heap.size + 2) wr w2) (by omega)).cell 4; clear hd hL hb2; simp at c; go_simp; exact Tame.Is.mk (Tame.Later.refl _))))
                        | (refine Tame.walk_known (o := ⟨some 54, _, _, _, _, _⟩) (fun _ => rfl) ?_; apply Exists.intro; refine ⟨fun vals w2 hL hd => ?_, ?_⟩; (focus (have hb2 : Below wr.heap.size wr w2 := (Below.refl _ wr).drew.trans hL; have c := (R2.out.below (hb2.mono (by have := HBW.out.size; simp at this; omega) : Below (w.heap.size + 2) wr w2) (by omega)).cell 4; clear hd hL hb2; simp at c; go_simp; exact Tame.Is.mk (Tame.Later.refl _))))
                        | (refine Tame.walk_known (o := ⟨some 52, _, _, _, _, _⟩) (fun _ => rfl) ?_; apply Exists.intro; refine ⟨fun vals w2 hL hd => ?_, ?_⟩; (focus (have hb2 : Below wr.heap.size wr w2 := (Below.refl _ wr).drew.trans hL; have f0 := (hb2.cell (p := ⟨b, off + j * 5, none⟩) (show b < _ from hb1')).trans D0.out; have f1 := (hb2.cell (p := ⟨b, off + j * 5 + 1, none⟩) (show b < _ from hb1')).trans D1.out; have f2 := (hb2.cell (p := ⟨b, off + j * 5 + 2, none⟩) (show b < _ from hb1')).trans D2.out; have f3 := (hb2.cell (p := ⟨b, off + j * 5 + 3, none⟩) (show b < _ from hb1')).trans D3.out; have f4 := (hb2.cell (p := ⟨b, off + j * 5 + 4, none⟩) (show b < _ from hb1')).trans D4.out; clear hd hL hb2; go_simp; exact Tame.Is.mk (Tame.Later.refl _))))
                        | (refine Tame.walk_known (o := ⟨some 57, _, _, _, _, _⟩) (fun _ => rfl) ?_; apply Exists.intro; refine ⟨fun vals w2 hL hd => ?_, ?_⟩; (focus (have hb2 : Below wr.heap.size wr w2 := (Below.refl _ wr).drew.trans hL; have f0 := (hb2.cell (p := ⟨b2, off2 + j * 5, none⟩) (show b2 < _ from hb2')).trans E0.out; have f1 := (hb2.cell (p := ⟨b2, off2 + j * 5 + 1, none⟩) (show b2 < _ from hb2')).trans E1.out; have f2 := (hb2.cell (p := ⟨b2, off2 + j * 5 + 2, none⟩) (show b2 < _ from hb2')).trans E2.out; have f3 := (hb2.cell (p := ⟨b2, off2 + j * 5 + 3, none⟩) (show b2 < _ from hb2')).trans E3.out; have f4 := (hb2.cell (p := ⟨b2, off2 + j * 5 + 4, none⟩) (show b2 < _ from hb2')).trans E4.out; clear hd hL hb2; go_simp; exact Tame.Is.mk (Tame.Later.refl _))))
                        | (refine Tame.walk_known (o := ⟨some 58, _, _, _, _, _⟩) (fun _ => rfl) ?_; apply Exists.intro; refine ⟨fun vals w2 hL hd => ?_, ?_⟩; (focus (have hb2 : Below wr.heap.size wr w2 := (Below.refl _ wr).drew.trans hL; have HCC := Lib.hid (HC.out w2 hb2); clear hd hL hb2; go_simp; exact Tame.known HCC.out)))
                        | (refine Tame.walk_known (fun _ => rfl) ?_; apply Exists.intro; refine ⟨fun vals w2 hL hd => ?_, ?_⟩; (focus (go_simp; first | exact Tame.Is.mk (Tame.Later.refl _) | (rw [if_neg]; (focus exact Tame.Is.mk (Tame.Later.refl _)); omega)))))
                       simp only [Act.put, List.setIfInBounds_toArray, List.set_cons_zero, List.set_cons_succ, List.nil_append, List.cons_append])
                    refine Tame.walk_end fun vals w2 hL _ => ?_
                    have HB2 : Hid (Below wr.heap.size wr w2) := (Below.refl _ wr).drew.trans hL
                    clear hL
                    go_wp2_with fail
                    go_ret
                    exact ⟨ret_b (HE.out.trans (X.sames_stop HX.out HY1.out HEE.out)).symm, HBE.out.trans ((HBW.out.mono (by omega)).trans (HB2.out.mono (by omega)))⟩
                · have HEE : Hid (X.sames ks ks' = true) := X.sames_all HL.out fun q x y hx hy => HSM.out q x y (by
                    rcases Nat.lt_or_ge q ks.length with h' | h'
                    · omega
                    · rw [List.getElem?_eq_none h'] at hx; cases hx) hx hy
                  have HBB := Lib.hid hbw
                  clear hbw
                  go_wp2_with fail
                  go_ret
                  exact ⟨ret_b (HE.out.trans HEE.out).symm, HBB.out⟩
            · have HE : Hid ((X.mk k o n s ks).same (.mk k o n s ks') = false) := Lib.hid (by simp [X.same, X.sames_length hl])
              have l1 : ((ks.length : Int) == (ks'.length : Int)) = false := beq_eq_false_iff_ne.2 (by omega)
              have l2 : ((ks.length : Int) != (ks'.length : Int)) = true := bne_iff_ne.2 (by omega)
              have l3 : (ks.length == ks'.length) = false := by simpa using hl
              have l4 : (ks.length != ks'.length) = true := by simpa using hl
              clear hl
              go_enter Tryd.func16, Tryd.ntmps16
              go_wp2_with fail
              go_ret
              exact ⟨ret_b HE.out.symm, ((Below.refl _ _).alloc (Nat.le_refl _) _).alloc (by simp) _⟩
          · have q1 : (s == s') = false := by simpa using hs
            have q2 : (s != s') = true := by simpa using hs
            have HE : Hid ((X.mk k o n s ks).same (.mk k o n s' ks') = false) := Lib.hid (by simp [X.same, hs])
            clear hs
            go_enter Tryd.func16, Tryd.ntmps16
            go_wp2_with fail
            go_ret
            exact ⟨ret_b HE.out.symm, ((Below.refl _ _).alloc (Nat.le_refl _) _).alloc (by simp) _⟩
        · have q1 : (n == n') = false := by simpa using hn
          have q2 : (n != n') = true := by simpa using hn
          have HE : Hid ((X.mk k o n s ks).same (.mk k o n' s' ks') = false) := Lib.hid (by simp [X.same, hn])
          clear hn
          go_enter Tryd.func16, Tryd.ntmps16
          go_wp2_with fail
          go_ret
          exact ⟨ret_b HE.out.symm, ((Below.refl _ _).alloc (Nat.le_refl _) _).alloc (by simp) _⟩
      · have q1 : (o == o') = false := by simpa using ho
        have q2 : (o != o') = true := by simpa using ho
        have HE : Hid ((X.mk k o n s ks).same (.mk k o' n' s' ks') = false) := Lib.hid (by simp [X.same, ho])
        clear ho
        go_enter Tryd.func16, Tryd.ntmps16
        go_wp2_with fail
        go_ret
        exact ⟨ret_b HE.out.symm, ((Below.refl _ _).alloc (Nat.le_refl _) _).alloc (by simp) _⟩
    · have q1 : (k == k') = false := by simpa using hk
      have q2 : (k != k') = true := by simpa using hk
      have HE : Hid ((X.mk k o n s ks).same (.mk k' o' n' s' ks') = false) := Lib.hid (by simp [X.same, hk])
      clear hk
      go_enter Tryd.func16, Tryd.ntmps16
      go_wp2_with fail
      go_ret
      exact ⟨ret_b HE.out.symm, ((Below.refl _ _).alloc (Nat.le_refl _) _).alloc (by simp) _⟩

end Go.Proofs.YtmbdnifehgdjeaaDoor
