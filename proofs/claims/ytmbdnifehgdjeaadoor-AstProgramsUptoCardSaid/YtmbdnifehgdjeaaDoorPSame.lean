/- DERIVED. Whether two equations, two nodes, two programs are the same: the code's same and Same. -/
import Derived.Test.YtmbdnifehgdjeaaDoorEqual
import Derived.Test.YtmbdnifehgdjeaaDoorSame
namespace Go.Proofs.YtmbdnifehgdjeaaDoor
open Go.RowKit

set_option maxRecDepth 100000 in
set_option maxHeartbeats 2000000 in
theorem qsame_any (p q : Q) (A1 A2 B1 B2 : Option Addr) (c1 c2 d1 d2 : Nat) (w : World) (S : Nat → Prop) (hp : okQ p) (hq : okQ q) (h1 : TS w S A1 p.lhs) (h2 : KS w S A2 p.rhs.ks) (k1 : TS w S B1 q.lhs) (k2 : KS w S B2 q.rhs.ks) (hS : ∀ b, S b → b < w.heap.size) :
    Calls Tryd.prog 79 #[.agg #[.slice A1 p.lhs.length c1, .int .i64 p.rhs.k, .int .i64 p.rhs.o, .int .i64 p.rhs.n, .string ⟨p.rhs.s.toArray⟩, .slice A2 p.rhs.ks.length c2], .agg #[.slice B1 q.lhs.length d1, .int .i64 q.rhs.k, .int .i64 q.rhs.o, .int .i64 q.rhs.n, .string ⟨q.rhs.s.toArray⟩, .slice B2 q.rhs.ks.length d2]] w fun e w' => e = .returned (.bool (sameQ p q)) ∧ Below w.heap.size w w' := by
  have HR1 : Hid (Row ((w.alloc (.cells #[.slice A1 p.lhs.length c1, .int .i64 p.rhs.k, .int .i64 p.rhs.o, .int .i64 p.rhs.n, .string ⟨p.rhs.s.toArray⟩, .slice A2 p.rhs.ks.length c2] 92)).alloc (.cells #[.slice B1 q.lhs.length d1, .int .i64 q.rhs.k, .int .i64 q.rhs.o, .int .i64 q.rhs.n, .string ⟨q.rhs.s.toArray⟩, .slice B2 q.rhs.ks.length d2] 92)) w.heap.size 92 #[.slice A1 p.lhs.length c1, .int .i64 p.rhs.k, .int .i64 p.rhs.o, .int .i64 p.rhs.n, .string ⟨p.rhs.s.toArray⟩, .slice A2 p.rhs.ks.length c2]) := (Row.made w 92 _).alloc _
  have HR2 : Hid (Row ((w.alloc (.cells #[.slice A1 p.lhs.length c1, .int .i64 p.rhs.k, .int .i64 p.rhs.o, .int .i64 p.rhs.n, .string ⟨p.rhs.s.toArray⟩, .slice A2 p.rhs.ks.length c2] 92)).alloc (.cells #[.slice B1 q.lhs.length d1, .int .i64 q.rhs.k, .int .i64 q.rhs.o, .int .i64 q.rhs.n, .string ⟨q.rhs.s.toArray⟩, .slice B2 q.rhs.ks.length d2] 92)) (w.heap.size + 1) 92 #[.slice B1 q.lhs.length d1, .int .i64 q.rhs.k, .int .i64 q.rhs.o, .int .i64 q.rhs.n, .string ⟨q.rhs.s.toArray⟩, .slice B2 q.rhs.ks.length d2]) := by
    have := Row.made (w.alloc (.cells #[.slice A1 p.lhs.length c1, .int .i64 p.rhs.k, .int .i64 p.rhs.o, .int .i64 p.rhs.n, .string ⟨p.rhs.s.toArray⟩, .slice A2 p.rhs.ks.length c2] 92)) 92 #[.slice B1 q.lhs.length d1, .int .i64 q.rhs.k, .int .i64 q.rhs.o, .int .i64 q.rhs.n, .string ⟨q.rhs.s.toArray⟩, .slice B2 q.rhs.ks.length d2]
    rw [World.size_alloc] at this
    exact this
  have HA : Hid (Below w.heap.size w ((w.alloc (.cells #[.slice A1 p.lhs.length c1, .int .i64 p.rhs.k, .int .i64 p.rhs.o, .int .i64 p.rhs.n, .string ⟨p.rhs.s.toArray⟩, .slice A2 p.rhs.ks.length c2] 92)).alloc (.cells #[.slice B1 q.lhs.length d1, .int .i64 q.rhs.k, .int .i64 q.rhs.o, .int .i64 q.rhs.n, .string ⟨q.rhs.s.toArray⟩, .slice B2 q.rhs.ks.length d2] 92))) := ((Below.refl _ _).alloc (Nat.le_refl _) _).alloc (by simp) _
  have HC1 : Hid (Calls Tryd.prog 98 #[.slice A1 p.lhs.length c1, .slice B1 q.lhs.length d1] ((w.alloc (.cells #[.slice A1 p.lhs.length c1, .int .i64 p.rhs.k, .int .i64 p.rhs.o, .int .i64 p.rhs.n, .string ⟨p.rhs.s.toArray⟩, .slice A2 p.rhs.ks.length c2] 92)).alloc (.cells #[.slice B1 q.lhs.length d1, .int .i64 q.rhs.k, .int .i64 q.rhs.o, .int .i64 q.rhs.n, .string ⟨q.rhs.s.toArray⟩, .slice B2 q.rhs.ks.length d2] 92)) fun e w' => e = .returned (.bool (sm sameT p.lhs q.lhs)) ∧ Below ((w.alloc (.cells #[.slice A1 p.lhs.length c1, .int .i64 p.rhs.k, .int .i64 p.rhs.o, .int .i64 p.rhs.n, .string ⟨p.rhs.s.toArray⟩, .slice A2 p.rhs.ks.length c2] 92)).alloc (.cells #[.slice B1 q.lhs.length d1, .int .i64 q.rhs.k, .int .i64 q.rhs.o, .int .i64 q.rhs.n, .string ⟨q.rhs.s.toArray⟩, .slice B2 q.rhs.ks.length d2] 92)).heap.size ((w.alloc (.cells #[.slice A1 p.lhs.length c1, .int .i64 p.rhs.k, .int .i64 p.rhs.o, .int .i64 p.rhs.n, .string ⟨p.rhs.s.toArray⟩, .slice A2 p.rhs.ks.length c2] 92)).alloc (.cells #[.slice B1 q.lhs.length d1, .int .i64 q.rhs.k, .int .i64 q.rhs.o, .int .i64 q.rhs.n, .string ⟨q.rhs.s.toArray⟩, .slice B2 q.rhs.ks.length d2] 92)) w') := equalT_any p.lhs q.lhs A1 B1 c1 d1 _ S hp.1.1 (h1.move (stay hS HA.out)) (k1.move (stay hS HA.out)) (stay_lt hS HA.out)
  have HC2 : Hid (∀ w2, Below ((w.alloc (.cells #[.slice A1 p.lhs.length c1, .int .i64 p.rhs.k, .int .i64 p.rhs.o, .int .i64 p.rhs.n, .string ⟨p.rhs.s.toArray⟩, .slice A2 p.rhs.ks.length c2] 92)).alloc (.cells #[.slice B1 q.lhs.length d1, .int .i64 q.rhs.k, .int .i64 q.rhs.o, .int .i64 q.rhs.n, .string ⟨q.rhs.s.toArray⟩, .slice B2 q.rhs.ks.length d2] 92)).heap.size ((w.alloc (.cells #[.slice A1 p.lhs.length c1, .int .i64 p.rhs.k, .int .i64 p.rhs.o, .int .i64 p.rhs.n, .string ⟨p.rhs.s.toArray⟩, .slice A2 p.rhs.ks.length c2] 92)).alloc (.cells #[.slice B1 q.lhs.length d1, .int .i64 q.rhs.k, .int .i64 q.rhs.o, .int .i64 q.rhs.n, .string ⟨q.rhs.s.toArray⟩, .slice B2 q.rhs.ks.length d2] 92)) w2 → Calls Tryd.prog 15 #[.agg #[.int .i64 p.rhs.k, .int .i64 p.rhs.o, .int .i64 p.rhs.n, .string ⟨p.rhs.s.toArray⟩, .slice A2 p.rhs.ks.length c2], .agg #[.int .i64 q.rhs.k, .int .i64 q.rhs.o, .int .i64 q.rhs.n, .string ⟨q.rhs.s.toArray⟩, .slice B2 q.rhs.ks.length d2]] w2 fun e w' => e = .returned (.bool (p.rhs.same q.rhs)) ∧ Below w2.heap.size w2 w') := fun w2 hb2 => by
    have hb := HA.out.trans (hb2.mono HA.out.size)
    exact Same_all 1099511627775 (Nat.le_refl _) p.rhs q.rhs A2 B2 c2 d2 w2 S hp.2.2 (h2.later hS hb) hq.2.2 (k2.later hS hb) (stay_lt hS hb)
  have hl1 := hp.1.1
  have hl2 := hq.1.1
  clear hp hq h1 h2 k1 k2
  by_cases he : sm sameT p.lhs q.lhs = true
  · have HO : Hid (sameQ p q = p.rhs.same q.rhs) := Lib.hid (by simp [sameQ, he])
    rw [he] at HC1
    clear he
    go_enter Tryd.func79, Tryd.ntmps79
    go_wp2_with (first | (go_at_call 98; refine HC1.out.mono ?_; rintro e w1 ⟨rfl, hb1⟩; have HD1 := Lib.hid hb1; have tx := (HR1.out.below hb1 HR1.out.lt).cell; have x1 := tx 1; have x2 := tx 2; have x3 := tx 3; have x4 := tx 4; have x5 := tx 5; simp at x1 x2 x3 x4 x5; clear tx; have ty := (HR2.out.below hb1 HR2.out.lt).cell; have y1 := ty 1; have y2 := ty 2; have y3 := ty 3; have y4 := ty 4; have y5 := ty 5; simp at y1 y2 y3 y4 y5; clear ty; clear hb1) | (go_at_call 15; refine (HC2.out _ HD1.out).mono ?_; rintro e w2 ⟨rfl, hb2⟩; have HB2 := Lib.hid hb2; clear hb2))
    go_ret
    exact ⟨ret_d HO.out.symm, (HA.out.trans (HD1.out.mono HA.out.size)).trans (HB2.out.mono (Nat.le_trans HA.out.size HD1.out.size))⟩
  · have he' : sm sameT p.lhs q.lhs = false := by simpa using he
    have HO : Hid (sameQ p q = false) := Lib.hid (by simp [sameQ, he'])
    rw [he'] at HC1
    clear he he'
    go_enter Tryd.func79, Tryd.ntmps79
    go_wp2_with (go_at_call 98; refine HC1.out.mono ?_; rintro e w1 ⟨rfl, hb1⟩; have HD1 := Lib.hid hb1; have tx := (HR1.out.below hb1 HR1.out.lt).cell; have x1 := tx 1; have x2 := tx 2; have x3 := tx 3; have x4 := tx 4; have x5 := tx 5; simp at x1 x2 x3 x4 x5; clear tx; have ty := (HR2.out.below hb1 HR2.out.lt).cell; have y1 := ty 1; have y2 := ty 2; have y3 := ty 3; have y4 := ty 4; have y5 := ty 5; simp at y1 y2 y3 y4 y5; clear ty; clear hb1)
    go_ret
    exact ⟨ret_d HO.out.symm, HA.out.trans (HD1.out.mono HA.out.size)⟩

set_option maxRecDepth 100000 in
set_option maxHeartbeats 2000000 in
theorem equalQ_any (xs ys : List Q) (A B : Option Addr) (c d : Nat) (w : World) (S : Nat → Prop) (hx : okQs xs) (hy : okQs ys) (hA : QS w S A xs) (hB : QS w S B ys) (hS : ∀ b, S b → b < w.heap.size) :
    Calls Tryd.prog 78 #[.slice A xs.length c, .slice B ys.length d, .func (.func 79) #[] #[]] w fun e w' => e = .returned (.bool (sm sameQ xs ys)) ∧ Below w.heap.size w w' := by
  have hxl := hx.1
  have hyl := hy.1
  have HA := Lib.hid hA
  have HB := Lib.hid hB
  have HXO := Lib.hid hx
  have HYO := Lib.hid hy
  clear hA hB hx hy
  by_cases hl : xs.length = ys.length
  · have HL := Lib.hid hl
    rw [← hl]
    clear hl hyl
    go_enter Tryd.func78, Tryd.ntmps78
    go_wp2_with fail
    go_loopw [6, 17] (fun r i wr => r = .bool false ∧ ∃ j : Nat, j ≤ xs.length ∧ i = .int .i64 j ∧ (∀ (q : Nat) x y, q < j → xs[q]? = some x → ys[q]? = some y → sameQ x y = true) ∧ Below w.heap.size w wr) (fun _ i _ => xs.length - (intOf i).toNat)
    case atStart => exact ⟨rfl, 0, by omega, rfl, fun q x y h => by omega, Below.refl _ _⟩
    case round =>
      obtain ⟨rfl, j, hj, rfl, hs, hbw⟩ := hrel
      have HSM := Lib.hid hs
      have HBW := Lib.hid hbw
      have hws := hbw.size
      clear hs
      by_cases hlt : j < xs.length
      · obtain ⟨x, hx1⟩ : ∃ x, xs[j]? = some x := ⟨_, List.getElem?_eq_getElem hlt⟩
        obtain ⟨y, hy1⟩ : ∃ y, ys[j]? = some y := ⟨_, List.getElem?_eq_getElem (by have := HL.out; omega)⟩
        obtain ⟨b, off, A1, c1, A2, c2, rfl, d0, d1, d2, d3, d4, d5, ht1, hk2, hbl⟩ := HA.out.at' hS hbw hx1
        obtain ⟨b2, off2, B1, g1, B2, g2, rfl, e0, e1, e2, e3, e4, e5, hu1, hv2, hbl2⟩ := HB.out.at' hS hbw hy1
        have hb1' : b < wr.heap.size := by omega
        have hb2' : b2 < wr.heap.size := by omega
        have HX := Lib.hid hx1
        have HY1 := Lib.hid hy1
        have HC : Hid (∀ w2, Below wr.heap.size wr w2 → Calls Tryd.prog 79 #[.agg #[.slice A1 x.lhs.length c1, .int .i64 x.rhs.k, .int .i64 x.rhs.o, .int .i64 x.rhs.n, .string ⟨x.rhs.s.toArray⟩, .slice A2 x.rhs.ks.length c2], .agg #[.slice B1 y.lhs.length g1, .int .i64 y.rhs.k, .int .i64 y.rhs.o, .int .i64 y.rhs.n, .string ⟨y.rhs.s.toArray⟩, .slice B2 y.rhs.ks.length g2]] w2 fun e w' => e = .returned (.bool (sameQ x y)) ∧ Below w2.heap.size w2 w') :=
          fun w2 hb2 => by
            have hSr : ∀ b, S b → b < wr.heap.size := stay_lt hS HBW.out
            exact qsame_any x y A1 A2 B1 B2 c1 c2 g1 g2 w2 S (HXO.out.2 x (mem_at HX.out)) (HYO.out.2 y (mem_at HY1.out)) (ht1.move (stay hSr hb2)) (hk2.later hSr hb2) (hu1.move (stay hSr hb2)) (hv2.later hSr hb2) (stay_lt hSr hb2)
        clear hx1 hy1 hbw ht1 hk2 hu1 hv2
        by_cases he : sameQ x y = true
        · have HE := Lib.hid he
          rw [he] at HC
          clear he
          go_wp2_with (go_at_call 79; refine (HC.out _ (((Below.refl _ _).alloc (Nat.le_refl _) _).alloc (by simp) _)).mono ?_; rintro e w1 ⟨rfl, hb1⟩; have HB1 := Lib.hid hb1; clear hb1)
          go_roundw
          case rel => exact ⟨rfl, j + 1, by omega, by go_num, fun q u v hq hu hv => by
            by_cases e : q = j
            · subst e; rw [HX.out] at hu; rw [HY1.out] at hv; injection hu with hu; injection hv with hv; rw [← hu, ← hv]; exact HE.out
            · exact HSM.out q u v (by omega) hu hv, HBW.out.trans ((((Below.refl _ _).alloc hws _).alloc (by simp; omega) _).trans (HB1.out.mono (by simp; omega)))⟩
          case measure => simp [intOf]; omega
        · have he' : sameQ x y = false := by simpa using he
          have HE := Lib.hid he'
          rw [he'] at HC
          clear he he'
          go_wp2_with (go_at_call 79; refine (HC.out _ (((Below.refl _ _).alloc (Nat.le_refl _) _).alloc (by simp) _)).mono ?_; rintro e w1 ⟨rfl, hb1⟩; have HB1 := Lib.hid hb1; clear hb1)
          go_ret
          exact ⟨ret_d (sm_stop HX.out HY1.out HE.out).symm, HBW.out.trans ((((Below.refl _ _).alloc hws _).alloc (by simp; omega) _).trans (HB1.out.mono (by simp; omega)))⟩
      · have HE : Hid (sm sameQ xs ys = true) := sm_all HL.out fun q x y hx hy => HSM.out q x y (by
          rcases Nat.lt_or_ge q xs.length with h' | h'
          · omega
          · rw [List.getElem?_eq_none h'] at hx; cases hx) hx hy
        clear hbw
        go_wp2_with fail
        go_ret
        exact ⟨ret_d HE.out.symm, HBW.out⟩
  · have HE : Hid (sm sameQ xs ys = false) := sm_length hl
    have l1 : ((xs.length : Int) == (ys.length : Int)) = false := beq_eq_false_iff_ne.2 (by omega)
    have l2 : ((xs.length : Int) != (ys.length : Int)) = true := bne_iff_ne.2 (by omega)
    have l3 : (xs.length == ys.length) = false := by simpa using hl
    have l4 : (xs.length != ys.length) = true := by simpa using hl
    clear hl
    go_enter Tryd.func78, Tryd.ntmps78
    go_wp2_with fail
    go_ret
    exact ⟨ret_d HE.out.symm, Below.refl _ _⟩

set_option maxRecDepth 100000 in
set_option maxHeartbeats 4000000 in
theorem nsame_any (p q : Nd) (A1 A2 A3 A4 B1 B2 B3 B4 : Option Addr) (c1 c2 c3 c4 d1 d2 d3 d4 : Nat) (w : World) (S : Nat → Prop) (hp : okN p) (hq : okN q) (h1 : VS w S A1 p.ins) (h2 : VS w S A2 p.outs) (h3 : VS w S A3 p.locals) (h4 : QS w S A4 p.eqs) (k1 : VS w S B1 q.ins) (k2 : VS w S B2 q.outs) (k3 : VS w S B3 q.locals) (k4 : QS w S B4 q.eqs) (hS : ∀ b, S b → b < w.heap.size) :
    Calls Tryd.prog 49 #[.agg #[.string ⟨p.name.toArray⟩, .slice A1 p.ins.length c1, .slice A2 p.outs.length c2, .slice A3 p.locals.length c3, .slice A4 p.eqs.length c4], .agg #[.string ⟨q.name.toArray⟩, .slice B1 q.ins.length d1, .slice B2 q.outs.length d2, .slice B3 q.locals.length d3, .slice B4 q.eqs.length d4]] w fun e w' => e = .returned (.bool (sameN p q)) ∧ Below w.heap.size w w' := by
  have HR1 : Hid (Row ((w.alloc (.cells #[.string ⟨p.name.toArray⟩, .slice A1 p.ins.length c1, .slice A2 p.outs.length c2, .slice A3 p.locals.length c3, .slice A4 p.eqs.length c4] 90)).alloc (.cells #[.string ⟨q.name.toArray⟩, .slice B1 q.ins.length d1, .slice B2 q.outs.length d2, .slice B3 q.locals.length d3, .slice B4 q.eqs.length d4] 90)) w.heap.size 90 #[.string ⟨p.name.toArray⟩, .slice A1 p.ins.length c1, .slice A2 p.outs.length c2, .slice A3 p.locals.length c3, .slice A4 p.eqs.length c4]) := (Row.made w 90 _).alloc _
  have HR2 : Hid (Row ((w.alloc (.cells #[.string ⟨p.name.toArray⟩, .slice A1 p.ins.length c1, .slice A2 p.outs.length c2, .slice A3 p.locals.length c3, .slice A4 p.eqs.length c4] 90)).alloc (.cells #[.string ⟨q.name.toArray⟩, .slice B1 q.ins.length d1, .slice B2 q.outs.length d2, .slice B3 q.locals.length d3, .slice B4 q.eqs.length d4] 90)) (w.heap.size + 1) 90 #[.string ⟨q.name.toArray⟩, .slice B1 q.ins.length d1, .slice B2 q.outs.length d2, .slice B3 q.locals.length d3, .slice B4 q.eqs.length d4]) := by
    have := Row.made (w.alloc (.cells #[.string ⟨p.name.toArray⟩, .slice A1 p.ins.length c1, .slice A2 p.outs.length c2, .slice A3 p.locals.length c3, .slice A4 p.eqs.length c4] 90)) 90 #[.string ⟨q.name.toArray⟩, .slice B1 q.ins.length d1, .slice B2 q.outs.length d2, .slice B3 q.locals.length d3, .slice B4 q.eqs.length d4]
    rw [World.size_alloc] at this
    exact this
  have HA : Hid (Below w.heap.size w ((w.alloc (.cells #[.string ⟨p.name.toArray⟩, .slice A1 p.ins.length c1, .slice A2 p.outs.length c2, .slice A3 p.locals.length c3, .slice A4 p.eqs.length c4] 90)).alloc (.cells #[.string ⟨q.name.toArray⟩, .slice B1 q.ins.length d1, .slice B2 q.outs.length d2, .slice B3 q.locals.length d3, .slice B4 q.eqs.length d4] 90))) := ((Below.refl _ _).alloc (Nat.le_refl _) _).alloc (by simp) _
  have HC1 : Hid (∀ w2, Below ((w.alloc (.cells #[.string ⟨p.name.toArray⟩, .slice A1 p.ins.length c1, .slice A2 p.outs.length c2, .slice A3 p.locals.length c3, .slice A4 p.eqs.length c4] 90)).alloc (.cells #[.string ⟨q.name.toArray⟩, .slice B1 q.ins.length d1, .slice B2 q.outs.length d2, .slice B3 q.locals.length d3, .slice B4 q.eqs.length d4] 90)).heap.size ((w.alloc (.cells #[.string ⟨p.name.toArray⟩, .slice A1 p.ins.length c1, .slice A2 p.outs.length c2, .slice A3 p.locals.length c3, .slice A4 p.eqs.length c4] 90)).alloc (.cells #[.string ⟨q.name.toArray⟩, .slice B1 q.ins.length d1, .slice B2 q.outs.length d2, .slice B3 q.locals.length d3, .slice B4 q.eqs.length d4] 90)) w2 → Calls Tryd.prog 77 #[.slice A1 p.ins.length c1, .slice B1 q.ins.length d1] w2 fun e w' => e = .returned (.bool (sm sameV p.ins q.ins)) ∧ Below w2.heap.size w2 w') := fun w2 hb2 => by
    have hb := HA.out.trans (hb2.mono HA.out.size)
    exact equalV_any p.ins q.ins A1 B1 c1 d1 w2 S hp.2.1.1 (h1.move (stay hS hb)) (k1.move (stay hS hb)) (stay_lt hS hb)
  have HC2 : Hid (∀ w2, Below ((w.alloc (.cells #[.string ⟨p.name.toArray⟩, .slice A1 p.ins.length c1, .slice A2 p.outs.length c2, .slice A3 p.locals.length c3, .slice A4 p.eqs.length c4] 90)).alloc (.cells #[.string ⟨q.name.toArray⟩, .slice B1 q.ins.length d1, .slice B2 q.outs.length d2, .slice B3 q.locals.length d3, .slice B4 q.eqs.length d4] 90)).heap.size ((w.alloc (.cells #[.string ⟨p.name.toArray⟩, .slice A1 p.ins.length c1, .slice A2 p.outs.length c2, .slice A3 p.locals.length c3, .slice A4 p.eqs.length c4] 90)).alloc (.cells #[.string ⟨q.name.toArray⟩, .slice B1 q.ins.length d1, .slice B2 q.outs.length d2, .slice B3 q.locals.length d3, .slice B4 q.eqs.length d4] 90)) w2 → Calls Tryd.prog 77 #[.slice A2 p.outs.length c2, .slice B2 q.outs.length d2] w2 fun e w' => e = .returned (.bool (sm sameV p.outs q.outs)) ∧ Below w2.heap.size w2 w') := fun w2 hb2 => by
    have hb := HA.out.trans (hb2.mono HA.out.size)
    exact equalV_any p.outs q.outs A2 B2 c2 d2 w2 S hp.2.2.1.1 (h2.move (stay hS hb)) (k2.move (stay hS hb)) (stay_lt hS hb)
  have HC3 : Hid (∀ w2, Below ((w.alloc (.cells #[.string ⟨p.name.toArray⟩, .slice A1 p.ins.length c1, .slice A2 p.outs.length c2, .slice A3 p.locals.length c3, .slice A4 p.eqs.length c4] 90)).alloc (.cells #[.string ⟨q.name.toArray⟩, .slice B1 q.ins.length d1, .slice B2 q.outs.length d2, .slice B3 q.locals.length d3, .slice B4 q.eqs.length d4] 90)).heap.size ((w.alloc (.cells #[.string ⟨p.name.toArray⟩, .slice A1 p.ins.length c1, .slice A2 p.outs.length c2, .slice A3 p.locals.length c3, .slice A4 p.eqs.length c4] 90)).alloc (.cells #[.string ⟨q.name.toArray⟩, .slice B1 q.ins.length d1, .slice B2 q.outs.length d2, .slice B3 q.locals.length d3, .slice B4 q.eqs.length d4] 90)) w2 → Calls Tryd.prog 77 #[.slice A3 p.locals.length c3, .slice B3 q.locals.length d3] w2 fun e w' => e = .returned (.bool (sm sameV p.locals q.locals)) ∧ Below w2.heap.size w2 w') := fun w2 hb2 => by
    have hb := HA.out.trans (hb2.mono HA.out.size)
    exact equalV_any p.locals q.locals A3 B3 c3 d3 w2 S hp.2.2.2.1.1 (h3.move (stay hS hb)) (k3.move (stay hS hb)) (stay_lt hS hb)
  have HC4 : Hid (∀ w2, Below ((w.alloc (.cells #[.string ⟨p.name.toArray⟩, .slice A1 p.ins.length c1, .slice A2 p.outs.length c2, .slice A3 p.locals.length c3, .slice A4 p.eqs.length c4] 90)).alloc (.cells #[.string ⟨q.name.toArray⟩, .slice B1 q.ins.length d1, .slice B2 q.outs.length d2, .slice B3 q.locals.length d3, .slice B4 q.eqs.length d4] 90)).heap.size ((w.alloc (.cells #[.string ⟨p.name.toArray⟩, .slice A1 p.ins.length c1, .slice A2 p.outs.length c2, .slice A3 p.locals.length c3, .slice A4 p.eqs.length c4] 90)).alloc (.cells #[.string ⟨q.name.toArray⟩, .slice B1 q.ins.length d1, .slice B2 q.outs.length d2, .slice B3 q.locals.length d3, .slice B4 q.eqs.length d4] 90)) w2 → Calls Tryd.prog 78 #[.slice A4 p.eqs.length c4, .slice B4 q.eqs.length d4, .func (.func 79) #[] #[]] w2 fun e w' => e = .returned (.bool (sm sameQ p.eqs q.eqs)) ∧ Below w2.heap.size w2 w') := fun w2 hb2 => by
    have hb := HA.out.trans (hb2.mono HA.out.size)
    exact equalQ_any p.eqs q.eqs A4 B4 c4 d4 w2 S hp.2.2.2.2 hq.2.2.2.2 (h4.move (stay hS hb)) (k4.move (stay hS hb)) (stay_lt hS hb)
  clear hp hq h1 h2 h3 h4 k1 k2 k3 k4
  by_cases hn : p.name = q.name
  · have q1 : (p.name == q.name) = true := by simpa using hn
    have q2 : (p.name != q.name) = false := by simpa using hn
    have hs0 : sameT p.name q.name = true := decide_eq_true hn
    clear hn
    by_cases hs1 : sm sameV p.ins q.ins = true
    · rw [hs1] at HC1
      by_cases hs2 : sm sameV p.outs q.outs = true
      · rw [hs2] at HC2
        by_cases hs3 : sm sameV p.locals q.locals = true
        · rw [hs3] at HC3
          have HO : Hid (sameN p q = sm sameQ p.eqs q.eqs) := Lib.hid (by simp [sameN, hs0, hs1, hs2, hs3])
          go_enter Tryd.func49, Tryd.ntmps49
          go_wp2_with (first | (go_at_call 77; refine (HC1.out _ (Below.refl _ _)).mono ?_; rintro e w1 ⟨rfl, hb1⟩; have HD1 := Lib.hid hb1; have tx1 := (HR1.out.below HD1.out HR1.out.lt).cell; have x11 := tx1 1; have x12 := tx1 2; have x13 := tx1 3; have x14 := tx1 4; simp at x11 x12 x13 x14; clear tx1; have ty1 := (HR2.out.below HD1.out HR2.out.lt).cell; have y11 := ty1 1; have y12 := ty1 2; have y13 := ty1 3; have y14 := ty1 4; simp at y11 y12 y13 y14; clear ty1; clear hb1 HC1) | (go_at_call 77; refine (HC2.out _ HD1.out).mono ?_; rintro e w2 ⟨rfl, hb2⟩; have HD2 := Lib.hid (HD1.out.trans (hb2.mono HD1.out.size)); have tx2 := (HR1.out.below HD2.out HR1.out.lt).cell; have x21 := tx2 1; have x22 := tx2 2; have x23 := tx2 3; have x24 := tx2 4; simp at x21 x22 x23 x24; clear tx2; have ty2 := (HR2.out.below HD2.out HR2.out.lt).cell; have y21 := ty2 1; have y22 := ty2 2; have y23 := ty2 3; have y24 := ty2 4; simp at y21 y22 y23 y24; clear ty2; clear hb2 HC2) | (go_at_call 77; refine (HC3.out _ HD2.out).mono ?_; rintro e w3 ⟨rfl, hb3⟩; have HD3 := Lib.hid (HD2.out.trans (hb3.mono HD2.out.size)); have tx3 := (HR1.out.below HD3.out HR1.out.lt).cell; have x31 := tx3 1; have x32 := tx3 2; have x33 := tx3 3; have x34 := tx3 4; simp at x31 x32 x33 x34; clear tx3; have ty3 := (HR2.out.below HD3.out HR2.out.lt).cell; have y31 := ty3 1; have y32 := ty3 2; have y33 := ty3 3; have y34 := ty3 4; simp at y31 y32 y33 y34; clear ty3; clear hb3 HC3) | (go_at_call 78; refine (HC4.out _ HD3.out).mono ?_; rintro e w4 ⟨rfl, hb4⟩; have HD4 := Lib.hid (HD3.out.trans (hb4.mono HD3.out.size)); have tx4 := (HR1.out.below HD4.out HR1.out.lt).cell; have x41 := tx4 1; have x42 := tx4 2; have x43 := tx4 3; have x44 := tx4 4; simp at x41 x42 x43 x44; clear tx4; have ty4 := (HR2.out.below HD4.out HR2.out.lt).cell; have y41 := ty4 1; have y42 := ty4 2; have y43 := ty4 3; have y44 := ty4 4; simp at y41 y42 y43 y44; clear ty4; clear hb4 HC4))
          go_ret
          exact ⟨ret_d HO.out.symm, HA.out.trans (HD4.out.mono HA.out.size)⟩
        · have hf3 : sm sameV p.locals q.locals = false := by simpa using hs3
          have HO : Hid (sameN p q = false) := Lib.hid (by simp [sameN, hf3])
          rw [hf3] at HC3
          go_enter Tryd.func49, Tryd.ntmps49
          go_wp2_with (first | (go_at_call 77; refine (HC1.out _ (Below.refl _ _)).mono ?_; rintro e w1 ⟨rfl, hb1⟩; have HD1 := Lib.hid hb1; have tx1 := (HR1.out.below HD1.out HR1.out.lt).cell; have x11 := tx1 1; have x12 := tx1 2; have x13 := tx1 3; have x14 := tx1 4; simp at x11 x12 x13 x14; clear tx1; have ty1 := (HR2.out.below HD1.out HR2.out.lt).cell; have y11 := ty1 1; have y12 := ty1 2; have y13 := ty1 3; have y14 := ty1 4; simp at y11 y12 y13 y14; clear ty1; clear hb1 HC1) | (go_at_call 77; refine (HC2.out _ HD1.out).mono ?_; rintro e w2 ⟨rfl, hb2⟩; have HD2 := Lib.hid (HD1.out.trans (hb2.mono HD1.out.size)); have tx2 := (HR1.out.below HD2.out HR1.out.lt).cell; have x21 := tx2 1; have x22 := tx2 2; have x23 := tx2 3; have x24 := tx2 4; simp at x21 x22 x23 x24; clear tx2; have ty2 := (HR2.out.below HD2.out HR2.out.lt).cell; have y21 := ty2 1; have y22 := ty2 2; have y23 := ty2 3; have y24 := ty2 4; simp at y21 y22 y23 y24; clear ty2; clear hb2 HC2) | (go_at_call 77; refine (HC3.out _ HD2.out).mono ?_; rintro e w3 ⟨rfl, hb3⟩; have HD3 := Lib.hid (HD2.out.trans (hb3.mono HD2.out.size)); have tx3 := (HR1.out.below HD3.out HR1.out.lt).cell; have x31 := tx3 1; have x32 := tx3 2; have x33 := tx3 3; have x34 := tx3 4; simp at x31 x32 x33 x34; clear tx3; have ty3 := (HR2.out.below HD3.out HR2.out.lt).cell; have y31 := ty3 1; have y32 := ty3 2; have y33 := ty3 3; have y34 := ty3 4; simp at y31 y32 y33 y34; clear ty3; clear hb3 HC3))
          go_ret
          exact ⟨ret_d HO.out.symm, HA.out.trans (HD3.out.mono HA.out.size)⟩
      · have hf2 : sm sameV p.outs q.outs = false := by simpa using hs2
        have HO : Hid (sameN p q = false) := Lib.hid (by simp [sameN, hf2])
        rw [hf2] at HC2
        go_enter Tryd.func49, Tryd.ntmps49
        go_wp2_with (first | (go_at_call 77; refine (HC1.out _ (Below.refl _ _)).mono ?_; rintro e w1 ⟨rfl, hb1⟩; have HD1 := Lib.hid hb1; have tx1 := (HR1.out.below HD1.out HR1.out.lt).cell; have x11 := tx1 1; have x12 := tx1 2; have x13 := tx1 3; have x14 := tx1 4; simp at x11 x12 x13 x14; clear tx1; have ty1 := (HR2.out.below HD1.out HR2.out.lt).cell; have y11 := ty1 1; have y12 := ty1 2; have y13 := ty1 3; have y14 := ty1 4; simp at y11 y12 y13 y14; clear ty1; clear hb1 HC1) | (go_at_call 77; refine (HC2.out _ HD1.out).mono ?_; rintro e w2 ⟨rfl, hb2⟩; have HD2 := Lib.hid (HD1.out.trans (hb2.mono HD1.out.size)); have tx2 := (HR1.out.below HD2.out HR1.out.lt).cell; have x21 := tx2 1; have x22 := tx2 2; have x23 := tx2 3; have x24 := tx2 4; simp at x21 x22 x23 x24; clear tx2; have ty2 := (HR2.out.below HD2.out HR2.out.lt).cell; have y21 := ty2 1; have y22 := ty2 2; have y23 := ty2 3; have y24 := ty2 4; simp at y21 y22 y23 y24; clear ty2; clear hb2 HC2))
        go_ret
        exact ⟨ret_d HO.out.symm, HA.out.trans (HD2.out.mono HA.out.size)⟩
    · have hf1 : sm sameV p.ins q.ins = false := by simpa using hs1
      have HO : Hid (sameN p q = false) := Lib.hid (by simp [sameN, hf1])
      rw [hf1] at HC1
      go_enter Tryd.func49, Tryd.ntmps49
      go_wp2_with (first | (go_at_call 77; refine (HC1.out _ (Below.refl _ _)).mono ?_; rintro e w1 ⟨rfl, hb1⟩; have HD1 := Lib.hid hb1; have tx1 := (HR1.out.below HD1.out HR1.out.lt).cell; have x11 := tx1 1; have x12 := tx1 2; have x13 := tx1 3; have x14 := tx1 4; simp at x11 x12 x13 x14; clear tx1; have ty1 := (HR2.out.below HD1.out HR2.out.lt).cell; have y11 := ty1 1; have y12 := ty1 2; have y13 := ty1 3; have y14 := ty1 4; simp at y11 y12 y13 y14; clear ty1; clear hb1 HC1))
      go_ret
      exact ⟨ret_d HO.out.symm, HA.out.trans (HD1.out.mono HA.out.size)⟩
  · have q1 : (p.name == q.name) = false := by simpa using hn
    have q2 : (p.name != q.name) = true := by simpa using hn
    have HO : Hid (sameN p q = false) := Lib.hid (by have : sameT p.name q.name = false := decide_eq_false hn
                                                     simp [sameN, this])
    clear hn
    go_enter Tryd.func49, Tryd.ntmps49
    go_wp2_with fail
    go_ret
    exact ⟨ret_d HO.out.symm, HA.out⟩

set_option maxRecDepth 100000 in
set_option maxHeartbeats 2000000 in
theorem equalN_any (xs ys : List Nd) (A B : Option Addr) (c d : Nat) (w : World) (S : Nat → Prop) (hx : okNs xs) (hy : okNs ys) (hA : NS w S A xs) (hB : NS w S B ys) (hS : ∀ b, S b → b < w.heap.size) :
    Calls Tryd.prog 48 #[.slice A xs.length c, .slice B ys.length d, .func (.func 49) #[] #[]] w fun e w' => e = .returned (.bool (sm sameN xs ys)) ∧ Below w.heap.size w w' := by
  have hxl := hx.1
  have hyl := hy.1
  have HA := Lib.hid hA
  have HB := Lib.hid hB
  have HXO := Lib.hid hx
  have HYO := Lib.hid hy
  clear hA hB hx hy
  by_cases hl : xs.length = ys.length
  · have HL := Lib.hid hl
    rw [← hl]
    clear hl hyl
    go_enter Tryd.func48, Tryd.ntmps48
    go_wp2_with fail
    go_loopw [6, 17] (fun r i wr => r = .bool false ∧ ∃ j : Nat, j ≤ xs.length ∧ i = .int .i64 j ∧ (∀ (q : Nat) x y, q < j → xs[q]? = some x → ys[q]? = some y → sameN x y = true) ∧ Below w.heap.size w wr) (fun _ i _ => xs.length - (intOf i).toNat)
    case atStart => exact ⟨rfl, 0, by omega, rfl, fun q x y h => by omega, Below.refl _ _⟩
    case round =>
      obtain ⟨rfl, j, hj, rfl, hs, hbw⟩ := hrel
      have HSM := Lib.hid hs
      have HBW := Lib.hid hbw
      have hws := hbw.size
      clear hs
      by_cases hlt : j < xs.length
      · obtain ⟨x, hx1⟩ : ∃ x, xs[j]? = some x := ⟨_, List.getElem?_eq_getElem hlt⟩
        obtain ⟨y, hy1⟩ : ∃ y, ys[j]? = some y := ⟨_, List.getElem?_eq_getElem (by have := HL.out; omega)⟩
        obtain ⟨b, off, A1, c1, A2, c2, A3, c3, A4, c4, rfl, d0, d1, d2, d3, d4, ht1, ht2, ht3, ht4, hbl⟩ := HA.out.at' hS hbw hx1
        obtain ⟨b2, off2, B1, g1, B2, g2, B3, g3, B4, g4, rfl, e0, e1, e2, e3, e4, hu1, hu2, hu3, hu4, hbl2⟩ := HB.out.at' hS hbw hy1
        have hb1' : b < wr.heap.size := by omega
        have hb2' : b2 < wr.heap.size := by omega
        have HX := Lib.hid hx1
        have HY1 := Lib.hid hy1
        have HC : Hid (∀ w2, Below wr.heap.size wr w2 → Calls Tryd.prog 49 #[.agg #[.string ⟨x.name.toArray⟩, .slice A1 x.ins.length c1, .slice A2 x.outs.length c2, .slice A3 x.locals.length c3, .slice A4 x.eqs.length c4], .agg #[.string ⟨y.name.toArray⟩, .slice B1 y.ins.length g1, .slice B2 y.outs.length g2, .slice B3 y.locals.length g3, .slice B4 y.eqs.length g4]] w2 fun e w' => e = .returned (.bool (sameN x y)) ∧ Below w2.heap.size w2 w') :=
          fun w2 hb2 => by
            have hSr : ∀ b, S b → b < wr.heap.size := stay_lt hS HBW.out
            exact nsame_any x y A1 A2 A3 A4 B1 B2 B3 B4 c1 c2 c3 c4 g1 g2 g3 g4 w2 S (HXO.out.2 x (mem_at HX.out)) (HYO.out.2 y (mem_at HY1.out)) (ht1.move (stay hSr hb2)) (ht2.move (stay hSr hb2)) (ht3.move (stay hSr hb2)) (ht4.move (stay hSr hb2)) (hu1.move (stay hSr hb2)) (hu2.move (stay hSr hb2)) (hu3.move (stay hSr hb2)) (hu4.move (stay hSr hb2)) (stay_lt hSr hb2)
        clear hx1 hy1 hbw ht1 ht2 ht3 ht4 hu1 hu2 hu3 hu4
        by_cases he : sameN x y = true
        · have HE := Lib.hid he
          rw [he] at HC
          clear he
          go_wp2_with (go_at_call 49; refine (HC.out _ (((Below.refl _ _).alloc (Nat.le_refl _) _).alloc (by simp) _)).mono ?_; rintro e w1 ⟨rfl, hb1⟩; have HB1 := Lib.hid hb1; clear hb1)
          go_roundw
          case rel => exact ⟨rfl, j + 1, by omega, by go_num, fun q u v hq hu hv => by
            by_cases e : q = j
            · subst e; rw [HX.out] at hu; rw [HY1.out] at hv; injection hu with hu; injection hv with hv; rw [← hu, ← hv]; exact HE.out
            · exact HSM.out q u v (by omega) hu hv, HBW.out.trans ((((Below.refl _ _).alloc hws _).alloc (by simp; omega) _).trans (HB1.out.mono (by simp; omega)))⟩
          case measure => simp [intOf]; omega
        · have he' : sameN x y = false := by simpa using he
          have HE := Lib.hid he'
          rw [he'] at HC
          clear he he'
          go_wp2_with (go_at_call 49; refine (HC.out _ (((Below.refl _ _).alloc (Nat.le_refl _) _).alloc (by simp) _)).mono ?_; rintro e w1 ⟨rfl, hb1⟩; have HB1 := Lib.hid hb1; clear hb1)
          go_ret
          exact ⟨ret_d (sm_stop HX.out HY1.out HE.out).symm, HBW.out.trans ((((Below.refl _ _).alloc hws _).alloc (by simp; omega) _).trans (HB1.out.mono (by simp; omega)))⟩
      · have HE : Hid (sm sameN xs ys = true) := sm_all HL.out fun q x y hx hy => HSM.out q x y (by
          rcases Nat.lt_or_ge q xs.length with h' | h'
          · omega
          · rw [List.getElem?_eq_none h'] at hx; cases hx) hx hy
        clear hbw
        go_wp2_with fail
        go_ret
        exact ⟨ret_d HE.out.symm, HBW.out⟩
  · have HE : Hid (sm sameN xs ys = false) := sm_length hl
    have l1 : ((xs.length : Int) == (ys.length : Int)) = false := beq_eq_false_iff_ne.2 (by omega)
    have l2 : ((xs.length : Int) != (ys.length : Int)) = true := bne_iff_ne.2 (by omega)
    have l3 : (xs.length == ys.length) = false := by simpa using hl
    have l4 : (xs.length != ys.length) = true := by simpa using hl
    clear hl
    go_enter Tryd.func48, Tryd.ntmps48
    go_wp2_with fail
    go_ret
    exact ⟨ret_d HE.out.symm, Below.refl _ _⟩

set_option maxRecDepth 100000 in
theorem PSame_any (xs ys : List Nd) (A B : Option Addr) (c d : Nat) (w : World) (S : Nat → Prop) (hx : okNs xs) (hy : okNs ys) (hA : NS w S A xs) (hB : NS w S B ys) (hS : ∀ b, S b → b < w.heap.size) :
    Calls Tryd.prog 23 #[.agg #[.slice A xs.length c], .agg #[.slice B ys.length d]] w fun e w' => e = .returned (.bool (sm sameN xs ys)) ∧ Below w.heap.size w w' := by
  have HC : Hid (∀ w2, Below w.heap.size w w2 → Calls Tryd.prog 48 #[.slice A xs.length c, .slice B ys.length d, .func (.func 49) #[] #[]] w2 fun e w' => e = .returned (.bool (sm sameN xs ys)) ∧ Below w2.heap.size w2 w') := fun w2 hb2 =>
    equalN_any xs ys A B c d w2 S hx hy (hA.move (stay hS hb2)) (hB.move (stay hS hb2)) (stay_lt hS hb2)
  clear hA hB hx hy
  go_enter Tryd.func23, Tryd.ntmps23
  go_wp2_with (go_at_call 48; refine (HC.out _ (((Below.refl _ _).alloc (Nat.le_refl _) _).alloc (by simp) _)).mono ?_; rintro e w1 ⟨rfl, hb1⟩; have HB1 := Lib.hid hb1; clear hb1)
  go_ret
  exact ⟨rfl, (((Below.refl _ _).alloc (Nat.le_refl _) _).alloc (by simp) _).trans (HB1.out.mono (by simp; omega))⟩

end Go.Proofs.YtmbdnifehgdjeaaDoor
