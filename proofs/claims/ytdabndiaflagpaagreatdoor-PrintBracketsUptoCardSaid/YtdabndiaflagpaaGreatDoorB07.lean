/- Parts: PsE7, PsQ, Tamp. -/
import Derived.Test.YtdabndiaflagpaaGreatDoorB06
import Derived.Orders
import Derived.Calls
import Derived.WalkKit
import Derived.Deep.Draws
import Derived.Test.YtdabndiaflagpaaGreatDoorB04
set_option maxRecDepth 100000
set_option maxHeartbeats 4000000
set_option linter.unusedVariables false
namespace Go.Proofs.YtdabndiaflagpaaGreatDoor
open Go.RowKit

/-- A tree in a box that is turned: what it leads to lies elsewhere. -/
structure KidS (b : Nat) (wx : World) (x : X) (A : Option Addr) (c p : Nat) (wi : World) : Prop where
  row : Row wi p 198 (t6 x A c)
  ks : KS wi (Sb wx.heap.size (some p) wi) A x.ks
  lo : wx.heap.size ≤ p
  hb : b < wx.heap.size
theorem KidS.of {b : Nat} {wx wi : World} {x : X} {A : Option Addr} {c p : Nat} (h : Kid b wx x A c p wi) : KidS b wx x A c p wi :=
  ⟨h.row, h.ks.widen fun q hq => ⟨hq.1, by have := hq.2; have := h.row.lt; omega, fun e => by injection e with e; have := hq.2; omega⟩, h.lo, h.hb⟩
theorem KidS.grow {b : Nat} {wx wi wj : World} {x : X} {A : Option Addr} {c p : Nat} (h : KidS b wx x A c p wi) (g2 : wi.grownBy wj (some b)) : KidS b wx x A c p wj :=
  ⟨h.row.grown g2 (fun e => by injection e with e; have := h.lo; have := h.hb; omega), h.ks.move fun q hq => ⟨⟨hq.1, Nat.lt_of_lt_of_le hq.2.1 g2.size, hq.2.2⟩, g2.block q hq.2.1 (fun e => by injection e with e; have := hq.1; have := h.hb; omega)⟩, h.lo, h.hb⟩
theorem KidS.below {b : Nat} {wx wi wj : World} {x : X} {A : Option Addr} {c p : Nat} (h : KidS b wx x A c p wi) (g1 : Below wi.heap.size wi wj) : KidS b wx x A c p wj := h.grow (only_below' g1 b)
theorem KidS.alloc {b : Nat} {wx wi : World} {x : X} {A : Option Addr} {c p : Nat} (h : KidS b wx x A c p wi) (ob : Obj) : KidS b wx x A c p (wi.alloc ob) := h.below ((Below.refl _ _).alloc (Nat.le_refl _) _)
theorem KidS.cells {b : Nat} {wx wi : World} {x : X} {A : Option Addr} {c p : Nat} (h : KidS b wx x A c p wi) : wi.cell? ⟨p, 0, none⟩ = some (.int .i64 x.k) ∧ wi.cell? ⟨p, 1, none⟩ = some (.int .i64 x.o) ∧ wi.cell? ⟨p, 2, none⟩ = some (.int .i64 x.n) ∧ wi.cell? ⟨p, 3, none⟩ = some (.string ⟨x.s.toArray⟩) ∧
    wi.cell? ⟨p, 4, none⟩ = some (.slice A x.ks.length c) ∧ wi.cell? ⟨p, 5, none⟩ = some (.int .i64 (x.depth : Int)) := by
  have := h.row.cell
  exact ⟨this 0, this 1, this 2, this 3, this 4, this 5⟩
theorem KidS.up {b : Nat} {wx wi : World} {x : X} {A : Option Addr} {c p : Nat} (h : KidS b wx x A c p wi) : KS wi (Bt wx.heap.size wi.heap.size) A x.ks := h.ks.widen fun q hq => ⟨hq.1, hq.2.1⟩
/-- The box is turned. -/
theorem KidS.turn {b : Nat} {wx wi : World} {x z : X} {A A' : Option Addr} {c c' p : Nat} (h : KidS b wx x A c p wi) (hk : KS wi (Sb wx.heap.size (some p) wi) A' z.ks) : KidS b wx z A' c' p (wi.setRow p (t6 z A' c')) :=
  ⟨h.row.setRow _, hk.move fun q hq => ⟨⟨hq.1, by simpa using hq.2.1, hq.2.2⟩, setRow_other wi p q _ (fun e => hq.2.2 (by rw [e]))⟩, h.lo, h.hb⟩
theorem over2s (k o n : Int) (s : T) {b : Nat} {wx wk : World} {x y : X} {Ax : Option Addr} {cx px : Nat} {Ay : Option Addr} {cy py : Nat} (hx : KidS b wx x Ax cx px wk) (hy : Kid b wx y Ay cy py wk) (hp : px < py) (hyl : KS wk (Bt (px + 1) py) Ay y.ks) (hd : X.depths [x, y] ≤ 100000000) :
    Calls Tryz.prog 179 #[.agg #[.int .i64 k, .int .i64 o, .int .i64 n, .string ⟨s.toArray⟩, .slice none 0 0], .slice (some ⟨wk.heap.size, 0, none⟩) 2 2] (wk.alloc (.cells #[.int .i64 x.k, .int .i64 x.o, .int .i64 x.n, .string ⟨x.s.toArray⟩, .slice Ax x.ks.length cx, .int .i64 (x.depth : Int), .int .i64 y.k, .int .i64 y.o, .int .i64 y.n, .string ⟨y.s.toArray⟩, .slice Ay y.ks.length cy, .int .i64 (y.depth : Int)] 198)) fun e w' =>
      ∃ A c, e = .returned (.agg #[.int .i64 k, .int .i64 o, .int .i64 n, .string ⟨s.toArray⟩, .slice A 2 c, .int .i64 ((1 + X.depths [x, y] : Nat) : Int)]) ∧ KS w' (Sb wx.heap.size (some px) w') A [x, y] ∧ Below wk.heap.size wk w' := by
  have hpx := hx.row.lt
  have hlo := hx.lo
  have hy2 : KS wk (Sb wx.heap.size (some px) wk) Ay y.ks := hyl.widen fun q hq => ⟨by have := hq.1; omega, by have := hq.2; have := hy.row.lt; omega, fun e => by injection e with e; have := hq.1; omega⟩
  refine (pOver k o n s [x, y] (some ⟨wk.heap.size, 0, none⟩) 2 _ _ (tr2 hx.ks hy2 (fun q hq => hq.2.1)) (fun q hq => ?_) (by simp) hd).mono fun _ _ ⟨A, c, he, hk, hb⟩ => ⟨A, c, he, hk.widen fun q hq => ?_, ((Below.refl _ _).alloc (Nat.le_refl _) _).trans (hb.mono (by simp))⟩
  · rcases hq with hq | hq
    · have := hq.2.1; simp; omega
    · simp; omega
  · have hz := hb.size
    simp at hz
    rcases hq with (hq | hq) | hq
    · exact ⟨hq.1, by have := hq.2.1; omega, hq.2.2⟩
    · exact ⟨by omega, by omega, fun e => by injection e with e; omega⟩
    · have h1 := hq.1
      simp at h1
      exact ⟨by omega, hq.2, fun e => by injection e with e; omega⟩
theorem left_join {n : Nat} (hn : n < 7) : (leftB n = true → joinZ n = 1) ∧ (leftB n = false → joinZ n ≠ 1) := by
  have : n = 0 ∨ n = 1 ∨ n = 2 ∨ n = 3 ∨ n = 4 ∨ n = 5 ∨ n = 6 := by omega
  rcases this with rfl | rfl | rfl | rfl | rfl | rfl | rfl <;> decide

set_option maxRecDepth 100000 in
set_option maxHeartbeats 1000000 in
theorem pLevel (s : T) (B b f o n : Nat) (L : List Tk) (w : World) (ih : ∀ f', f' ≤ f → PE s B b f') (hf : 16 * L.length + 13 ≤ f + 1 + n) (hn : n ≤ 7) (h : StT s B w b L o) (he : PaEnv b w) :
    Calls Tryz.prog 160 #[.pointer (some ⟨b, 0, none⟩), .int .i64 (n : Int)] w (PRes s b B w o (TrV w.heap.size) (levelP (f + 1) n L o)) := by
  obtain ⟨R, hR⟩ : ∃ R, R = levelP (f + 1) n L o := ⟨_, rfl⟩
  rw [← hR]
  have hbB := h.base_
  have hBw := h.room_
  obtain ⟨wx, hwx⟩ : ∃ wx, wx = w.alloc (.cells #[.int .i64 0, .int .i64 0, .int .i64 0, .string ⟨#[]⟩, .slice none 0 0, .int .i64 0] 198) := ⟨_, rfl⟩
  have hbx : Below w.heap.size w wx := by rw [hwx]; exact (Below.refl _ _).alloc (Nat.le_refl _) _
  have hxz : wx.heap.size = w.heap.size + 1 := by rw [hwx]; simp
  have HXZ := Lib.hid hxz
  have HPX : Hid (Row wx w.heap.size 198 z6) := Lib.hid (by rw [hwx]; exact Row.made _ _ _)
  have hbxx : b < wx.heap.size := by omega
  have hpb : w.heap.size ≠ b := by omega
  have HGX := Lib.hid (only_below' hbx b)
  have HA0 : Hid (At s B b wx L o wx) := Lib.hid (At.refl (h.later hbx) (he.grown (only_below hbx none) (by omega) (fun _ e => by cases e)))
  clear hbx hxz
  rw [levelP] at hR
  have hfew := h.few_
  by_cases h7 : n = 7
  · subst h7
    rw [if_pos rfl] at hR
    have HC : Hid (∀ w1, StT s B w1 b L o → PaEnv b w1 → _) := Lib.hid fun w1 h1 h2 => (ih f (Nat.le_refl _)).pre o L w1 (by omega) h1 h2
    rcases (prefixP f L o).cases with ⟨x, L1, hE⟩ | ⟨c, a, hE⟩
    · rw [hE] at hR HC
      have HR := Lib.hid hR
      clear hR hE h he
      go_enter Tryz.func160, Tryz.ntmps160
      go_upto_region 1 with fail
      rw [← hwx]
      clear hwx
      go_wp2_with (first | (go_at_call 180; refine (HC.out _ HA0.out.st HA0.out.env).mono ?_; intro e w1 h2; obtain ⟨v, rfl, ⟨A9, c9, rfl, hk⟩, g1, g2⟩ := h2.okE rfl; have HA1 := Lib.hid (HA0.out.grow g1 g2); have HK9 : Hid (KS w1 (Bt wx.heap.size w1.heap.size) A9 (x).ks) := Lib.hid (hk.widen fun q hq => ⟨Nat.le_trans HA0.out.size hq.1, hq.2⟩); have HROW := HA1.out.row HPX.out hpb; clear g1 g2 h2 hk HC) | (refine wpList_store_row (o := ⟨none, Op.store _ _ _, _, _, _, _⟩) rfl _ _ _ rfl w.heap.size (t6 (x) A9 c9) rfl rfl _ _ HROW (t6_size _ _ _) rfl (t6_one _ _ _) ?_))
      obtain ⟨t1, t2, t3, t4⟩ := tree_back (x := x) (A := A9) (c := c9) (only_trans HGX.out HA1.out.grown) HROW (by rw [← HXZ.out]; exact HK9.out) HA1.out.st hBw
      exact bodyPost_ret (results_cell_row rfl _ _ w.heap.size _ _ _ _ rfl t4 Tryz.underlying198 rfl tree_size) rfl (PRes.okI HR.out t1 rfl ⟨A9, c9, rfl, t2⟩ t3)
    · rw [hE] at hR HC
      have HR := Lib.hid hR
      clear hR hE h he
      go_enter Tryz.func160, Tryz.ntmps160
      go_upto_region 1 with fail
      rw [← hwx]
      clear hwx
      go_wp2_with (go_at_call 180; refine (HC.out _ HA0.out.st HA0.out.env).mono ?_; intro e w1 h2; obtain ⟨rfl, g2⟩ := h2.badE rfl; have HGB := Lib.hid (only_trans HA0.out.grown g2); clear g2 h2 HC)
      exact ⟨rfl, PRes.badI HR.out (only_trans HGX.out HGB.out) rfl⟩
  · rw [if_neg h7] at hR
    have hn7 : n < 7 := by omega
    have hne7 : ((n : Int) == 7) = false := beq_eq_false_iff_ne.2 (by omega)
    have hen : ((n + 1 : Nat) : Int) = (n : Int) + 1 := by omega
    have HC : Hid (∀ w1, StT s B w1 b L o → PaEnv b w1 → _) := Lib.hid fun w1 h1 h2 => (ih f (Nat.le_refl _)).level o (n + 1) L w1 (by omega) (by omega) h1 h2
    rw [hen] at HC
    have HOPR : Hid (∀ Li w1, StT s B w1 b Li o → PaEnv b w1 → _) := Lib.hid fun Li w1 h1 h2 => pOperator s B b o n Li w1 h1 h2 hn7
    have HIH := Lib.hid ih
    have HJ := Lib.hid (left_join hn7)
    have hni : (n : Int) < 7 := by omega
    rcases (levelP f (n + 1) L o).cases with ⟨x0, L1, hE⟩ | ⟨c, a, hE⟩
    · have hsh := (passes f).level _ _ _ h.wf_ _ _ hE
      have hsz := (sizes f).level _ _ _ h.wf_ _ _ hE
      have hlt1 := hsh.2
      rw [hE] at hR HC
      have HR0 : Hid (R = restP f n x0 L1 o) := Lib.hid hR
      clear hR hE h he h7 hen
      go_enter Tryz.func160, Tryz.ntmps160
      go_upto_region 1 with fail
      rw [← hwx]
      clear hwx
      go_upto_region 4 with (go_at_call 160; refine (HC.out _ HA0.out.st HA0.out.env).mono ?_; intro e w1 h2; obtain ⟨v, rfl, ⟨Ax0, cx0, rfl, hk⟩, g1, g2⟩ := h2.okE rfl; have HA1 : Hid (At s B b wx L1 (o) (w1.alloc (.cells #[.int .i64 x0.k, .int .i64 x0.o, .int .i64 x0.n, .string ⟨x0.s.toArray⟩, .slice Ax0 x0.ks.length cx0, .int .i64 (x0.depth : Int)] 198))) := Lib.hid ((HA0.out.grow g1 g2).alloc _); have HKx0_1 : Hid (Kid b wx x0 Ax0 cx0 w1.heap.size (w1.alloc (.cells #[.int .i64 x0.k, .int .i64 x0.o, .int .i64 x0.n, .string ⟨x0.s.toArray⟩, .slice Ax0 x0.ks.length cx0, .int .i64 (x0.depth : Int)] 198))) := Lib.hid (Kid.made HA0.out hbxx g2 hk); clear g1 g2 h2 hk HC)
      generalize w1.alloc (.cells #[.int .i64 x0.k, .int .i64 x0.o, .int .i64 x0.n, .string ⟨x0.s.toArray⟩, .slice Ax0 x0.ks.length cx0, .int .i64 (x0.depth : Int)] 198) = v1 at HA1 HKx0_1 ⊢
      obtain ⟨p, hp⟩ : ∃ p, p = w1.heap.size := ⟨_, rfl⟩
      rw [← hp] at HKx0_1 ⊢
      clear hp hsh
      have HKS1 := Lib.hid (KidS.of HKx0_1.out)
      have hpl := HKS1.out.lo
      go_wp2_with fail
      go_loopg [6] f (fun g' _ wr => ∃ (x : X) (A : Option Addr) (c : Nat) (Li : List Tk), R = restP g' n x Li o ∧ 16 * Li.length + 3 ≤ g' ∧ g' ≤ f ∧ At s B b wx Li o wr ∧ KidS b wx x A c p wr ∧ x.size + Li.length ≤ L.length)
      case atStart => exact ⟨x0, Ax0, cx0, L1, HR0.out, by omega, Nat.le_refl _, HA1.out, HKS1.out, hsz⟩
      case round =>
        obtain ⟨x, Ax, cx, Li, hRi, hfu, hff, hat, hks, hxs⟩ := hrel
        obtain ⟨fl, rfl⟩ : ∃ fl, gk = fl + 1 := ⟨gk - 1, by omega⟩
        replace HA0 := Lib.hid hat
        have HKx_0 := Lib.hid hks
        have HWF := Lib.hid hat.st.wf_
        have HO := Lib.hid (HOPR.out Li)
        rw [restP] at hRi
        clear hat hks
        cases hop : opP n Li with
        | none =>
          rw [hop] at hRi HO
          simp only at hRi
          have HR : Hid (R = .ok x Li) := Lib.hid hRi
          clear hRi hop
          go_wp2_with (first | (go_at_call 181; refine (HO.out _ HA0.out.st HA0.out.env).mono ?_; rintro e w1 ⟨rfl, g1⟩; have HA1 := Lib.hid (HA0.out.below g1); have HKx_1 := Lib.hid (HKx_0.out.below g1); obtain ⟨y0, y1, y2, y3, y4, y5⟩ := HKx_1.out.cells; have hpz := HKx_1.out.row.lt; have HROW := HA1.out.row HPX.out hpb; clear g1 HO) | (refine wpList_store_row (o := ⟨none, Op.store _ _ _, _, _, _, _⟩) rfl _ _ _ rfl w.heap.size (t6 (x) Ax cx) rfl rfl _ _ HROW (t6_size _ _ _) rfl (t6_one _ _ _) ?_))
          have HK9 := Lib.hid HKx_1.out.up
          obtain ⟨t1, t2, t3, t4⟩ := tree_back (x := x) (A := Ax) (c := cx) (only_trans HGX.out HA1.out.grown) HROW (by rw [← HXZ.out]; exact HK9.out) HA1.out.st hBw
          exact bodyPost_ret (results_cell_row rfl _ _ w.heap.size _ _ _ _ rfl t4 Tryz.underlying198 rfl tree_size) rfl (PRes.okI HR.out t1 rfl ⟨Ax, cx, rfl, t2⟩ t3)
        | some op =>
          rw [hop] at hRi HO
          simp only at hRi
          have hne := opP_ne hop
          have HC2 : Hid (∀ w1, StT s B w1 b Li o → PaEnv b w1 → _) := Lib.hid fun w1 h1 h2 => (HIH.out fl (by omega)).second o n Li w1 (by omega) hn7 hne h1 h2
          rcases (secondP fl n Li o).cases with ⟨y, L2, hE⟩ | ⟨c, a, hE⟩
          · have hsh := (passes fl).second n Li o HWF.out hne _ _ hE
            have hs2 := (sizes fl).second n Li o HWF.out hne _ _ hE
            have hl2 := hsh.2
            have hdx := deep_of hxs hfew
            have hdy : y.depth ≤ 1000000 := by have := X.depth_le y; omega
            have HD : Hid (X.depths [x, y] ≤ 100000000) := Lib.hid (by simp only [X.depths]; omega)
            rw [hE] at hRi HC2
            replace hRi : R = if leftB n = true then restP fl n (.mk 4 op 0 [] [x, y]) L2 o else .ok (.mk 4 op 0 [] [x, y]) L2 := hRi
            have HSZ : Hid ((X.mk 4 op 0 [] [x, y]).size + L2.length ≤ L.length) := Lib.hid (by rw [X.size_mk]; simp only [X.sizes]; omega)
            have HRI := Lib.hid hRi
            clear hRi hop hne hE hsh hs2 hdx hdy
            go_upto_region 8 with (first | (go_at_call 181; refine (HO.out _ HA0.out.st HA0.out.env).mono ?_; rintro e w1 ⟨rfl, g1⟩; have HA1 := Lib.hid (HA0.out.below g1); have HKx_1 := Lib.hid (HKx_0.out.below g1); clear g1 HO) | (go_at_call 182; refine (HC2.out _ HA1.out.st HA1.out.env).mono ?_; intro e w2 h2; obtain ⟨v, rfl, ⟨Ay, cy, rfl, hk⟩, g1, g2⟩ := h2.okE rfl; have hz2 := HKx_1.out.row.lt; have HYL : Hid (KS (w2.alloc (.cells #[.int .i64 y.k, .int .i64 y.o, .int .i64 y.n, .string ⟨y.s.toArray⟩, .slice Ay y.ks.length cy, .int .i64 (y.depth : Int)] 198)) (Bt (p + 1) w2.heap.size) Ay y.ks) := Lib.hid ((hk.bt (only_alloc (World.grownBy.refl w2 none) _) (fun q hq => by cases hq) (by omega) (Nat.le_refl _) (Nat.le_refl _))); have HA2 : Hid (At s B b wx L2 o (w2.alloc (.cells #[.int .i64 y.k, .int .i64 y.o, .int .i64 y.n, .string ⟨y.s.toArray⟩, .slice Ay y.ks.length cy, .int .i64 (y.depth : Int)] 198))) := Lib.hid ((HA1.out.grow g1 g2).alloc _); have HKx_2 : Hid (KidS b wx x Ax cx p (w2.alloc (.cells #[.int .i64 y.k, .int .i64 y.o, .int .i64 y.n, .string ⟨y.s.toArray⟩, .slice Ay y.ks.length cy, .int .i64 (y.depth : Int)] 198))) := Lib.hid ((HKx_1.out.grow g2).alloc _); have HKy_2 : Hid (Kid b wx y Ay cy w2.heap.size (w2.alloc (.cells #[.int .i64 y.k, .int .i64 y.o, .int .i64 y.n, .string ⟨y.s.toArray⟩, .slice Ay y.ks.length cy, .int .i64 (y.depth : Int)] 198))) := Lib.hid (Kid.made HA1.out hbxx g2 hk); have hpy : p < w2.heap.size := (Nat.lt_of_lt_of_le hz2 g2.size); clear g1 g2 h2 hk HC2))
            generalize w2.alloc (.cells #[.int .i64 y.k, .int .i64 y.o, .int .i64 y.n, .string ⟨y.s.toArray⟩, .slice Ay y.ks.length cy, .int .i64 (y.depth : Int)] 198) = v2 at HA2 HKx_2 HKy_2 HYL ⊢
            obtain ⟨x0', x1', x2', x3', x4', x5'⟩ := HKx_2.out.cells
            obtain ⟨y0', y1', y2', y3', y4', y5'⟩ := HKy_2.out.cells
            have hpx2 := HKx_2.out.row.lt
            have hpy2 := HKy_2.out.row.lt
            go_upto_region 9 with (first | (go_at_call 179; refine (over2s 4 op 0 [] HKx_2.out HKy_2.out hpy HYL.out HD.out).mono ?_; rintro e w3 ⟨A9, c9, rfl, hk, hb⟩; have HA3 := Lib.hid (HA2.out.below hb); have HKx_3 := Lib.hid (HKx_2.out.below hb); have HKZ := Lib.hid hk; have HROWP := HKx_3.out.row; clear hk hb x0' x1' x2' x3' x4' x5' y0' y1' y2' y3' y4' y5') | (refine wpList_store_row (o := ⟨none, Op.store _ _ _, _, _, _, _⟩) rfl _ _ _ rfl p (t6 (X.mk 4 op 0 [] [x, y]) A9 c9) rfl rfl _ _ HROWP (t6_size _ _ _) rfl (t6_one _ _ _) ?_))
            have HKz_4 : Hid (KidS b wx (X.mk 4 op 0 [] [x, y]) A9 c9 p (w3.setRow p (t6 (X.mk 4 op 0 [] [x, y]) A9 c9))) := Lib.hid (HKx_3.out.turn HKZ.out)
            have HA4 : Hid (At s B b wx L2 o (w3.setRow p (t6 (X.mk 4 op 0 [] [x, y]) A9 c9))) := Lib.hid (HA3.out.own (grown_setRow HKx_3.out.row) (fun q hq => by injection hq with hq; omega) (by have := HXZ.out; omega))
            generalize w3.setRow p (t6 (X.mk 4 op 0 [] [x, y]) A9 c9) = v4 at HKz_4 HA4 ⊢
            have hlev := (HA4.out.env.lev_ n hn7).1
            have hlt := HA4.out.env.lt_.1
            have hgz : 6 < v4.heap.size := by have := HA4.out.size; omega
            by_cases hlf : leftB n = true
            · rw [HJ.out.1 hlf] at hlev
              have HRI2 : Hid (R = restP fl n (.mk 4 op 0 [] [x, y]) L2 o) := Lib.hid (by rw [HRI.out, if_pos hlf])
              clear hlf
              go_wp2_with fail
              go_roundg fl
              case rel => exact ⟨_, A9, c9, L2, HRI2.out, by omega, by omega, HA4.out, HKz_4.out, HSZ.out⟩
              case measure => omega
            · have hlf2 : leftB n = false := by simpa using hlf
              obtain ⟨z, hz⟩ : ∃ z, z = joinZ n := ⟨_, rfl⟩
              have hz1 : z ≠ 1 := by rw [hz]; exact HJ.out.2 hlf2
              rw [← hz] at hlev
              have hz3 : (z == 1) = false := beq_eq_false_iff_ne.2 hz1
              have hz4 : (z != 1) = true := bne_iff_ne.2 hz1
              have HR : Hid (R = .ok (.mk 4 op 0 [] [x, y]) L2) := Lib.hid (by rw [HRI.out, if_neg hlf])
              clear hlf hlf2 hz hz1
              obtain ⟨y0, y1, y2, y3, y4, y5⟩ := HKz_4.out.cells
              have hpz := HKz_4.out.row.lt
              have HROW := HA4.out.row HPX.out hpb
              go_wp2_with (refine wpList_store_row (o := ⟨none, Op.store _ _ _, _, _, _, _⟩) rfl _ _ _ rfl w.heap.size (t6 (X.mk 4 op 0 [] [x, y]) A9 c9) rfl rfl _ _ HROW (t6_size _ _ _) rfl (t6_one _ _ _) ?_)
              have HK9 := Lib.hid HKz_4.out.up
              obtain ⟨t1, t2, t3, t4⟩ := tree_back (x := X.mk 4 op 0 [] [x, y]) (A := A9) (c := c9) (only_trans HGX.out HA4.out.grown) HROW (by rw [← HXZ.out]; exact HK9.out) HA4.out.st hBw
              exact bodyPost_ret (results_cell_row rfl _ _ w.heap.size _ _ _ _ rfl t4 Tryz.underlying198 rfl tree_size) rfl (PRes.okI HR.out t1 rfl ⟨A9, c9, rfl, t2⟩ t3)
          · rw [hE] at hRi HC2
            have HR : Hid (R = .bad c a) := Lib.hid hRi
            clear hRi hop hne hE
            go_wp2_with (first | (go_at_call 181; refine (HO.out _ HA0.out.st HA0.out.env).mono ?_; rintro e w1 ⟨rfl, g1⟩; have HA1 := Lib.hid (HA0.out.below g1); have HKx_1 := Lib.hid (HKx_0.out.below g1); clear g1 HO) | (go_at_call 182; refine (HC2.out _ HA1.out.st HA1.out.env).mono ?_; intro e w2 h2; obtain ⟨rfl, g2⟩ := h2.badE rfl; have HGB := Lib.hid (only_trans HA1.out.grown g2); clear g2 h2 HC2))
            exact ⟨rfl, PRes.badI HR.out (only_trans HGX.out HGB.out) rfl⟩
    · rw [hE] at hR HC
      have HR : Hid (R = .bad c a) := Lib.hid hR
      clear hR hE h he h7 hen
      go_enter Tryz.func160, Tryz.ntmps160
      go_upto_region 1 with fail
      rw [← hwx]
      clear hwx
      go_wp2_with (go_at_call 160; refine (HC.out _ HA0.out.st HA0.out.env).mono ?_; intro e w1 h2; obtain ⟨rfl, g2⟩ := h2.badE rfl; have HGB := Lib.hid (only_trans HA0.out.grown g2); clear g2 h2 HC)
      exact ⟨rfl, PRes.badI HR.out (only_trans HGX.out HGB.out) rfl⟩

/-- All of them. -/
theorem pe_all (s : T) (B b : Nat) : ∀ f, ∀ f', f' ≤ f → PE s B b f' := by
  intro f
  induction f with
  | zero =>
    intro f' hf'
    obtain rfl : f' = 0 := by omega
    refine ⟨?_, ?_, ?_, ?_, ?_, ?_, ?_, ?_⟩ <;> (intros; first | omega | (exfalso; rename_i h _; have := List.length_pos_iff.2 h.wf_.ne; omega))
  | succ f ih =>
    intro f' hf'
    rcases Nat.lt_or_ge f' (f + 1) with hlt | hge
    · exact ih f' (by omega)
    · obtain rfl : f' = f + 1 := by omega
      have ihf := ih f (Nat.le_refl _)
      exact ⟨fun o L w hf h he => pExpr s B b f o L w ihf hf h he, fun o L w hf hb h he => pChoice s B b f o L w ihf hf hb h he, fun o n L w hf hn h he => pLevel s B b f o n L w ih hf hn h he, fun o n L w hf hn hne h he => pSecond s B b f o n L w ihf hf hn hne h he,
        fun o L w hf h he => pPrefixed s B b f o L w ihf hf h he, fun o L w hf h he => pAtom s B b f o L w ihf hf h he, fun o L w hf hb h he => pOperands s B b f o L w ih hf hb h he, fun o L w hf h he => pBracket s B b f o L w ihf hf h he⟩

end Go.Proofs.YtdabndiaflagpaaGreatDoor
namespace Go.Proofs.YtdabndiaflagpaaGreatDoor
open Go.RowKit

/-- Names that a callee handed back. -/
structure Nms (b : Nat) (wx : World) (ts : List T) (v : Value) (wi : World) : Prop where
  own : OwnS wx.heap.size ts v wi
  hb : b < wx.heap.size
theorem Nms.grow {b : Nat} {wx wi wj : World} {ts : List T} {v : Value} (h : Nms b wx ts v wi) (g2 : wi.grownBy wj (some b)) : Nms b wx ts v wj := ⟨h.own.kept g2 (fun q hq => by injection hq with hq; have := h.hb; omega), h.hb⟩
theorem Nms.below {b : Nat} {wx wi wj : World} {ts : List T} {v : Value} (h : Nms b wx ts v wi) (g1 : Below wi.heap.size wi wj) : Nms b wx ts v wj := h.grow (only_below' g1 b)
theorem Nms.alloc {b : Nat} {wx wi : World} {ts : List T} {v : Value} (h : Nms b wx ts v wi) (ob : Obj) : Nms b wx ts v (wi.alloc ob) := h.below ((Below.refl _ _).alloc (Nat.le_refl _) _)
theorem Bx.alloc {b p : Nat} {wx wi : World} {t : TypeId} {cs : Array Value} (h : Bx b wx p t cs wi) (ob : Obj) : Bx b wx p t cs (wi.alloc ob) := h.below ((Below.refl _ _).alloc (Nat.le_refl _) _)
theorem Nms.ts {b : Nat} {wx wi : World} {ts : List T} {A : Option Addr} {c : Nat} (h : Nms b wx ts (.slice A ts.length c) wi) : TS wi (Bt wx.heap.size wi.heap.size) A ts ∧ ts.length ≤ c := by
  obtain ⟨A2, c2, hv, hc, hat⟩ := h.own.form
  injection hv with h1 _ h3
  subst h1 h3
  refine ⟨?_, hc⟩
  by_cases h0 : ts = []
  · exact .inl h0
  · obtain ⟨x, hx⟩ : ∃ x, ts[0]? = some x := ⟨_, List.getElem?_eq_getElem (List.length_pos_iff.2 h0)⟩
    obtain ⟨g, hA, hg, hc0⟩ := hat 0 x hx
    refine .inr ⟨g, 0, hA, fun i y hy => ?_⟩
    obtain ⟨g', hA', hg', hc'⟩ := hat i y hy
    obtain rfl : g = g' := by rw [hA] at hA'; injection hA' with h; injection h
    rw [Nat.mul_one, Nat.zero_add]
    exact ⟨⟨hg, World.block_lt_of_cell? _ _ hc'⟩, hc'⟩
theorem TS.bt {w w' : World} {lo hi lo' hi' : Nat} {A : Option Addr} {ks : List T} {r : Option Nat} (h : TS w (Bt lo hi) A ks) (hg : w.grownBy w' r) (hr : ∀ q, r = some q → q < lo ∨ hi ≤ q) (hl : lo' ≤ lo) (hh : hi ≤ hi') (hw : hi ≤ w.heap.size) : TS w' (Bt lo' hi') A ks :=
  h.move fun q hq => ⟨⟨by have := hq.1; omega, by have := hq.2; omega⟩, hg.block q (by have := hq.2; omega) (fun e => by have := hr q e.symm; have := hq.1; have := hq.2; omega)⟩
/-- The value of an equation that the call made. -/
def EqV (lo : Nat) : Q → Value → World → Prop := fun q v w' => ∃ A1 c1 A2 c2, v = .agg #[.slice A1 q.lhs.length c1, .int .i64 q.rhs.k, .int .i64 q.rhs.o, .int .i64 q.rhs.n, .string ⟨q.rhs.s.toArray⟩, .slice A2 q.rhs.ks.length c2] ∧ TS w' (Bt lo w'.heap.size) A1 q.lhs ∧ KS w' (Bt lo w'.heap.size) A2 q.rhs.ks ∧ q.lhs.length ≤ c1
theorem eq_size : (Tryz.prog.info? 48).map (·.size) = some 6 := by kernel_rfl
def q6 (q : Q) (A1 : Option Addr) (c1 : Nat) (A2 : Option Addr) (c2 : Nat) : Array Value := #[.slice A1 q.lhs.length c1, .int .i64 q.rhs.k, .int .i64 q.rhs.o, .int .i64 q.rhs.n, .string ⟨q.rhs.s.toArray⟩, .slice A2 q.rhs.ks.length c2]
theorem q6_one (q : Q) (A1 : Option Addr) (c1 : Nat) (A2 : Option Addr) (c2 : Nat) : (q6 q A1 c1 A2 c2).all (·.oneCell') = true := by simp [q6, Value.oneCell']
theorem q6_size (q : Q) (A1 : Option Addr) (c1 : Nat) (A2 : Option Addr) (c2 : Nat) : (Tryz.prog.info? 48).map (·.size) = some (q6 q A1 c1 A2 c2).size := eq_size
theorem eq_back {s : T} {B b : Nat} {L : List Tk} {w wk : World} {q : Q} {A1 A2 : Option Addr} {c1 c2 : Nat} {old : Array Value} (hg : w.grownBy wk (some b)) (hp : Row wk w.heap.size 48 old) (ht : TS wk (Bt (w.heap.size + 1) wk.heap.size) A1 q.lhs) (hk : KS wk (Bt (w.heap.size + 1) wk.heap.size) A2 q.rhs.ks) (hs : StT s B wk b L 0) (hB : B ≤ w.heap.size) :
    w.grownBy (wk.setRow w.heap.size (q6 q A1 c1 A2 c2)) (some b) ∧ TS (wk.setRow w.heap.size (q6 q A1 c1 A2 c2)) (Bt w.heap.size (wk.setRow w.heap.size (q6 q A1 c1 A2 c2)).heap.size) A1 q.lhs ∧ KS (wk.setRow w.heap.size (q6 q A1 c1 A2 c2)) (Bt w.heap.size (wk.setRow w.heap.size (q6 q A1 c1 A2 c2)).heap.size) A2 q.rhs.ks ∧
      StT s B (wk.setRow w.heap.size (q6 q A1 c1 A2 c2)) b L 0 ∧ Row (wk.setRow w.heap.size (q6 q A1 c1 A2 c2)) w.heap.size 48 (q6 q A1 c1 A2 c2) :=
  ⟨only_far hg (grown_setRow hp) (fun q hq => by injection hq with hq; omega), ht.bt (grown_setRow hp) (fun q hq => by injection hq with hq; omega) (by omega) (by simp) (Nat.le_refl _), hk.bt (grown_setRow hp) (fun q hq => by injection hq with hq; omega) (by omega) (by simp) (Nat.le_refl _), hs.grown (grown_setRow hp) (fun q hq => by injection hq with hq; omega), hp.setRow _⟩

set_option maxRecDepth 100000 in
set_option maxHeartbeats 2000000 in
theorem pEquation (s : T) (B b : Nat) (L : List Tk) (w : World) (h : StT s B w b L 0) (he : PaEnv b w) :
    Calls Tryz.prog 105 #[.pointer (some ⟨b, 0, none⟩)] w (PRes s b B w 0 (EqV w.heap.size) (eqnP L)) := by
  obtain ⟨R, hR⟩ : ∃ R, R = eqnP L := ⟨_, rfl⟩
  rw [← hR]
  have hbB := h.base_
  have hBw := h.room_
  obtain ⟨wx, hwx⟩ : ∃ wx, wx = w.alloc (.cells #[.slice none 0 0, .int .i64 0, .int .i64 0, .int .i64 0, .string ⟨#[]⟩, .slice none 0 0] 48) := ⟨_, rfl⟩
  have hbx : Below w.heap.size w wx := by rw [hwx]; exact (Below.refl _ _).alloc (Nat.le_refl _) _
  have hxz : wx.heap.size = w.heap.size + 1 := by rw [hwx]; simp
  have HXZ := Lib.hid hxz
  have HPX : Hid (Row wx w.heap.size 48 #[.slice none 0 0, .int .i64 0, .int .i64 0, .int .i64 0, .string ⟨#[]⟩, .slice none 0 0]) := Lib.hid (by rw [hwx]; exact Row.made _ _ _)
  have hbxx : b < wx.heap.size := by omega
  have hpb : w.heap.size ≠ b := by omega
  have HGX := Lib.hid (only_below' hbx b)
  have HA0 : Hid (At s B b wx L 0 wx) := Lib.hid (At.refl (h.later hbx) (he.grown (only_below hbx none) (by omega) (fun _ e => by cases e)))
  clear hbx hxz
  have hfew := h.few_
  unfold eqnP at hR
  have HL : Hid (∀ w1, StT s B w1 b L 0 → _) := Lib.hid fun w1 h1 => pLeft s B b 0 L w1 h1
  rcases (leftP L).cases with ⟨ts, L1, hE⟩ | ⟨c, a, hE⟩
  · rw [hE] at hR HL
    replace hR : R = (mustP [61] L1).bind fun _ L0 => (exprP (fuelP L0) L0 0).bind fun x L => if 200 < x.depth then .bad 5 (hdF L0) else (mustP [59] L).bind fun _ L => .ok ⟨ts, x⟩ L := hR
    have s1 := leftP_sh h.wf_ _ _ hE
    have HM : Hid (∀ w1, StT s B w1 b L1 0 → _) := Lib.hid fun w1 h1 => pMust1 s B b 0 [61] L1 w1 h1 (by decide)
    rcases (mustP [61] L1).cases with ⟨u, L0, hE2⟩ | ⟨c, a, hE2⟩
    · rw [hE2] at hR HM
      replace hR : R = (exprP (fuelP L0) L0 0).bind fun x L => if 200 < x.depth then .bad 5 (hdF L0) else (mustP [59] L).bind fun _ L => .ok ⟨ts, x⟩ L := hR
      have s2 := mustP_sh s1.1 (by decide) _ _ hE2
      obtain ⟨t, r, rfl⟩ := hd_of s2.1
      have z1 := s1.2
      have z2 := s2.2
      have HN : Hid (∀ w1, StT s B w1 b (t :: r) 0 → _) := Lib.hid fun w1 h1 => pNext s B b 0 t r w1 h1
      have HX : Hid (∀ w1, StT s B w1 b (t :: r) 0 → PaEnv b w1 → _) := Lib.hid fun w1 h1 h2 => (pe_all s B b _ _ (Nat.le_refl (fuelP (t :: r)))).expr 0 (t :: r) w1 (by unfold fuelP; omega) h1 h2
      rcases (exprP (fuelP (t :: r)) (t :: r) 0).cases with ⟨x, L2, hE3⟩ | ⟨c, a, hE3⟩
      · rw [hE3] at hR HX
        replace hR : R = if 200 < x.depth then .bad 5 (hdF (t :: r)) else (mustP [59] L2).bind fun _ L => .ok ⟨ts, x⟩ L := hR
        by_cases hdp : 200 < x.depth
        · rw [if_pos hdp] at hR
          have hdi : (200 : Int) < (x.depth : Int) := by omega
          have HR := Lib.hid hR
          have HFV : Hid (faultV s 5 (hdF (t :: r)) = [{ v := .iface 94 (.agg #[.int .i64 (plAt s t.from_).1, .int .i64 (plAt s t.from_).2, .int .i64 5]), recovered := false }]) := rfl
          clear hR hE hE2 hE3 hdp s1 s2 h he
          go_enter Tryz.func105, Tryz.ntmps105
          go_upto_region 1 with fail
          rw [← hwx]
          clear hwx
          go_upto_region 4 with (first | (go_at_call 134; refine (HL.out _ HA0.out.st).mono ?_; intro e w1 h2; obtain ⟨v, rfl, ⟨hv, hvn⟩, g1, g2⟩ := h2.okE rfl; obtain ⟨A1, c1, rfl, _⟩ := hv.form; have HA1 := Lib.hid (HA0.out.grow g1 g2); have HKn_1 : Hid (Nms b wx ts (.slice A1 ts.length c1) w1) := Lib.hid ⟨hv, hbxx⟩; clear g1 g2 h2 hv HL) | (go_at_call 99; refine (HM.out _ HA1.out.st).mono ?_; intro e w2 h2; obtain ⟨v, rfl, hv, g1, g2⟩ := h2.okE rfl; obtain rfl : v = .tuple #[] := hv; have HA2 := Lib.hid (HA1.out.grow g1 g2); have HKn_2 := Lib.hid (HKn_1.out.grow g2); clear g1 g2 h2 HM) | (go_at_call 64; refine (HN.out _ HA2.out.st).mono ?_; rintro e w3 ⟨rfl, g1⟩; have HA3 : Hid (At s B b wx (t :: r) 0 (w3.alloc (.cells #[.int .i64 t.kind, .string ⟨t.text.toArray⟩, .int .i64 t.n, .int .i64 (plAt s t.from_).1, .int .i64 (plAt s t.from_).2] 141))) := Lib.hid ((HA2.out.below g1).alloc _); have HKn_3 : Hid (Nms b wx ts (.slice A1 ts.length c1) (w3.alloc (.cells #[.int .i64 t.kind, .string ⟨t.text.toArray⟩, .int .i64 t.n, .int .i64 (plAt s t.from_).1, .int .i64 (plAt s t.from_).2] 141))) := Lib.hid ((HKn_2.out.below g1).alloc _); have HKt_3 : Hid (Bx b wx w3.heap.size 141 #[.int .i64 t.kind, .string ⟨t.text.toArray⟩, .int .i64 t.n, .int .i64 (plAt s t.from_).1, .int .i64 (plAt s t.from_).2] (w3.alloc (.cells #[.int .i64 t.kind, .string ⟨t.text.toArray⟩, .int .i64 t.n, .int .i64 (plAt s t.from_).1, .int .i64 (plAt s t.from_).2] 141))) := Lib.hid ⟨Row.made _ _ _, (HA2.out.below g1).size, hbxx⟩; clear g1 HN))
          generalize w3.alloc (.cells #[.int .i64 t.kind, .string ⟨t.text.toArray⟩, .int .i64 t.n, .int .i64 (plAt s t.from_).1, .int .i64 (plAt s t.from_).2] 141) = v3 at HA3 HKn_3 HKt_3 ⊢
          go_upto_region 5 with (go_at_call 135; refine (HX.out _ HA3.out.st HA3.out.env).mono ?_; intro e w4 h2; obtain ⟨v, rfl, ⟨Ax, cx, rfl, hk⟩, g1, g2⟩ := h2.okE rfl; have HA4 : Hid (At s B b wx L2 0 (w4.alloc (.cells #[.int .i64 x.k, .int .i64 x.o, .int .i64 x.n, .string ⟨x.s.toArray⟩, .slice Ax x.ks.length cx, .int .i64 (x.depth : Int)] 198))) := Lib.hid ((HA3.out.grow g1 g2).alloc _); have HKn_4 : Hid (Nms b wx ts (.slice A1 ts.length c1) (w4.alloc (.cells #[.int .i64 x.k, .int .i64 x.o, .int .i64 x.n, .string ⟨x.s.toArray⟩, .slice Ax x.ks.length cx, .int .i64 (x.depth : Int)] 198))) := Lib.hid ((HKn_3.out.grow g2).alloc _); have HKt_4 : Hid (Bx b wx w3.heap.size 141 #[.int .i64 t.kind, .string ⟨t.text.toArray⟩, .int .i64 t.n, .int .i64 (plAt s t.from_).1, .int .i64 (plAt s t.from_).2] (w4.alloc (.cells #[.int .i64 x.k, .int .i64 x.o, .int .i64 x.n, .string ⟨x.s.toArray⟩, .slice Ax x.ks.length cx, .int .i64 (x.depth : Int)] 198))) := Lib.hid ((HKt_3.out.grow g2).alloc _); have HKx_4 : Hid (Kid b wx x Ax cx w4.heap.size (w4.alloc (.cells #[.int .i64 x.k, .int .i64 x.o, .int .i64 x.n, .string ⟨x.s.toArray⟩, .slice Ax x.ks.length cx, .int .i64 (x.depth : Int)] 198))) := Lib.hid (Kid.made HA3.out hbxx g2 hk); clear g1 g2 h2 hk HX)
          generalize w4.alloc (.cells #[.int .i64 x.k, .int .i64 x.o, .int .i64 x.n, .string ⟨x.s.toArray⟩, .slice Ax x.ks.length cx, .int .i64 (x.depth : Int)] 198) = v4 at HA4 HKn_4 HKt_4 HKx_4 ⊢
          obtain ⟨y0, y1, y2, y3, y4, y5⟩ := HKx_4.out.cells
          have hpz := HKx_4.out.row.lt
          have t3 := HKt_4.out.row.cell 3
          have t4 := HKt_4.out.row.cell 4
          have htz := HKt_4.out.row.lt
          simp at t3 t4
          go_wp2_with fail
          exact ⟨rfl, PRes.badI HR.out (only_trans HGX.out HA4.out.grown) (by rw [HFV.out])⟩
        · rw [if_neg hdp] at hR
          have hdi : ¬ (200 : Int) < (x.depth : Int) := by omega
          have HM2 : Hid (∀ w1, StT s B w1 b L2 0 → _) := Lib.hid fun w1 h1 => pMust1 s B b 0 [59] L2 w1 h1 (by decide)
          rcases (mustP [59] L2).cases with ⟨u2, L3, hE4⟩ | ⟨c, a, hE4⟩
          · rw [hE4] at hR HM2
            have HR : Hid (R = .ok ⟨ts, x⟩ L3) := Lib.hid hR
            clear hR hE hE2 hE3 hE4 hdp s1 s2 h he
            go_enter Tryz.func105, Tryz.ntmps105
            go_upto_region 1 with fail
            rw [← hwx]
            clear hwx
            go_upto_region 4 with (first | (go_at_call 134; refine (HL.out _ HA0.out.st).mono ?_; intro e w1 h2; obtain ⟨v, rfl, ⟨hv, hvn⟩, g1, g2⟩ := h2.okE rfl; obtain ⟨A1, c1, rfl, _⟩ := hv.form; have HA1 := Lib.hid (HA0.out.grow g1 g2); have HKn_1 : Hid (Nms b wx ts (.slice A1 ts.length c1) w1) := Lib.hid ⟨hv, hbxx⟩; clear g1 g2 h2 hv HL) | (go_at_call 99; refine (HM.out _ HA1.out.st).mono ?_; intro e w2 h2; obtain ⟨v, rfl, hv, g1, g2⟩ := h2.okE rfl; obtain rfl : v = .tuple #[] := hv; have HA2 := Lib.hid (HA1.out.grow g1 g2); have HKn_2 := Lib.hid (HKn_1.out.grow g2); clear g1 g2 h2 HM) | (go_at_call 64; refine (HN.out _ HA2.out.st).mono ?_; rintro e w3 ⟨rfl, g1⟩; have HA3 : Hid (At s B b wx (t :: r) 0 (w3.alloc (.cells #[.int .i64 t.kind, .string ⟨t.text.toArray⟩, .int .i64 t.n, .int .i64 (plAt s t.from_).1, .int .i64 (plAt s t.from_).2] 141))) := Lib.hid ((HA2.out.below g1).alloc _); have HKn_3 : Hid (Nms b wx ts (.slice A1 ts.length c1) (w3.alloc (.cells #[.int .i64 t.kind, .string ⟨t.text.toArray⟩, .int .i64 t.n, .int .i64 (plAt s t.from_).1, .int .i64 (plAt s t.from_).2] 141))) := Lib.hid ((HKn_2.out.below g1).alloc _); have HKt_3 : Hid (Bx b wx w3.heap.size 141 #[.int .i64 t.kind, .string ⟨t.text.toArray⟩, .int .i64 t.n, .int .i64 (plAt s t.from_).1, .int .i64 (plAt s t.from_).2] (w3.alloc (.cells #[.int .i64 t.kind, .string ⟨t.text.toArray⟩, .int .i64 t.n, .int .i64 (plAt s t.from_).1, .int .i64 (plAt s t.from_).2] 141))) := Lib.hid ⟨Row.made _ _ _, (HA2.out.below g1).size, hbxx⟩; clear g1 HN))
            generalize w3.alloc (.cells #[.int .i64 t.kind, .string ⟨t.text.toArray⟩, .int .i64 t.n, .int .i64 (plAt s t.from_).1, .int .i64 (plAt s t.from_).2] 141) = v3 at HA3 HKn_3 HKt_3 ⊢
            go_upto_region 5 with (go_at_call 135; refine (HX.out _ HA3.out.st HA3.out.env).mono ?_; intro e w4 h2; obtain ⟨v, rfl, ⟨Ax, cx, rfl, hk⟩, g1, g2⟩ := h2.okE rfl; have HA4 : Hid (At s B b wx L2 0 (w4.alloc (.cells #[.int .i64 x.k, .int .i64 x.o, .int .i64 x.n, .string ⟨x.s.toArray⟩, .slice Ax x.ks.length cx, .int .i64 (x.depth : Int)] 198))) := Lib.hid ((HA3.out.grow g1 g2).alloc _); have HKn_4 : Hid (Nms b wx ts (.slice A1 ts.length c1) (w4.alloc (.cells #[.int .i64 x.k, .int .i64 x.o, .int .i64 x.n, .string ⟨x.s.toArray⟩, .slice Ax x.ks.length cx, .int .i64 (x.depth : Int)] 198))) := Lib.hid ((HKn_3.out.grow g2).alloc _); have HKt_4 : Hid (Bx b wx w3.heap.size 141 #[.int .i64 t.kind, .string ⟨t.text.toArray⟩, .int .i64 t.n, .int .i64 (plAt s t.from_).1, .int .i64 (plAt s t.from_).2] (w4.alloc (.cells #[.int .i64 x.k, .int .i64 x.o, .int .i64 x.n, .string ⟨x.s.toArray⟩, .slice Ax x.ks.length cx, .int .i64 (x.depth : Int)] 198))) := Lib.hid ((HKt_3.out.grow g2).alloc _); have HKx_4 : Hid (Kid b wx x Ax cx w4.heap.size (w4.alloc (.cells #[.int .i64 x.k, .int .i64 x.o, .int .i64 x.n, .string ⟨x.s.toArray⟩, .slice Ax x.ks.length cx, .int .i64 (x.depth : Int)] 198))) := Lib.hid (Kid.made HA3.out hbxx g2 hk); clear g1 g2 h2 hk HX)
            generalize w4.alloc (.cells #[.int .i64 x.k, .int .i64 x.o, .int .i64 x.n, .string ⟨x.s.toArray⟩, .slice Ax x.ks.length cx, .int .i64 (x.depth : Int)] 198) = v4 at HA4 HKn_4 HKt_4 HKx_4 ⊢
            obtain ⟨y0, y1, y2, y3, y4, y5⟩ := HKx_4.out.cells
            have hpz := HKx_4.out.row.lt
            have t3 := HKt_4.out.row.cell 3
            have t4 := HKt_4.out.row.cell 4
            have htz := HKt_4.out.row.lt
            simp at t3 t4
            go_wp2_with (first | (go_at_call 99; refine (HM2.out _ HA4.out.st).mono ?_; intro e w5 h2; obtain ⟨v, rfl, hv, g1, g2⟩ := h2.okE rfl; obtain rfl : v = .tuple #[] := hv; have HA5 := Lib.hid (HA4.out.grow g1 g2); have HKn_5 := Lib.hid (HKn_4.out.grow g2); have HKx_5 := Lib.hid (HKx_4.out.grow g2); clear g1 g2 h2 HM2; obtain ⟨x0', x1', x2', x3', x4', x5'⟩ := HKx_5.out.cells; have hpz5 := HKx_5.out.row.lt; have HROW := HA5.out.row HPX.out hpb; clear t3 t4 y0 y1 y2 y3 y4 y5) | (refine wpList_store_row (o := ⟨none, Op.store _ _ _, _, _, _, _⟩) rfl _ _ _ rfl w.heap.size (q6 ⟨ts, x⟩ A1 c1 Ax cx) rfl rfl _ _ HROW (q6_size _ _ _ _ _) rfl (q6_one _ _ _ _ _) ?_))
            obtain ⟨hts, htc⟩ := HKn_5.out.ts
            obtain ⟨t1, t2, t3, t4, t5⟩ := eq_back (q := ⟨ts, x⟩) (A1 := A1) (A2 := Ax) (c1 := c1) (c2 := cx) (only_trans HGX.out HA5.out.grown) HROW (by rw [← HXZ.out]; exact hts) (by rw [← HXZ.out]; exact HKx_5.out.up) HA5.out.st hBw
            exact bodyPost_ret (results_cell_row rfl _ _ w.heap.size _ _ _ _ rfl t5 Tryz.underlying48 rfl eq_size) rfl (PRes.okI HR.out t1 rfl ⟨A1, c1, Ax, cx, rfl, t2, t3, htc⟩ t4)
          · rw [hE4] at hR HM2
            have HR : Hid (R = .bad c a) := Lib.hid hR
            clear hR hE hE2 hE3 hE4 hdp s1 s2 h he
            go_enter Tryz.func105, Tryz.ntmps105
            go_upto_region 1 with fail
            rw [← hwx]
            clear hwx
            go_upto_region 4 with (first | (go_at_call 134; refine (HL.out _ HA0.out.st).mono ?_; intro e w1 h2; obtain ⟨v, rfl, ⟨hv, hvn⟩, g1, g2⟩ := h2.okE rfl; obtain ⟨A1, c1, rfl, _⟩ := hv.form; have HA1 := Lib.hid (HA0.out.grow g1 g2); have HKn_1 : Hid (Nms b wx ts (.slice A1 ts.length c1) w1) := Lib.hid ⟨hv, hbxx⟩; clear g1 g2 h2 hv HL) | (go_at_call 99; refine (HM.out _ HA1.out.st).mono ?_; intro e w2 h2; obtain ⟨v, rfl, hv, g1, g2⟩ := h2.okE rfl; obtain rfl : v = .tuple #[] := hv; have HA2 := Lib.hid (HA1.out.grow g1 g2); have HKn_2 := Lib.hid (HKn_1.out.grow g2); clear g1 g2 h2 HM) | (go_at_call 64; refine (HN.out _ HA2.out.st).mono ?_; rintro e w3 ⟨rfl, g1⟩; have HA3 : Hid (At s B b wx (t :: r) 0 (w3.alloc (.cells #[.int .i64 t.kind, .string ⟨t.text.toArray⟩, .int .i64 t.n, .int .i64 (plAt s t.from_).1, .int .i64 (plAt s t.from_).2] 141))) := Lib.hid ((HA2.out.below g1).alloc _); have HKn_3 : Hid (Nms b wx ts (.slice A1 ts.length c1) (w3.alloc (.cells #[.int .i64 t.kind, .string ⟨t.text.toArray⟩, .int .i64 t.n, .int .i64 (plAt s t.from_).1, .int .i64 (plAt s t.from_).2] 141))) := Lib.hid ((HKn_2.out.below g1).alloc _); have HKt_3 : Hid (Bx b wx w3.heap.size 141 #[.int .i64 t.kind, .string ⟨t.text.toArray⟩, .int .i64 t.n, .int .i64 (plAt s t.from_).1, .int .i64 (plAt s t.from_).2] (w3.alloc (.cells #[.int .i64 t.kind, .string ⟨t.text.toArray⟩, .int .i64 t.n, .int .i64 (plAt s t.from_).1, .int .i64 (plAt s t.from_).2] 141))) := Lib.hid ⟨Row.made _ _ _, (HA2.out.below g1).size, hbxx⟩; clear g1 HN))
            generalize w3.alloc (.cells #[.int .i64 t.kind, .string ⟨t.text.toArray⟩, .int .i64 t.n, .int .i64 (plAt s t.from_).1, .int .i64 (plAt s t.from_).2] 141) = v3 at HA3 HKn_3 HKt_3 ⊢
            go_upto_region 5 with (go_at_call 135; refine (HX.out _ HA3.out.st HA3.out.env).mono ?_; intro e w4 h2; obtain ⟨v, rfl, ⟨Ax, cx, rfl, hk⟩, g1, g2⟩ := h2.okE rfl; have HA4 : Hid (At s B b wx L2 0 (w4.alloc (.cells #[.int .i64 x.k, .int .i64 x.o, .int .i64 x.n, .string ⟨x.s.toArray⟩, .slice Ax x.ks.length cx, .int .i64 (x.depth : Int)] 198))) := Lib.hid ((HA3.out.grow g1 g2).alloc _); have HKn_4 : Hid (Nms b wx ts (.slice A1 ts.length c1) (w4.alloc (.cells #[.int .i64 x.k, .int .i64 x.o, .int .i64 x.n, .string ⟨x.s.toArray⟩, .slice Ax x.ks.length cx, .int .i64 (x.depth : Int)] 198))) := Lib.hid ((HKn_3.out.grow g2).alloc _); have HKt_4 : Hid (Bx b wx w3.heap.size 141 #[.int .i64 t.kind, .string ⟨t.text.toArray⟩, .int .i64 t.n, .int .i64 (plAt s t.from_).1, .int .i64 (plAt s t.from_).2] (w4.alloc (.cells #[.int .i64 x.k, .int .i64 x.o, .int .i64 x.n, .string ⟨x.s.toArray⟩, .slice Ax x.ks.length cx, .int .i64 (x.depth : Int)] 198))) := Lib.hid ((HKt_3.out.grow g2).alloc _); have HKx_4 : Hid (Kid b wx x Ax cx w4.heap.size (w4.alloc (.cells #[.int .i64 x.k, .int .i64 x.o, .int .i64 x.n, .string ⟨x.s.toArray⟩, .slice Ax x.ks.length cx, .int .i64 (x.depth : Int)] 198))) := Lib.hid (Kid.made HA3.out hbxx g2 hk); clear g1 g2 h2 hk HX)
            generalize w4.alloc (.cells #[.int .i64 x.k, .int .i64 x.o, .int .i64 x.n, .string ⟨x.s.toArray⟩, .slice Ax x.ks.length cx, .int .i64 (x.depth : Int)] 198) = v4 at HA4 HKn_4 HKt_4 HKx_4 ⊢
            obtain ⟨y0, y1, y2, y3, y4, y5⟩ := HKx_4.out.cells
            have hpz := HKx_4.out.row.lt
            have t3 := HKt_4.out.row.cell 3
            have t4 := HKt_4.out.row.cell 4
            have htz := HKt_4.out.row.lt
            simp at t3 t4
            go_wp2_with (go_at_call 99; refine (HM2.out _ HA4.out.st).mono ?_; intro e w5 h2; obtain ⟨rfl, g2⟩ := h2.badE rfl; have HGB := Lib.hid (only_trans HA4.out.grown g2); clear g2 h2 HM2)
            exact ⟨rfl, PRes.badI HR.out (only_trans HGX.out HGB.out) rfl⟩
      · rw [hE3] at hR HX
        have HR : Hid (R = .bad c a) := Lib.hid hR
        clear hR hE hE2 hE3 s1 s2 h he
        go_enter Tryz.func105, Tryz.ntmps105
        go_upto_region 1 with fail
        rw [← hwx]
        clear hwx
        go_upto_region 4 with (first | (go_at_call 134; refine (HL.out _ HA0.out.st).mono ?_; intro e w1 h2; obtain ⟨v, rfl, ⟨hv, hvn⟩, g1, g2⟩ := h2.okE rfl; obtain ⟨A1, c1, rfl, _⟩ := hv.form; have HA1 := Lib.hid (HA0.out.grow g1 g2); have HKn_1 : Hid (Nms b wx ts (.slice A1 ts.length c1) w1) := Lib.hid ⟨hv, hbxx⟩; clear g1 g2 h2 hv HL) | (go_at_call 99; refine (HM.out _ HA1.out.st).mono ?_; intro e w2 h2; obtain ⟨v, rfl, hv, g1, g2⟩ := h2.okE rfl; obtain rfl : v = .tuple #[] := hv; have HA2 := Lib.hid (HA1.out.grow g1 g2); have HKn_2 := Lib.hid (HKn_1.out.grow g2); clear g1 g2 h2 HM) | (go_at_call 64; refine (HN.out _ HA2.out.st).mono ?_; rintro e w3 ⟨rfl, g1⟩; have HA3 : Hid (At s B b wx (t :: r) 0 (w3.alloc (.cells #[.int .i64 t.kind, .string ⟨t.text.toArray⟩, .int .i64 t.n, .int .i64 (plAt s t.from_).1, .int .i64 (plAt s t.from_).2] 141))) := Lib.hid ((HA2.out.below g1).alloc _); have HKn_3 : Hid (Nms b wx ts (.slice A1 ts.length c1) (w3.alloc (.cells #[.int .i64 t.kind, .string ⟨t.text.toArray⟩, .int .i64 t.n, .int .i64 (plAt s t.from_).1, .int .i64 (plAt s t.from_).2] 141))) := Lib.hid ((HKn_2.out.below g1).alloc _); have HKt_3 : Hid (Bx b wx w3.heap.size 141 #[.int .i64 t.kind, .string ⟨t.text.toArray⟩, .int .i64 t.n, .int .i64 (plAt s t.from_).1, .int .i64 (plAt s t.from_).2] (w3.alloc (.cells #[.int .i64 t.kind, .string ⟨t.text.toArray⟩, .int .i64 t.n, .int .i64 (plAt s t.from_).1, .int .i64 (plAt s t.from_).2] 141))) := Lib.hid ⟨Row.made _ _ _, (HA2.out.below g1).size, hbxx⟩; clear g1 HN))
        generalize w3.alloc (.cells #[.int .i64 t.kind, .string ⟨t.text.toArray⟩, .int .i64 t.n, .int .i64 (plAt s t.from_).1, .int .i64 (plAt s t.from_).2] 141) = v3 at HA3 HKn_3 HKt_3 ⊢
        go_wp2_with (go_at_call 135; refine (HX.out _ HA3.out.st HA3.out.env).mono ?_; intro e w4 h2; obtain ⟨rfl, g2⟩ := h2.badE rfl; have HGB := Lib.hid (only_trans HA3.out.grown g2); clear g2 h2 HX)
        exact ⟨rfl, PRes.badI HR.out (only_trans HGX.out HGB.out) rfl⟩
    · rw [hE2] at hR HM
      have HR : Hid (R = .bad c a) := Lib.hid hR
      clear hR hE hE2 s1 h he
      go_enter Tryz.func105, Tryz.ntmps105
      go_upto_region 1 with fail
      rw [← hwx]
      clear hwx
      go_wp2_with (first | (go_at_call 134; refine (HL.out _ HA0.out.st).mono ?_; intro e w1 h2; obtain ⟨v, rfl, ⟨hv, hvn⟩, g1, g2⟩ := h2.okE rfl; obtain ⟨A1, c1, rfl, _⟩ := hv.form; have HA1 := Lib.hid (HA0.out.grow g1 g2); have HKn_1 : Hid (Nms b wx ts (.slice A1 ts.length c1) w1) := Lib.hid ⟨hv, hbxx⟩; clear g1 g2 h2 hv HL) | (go_at_call 99; refine (HM.out _ HA1.out.st).mono ?_; intro e w2 h2; obtain ⟨rfl, g2⟩ := h2.badE rfl; have HGB := Lib.hid (only_trans HA1.out.grown g2); clear g2 h2 HM))
      exact ⟨rfl, PRes.badI HR.out (only_trans HGX.out HGB.out) rfl⟩
  · rw [hE] at hR HL
    have HR : Hid (R = .bad c a) := Lib.hid hR
    clear hR hE h he
    go_enter Tryz.func105, Tryz.ntmps105
    go_upto_region 1 with fail
    rw [← hwx]
    clear hwx
    go_wp2_with (go_at_call 134; refine (HL.out _ HA0.out.st).mono ?_; intro e w1 h2; obtain ⟨rfl, g2⟩ := h2.badE rfl; have HGB := Lib.hid (only_trans HA0.out.grown g2); clear g2 h2 HL)
    exact ⟨rfl, PRes.badI HR.out (only_trans HGX.out HGB.out) rfl⟩

end Go.Proofs.YtdabndiaflagpaaGreatDoor
namespace Go.Proofs.YtdabndiaflagpaaGreatDoor.Tamp
open Go.Proofs.YtdabndiaflagpaaGreatDoor.Tame
open Go
/-- What is asked of what an operation has come to. -/
def upon (P : Program) (Z : List PanicEntry → World → Prop) (R : Value → World → Prop) : Result Next → Prop
  | .ok (.value v) w' => R v w'
  | .ok .skip w' => R undef w'
  | .ok (.enter f args) w' => Calls P f args w' (fun e w'' => (∃ v, e = .returned v ∧ R v w'') ∨ ∃ ch, e = .panicked ch ∧ Z ch w'')
  | _ => False
def Op (P : Program) (Z : List PanicEntry → World → Prop) (o : Oper) (a : Act) (w : World) (R : Value → World → Prop) : Prop := upon P Z R ((execOp a.eval o).run P w)
theorem Op.wp {P : Program} {Z : List PanicEntry → World → Prop} {o : Oper} {a : Act} {w : World} {R : Value → World → Prop} {K : Act → World → Prop} {Q : Exit → Act → World → Prop}
    (hZ : ∀ ch w', Z ch w' → Q (.panic ch) a w') (h : Op P Z o a w R) (hK : ∀ v w', R v w' → K (a.put o.dst v) w') : o.wp P a w K Q := by
  unfold Op at h
  unfold Oper.wp
  generalize (execOp a.eval o).run P w = r at *
  cases r with
  | ok n w' =>
    cases n <;> simp only [upon] at h <;> simp only [Oper.upon]
    case value u => exact hK _ _ h
    case skip => exact hK _ _ h
    case enter f args =>
      refine h.mono fun e w'' hh => ?_
      rcases hh with ⟨v, he, hr⟩ | ⟨ch, he, hz⟩
      · subst he; exact hK _ _ hr
      · subst he; exact hZ _ _ hz
  | halt x w' => simp only [upon] at h
section
variable {P : Program} {ops : Array Oper} {a0 : Act}
theorem stF_defers (ls : Nat → Bool) (vals : Nat → Value) (n : Nat) : (stF ops a0 ls vals n).defers = a0.defers := by
  induction n with
  | zero => rfl
  | succ n ih =>
    unfold stF
    split
    · rw [← ih]; cases dstOf ops n <;> rfl
    · exact ih
/-- What the region must be like: it waits for earlier operations alone; what it looks at has come up, or waits for it; no slot is written twice; no select. -/
def waits (o : Oper) (k : Nat) : Bool := o.after.any fun e => Region.binds .any e && e.on == k
def tidy (ops : Array Oper) : Bool :=
  (List.range ops.size).all fun i => match ops[i]? with
    | none => true
    | some o =>
      (o.after.all fun e => !Region.binds .any e || decide (e.on < i)) &&
      ((o.looksAt ops).all fun d => (List.range ops.size).all fun k =>
        dstOf ops k != some d || k == i || (waits o k) || (decide (i < k) && ((ops[k]?).map fun o' => waits o' i).getD false)) &&
      ((List.range ops.size).all fun k => k == i || (dstOf ops i).isNone || dstOf ops k != dstOf ops i) &&
      (match o.op with | .select .. => false | _ => true)
theorem waits_iff {o : Oper} {k : Nat} : waits o k = true ↔ ∃ e ∈ o.after, Region.binds .any e = true ∧ e.on = k := by
  unfold waits
  rw [Array.any_eq_true']
  constructor
  · rintro ⟨e, he, h⟩
    simp only [Bool.and_eq_true, beq_iff_eq] at h
    exact ⟨e, he, h.1, h.2⟩
  · rintro ⟨e, he, h1, h2⟩
    exact ⟨e, he, by simp [h1, h2]⟩
theorem tidy_spec (h : tidy ops = true) : Tidy ops := by
  have key : ∀ i o, ops[i]? = some o → _ := fun i o ho => by
    have hi : i < ops.size := (Array.getElem?_eq_some_iff.1 ho).1
    have := List.all_eq_true.1 h i (List.mem_range.2 hi)
    simp only [ho, Bool.and_eq_true] at this
    exact this
  refine ⟨fun i o ho e he hb => ?_, fun i o ho d hd k hk => ?_, fun i k d hne hi hk => ?_, fun i o cs b ho hop => ?_⟩
  · have h1 := (key i o ho).1.1.1
    rw [Array.all_eq_true_iff_forall_mem] at h1
    have := h1 e he
    simpa [hb] using this
  · have h2 := (key i o ho).1.1.2
    have h3 := List.all_eq_true.1 (List.all_eq_true.1 h2 d hd) k (List.mem_range.2 (dst_lt hk))
    simp only [hk, bne_self_eq_false, Bool.false_or, Bool.or_eq_true, beq_iff_eq, Bool.and_eq_true, decide_eq_true_eq] at h3
    rcases h3 with (h3 | h3) | h3
    · exact .inl h3
    · exact .inr (.inl (waits_iff.1 h3))
    · refine .inr (.inr ⟨h3.1, ?_⟩)
      cases ho' : ops[k]? with
      | none => simp [ho'] at h3
      | some o' =>
        simp only [ho', Option.map_some, Option.getD_some] at h3
        exact ⟨o', rfl, waits_iff.1 h3.2⟩
  · cases ho : ops[i]? with
    | none => simp [dstOf, ho] at hi
    | some o =>
      have h2 := (key i o ho).1.2
      have h3 := List.all_eq_true.1 h2 k (List.mem_range.2 (dst_lt hk))
      simp [hne, hi, hk] at h3
  · have h2 := (key i o ho).2
    simp [hop] at h2
section
variable {Z : List PanicEntry → World → Prop} {L : World → World → Prop} {ts : Nat → Value → World → Prop} {W : World} {Q : Exit → Act → World → Prop}
theorem run (hZ : ∀ ch a w', a.defers = a0.defers → Z ch w' → Q (.panic ch) a w') (ht : Tidy ops) (hLr : ∀ w, L w w) (hLt : ∀ a b c, L a b → L b c → L a c) (hst : ∀ i v w w', L w w' → ts i v w → ts i v w')
    (hob : ∀ i o, ops[i]? = some o → ∀ (vals : Nat → Value) w, L W w → (∀ e ∈ o.after, Region.binds .any e = true → ts e.on (vals e.on) w) →
      if Region.wanted o (yielded ops (stF ops a0 (fun _ => true) vals i).tmps) = true then Op P Z o (stF ops a0 (fun _ => true) vals i) w (fun v w' => L w w' ∧ ts i v w') else ts i undef w)
    (hfin : ∀ (vals : Nat → Value) w, L W w → (∀ i, i < ops.size → ts i (vals i) w) → Q .normal (stF ops a0 (fun _ => true) vals ops.size) w) :
    ∀ (fuel : Nat) (listed : Array Bool) (vals : Nat → Value) (w : World), listed.size = ops.size → unl listed ops.size ≤ fuel →
      (∀ k o e, listed.getD k false = true → ops[k]? = some o → e ∈ o.after → Region.binds .any e = true → listed.getD e.on false = true) →
      L W w → (∀ k, k < ops.size → listed.getD k false = true → ts k (vals k) w) →
      wpAny P .any ops Q fuel listed (stF ops a0 (fun k => listed.getD k false) vals ops.size) w := by
  have fin : ∀ (listed : Array Bool) (vals : Nat → Value) (w : World), (∀ k, k < ops.size → listed.getD k false = true) → L W w → (∀ k, k < ops.size → listed.getD k false = true → ts k (vals k) w) →
      Q .normal (stF ops a0 (fun k => listed.getD k false) vals ops.size) w := by
    intro listed vals w hall hL hts
    rw [stF_congr (fun k => listed.getD k false) (fun _ => true) vals vals ops.size fun k hk => ⟨hall k hk, fun _ => rfl⟩]
    exact hfin vals w hL fun i hi => hts i hi (hall i hi)
  intro fuel
  induction fuel with
  | zero =>
    intro listed vals w hsz hun _ hL hts
    have hall := unl_zero listed ops.size (by omega)
    refine ⟨?_, fin listed vals w hall hL hts⟩
    cases hr : Region.ready .any ops listed with
    | nil => rfl
    | cons j js =>
      exfalso
      have hj : j ∈ Region.ready .any ops listed := by rw [hr]; exact List.mem_cons_self
      rw [mem_ready] at hj
      obtain ⟨h0, o, ho, _⟩ := hj
      have hlt : j < ops.size := (Array.getElem?_eq_some_iff.1 ho).1
      have h1 := hall j hlt
      have hj' : j < listed.size := by omega
      simp [Array.getD, hj'] at h0 h1
      rw [h0] at h1
      cases h1
  | succ fuel ih =>
    intro listed vals w hsz hun hcl hL hts
    refine ⟨fun hr => fin listed vals w (all_of_ready ht hr hsz) hL hts, fun i hi => ?_⟩
    rw [mem_ready] at hi
    obtain ⟨h0, o, ho, haf⟩ := hi
    have hlt : i < ops.size := (Array.getElem?_eq_some_iff.1 ho).1
    have hil : i < listed.size := by omega
    have hif : listed.getD i false = false := by simpa [Array.getD, hil] using h0
    have hagree : ∀ d ∈ o.looksAt ops, (stF ops a0 (fun k => listed.getD k false) vals ops.size).tmps[d]? = (stF ops a0 (fun _ => true) vals i).tmps[d]? := by
      intro d hd
      rw [← stF_trunc vals i ops.size (by omega)]
      refine stF_slot _ _ _ _ d _ fun k _ hk => ⟨?_, fun _ => rfl⟩
      rcases ht.looks i o ho d hd k hk with rfl | ⟨e, he, hb, rfl⟩ | ⟨hik, o', ho', e, he, hb, rfl⟩
      · simpa using hif
      · have := ht.back i o ho e he hb
        rw [haf e he hb]
        simp [this]
      · cases hlk : listed.getD k false with
        | false =>
          have : ¬ k < e.on := by omega
          simp [this]
        | true =>
          have := hcl k o' e hlk ho' he hb
          rw [hif] at this
          cases this
    have hstep := hob i o ho vals w hL fun e he hb => hts e.on (by have := ht.back i o ho e he hb; omega) (haf e he hb)
    have next : ∀ v w', L w w' → ts i v w' → wpAny P .any ops Q fuel (listed.setIfInBounds i true) ((stF ops a0 (fun k => listed.getD k false) vals ops.size).put o.dst v) w' := by
      intro v w' hLw htv
      have hd : dstOf ops i = o.dst := by simp [dstOf, ho]
      have e1 : (stF ops a0 (fun k => listed.getD k false) vals ops.size).put o.dst v = stF ops a0 (fun k => (listed.setIfInBounds i true).getD k false) (upd vals i v) ops.size := by
        rw [← hd, ← stF_upd (fun k => listed.getD k false) vals i v hif (fun k hk d h1 => ht.once i k d hk h1) ops.size hlt]
        refine stF_congr _ _ _ _ _ fun k _ => ⟨?_, fun _ => rfl⟩
        by_cases hki : k = i
        · subst hki; rw [upd_same]; simp [hil]
        · rw [upd_other _ _ _ _ hki, getD_set_ne false (Ne.symm hki)]
      rw [e1]
      refine ih _ _ _ (by simpa using hsz) (by have := unl_set listed i ops.size hlt hil hif; omega) (fun k o' e hk ho' he hb => ?_) (hLt _ _ _ hL hLw) (fun k hk hlk => ?_)
      · by_cases hki : k = i
        · subst hki
          rw [ho] at ho'
          injection ho' with ho'
          subst ho'
          exact getD_set_true (haf e he hb)
        · rw [getD_set_ne false (Ne.symm hki)] at hk
          exact getD_set_true (hcl k o' e hk ho' he hb)
      · by_cases hki : k = i
        · subst hki; rw [upd_same]; exact htv
        · rw [upd_other _ _ _ _ hki]
          rw [getD_set_ne false (Ne.symm hki)] at hlk
          exact hst _ _ _ _ hLw (hts k hk hlk)
    have hsel : ∀ cs b, o.op ≠ .select cs b := fun cs b => ht.noSel i o cs b ho
    have hwe := wanted_agree (ops := ops) hagree
    unfold wpOp
    rw [ho]
    show if Region.wanted o (yielded ops (stF ops a0 (fun k => listed.getD k false) vals ops.size).tmps) = true then _ else _
    by_cases hw : Region.wanted o (yielded ops (stF ops a0 (fun _ => true) vals i).tmps) = true
    · rw [if_pos hw] at hstep
      rw [if_pos (hwe.trans hw)]
      refine .inl (Op.wp (fun ch w' hz => hZ ch _ w' (stF_defers _ _ _) hz) (R := fun v w' => L w w' ∧ ts i v w') ?_ fun v w' ⟨h1, h2⟩ => next v w' h1 h2)
      unfold Op at hstep ⊢
      rw [exec_agree hsel hagree]
      exact hstep
    · rw [if_neg hw] at hstep
      rw [if_neg (fun h => hw (hwe.symm.trans h))]
      exact next undef w (hLr w) hstep
/-- The region, by obligations alone. -/
theorem region (hZ : ∀ ch a w', a.defers = a0.defers → Z ch w' → Q (.panic ch) a w') {id : Nat} {w0 : World} (hm : P.follows .mixedOrders = true) (htd : tidy ops = true) (hLr : ∀ w, L w w) (hLt : ∀ a b c, L a b → L b c → L a c) (hst : ∀ i v w w', L w w' → ts i v w → ts i v w')
    (hob : ∀ i o, ops[i]? = some o → ∀ (vals : Nat → Value) w, L w0.drew w → (∀ e ∈ o.after, Region.binds .any e = true → ts e.on (vals e.on) w) →
      if Region.wanted o (yielded ops (stF ops a0 (fun _ => true) vals i).tmps) = true then Op P Z o (stF ops a0 (fun _ => true) vals i) w (fun v w' => L w w' ∧ ts i v w') else ts i undef w)
    (hfin : ∀ (vals : Nat → Value) w, L w0.drew w → (∀ i, i < ops.size → ts i (vals i) w) → Q .normal (stF ops a0 (fun _ => true) vals ops.size) w) :
    (Code.region id ops true).wp P Q a0 w0 := by
  refine wp_region_any hm ?_
  have h0 : ∀ k, (Array.replicate ops.size false).getD k false = false := by
    intro k
    simp [Array.getD]
  have h := run hZ (tidy_spec htd) hLr hLt hst hob hfin ops.size (Array.replicate ops.size false) (fun _ => undef) w0.drew (by simp) (by rw [unl_all ops.size ops.size (Nat.le_refl _)]; exact Nat.le_refl _)
    (fun k o e hk => by rw [h0 k] at hk; cases hk) (hLr _) (fun k _ hk => by rw [h0 k] at hk; cases hk)
  have e : stF ops a0 (fun k => (Array.replicate ops.size false).getD k false) (fun _ => undef) ops.size = a0 := by
    rw [stF_congr _ (fun k => decide (k < 0)) _ (fun _ => undef) ops.size fun k _ => ⟨by rw [h0 k]; simp, fun _ => rfl⟩, stF_trunc _ 0 ops.size (by omega)]
    rfl
  rw [e] at h
  exact h
end
end
/-! ### The walk, in the order of the text -/
/-- What is known of an operation's value, and what stands in its slot while the walk goes on: the value that came (a name), or the one that it must be. -/
structure Said where
  t : TP
  u : (Nat → Value) → Value
section
variable {P : Program} {Z : List PanicEntry → World → Prop} {L : World → World → Prop} {W : World} {Q : Exit → Act → World → Prop}
/-- What an operation may lean on: what is known of those that it waits for. -/
def depF (o : Oper) (ts : List Said) (vals : Nat → Value) (w : World) : Prop :=
  ∀ e ∈ o.after, Region.binds .any e = true → ∀ s : Said, ts[e.on]? = some s → s.t (vals e.on) w
def Good (L : World → World → Prop) (i : Nat) (s : Said) : Prop := (∀ v w w', L w w' → s.t v w → s.t v w') ∧ ∀ (vals : Nat → Value) w, s.t (vals i) w → s.u vals = vals i
def walk (P : Program) (Z : List PanicEntry → World → Prop) (ops : Array Oper) (L : World → World → Prop) (W : World) (Q : Exit → Act → World → Prop) : List Oper → List Said → ((Nat → Value) → Act) → Prop
  | [], ts, fr => ∀ (vals : Nat → Value) w, L W w → (∀ (i : Nat) (s : Said), ts[i]? = some s → s.t (vals i) w) → Q .normal (fr vals) w
  | o :: rest, ts, fr => ∃ s, Good L ts.length s ∧
      (∀ (vals : Nat → Value) w, L W w → depF o ts vals w → if Region.wanted o (yielded ops (fr vals).tmps) = true then Op P Z o (fr vals) w (fun v w' => L w w' ∧ s.t v w') else s.t undef w) ∧
      walk P Z ops L W Q rest (ts ++ [s]) (fun vals => (fr vals).put o.dst (s.u vals))
/-- The walk's frames: what stands in the slots is the value that came, wherever what is known holds. -/
def frU (ops : Array Oper) (a0 : Act) (ts : List Said) (vals : Nat → Value) : Nat → Act
  | 0 => a0
  | n + 1 => (frU ops a0 ts vals n).put (dstOf ops n) (match ts[n]? with | some s => s.u vals | none => vals n)
theorem frU_size (ops : Array Oper) (a0 : Act) (ts : List Said) (vals : Nat → Value) (n : Nat) : (frU ops a0 ts vals n).tmps.size = a0.tmps.size := by
  induction n with
  | zero => rfl
  | succ n ih => unfold frU; rw [put_size, ih]
theorem frU_more {ops : Array Oper} {a0 : Act} {ts ts' : List Said} {vals : Nat → Value} (n : Nat) (h : ∀ k, k < n → ts[k]? = ts'[k]?) : frU ops a0 ts vals n = frU ops a0 ts' vals n := by
  induction n with
  | zero => rfl
  | succ n ih => unfold frU; rw [ih fun k hk => h k (by omega), h n (by omega)]
theorem frU_slot {ops : Array Oper} {a0 : Act} {ts : List Said} {vals : Nat → Value} (d : Tmp) (n : Nat)
    (h : ∀ k, k < n → dstOf ops k = some d → ∀ s, ts[k]? = some s → s.u vals = vals k) : (frU ops a0 ts vals n).tmps[d]? = (stF ops a0 (fun _ => true) vals n).tmps[d]? := by
  induction n with
  | zero => rfl
  | succ n ih =>
    have ih' := ih fun k hk => h k (by omega)
    unfold frU stF
    simp only [if_true]
    by_cases hd : dstOf ops n = some d
    · rw [hd, put_slot, put_slot, frU_size, stF_size]
      have := h n (by omega) hd
      cases hs : ts[n]? with
      | none => rfl
      | some s => simp only [this s hs]
    · rw [put_other _ _ _ _ hd, put_other _ _ _ _ hd, ih']
/-- All that the walk chose. -/
theorem walk_all {ops : Array Oper} {a0 : Act} : ∀ (rest : List Oper) (ts : List Said) (fr : (Nat → Value) → Act),
    (∀ vals, fr vals = frU ops a0 ts vals ts.length) → (∀ j, rest[j]? = ops[ts.length + j]?) →
    walk P Z ops L W Q rest ts fr → ∃ all : List Said, all.length = ts.length + rest.length ∧ (∀ k, k < ts.length → all[k]? = ts[k]?) ∧
      (∀ (i : Nat) (s : Said), ts.length ≤ i → all[i]? = some s → Good L i s ∧ ∃ o, ops[i]? = some o ∧
        ∀ (vals : Nat → Value) w, L W w → depF o (all.take i) vals w → if Region.wanted o (yielded ops (frU ops a0 all vals i).tmps) = true then Op P Z o (frU ops a0 all vals i) w (fun v w' => L w w' ∧ s.t v w') else s.t undef w) ∧
      (∀ (vals : Nat → Value) w, L W w → (∀ (i : Nat) (s : Said), all[i]? = some s → s.t (vals i) w) → Q .normal (frU ops a0 all vals all.length) w) := by
  intro rest
  induction rest with
  | nil =>
    intro ts fr hfr _ hw
    refine ⟨ts, by simp, fun _ _ => rfl, fun i s hi hs => ?_, fun vals w hL hts => ?_⟩
    · rw [List.getElem?_eq_none hi] at hs; cases hs
    · rw [← hfr]; exact hw vals w hL hts
  | cons o rest ih =>
    intro ts fr hfr hops hw
    obtain ⟨s, hg, hob, hrest⟩ := hw
    have ho : ops[ts.length]? = some o := by have := hops 0; simpa using this.symm
    have hd : dstOf ops ts.length = o.dst := by simp [dstOf, ho]
    obtain ⟨all, h1, h2, h3, h4⟩ := ih (ts ++ [s]) (fun vals => (fr vals).put o.dst (s.u vals)) (fun vals => by
        rw [List.length_append, List.length_singleton]
        unfold frU
        rw [hd]
        have e1 : (ts ++ [s])[ts.length]? = some s := by simp
        have e2 : frU ops a0 (ts ++ [s]) vals ts.length = frU ops a0 ts vals ts.length := frU_more _ fun k hk => List.getElem?_append_left hk
        rw [e1, hfr vals, e2])
      (fun j => by have := hops (j + 1); rw [List.length_append, List.length_singleton]; simpa [Nat.add_assoc, Nat.add_comm 1 j] using this) hrest
    rw [List.length_append, List.length_singleton] at h1 h2 h3
    have hlen : ts.length < all.length := by rw [h1]; omega
    have hk : ∀ k, k < ts.length → all[k]? = ts[k]? := fun k hk => by rw [h2 k (by omega)]; exact List.getElem?_append_left hk
    have hs : all[ts.length]? = some s := by rw [h2 ts.length (by omega)]; simp
    refine ⟨all, by rw [h1]; simp; omega, hk, fun i s' hi hs' => ?_, h4⟩
    by_cases hit : i = ts.length
    · subst hit
      rw [hs] at hs'
      injection hs' with hs'
      subst hs'
      refine ⟨hg, o, ho, fun vals w hL hdep => ?_⟩
      have e : frU ops a0 all vals ts.length = fr vals := by rw [hfr vals]; exact frU_more _ hk
      rw [e]
      refine hob vals w hL fun e he hb s2 hs2 => hdep e he hb s2 ?_
      have hlt : e.on < ts.length := by
        rcases Nat.lt_or_ge e.on ts.length with h' | h'
        · exact h'
        · rw [List.getElem?_eq_none h'] at hs2; cases hs2
      rw [List.getElem?_take, if_pos hlt, hk _ hlt]
      exact hs2
    · exact h3 i s' (by omega) hs'
/-- **ONE WALK SERVES EVERY ORDER.** -/
theorem wp_region_tamp {ops : List Oper} {id : Nat} {a0 : Act} {w0 : World} (hZ : ∀ ch a w', a.defers = a0.defers → Z ch w' → Q (.panic ch) a w') (hm : P.follows .mixedOrders = true) (htd : tidy ops.toArray = true) (hLr : ∀ w, L w w) (hLt : ∀ a b c, L a b → L b c → L a c)
    (h : walk P Z ops.toArray L w0.drew Q ops [] (fun _ => a0)) : (Code.region id ops.toArray true).wp P Q a0 w0 := by
  obtain ⟨all, h1, _, h3, h4⟩ := walk_all (a0 := a0) ops [] (fun _ => a0) (fun _ => rfl) (fun j => by simp) h
  have htid := tidy_spec htd
  have hsz : all.length = ops.toArray.size := by simpa using h1
  have sd : ∀ i, i < ops.toArray.size → ∃ s, all[i]? = some s := fun i hi => ⟨all[i]'(by omega), List.getElem?_eq_getElem (by omega)⟩
  refine region hZ (ts := fun i v w => ∀ s, all[i]? = some s → s.t v w) hm htd hLr hLt (fun i v w w' hl ht s hs => (h3 i s (by simp) hs).1.1 v w w' hl (ht s hs)) ?_ ?_
  · intro i o ho vals w hL hdep
    have hi : i < ops.toArray.size := (Array.getElem?_eq_some_iff.1 ho).1
    obtain ⟨s, hs⟩ := sd i hi
    obtain ⟨hg, o', ho', hob⟩ := h3 i s (by simp) hs
    rw [ho] at ho'
    injection ho' with ho'
    subst ho'
    have hob := hob vals w hL fun e he hb s2 hs2 => hdep e he hb s2 (by
      rw [List.getElem?_take] at hs2
      split at hs2
      · exact hs2
      · cases hs2)
    have hagree : ∀ d ∈ o.looksAt ops.toArray, (stF ops.toArray a0 (fun _ => true) vals i).tmps[d]? = (frU ops.toArray a0 all vals i).tmps[d]? := by
      intro d hd
      refine (frU_slot d i fun k hk hdk s2 hs2 => ?_).symm
      rcases htid.looks i o ho d hd k hdk with rfl | ⟨e, he, hb, rfl⟩ | ⟨hik, _⟩
      · omega
      · exact (h3 e.on s2 (by simp) hs2).1.2 vals w (hdep e he hb s2 hs2)
      · omega
    have hsel : ∀ cs b, o.op ≠ .select cs b := fun cs b => htid.noSel i o cs b ho
    have hwe := wanted_agree (ops := ops.toArray) hagree
    by_cases hw : Region.wanted o (yielded ops.toArray (frU ops.toArray a0 all vals i).tmps) = true
    · rw [if_pos hw] at hob
      rw [if_pos (hwe.trans hw)]
      unfold Op at hob ⊢
      rw [exec_agree hsel hagree]
      have key : ∀ r : Result Next, upon P Z (fun v w' => L w w' ∧ s.t v w') r → upon P Z (fun v w' => L w w' ∧ ∀ s', all[i]? = some s' → s'.t v w') r := by
        intro r hr
        have conv : ∀ v w', L w w' ∧ s.t v w' → L w w' ∧ ∀ s', all[i]? = some s' → s'.t v w' := fun v w' hh => ⟨hh.1, fun s' hs' => by rw [hs] at hs'; injection hs' with hs'; subst hs'; exact hh.2⟩
        cases r with
        | ok n w' =>
          cases n <;> simp only [upon] at hr ⊢
          case value u => exact conv _ _ hr
          case skip => exact conv _ _ hr
          case enter f args => exact hr.mono fun e w'' hh => hh.imp (fun ⟨v, he, hh⟩ => ⟨v, he, conv _ _ hh⟩) fun hh => hh
        | halt x w' => simp only [upon] at hr
      exact key _ hob
    · rw [if_neg hw] at hob
      rw [if_neg (fun h => hw (hwe.symm.trans h))]
      intro s' hs'
      rw [hs] at hs'
      injection hs' with hs'
      subst hs'
      exact hob
  · intro vals w hL hts
    have e : stF ops.toArray a0 (fun _ => true) vals ops.toArray.size = frU ops.toArray a0 all vals all.length := by
      rw [hsz]
      have hu : ∀ n, n ≤ ops.toArray.size → stF ops.toArray a0 (fun _ => true) vals n = frU ops.toArray a0 all vals n := by
        intro n
        induction n with
        | zero => intro _; rfl
        | succ n ih =>
          intro hn
          unfold stF frU
          obtain ⟨s, hs⟩ := sd n (by omega)
          rw [ih (by omega), hs]
          simp only [if_true]
          rw [(h3 n s (by simp) hs).1.2 vals w (hts n (by omega) s hs)]
      exact hu _ (Nat.le_refl _)
    rw [e]
    exact h4 vals w hL fun i s hs => hts i (by
      rcases Nat.lt_or_ge i all.length with h' | h'
      · omega
      · rw [List.getElem?_eq_none h'] at hs; cases hs) s hs
/-- The operation yields one value, whatever the order. -/
theorem walk_known {ops : Array Oper} {o : Oper} {rest : List Oper} {ts : List Said} {fr : (Nat → Value) → Act}
    (hw : ∀ vals : Nat → Value, Region.wanted o (yielded ops (fr vals).tmps) = true)
    (h : ∃ c : Value, (∀ (vals : Nat → Value) w, L W w → depF o ts vals w → Op P Z o (fr vals) w (Is L w c)) ∧
      walk P Z ops L W Q rest (ts ++ [⟨fun v _ => v = c, fun _ => c⟩]) (fun vals => (fr vals).put o.dst c)) : walk P Z ops L W Q (o :: rest) ts fr :=
  let ⟨c, h, hr⟩ := h
  ⟨⟨fun v _ => v = c, fun _ => c⟩, ⟨fun _ _ _ _ hh => hh, fun _ _ hh => hh.symm⟩, fun vals w hL hd => by rw [if_pos (hw vals)]; exact h vals w hL hd, hr⟩
/-- The operation yields some value, of which this lasts. -/
theorem walk_some {ops : Array Oper} {o : Oper} {rest : List Oper} {ts : List Said} {fr : (Nat → Value) → Act} (t : TP)
    (hw : ∀ vals : Nat → Value, Region.wanted o (yielded ops (fr vals).tmps) = true)
    (hst : ∀ v w w', L w w' → t v w → t v w')
    (h : ∀ (vals : Nat → Value) w, L W w → depF o ts vals w → Op P Z o (fr vals) w (Has L w t))
    (hr : walk P Z ops L W Q rest (ts ++ [⟨t, fun vals => vals ts.length⟩]) (fun vals => (fr vals).put o.dst (vals ts.length))) : walk P Z ops L W Q (o :: rest) ts fr :=
  ⟨⟨t, fun vals => vals ts.length⟩, ⟨hst, fun _ _ _ => rfl⟩, fun vals w hL hd => by rw [if_pos (hw vals)]; exact h vals w hL hd, hr⟩
theorem walk_end {ops : Array Oper} {ts : List Said} {fr : (Nat → Value) → Act} (h : ∀ (vals : Nat → Value) w, L W w → (∀ (i : Nat) (s : Said), ts[i]? = some s → s.t (vals i) w) → Q .normal (fr vals) w) : walk P Z ops L W Q [] ts fr := h
end
end Go.Proofs.YtdabndiaflagpaaGreatDoor.Tamp
