/- Parts: PsE1, PsE2, PsE3, PsE4. -/
import Derived.Test.YtdabndiaflagpaaGreatDoorB02
set_option maxRecDepth 100000
set_option maxHeartbeats 4000000
set_option linter.unusedVariables false
namespace Go.Proofs.YtdabndiaflagpaaGreatDoor
open Go.RowKit

/-- Where a function stands that has begun at wx. -/
structure At (s : T) (B b : Nat) (wx : World) (L : List Tk) (o : Nat) (wi : World) : Prop where
  st : StT s B wi b L o
  env : PaEnv b wi
  grown : wx.grownBy wi (some b)
section
variable {s : T} {B b : Nat} {wx wi wj : World} {L L' : List Tk} {o o' : Nat}
theorem At.refl (h : StT s B wx b L o) (he : PaEnv b wx) : At s B b wx L o wx := ⟨h, he, only_refl _ _⟩
theorem At.grow (h : At s B b wx L o wi) (g1 : StT s B wj b L' o') (g2 : wi.grownBy wj (some b)) : At s B b wx L' o' wj :=
  ⟨g1, h.env.grown g2 (by have := h.st.base_; have := h.st.room_; omega) (fun q hq => by injection hq with hq; omega), only_trans h.grown g2⟩
theorem At.below (h : At s B b wx L o wi) (g1 : Below wi.heap.size wi wj) : At s B b wx L o wj := h.grow (h.st.later g1) (only_below' g1 b)
theorem At.alloc (h : At s B b wx L o wi) (ob : Obj) : At s B b wx L o (wi.alloc ob) := h.below ((Below.refl _ _).alloc (Nat.le_refl _) _)
theorem At.size (h : At s B b wx L o wi) : wx.heap.size ≤ wi.heap.size := h.grown.size
theorem At.row (h : At s B b wx L o wi) {p : Nat} {t : TypeId} {cs : Array Value} (hr : Row wx p t cs) (hp : p ≠ b) : Row wi p t cs := hr.grown h.grown (fun e => by injection e with e; exact hp e)
/-- A tree in a box of its own, all that it leads to between wx's end and the box. -/
structure Kid (b : Nat) (wx : World) (x : X) (A : Option Addr) (c p : Nat) (wi : World) : Prop where
  row : Row wi p 198 (t6 x A c)
  ks : KS wi (Bt wx.heap.size p) A x.ks
  lo : wx.heap.size ≤ p
  hb : b < wx.heap.size
theorem Kid.grow {x : X} {A : Option Addr} {c p : Nat} (h : Kid b wx x A c p wi) (g2 : wi.grownBy wj (some b)) : Kid b wx x A c p wj :=
  ⟨h.row.grown g2 (fun e => by injection e with e; have := h.lo; have := h.hb; omega), h.ks.bt g2 (fun q hq => by injection hq with hq; have := h.hb; omega) (Nat.le_refl _) (Nat.le_refl _) (Nat.le_of_lt h.row.lt), h.lo, h.hb⟩
theorem Kid.below {x : X} {A : Option Addr} {c p : Nat} (h : Kid b wx x A c p wi) (g1 : Below wi.heap.size wi wj) : Kid b wx x A c p wj := h.grow (only_below' g1 b)
theorem Kid.alloc {x : X} {A : Option Addr} {c p : Nat} (h : Kid b wx x A c p wi) (ob : Obj) : Kid b wx x A c p (wi.alloc ob) := h.below ((Below.refl _ _).alloc (Nat.le_refl _) _)
/-- A tree that a callee has just handed back is put into a box. -/
theorem Kid.made {x : X} {A : Option Addr} {c : Nat} (h : At s B b wx L o wi) (hb : b < wx.heap.size) (g : wi.grownBy wj (some b)) (hk : KS wj (Bt wi.heap.size wj.heap.size) A x.ks) :
    Kid b wx x A c wj.heap.size (wj.alloc (.cells (t6 x A c) 198)) :=
  ⟨Row.made _ _ _, hk.bt (only_alloc (World.grownBy.refl wj none) _) (fun q hq => by cases hq) h.size (Nat.le_refl _) (Nat.le_refl _), Nat.le_trans h.size g.size, hb⟩
theorem Kid.cells {x : X} {A : Option Addr} {c p : Nat} (h : Kid b wx x A c p wi) : wi.cell? ⟨p, 0, none⟩ = some (.int .i64 x.k) ∧ wi.cell? ⟨p, 1, none⟩ = some (.int .i64 x.o) ∧ wi.cell? ⟨p, 2, none⟩ = some (.int .i64 x.n) ∧ wi.cell? ⟨p, 3, none⟩ = some (.string ⟨x.s.toArray⟩) ∧
    wi.cell? ⟨p, 4, none⟩ = some (.slice A x.ks.length c) ∧ wi.cell? ⟨p, 5, none⟩ = some (.int .i64 (x.depth : Int)) := by
  have := h.row.cell
  exact ⟨this 0, this 1, this 2, this 3, this 4, this 5⟩
end

/-- Trees in a row. -/
theorem tc6_of {w : World} {S : Nat → Prop} {x : X} {A : Option Addr} {c g off : Nat} {t : TypeId} {cs : Array Value} (hr : Row w g t cs) (hg : S g) (hc : ∀ j u, (t6 x A c)[j]? = some u → cs[off + j]? = some u) (hk : KS w S A x.ks) : TC6 w S x g off := by
  refine ⟨EC.mk' (A := A) (c := c) hg ?_ ?_ ?_ ?_ ?_ hk, ?_⟩
  · rw [hr.cell]; exact hc 0 _ rfl
  · rw [hr.cell]; exact hc 1 _ rfl
  · rw [hr.cell]; exact hc 2 _ rfl
  · rw [hr.cell]; exact hc 3 _ rfl
  · rw [hr.cell]; exact hc 4 _ rfl
  · rw [hr.cell]; exact hc 5 _ rfl
theorem six {x : X} {A : Option Addr} {c : Nat} {j : Nat} {u : Value} (h : (t6 x A c)[j]? = some u) : j = 0 ∨ j = 1 ∨ j = 2 ∨ j = 3 ∨ j = 4 ∨ j = 5 := by
  have : j < 6 := by
    rcases Nat.lt_or_ge j 6 with h' | h'
    · exact h'
    · rw [Array.getElem?_eq_none (by exact h')] at h; cases h
  omega
def row2 (x : X) (A : Option Addr) (c : Nat) (y : X) (A' : Option Addr) (c' : Nat) : Array Value :=
  #[.int .i64 x.k, .int .i64 x.o, .int .i64 x.n, .string ⟨x.s.toArray⟩, .slice A x.ks.length c, .int .i64 (x.depth : Int), .int .i64 y.k, .int .i64 y.o, .int .i64 y.n, .string ⟨y.s.toArray⟩, .slice A' y.ks.length c', .int .i64 (y.depth : Int)]
def row3 (x : X) (A : Option Addr) (c : Nat) (y : X) (A' : Option Addr) (c' : Nat) (z : X) (A'' : Option Addr) (c'' : Nat) : Array Value :=
  #[.int .i64 x.k, .int .i64 x.o, .int .i64 x.n, .string ⟨x.s.toArray⟩, .slice A x.ks.length c, .int .i64 (x.depth : Int), .int .i64 y.k, .int .i64 y.o, .int .i64 y.n, .string ⟨y.s.toArray⟩, .slice A' y.ks.length c', .int .i64 (y.depth : Int), .int .i64 z.k, .int .i64 z.o, .int .i64 z.n, .string ⟨z.s.toArray⟩, .slice A'' z.ks.length c'', .int .i64 (z.depth : Int)]
theorem tr1 {w : World} {S : Nat → Prop} {x : X} {A : Option Addr} {c : Nat} (hk : KS w S A x.ks) (hS : ∀ q, S q → q < w.heap.size) : TR (w.alloc (.cells (t6 x A c) 198)) (fun q => S q ∨ q = w.heap.size) (some ⟨w.heap.size, 0, none⟩) [x] := by
  refine .inr ⟨w.heap.size, 0, rfl, fun i y hi => ?_⟩
  have hm : KS (w.alloc (.cells (t6 x A c) 198)) (fun q => S q ∨ q = w.heap.size) A x.ks := hk.move fun q hq => ⟨.inl hq, Below.heap_alloc _ _ _ (hS q hq)⟩
  match i, hi with
  | 0, hi =>
    obtain rfl : x = y := by simpa using hi
    exact tc6_of (Row.made _ _ _) (.inr rfl) (fun j u hu => by rw [Nat.zero_mul, Nat.add_zero, Nat.zero_add]; exact hu) hm
theorem tr2 {w : World} {S : Nat → Prop} {x y : X} {A A' : Option Addr} {c c' : Nat} (hk : KS w S A x.ks) (hk' : KS w S A' y.ks) (hS : ∀ q, S q → q < w.heap.size) : TR (w.alloc (.cells (row2 x A c y A' c') 198)) (fun q => S q ∨ q = w.heap.size) (some ⟨w.heap.size, 0, none⟩) [x, y] := by
  refine .inr ⟨w.heap.size, 0, rfl, fun i v hi => ?_⟩
  have hm : ∀ {A : Option Addr} {ks : List X}, KS w S A ks → KS (w.alloc (.cells (row2 x A c y A' c') 198)) (fun q => S q ∨ q = w.heap.size) A ks := fun h => h.move fun q hq => ⟨.inl hq, Below.heap_alloc _ _ _ (hS q hq)⟩
  have hm2 : ∀ {A2 : Option Addr} {ks : List X}, KS w S A2 ks → KS (w.alloc (.cells (row2 x A c y A' c') 198)) (fun q => S q ∨ q = w.heap.size) A2 ks := fun h => h.move fun q hq => ⟨.inl hq, Below.heap_alloc _ _ _ (hS q hq)⟩
  match i, hi with
  | 0, hi =>
    obtain rfl : x = v := by simpa using hi
    exact tc6_of (Row.made _ _ _) (.inr rfl) (fun j u hu => by rcases six hu with rfl | rfl | rfl | rfl | rfl | rfl <;> exact hu) (hm2 hk)
  | 1, hi =>
    obtain rfl : y = v := by simpa using hi
    exact tc6_of (Row.made _ _ _) (.inr rfl) (fun j u hu => by rcases six hu with rfl | rfl | rfl | rfl | rfl | rfl <;> exact hu) (hm2 hk')
theorem tr3 {w : World} {S : Nat → Prop} {x y z : X} {A A' A'' : Option Addr} {c c' c'' : Nat} (hk : KS w S A x.ks) (hk' : KS w S A' y.ks) (hk'' : KS w S A'' z.ks) (hS : ∀ q, S q → q < w.heap.size) : TR (w.alloc (.cells (row3 x A c y A' c' z A'' c'') 198)) (fun q => S q ∨ q = w.heap.size) (some ⟨w.heap.size, 0, none⟩) [x, y, z] := by
  refine .inr ⟨w.heap.size, 0, rfl, fun i v hi => ?_⟩
  have hm2 : ∀ {A2 : Option Addr} {ks : List X}, KS w S A2 ks → KS (w.alloc (.cells (row3 x A c y A' c' z A'' c'') 198)) (fun q => S q ∨ q = w.heap.size) A2 ks := fun h => h.move fun q hq => ⟨.inl hq, Below.heap_alloc _ _ _ (hS q hq)⟩
  match i, hi with
  | 0, hi =>
    obtain rfl : x = v := by simpa using hi
    exact tc6_of (Row.made _ _ _) (.inr rfl) (fun j u hu => by rcases six hu with rfl | rfl | rfl | rfl | rfl | rfl <;> exact hu) (hm2 hk)
  | 1, hi =>
    obtain rfl : y = v := by simpa using hi
    exact tc6_of (Row.made _ _ _) (.inr rfl) (fun j u hu => by rcases six hu with rfl | rfl | rfl | rfl | rfl | rfl <;> exact hu) (hm2 hk')
  | 2, hi =>
    obtain rfl : z = v := by simpa using hi
    exact tc6_of (Row.made _ _ _) (.inr rfl) (fun j u hu => by rcases six hu with rfl | rfl | rfl | rfl | rfl | rfl <;> exact hu) (hm2 hk'')
/-- Blocks from wx's end on. -/
theorem Kid.up {b : Nat} {wx wi : World} {x : X} {A : Option Addr} {c p : Nat} (h : Kid b wx x A c p wi) : KS wi (Bt wx.heap.size wi.heap.size) A x.ks := h.ks.move fun q hq => ⟨⟨hq.1, by have := hq.2; have := h.row.lt; omega⟩, rfl⟩
/-- What over leaves, between points. -/
theorem over_bt {k o n : Int} {s : T} {ts : List X} {lo : Nat} {w w' : World} {e : Ending} {wk : World} {ob : Obj} (hw : w = wk.alloc ob) (hl : lo ≤ wk.heap.size) (h : OverPost k o n s ts w (fun q => Bt lo wk.heap.size q ∨ q = wk.heap.size) e w') :
    ∃ A c, e = .returned (.agg #[.int .i64 k, .int .i64 o, .int .i64 n, .string ⟨s.toArray⟩, .slice A ts.length c, .int .i64 ((1 + X.depths ts : Nat) : Int)]) ∧ KS w' (Bt lo w'.heap.size) A ts ∧ Below wk.heap.size wk w' := by
  obtain ⟨A, c, he, hk, hb⟩ := h
  subst hw
  have hz := hb.size
  simp at hz
  refine ⟨A, c, he, hk.move fun q hq => ⟨?_, rfl⟩, ((Below.refl _ _).alloc (Nat.le_refl _) ob).trans (hb.mono (by simp))⟩
  rcases hq with (hq | hq) | hq
  · exact ⟨hq.1, by have := hq.2; omega⟩
  · exact ⟨by omega, by omega⟩
  · have h1 := hq.1; simp at h1; exact ⟨by omega, hq.2⟩
theorem KS.widen {w : World} {S S' : Nat → Prop} {A : Option Addr} {ks : List X} (h : KS w S A ks) (hS : ∀ q, S q → S' q) : KS w S' A ks := h.move fun q hq => ⟨hS q hq, rfl⟩
end Go.Proofs.YtdabndiaflagpaaGreatDoor
namespace Go.Proofs.YtdabndiaflagpaaGreatDoor
open Go.RowKit

/-- Trees in a row that the call made. -/
def TrsV (lo : Nat) : List X → Value → World → Prop := fun ts v w' => ∃ A c, v = .slice A ts.length c ∧ TR w' (Bt lo w'.heap.size) A ts
/-- What the parser's expressions do, at this fuel. -/
structure PE (s : T) (B b f : Nat) : Prop where
  expr : ∀ (o : Nat) (L : List Tk) (w : World), 16 * L.length + 14 ≤ f → StT s B w b L o → PaEnv b w → Calls Tryz.prog 135 #[.pointer (some ⟨b, 0, none⟩)] w (PRes s b B w o (TrV w.heap.size) (exprP f L o))
  choice : ∀ (o : Nat) (L : List Tk) (w : World), 16 * L.length + 13 ≤ f → isP wIf L = true → StT s B w b L o → PaEnv b w → Calls Tryz.prog 159 #[.pointer (some ⟨b, 0, none⟩)] w (PRes s b B w o (TrV w.heap.size) (choiceP f L o))
  level : ∀ (o n : Nat) (L : List Tk) (w : World), 16 * L.length + 13 ≤ f + n → n ≤ 7 → StT s B w b L o → PaEnv b w → Calls Tryz.prog 160 #[.pointer (some ⟨b, 0, none⟩), .int .i64 (n : Int)] w (PRes s b B w o (TrV w.heap.size) (levelP f n L o))
  second : ∀ (o n : Nat) (L : List Tk) (w : World), 16 * L.length + 2 ≤ f → n < 7 → hdT L ≠ [] → StT s B w b L o → PaEnv b w → Calls Tryz.prog 182 #[.pointer (some ⟨b, 0, none⟩), .int .i64 (n : Int)] w (PRes s b B w o (TrV w.heap.size) (secondP f n L o))
  pre : ∀ (o : Nat) (L : List Tk) (w : World), 16 * L.length + 5 ≤ f → StT s B w b L o → PaEnv b w → Calls Tryz.prog 180 #[.pointer (some ⟨b, 0, none⟩)] w (PRes s b B w o (TrV w.heap.size) (prefixP f L o))
  atom : ∀ (o : Nat) (L : List Tk) (w : World), 16 * L.length + 4 ≤ f → StT s B w b L o → PaEnv b w → Calls Tryz.prog 195 #[.pointer (some ⟨b, 0, none⟩)] w (PRes s b B w o (TrV w.heap.size) (atomP f L o))
  operands : ∀ (o : Nat) (L : List Tk) (w : World), 16 * L.length + 3 ≤ f → isP [40] L = true → StT s B w b L o → PaEnv b w → Calls Tryz.prog 204 #[.pointer (some ⟨b, 0, none⟩)] w (PRes s b B w o (fun ts v w' => TrsV w.heap.size ts v w' ∧ ts.length ≤ 1000) (operandsP f L o))
  bracket : ∀ (o : Nat) (L : List Tk) (w : World), 16 * L.length + 3 ≤ f → StT s B w b L o → PaEnv b w → Calls Tryz.prog 199 #[.pointer (some ⟨b, 0, none⟩)] w (PRes s b B w o (TrV w.heap.size) (bracketP f L o))

set_option maxRecDepth 100000 in
set_option maxHeartbeats 1000000 in
theorem pExpr (s : T) (B b f o : Nat) (L : List Tk) (w : World) (ih : PE s B b f) (hf : 16 * L.length + 14 ≤ f + 1) (h : StT s B w b L o) (he : PaEnv b w) :
    Calls Tryz.prog 135 #[.pointer (some ⟨b, 0, none⟩)] w (PRes s b B w o (TrV w.heap.size) (exprP (f + 1) L o)) := by
  obtain ⟨R, hR⟩ : ∃ R, R = exprP (f + 1) L o := ⟨_, rfl⟩
  rw [← hR]
  have hbB := h.base_
  have hBw := h.room_
  obtain ⟨wx, hwx⟩ : ∃ wx, wx = w.alloc (.cells #[.int .i64 0, .int .i64 0, .int .i64 0, .string ⟨#[]⟩, .slice none 0 0, .int .i64 0] 198) := ⟨_, rfl⟩
  have hbx : Below w.heap.size w wx := by rw [hwx]; exact (Below.refl _ _).alloc (Nat.le_refl _) _
  have hxz : wx.heap.size = w.heap.size + 1 := by rw [hwx]; simp
  have HXZ := Lib.hid hxz
  have HPX : Hid (Row wx w.heap.size 198 z6) := Lib.hid (by rw [hwx]; exact Row.made _ _ _)
  have hbxx : b < wx.heap.size := by omega
  have hpb : w.heap.size ≠ b := by omega
  have HGX := Lib.hid (only_below' hbx b)
  have HA0 : Hid (At s B b wx L o wx) := Lib.hid (At.refl (h.later hbx) (he.grown (only_below hbx none) (by omega) (fun _ e => by cases e)))
  clear hbx hxz
  have HI : Hid (∀ w1, StT s B w1 b L o → _) := Lib.hid fun w1 h1 => pIs s B b o wIf L w1 h1
  rw [exprP] at hR
  by_cases hb : isP wIf L = true
  · rw [if_pos hb] at hR
    rw [hb] at HI
    have HC : Hid (∀ w1, StT s B w1 b L o → PaEnv b w1 → Calls Tryz.prog 159 #[.pointer (some ⟨b, 0, none⟩)] w1 (PRes s b B w1 o (TrV w1.heap.size) (choiceP f L o))) := Lib.hid fun w1 h1 h2 => ih.choice o L w1 (by omega) hb h1 h2
    rcases (choiceP f L o).cases with ⟨x, L1, hE⟩ | ⟨c, a, hE⟩
    · rw [hE] at hR HC
      have HR := Lib.hid hR
      clear hR hE hb h he
      go_enter Tryz.func135, Tryz.ntmps135
      go_upto_region 1 with fail
      rw [← hwx]
      clear hwx
      go_wp2_with (first | (go_at_call 61; refine (HI.out _ HA0.out.st).mono ?_; rintro e w1 ⟨rfl, g1⟩; have HA1 := Lib.hid (HA0.out.below g1); clear g1 HI) | (go_at_call 159; refine (HC.out _ HA1.out.st HA1.out.env).mono ?_; intro e w2 h2; obtain ⟨v, rfl, ⟨A9, c9, rfl, hk⟩, g1, g2⟩ := h2.okE rfl; have HA2 := Lib.hid (HA1.out.grow g1 g2); have HK9 : Hid (KS w2 (Bt wx.heap.size w2.heap.size) A9 (x).ks) := Lib.hid (hk.widen fun q hq => ⟨Nat.le_trans HA1.out.size hq.1, hq.2⟩); have HROW := HA2.out.row HPX.out hpb; clear g1 g2 h2 hk HC) | (refine wpList_store_row (o := ⟨none, Op.store _ _ _, _, _, _, _⟩) rfl _ _ _ rfl w.heap.size (t6 (x) A9 c9) rfl rfl _ _ HROW (t6_size _ _ _) rfl (t6_one _ _ _) ?_))
      obtain ⟨t1, t2, t3, t4⟩ := tree_back (x := x) (A := A9) (c := c9) (only_trans HGX.out HA2.out.grown) HROW (by rw [← HXZ.out]; exact HK9.out) HA2.out.st hBw
      exact bodyPost_ret (results_cell_row rfl _ _ w.heap.size _ _ _ _ rfl t4 Tryz.underlying198 rfl tree_size) rfl (PRes.okI HR.out t1 rfl ⟨A9, c9, rfl, t2⟩ t3)
    · rw [hE] at hR HC
      have HR := Lib.hid hR
      clear hR hE hb h he
      go_enter Tryz.func135, Tryz.ntmps135
      go_upto_region 1 with fail
      rw [← hwx]
      clear hwx
      go_wp2_with (first | (go_at_call 61; refine (HI.out _ HA0.out.st).mono ?_; rintro e w1 ⟨rfl, g1⟩; have HA1 := Lib.hid (HA0.out.below g1); clear g1 HI) | (go_at_call 159; refine (HC.out _ HA1.out.st HA1.out.env).mono ?_; intro e w2 h2; obtain ⟨rfl, g2⟩ := h2.badE rfl; have HGB := Lib.hid (only_trans HA1.out.grown g2); clear g2 h2 HC))
      exact ⟨rfl, PRes.badI HR.out (only_trans HGX.out HGB.out) rfl⟩
  · rw [if_neg hb] at hR
    have hb2 : isP wIf L = false := by simpa using hb
    rw [hb2] at HI
    have HC : Hid (∀ w1, StT s B w1 b L o → PaEnv b w1 → Calls Tryz.prog 160 #[.pointer (some ⟨b, 0, none⟩), .int .i64 0] w1 (PRes s b B w1 o (TrV w1.heap.size) (levelP f 0 L o))) := Lib.hid fun w1 h1 h2 => ih.level o 0 L w1 (by omega) (by omega) h1 h2
    rcases (levelP f 0 L o).cases with ⟨x, L1, hE⟩ | ⟨c, a, hE⟩
    · rw [hE] at hR HC
      have HR := Lib.hid hR
      clear hR hE hb h he hb2
      go_enter Tryz.func135, Tryz.ntmps135
      go_upto_region 1 with fail
      rw [← hwx]
      clear hwx
      go_wp2_with (first | (go_at_call 61; refine (HI.out _ HA0.out.st).mono ?_; rintro e w1 ⟨rfl, g1⟩; have HA1 := Lib.hid (HA0.out.below g1); clear g1 HI) | (go_at_call 160; refine (HC.out _ HA1.out.st HA1.out.env).mono ?_; intro e w2 h2; obtain ⟨v, rfl, ⟨A9, c9, rfl, hk⟩, g1, g2⟩ := h2.okE rfl; have HA2 := Lib.hid (HA1.out.grow g1 g2); have HK9 : Hid (KS w2 (Bt wx.heap.size w2.heap.size) A9 (x).ks) := Lib.hid (hk.widen fun q hq => ⟨Nat.le_trans HA1.out.size hq.1, hq.2⟩); have HROW := HA2.out.row HPX.out hpb; clear g1 g2 h2 hk HC) | (refine wpList_store_row (o := ⟨none, Op.store _ _ _, _, _, _, _⟩) rfl _ _ _ rfl w.heap.size (t6 (x) A9 c9) rfl rfl _ _ HROW (t6_size _ _ _) rfl (t6_one _ _ _) ?_))
      obtain ⟨t1, t2, t3, t4⟩ := tree_back (x := x) (A := A9) (c := c9) (only_trans HGX.out HA2.out.grown) HROW (by rw [← HXZ.out]; exact HK9.out) HA2.out.st hBw
      exact bodyPost_ret (results_cell_row rfl _ _ w.heap.size _ _ _ _ rfl t4 Tryz.underlying198 rfl tree_size) rfl (PRes.okI HR.out t1 rfl ⟨A9, c9, rfl, t2⟩ t3)
    · rw [hE] at hR HC
      have HR := Lib.hid hR
      clear hR hE hb h he hb2
      go_enter Tryz.func135, Tryz.ntmps135
      go_upto_region 1 with fail
      rw [← hwx]
      clear hwx
      go_wp2_with (first | (go_at_call 61; refine (HI.out _ HA0.out.st).mono ?_; rintro e w1 ⟨rfl, g1⟩; have HA1 := Lib.hid (HA0.out.below g1); clear g1 HI) | (go_at_call 160; refine (HC.out _ HA1.out.st HA1.out.env).mono ?_; intro e w2 h2; obtain ⟨rfl, g2⟩ := h2.badE rfl; have HGB := Lib.hid (only_trans HA1.out.grown g2); clear g2 h2 HC))
      exact ⟨rfl, PRes.badI HR.out (only_trans HGX.out HGB.out) rfl⟩

set_option maxRecDepth 100000 in
set_option maxHeartbeats 1000000 in
theorem pBracket (s : T) (B b f o : Nat) (L : List Tk) (w : World) (ih : PE s B b f) (hf : 16 * L.length + 3 ≤ f + 1) (h : StT s B w b L o) (he : PaEnv b w) :
    Calls Tryz.prog 199 #[.pointer (some ⟨b, 0, none⟩)] w (PRes s b B w o (TrV w.heap.size) (bracketP (f + 1) L o)) := by
  obtain ⟨R, hR⟩ : ∃ R, R = bracketP (f + 1) L o := ⟨_, rfl⟩
  rw [← hR]
  have hbB := h.base_
  have hBw := h.room_
  obtain ⟨wx, hwx⟩ : ∃ wx, wx = w.alloc (.cells #[.int .i64 0, .int .i64 0, .int .i64 0, .string ⟨#[]⟩, .slice none 0 0, .int .i64 0] 198) := ⟨_, rfl⟩
  have hbx : Below w.heap.size w wx := by rw [hwx]; exact (Below.refl _ _).alloc (Nat.le_refl _) _
  have hxz : wx.heap.size = w.heap.size + 1 := by rw [hwx]; simp
  have HXZ := Lib.hid hxz
  have HPX : Hid (Row wx w.heap.size 198 z6) := Lib.hid (by rw [hwx]; exact Row.made _ _ _)
  have hbxx : b < wx.heap.size := by omega
  have hpb : w.heap.size ≠ b := by omega
  have HGX := Lib.hid (only_below' hbx b)
  have HA0 : Hid (At s B b wx L o wx) := Lib.hid (At.refl (h.later hbx) (he.grown (only_below hbx none) (by omega) (fun _ e => by cases e)))
  clear hbx hxz
  have HI : Hid (∀ w1, StT s B w1 b L o → _) := Lib.hid fun w1 h1 => pIs s B b o [40] L w1 h1
  rw [bracketP] at hR
  by_cases hb : isP [40] L = true
  · rw [if_pos hb] at hR
    rw [hb] at HI
    have ht := is_sh h.wf_ hb (by decide)
    have HBG : Hid (∀ w1, StT s B w1 b L o → _) := Lib.hid fun w1 h1 => pBegin s B b o L w1 h1 ht.1
    by_cases ho : 400 ≤ o
    · have hO : (openP o L fun L => .ok () L : Pr Unit) = .bad 5 (hdF L) := if_pos ho
      rw [hO] at HBG
      replace hR : R = .bad 5 (hdF L) := by rw [hR]; exact if_pos ho
      have HR := Lib.hid hR
      clear hR hO ho hb ht h he
      go_enter Tryz.func199, Tryz.ntmps199
      go_upto_region 1 with fail
      rw [← hwx]
      clear hwx
      go_wp2_with (first | (go_at_call 61; refine (HI.out _ HA0.out.st).mono ?_; rintro e w1 ⟨rfl, g1⟩; have HA1 := Lib.hid (HA0.out.below g1); clear g1 HI) | (go_at_call 177; refine (HBG.out _ HA1.out.st).mono ?_; intro e w2 h2; obtain ⟨rfl, g2⟩ := h2.badE rfl; have HGB := Lib.hid (only_trans HA1.out.grown g2); clear g2 h2 HBG))
      exact ⟨rfl, PRes.badI HR.out (only_trans HGX.out HGB.out) rfl⟩
    · have hO : (openP o L fun L => .ok () L : Pr Unit) = .ok () L.tail := if_neg ho
      rw [hO] at HBG
      replace hR : R = (exprP f L.tail (o + 1)).bind fun x L => (mustP [41] L).bind fun _ L => .ok x L := by rw [hR]; exact if_neg ho
      have HC : Hid (∀ w1, StT s B w1 b L.tail (o + 1) → PaEnv b w1 → _) := Lib.hid fun w1 h1 h2 => ih.expr (o + 1) L.tail w1 (by omega) h1 h2
      rcases (exprP f L.tail (o + 1)).cases with ⟨x, L1, hE⟩ | ⟨c, a, hE⟩
      · rw [hE] at hR HC
        replace hR : R = (mustP [41] L1).bind fun _ L => .ok x L := hR
        have HM : Hid (∀ w1, StT s B w1 b L1 (o + 1) → _) := Lib.hid fun w1 h1 => pMust1 s B b (o + 1) [41] L1 w1 h1 (by decide)
        rcases (mustP [41] L1).cases with ⟨u, L2, hE2⟩ | ⟨c, a, hE2⟩
        · rw [hE2] at hR HM
          have HR : Hid (R = .ok x L2) := Lib.hid hR
          have HEN : Hid (∀ w1, StT s B w1 b L2 (o + 1) → _) := Lib.hid fun w1 h1 => pEnd s B b o L2 w1 h1
          clear hR hE hE2 hO ho hb ht h he
          go_enter Tryz.func199, Tryz.ntmps199
          go_upto_region 1 with fail
          rw [← hwx]
          clear hwx
          go_upto_region 5 with (first | (go_at_call 61; refine (HI.out _ HA0.out.st).mono ?_; rintro e w1 ⟨rfl, g1⟩; have HA1 := Lib.hid (HA0.out.below g1); clear g1 HI) | (go_at_call 177; refine (HBG.out _ HA1.out.st).mono ?_; intro e w2 h2; obtain ⟨v, rfl, hv, g1, g2⟩ := h2.okE rfl; obtain rfl : v = .tuple #[] := hv; have HA2 := Lib.hid (HA1.out.grow g1 g2); clear g1 g2 h2 HBG) | (go_at_call 135; refine (HC.out _ HA2.out.st HA2.out.env).mono ?_; intro e w3 h2; obtain ⟨v, rfl, ⟨Ax, cx, rfl, hk⟩, g1, g2⟩ := h2.okE rfl; have HA3 : Hid (At s B b wx L1 (o + 1) (w3.alloc (.cells #[.int .i64 x.k, .int .i64 x.o, .int .i64 x.n, .string ⟨x.s.toArray⟩, .slice Ax x.ks.length cx, .int .i64 (x.depth : Int)] 198))) := Lib.hid ((HA2.out.grow g1 g2).alloc _); have HKx_3 : Hid (Kid b wx x Ax cx w3.heap.size (w3.alloc (.cells #[.int .i64 x.k, .int .i64 x.o, .int .i64 x.n, .string ⟨x.s.toArray⟩, .slice Ax x.ks.length cx, .int .i64 (x.depth : Int)] 198))) := Lib.hid (Kid.made HA2.out hbxx g2 hk); clear g1 g2 h2 hk HC))
          generalize w3.alloc (.cells #[.int .i64 x.k, .int .i64 x.o, .int .i64 x.n, .string ⟨x.s.toArray⟩, .slice Ax x.ks.length cx, .int .i64 (x.depth : Int)] 198) = v3 at HA3 HKx_3 ⊢
          go_wp2_with (first | (go_at_call 99; refine (HM.out _ HA3.out.st).mono ?_; intro e w4 h2; obtain ⟨v, rfl, hv, g1, g2⟩ := h2.okE rfl; obtain rfl : v = .tuple #[] := hv; have HA4 := Lib.hid (HA3.out.grow g1 g2); have HKx_4 := Lib.hid (HKx_3.out.grow g2); clear g1 g2 h2 HM) | (go_at_call 178; refine (HEN.out _ HA4.out.st).mono ?_; rintro e w5 ⟨rfl, g1, g2⟩; have HA5 := Lib.hid (HA4.out.grow g1 g2); have HKx_5 := Lib.hid (HKx_4.out.grow g2); clear g1 g2 HEN; obtain ⟨y0, y1, y2, y3, y4, y5⟩ := HKx_5.out.cells; have hpz := HKx_5.out.row.lt; have HROW := HA5.out.row HPX.out hpb) | (refine wpList_store_row (o := ⟨none, Op.store _ _ _, _, _, _, _⟩) rfl _ _ _ rfl w.heap.size (t6 x Ax cx) rfl rfl _ _ HROW (t6_size _ _ _) rfl (t6_one _ _ _) ?_))
          have HK9 := Lib.hid HKx_5.out.up
          obtain ⟨t1, t2, t3, t4⟩ := tree_back (x := x) (A := Ax) (c := cx) (only_trans HGX.out HA5.out.grown) HROW (by rw [← HXZ.out]; exact HK9.out) HA5.out.st hBw
          exact bodyPost_ret (results_cell_row rfl _ _ w.heap.size _ _ _ _ rfl t4 Tryz.underlying198 rfl tree_size) rfl (PRes.okI HR.out t1 rfl ⟨Ax, cx, rfl, t2⟩ t3)
        · rw [hE2] at hR HM
          have HR : Hid (R = .bad c a) := Lib.hid hR
          clear hR hE hE2 hO ho hb ht h he
          go_enter Tryz.func199, Tryz.ntmps199
          go_upto_region 1 with fail
          rw [← hwx]
          clear hwx
          go_upto_region 5 with (first | (go_at_call 61; refine (HI.out _ HA0.out.st).mono ?_; rintro e w1 ⟨rfl, g1⟩; have HA1 := Lib.hid (HA0.out.below g1); clear g1 HI) | (go_at_call 177; refine (HBG.out _ HA1.out.st).mono ?_; intro e w2 h2; obtain ⟨v, rfl, hv, g1, g2⟩ := h2.okE rfl; obtain rfl : v = .tuple #[] := hv; have HA2 := Lib.hid (HA1.out.grow g1 g2); clear g1 g2 h2 HBG) | (go_at_call 135; refine (HC.out _ HA2.out.st HA2.out.env).mono ?_; intro e w3 h2; obtain ⟨v, rfl, ⟨Ax, cx, rfl, hk⟩, g1, g2⟩ := h2.okE rfl; have HA3 : Hid (At s B b wx L1 (o + 1) (w3.alloc (.cells #[.int .i64 x.k, .int .i64 x.o, .int .i64 x.n, .string ⟨x.s.toArray⟩, .slice Ax x.ks.length cx, .int .i64 (x.depth : Int)] 198))) := Lib.hid ((HA2.out.grow g1 g2).alloc _); have HKx_3 : Hid (Kid b wx x Ax cx w3.heap.size (w3.alloc (.cells #[.int .i64 x.k, .int .i64 x.o, .int .i64 x.n, .string ⟨x.s.toArray⟩, .slice Ax x.ks.length cx, .int .i64 (x.depth : Int)] 198))) := Lib.hid (Kid.made HA2.out hbxx g2 hk); clear g1 g2 h2 hk HC))
          generalize w3.alloc (.cells #[.int .i64 x.k, .int .i64 x.o, .int .i64 x.n, .string ⟨x.s.toArray⟩, .slice Ax x.ks.length cx, .int .i64 (x.depth : Int)] 198) = v3 at HA3 HKx_3 ⊢
          go_wp2_with (go_at_call 99; refine (HM.out _ HA3.out.st).mono ?_; intro e w4 h2; obtain ⟨rfl, g2⟩ := h2.badE rfl; have HGB := Lib.hid (only_trans HA3.out.grown g2); clear g2 h2 HM)
          exact ⟨rfl, PRes.badI HR.out (only_trans HGX.out HGB.out) rfl⟩
      · rw [hE] at hR HC
        have HR : Hid (R = .bad c a) := Lib.hid hR
        clear hR hE hO ho hb ht h he
        go_enter Tryz.func199, Tryz.ntmps199
        go_upto_region 1 with fail
        rw [← hwx]
        clear hwx
        go_wp2_with (first | (go_at_call 61; refine (HI.out _ HA0.out.st).mono ?_; rintro e w1 ⟨rfl, g1⟩; have HA1 := Lib.hid (HA0.out.below g1); clear g1 HI) | (go_at_call 177; refine (HBG.out _ HA1.out.st).mono ?_; intro e w2 h2; obtain ⟨v, rfl, hv, g1, g2⟩ := h2.okE rfl; obtain rfl : v = .tuple #[] := hv; have HA2 := Lib.hid (HA1.out.grow g1 g2); clear g1 g2 h2 HBG) | (go_at_call 135; refine (HC.out _ HA2.out.st HA2.out.env).mono ?_; intro e w3 h2; obtain ⟨rfl, g2⟩ := h2.badE rfl; have HGB := Lib.hid (only_trans HA2.out.grown g2); clear g2 h2 HC))
        exact ⟨rfl, PRes.badI HR.out (only_trans HGX.out HGB.out) rfl⟩
  · rw [if_neg hb] at hR
    have hb2 : isP [40] L = false := by simpa using hb
    rw [hb2] at HI
    have HU : Hid (∀ w1, StT s B w1 b L o → _) := Lib.hid fun w1 h1 => pGiveUp s B b o 2 L w1 h1
    have HR : Hid (R = .bad 2 (hdF L)) := Lib.hid hR
    clear hR hb hb2 h he
    go_enter Tryz.func199, Tryz.ntmps199
    go_upto_region 1 with fail
    rw [← hwx]
    clear hwx
    go_wp2_with (first | (go_at_call 61; refine (HI.out _ HA0.out.st).mono ?_; rintro e w1 ⟨rfl, g1⟩; have HA1 := Lib.hid (HA0.out.below g1); clear g1 HI) | (go_at_call 65; refine (HU.out _ HA1.out.st).mono ?_; rintro e w2 ⟨rfl, g1⟩; have HGB := Lib.hid (HA1.out.below g1).grown; clear g1 HU))
    exact ⟨rfl, PRes.badI HR.out (only_trans HGX.out HGB.out) rfl⟩

end Go.Proofs.YtdabndiaflagpaaGreatDoor
namespace Go.Proofs.YtdabndiaflagpaaGreatDoor
open Go.RowKit

theorem bt_lt {lo q : Nat} {wk : World} {ob : Obj} (h : Bt lo wk.heap.size q ∨ q = wk.heap.size) : q < (wk.alloc ob).heap.size := by
  rw [World.size_alloc]
  rcases h with h | h
  · have := h.2; omega
  · omega
theorem deep_of {x : X} {L L' : List Tk} (h : x.size + L'.length ≤ L.length) (hl : L.length ≤ 1000000) : x.depth ≤ 1000000 := by
  have := X.depth_le x; omega
theorem over1 (k o n : Int) (s : T) {b : Nat} {wx wk : World} {x : X} {Ax : Option Addr} {cx px : Nat} (hx : Kid b wx x Ax cx px wk) (hd : X.depths [x] ≤ 100000000) :
    Calls Tryz.prog 179 #[.agg #[.int .i64 k, .int .i64 o, .int .i64 n, .string ⟨s.toArray⟩, .slice none 0 0], .slice (some ⟨wk.heap.size, 0, none⟩) 1 1] (wk.alloc (.cells #[.int .i64 x.k, .int .i64 x.o, .int .i64 x.n, .string ⟨x.s.toArray⟩, .slice Ax x.ks.length cx, .int .i64 (x.depth : Int)] 198)) fun e w' =>
      ∃ A c, e = .returned (.agg #[.int .i64 k, .int .i64 o, .int .i64 n, .string ⟨s.toArray⟩, .slice A 1 c, .int .i64 ((1 + X.depths [x] : Nat) : Int)]) ∧ KS w' (Bt wx.heap.size w'.heap.size) A [x] ∧ Below wk.heap.size wk w' :=
  (pOver k o n s [x] (some ⟨wk.heap.size, 0, none⟩) 1 _ _ (tr1 hx.up (fun q hq => hq.2)) (fun q hq => bt_lt hq) (by simp) hd).mono fun _ _ hh => over_bt rfl (by have := hx.lo; have := hx.row.lt; omega) hh
theorem over3 (k o n : Int) (s : T) {b : Nat} {wx wk : World} {x y z : X} {Ax : Option Addr} {cx px : Nat} {Ay : Option Addr} {cy py : Nat} {Az : Option Addr} {cz pz : Nat} (hx : Kid b wx x Ax cx px wk) (hy : Kid b wx y Ay cy py wk) (hz : Kid b wx z Az cz pz wk) (hd : X.depths [x, y, z] ≤ 100000000) :
    Calls Tryz.prog 179 #[.agg #[.int .i64 k, .int .i64 o, .int .i64 n, .string ⟨s.toArray⟩, .slice none 0 0], .slice (some ⟨wk.heap.size, 0, none⟩) 3 3] (wk.alloc (.cells #[.int .i64 x.k, .int .i64 x.o, .int .i64 x.n, .string ⟨x.s.toArray⟩, .slice Ax x.ks.length cx, .int .i64 (x.depth : Int), .int .i64 y.k, .int .i64 y.o, .int .i64 y.n, .string ⟨y.s.toArray⟩, .slice Ay y.ks.length cy, .int .i64 (y.depth : Int), .int .i64 z.k, .int .i64 z.o, .int .i64 z.n, .string ⟨z.s.toArray⟩, .slice Az z.ks.length cz, .int .i64 (z.depth : Int)] 198)) fun e w' =>
      ∃ A c, e = .returned (.agg #[.int .i64 k, .int .i64 o, .int .i64 n, .string ⟨s.toArray⟩, .slice A 3 c, .int .i64 ((1 + X.depths [x, y, z] : Nat) : Int)]) ∧ KS w' (Bt wx.heap.size w'.heap.size) A [x, y, z] ∧ Below wk.heap.size wk w' :=
  (pOver k o n s [x, y, z] (some ⟨wk.heap.size, 0, none⟩) 3 _ _ (tr3 hx.up hy.up hz.up (fun q hq => hq.2)) (fun q hq => bt_lt hq) (by simp) hd).mono fun _ _ hh => over_bt rfl (by have := hx.lo; have := hx.row.lt; omega) hh

set_option maxRecDepth 100000 in
set_option maxHeartbeats 1000000 in
theorem pChoice (s : T) (B b f o : Nat) (L : List Tk) (w : World) (ih : PE s B b f) (hf : 16 * L.length + 13 ≤ f + 1) (hb : isP wIf L = true) (h : StT s B w b L o) (he : PaEnv b w) :
    Calls Tryz.prog 159 #[.pointer (some ⟨b, 0, none⟩)] w (PRes s b B w o (TrV w.heap.size) (choiceP (f + 1) L o)) := by
  obtain ⟨R, hR⟩ : ∃ R, R = choiceP (f + 1) L o := ⟨_, rfl⟩
  rw [← hR]
  have hbB := h.base_
  have hBw := h.room_
  obtain ⟨wx, hwx⟩ : ∃ wx, wx = w.alloc (.cells #[.int .i64 0, .int .i64 0, .int .i64 0, .string ⟨#[]⟩, .slice none 0 0, .int .i64 0] 198) := ⟨_, rfl⟩
  have hbx : Below w.heap.size w wx := by rw [hwx]; exact (Below.refl _ _).alloc (Nat.le_refl _) _
  have hxz : wx.heap.size = w.heap.size + 1 := by rw [hwx]; simp
  have HXZ := Lib.hid hxz
  have HPX : Hid (Row wx w.heap.size 198 z6) := Lib.hid (by rw [hwx]; exact Row.made _ _ _)
  have hbxx : b < wx.heap.size := by omega
  have hpb : w.heap.size ≠ b := by omega
  have HGX := Lib.hid (only_below' hbx b)
  have HA0 : Hid (At s B b wx L o wx) := Lib.hid (At.refl (h.later hbx) (he.grown (only_below hbx none) (by omega) (fun _ e => by cases e)))
  clear hbx hxz
  rw [choiceP] at hR
  have ht := is_sh h.wf_ hb (by decide)
  have hfew := h.few_
  have HBG : Hid (∀ w1, StT s B w1 b L o → _) := Lib.hid fun w1 h1 => pBegin s B b o L w1 h1 ht.1
  by_cases ho : 400 ≤ o
  · have hO : (openP o L fun L => .ok () L : Pr Unit) = .bad 5 (hdF L) := if_pos ho
    rw [hO] at HBG
    replace hR : R = .bad 5 (hdF L) := by rw [hR]; exact if_pos ho
    have HR := Lib.hid hR
    clear hR hO ho hb ht h he
    go_enter Tryz.func159, Tryz.ntmps159
    go_upto_region 1 with fail
    rw [← hwx]
    clear hwx
    go_wp2_with (go_at_call 177; refine (HBG.out _ HA0.out.st).mono ?_; intro e w1 h2; obtain ⟨rfl, g2⟩ := h2.badE rfl; have HGB := Lib.hid (only_trans HA0.out.grown g2); clear g2 h2 HBG)
    exact ⟨rfl, PRes.badI HR.out (only_trans HGX.out HGB.out) rfl⟩
  · have hO : (openP o L fun L => .ok () L : Pr Unit) = .ok () L.tail := if_neg ho
    rw [hO] at HBG
    replace hR : R = (exprP f L.tail (o + 1)).bind fun a L => (mustP wThen L).bind fun _ L => (exprP f L (o + 1)).bind fun b L => (mustP wElse L).bind fun _ L => (exprP f L (o + 1)).bind fun c L => .ok (.mk 5 0 0 [] [a, b, c]) L := by rw [hR]; exact if_neg ho
    have HX1 : Hid (∀ w1, StT s B w1 b L.tail (o + 1) → PaEnv b w1 → _) := Lib.hid fun w1 h1 h2 => ih.expr (o + 1) L.tail w1 (by omega) h1 h2
    rcases (exprP f L.tail (o + 1)).cases with ⟨x, L1, hE1⟩ | ⟨c, a, hE1⟩
    · rw [hE1] at hR HX1
      replace hR : R = (mustP wThen L1).bind fun _ L => (exprP f L (o + 1)).bind fun b L => (mustP wElse L).bind fun _ L => (exprP f L (o + 1)).bind fun c L => .ok (.mk 5 0 0 [] [x, b, c]) L := hR
      have s1 := (passes f).expr _ _ ht.1 _ _ hE1
      have hd1 := deep_of ((sizes f).expr _ _ ht.1 _ _ hE1) (by omega)
      have HM1 : Hid (∀ w1, StT s B w1 b L1 (o + 1) → _) := Lib.hid fun w1 h1 => pMust1 s B b (o + 1) wThen L1 w1 h1 (by decide)
      rcases (mustP wThen L1).cases with ⟨u1, L2, hE2⟩ | ⟨c, a, hE2⟩
      · rw [hE2] at hR HM1
        replace hR : R = (exprP f L2 (o + 1)).bind fun b L => (mustP wElse L).bind fun _ L => (exprP f L (o + 1)).bind fun c L => .ok (.mk 5 0 0 [] [x, b, c]) L := hR
        have s2 := mustP_sh s1.1 (by decide) _ _ hE2
        have z1 := s1.2
        have z2 := s2.2
        have HX2 : Hid (∀ w1, StT s B w1 b L2 (o + 1) → PaEnv b w1 → _) := Lib.hid fun w1 h1 h2 => ih.expr (o + 1) L2 w1 (by omega) h1 h2
        rcases (exprP f L2 (o + 1)).cases with ⟨y, L3, hE3⟩ | ⟨c, a, hE3⟩
        · rw [hE3] at hR HX2
          replace hR : R = (mustP wElse L3).bind fun _ L => (exprP f L (o + 1)).bind fun c L => .ok (.mk 5 0 0 [] [x, y, c]) L := hR
          have s3 := (passes f).expr _ _ s2.1 _ _ hE3
          have hd2 := deep_of ((sizes f).expr _ _ s2.1 _ _ hE3) (by omega)
          have HM2 : Hid (∀ w1, StT s B w1 b L3 (o + 1) → _) := Lib.hid fun w1 h1 => pMust1 s B b (o + 1) wElse L3 w1 h1 (by decide)
          rcases (mustP wElse L3).cases with ⟨u2, L4, hE4⟩ | ⟨c, a, hE4⟩
          · rw [hE4] at hR HM2
            replace hR : R = (exprP f L4 (o + 1)).bind fun c L => .ok (.mk 5 0 0 [] [x, y, c]) L := hR
            have s4 := mustP_sh s3.1 (by decide) _ _ hE4
            have z3 := s3.2
            have z4 := s4.2
            have HX3 : Hid (∀ w1, StT s B w1 b L4 (o + 1) → PaEnv b w1 → _) := Lib.hid fun w1 h1 h2 => ih.expr (o + 1) L4 w1 (by omega) h1 h2
            rcases (exprP f L4 (o + 1)).cases with ⟨z, L5, hE5⟩ | ⟨c, a, hE5⟩
            · rw [hE5] at hR HX3
              have hd3 := deep_of ((sizes f).expr _ _ s4.1 _ _ hE5) (by omega)
              have HD : Hid (X.depths [x, y, z] ≤ 100000000) := Lib.hid (by simp only [X.depths]; omega)
              have HR : Hid (R = .ok (.mk 5 0 0 [] [x, y, z]) L5) := Lib.hid hR
              have HEN : Hid (∀ w1, StT s B w1 b L5 (o + 1) → _) := Lib.hid fun w1 h1 => pEnd s B b o L5 w1 h1
              clear hR hO ho hb ht h he hE1 hE2 hE3 hE4 hE5 s1 s2 s3 s4 z1 z2 z3 z4 hd1 hd2 hd3
              go_enter Tryz.func159, Tryz.ntmps159
              go_upto_region 1 with fail
              rw [← hwx]
              clear hwx
              go_upto_region 3 with (first | (go_at_call 177; refine (HBG.out _ HA0.out.st).mono ?_; intro e w1 h2; obtain ⟨v, rfl, hv, g1, g2⟩ := h2.okE rfl; obtain rfl : v = .tuple #[] := hv; have HA1 := Lib.hid (HA0.out.grow g1 g2); clear g1 g2 h2 HBG) | (go_at_call 135; refine (HX1.out _ HA1.out.st HA1.out.env).mono ?_; intro e w2 h2; obtain ⟨v, rfl, ⟨Ax, cx, rfl, hk⟩, g1, g2⟩ := h2.okE rfl; have HA2 : Hid (At s B b wx L1 (o + 1) (w2.alloc (.cells #[.int .i64 x.k, .int .i64 x.o, .int .i64 x.n, .string ⟨x.s.toArray⟩, .slice Ax x.ks.length cx, .int .i64 (x.depth : Int)] 198))) := Lib.hid ((HA1.out.grow g1 g2).alloc _); have HKx_2 : Hid (Kid b wx x Ax cx w2.heap.size (w2.alloc (.cells #[.int .i64 x.k, .int .i64 x.o, .int .i64 x.n, .string ⟨x.s.toArray⟩, .slice Ax x.ks.length cx, .int .i64 (x.depth : Int)] 198))) := Lib.hid (Kid.made HA1.out hbxx g2 hk); clear g1 g2 h2 hk HX1))
              generalize w2.alloc (.cells #[.int .i64 x.k, .int .i64 x.o, .int .i64 x.n, .string ⟨x.s.toArray⟩, .slice Ax x.ks.length cx, .int .i64 (x.depth : Int)] 198) = v2 at HA2 HKx_2 ⊢
              go_upto_region 5 with (first | (go_at_call 99; refine (HM1.out _ HA2.out.st).mono ?_; intro e w3 h2; obtain ⟨v, rfl, hv, g1, g2⟩ := h2.okE rfl; obtain rfl : v = .tuple #[] := hv; have HA3 := Lib.hid (HA2.out.grow g1 g2); have HKx_3 := Lib.hid (HKx_2.out.grow g2); clear g1 g2 h2 HM1) | (go_at_call 135; refine (HX2.out _ HA3.out.st HA3.out.env).mono ?_; intro e w4 h2; obtain ⟨v, rfl, ⟨Ay, cy, rfl, hk⟩, g1, g2⟩ := h2.okE rfl; have HA4 : Hid (At s B b wx L3 (o + 1) (w4.alloc (.cells #[.int .i64 y.k, .int .i64 y.o, .int .i64 y.n, .string ⟨y.s.toArray⟩, .slice Ay y.ks.length cy, .int .i64 (y.depth : Int)] 198))) := Lib.hid ((HA3.out.grow g1 g2).alloc _); have HKx_4 : Hid (Kid b wx x Ax cx w2.heap.size (w4.alloc (.cells #[.int .i64 y.k, .int .i64 y.o, .int .i64 y.n, .string ⟨y.s.toArray⟩, .slice Ay y.ks.length cy, .int .i64 (y.depth : Int)] 198))) := Lib.hid ((HKx_3.out.grow g2).alloc _); have HKy_4 : Hid (Kid b wx y Ay cy w4.heap.size (w4.alloc (.cells #[.int .i64 y.k, .int .i64 y.o, .int .i64 y.n, .string ⟨y.s.toArray⟩, .slice Ay y.ks.length cy, .int .i64 (y.depth : Int)] 198))) := Lib.hid (Kid.made HA3.out hbxx g2 hk); clear g1 g2 h2 hk HX2))
              generalize w4.alloc (.cells #[.int .i64 y.k, .int .i64 y.o, .int .i64 y.n, .string ⟨y.s.toArray⟩, .slice Ay y.ks.length cy, .int .i64 (y.depth : Int)] 198) = v4 at HA4 HKx_4 HKy_4 ⊢
              go_upto_region 7 with (first | (go_at_call 99; refine (HM2.out _ HA4.out.st).mono ?_; intro e w5 h2; obtain ⟨v, rfl, hv, g1, g2⟩ := h2.okE rfl; obtain rfl : v = .tuple #[] := hv; have HA5 := Lib.hid (HA4.out.grow g1 g2); have HKx_5 := Lib.hid (HKx_4.out.grow g2); have HKy_5 := Lib.hid (HKy_4.out.grow g2); clear g1 g2 h2 HM2) | (go_at_call 135; refine (HX3.out _ HA5.out.st HA5.out.env).mono ?_; intro e w6 h2; obtain ⟨v, rfl, ⟨Az, cz, rfl, hk⟩, g1, g2⟩ := h2.okE rfl; have HA6 : Hid (At s B b wx L5 (o + 1) (w6.alloc (.cells #[.int .i64 z.k, .int .i64 z.o, .int .i64 z.n, .string ⟨z.s.toArray⟩, .slice Az z.ks.length cz, .int .i64 (z.depth : Int)] 198))) := Lib.hid ((HA5.out.grow g1 g2).alloc _); have HKx_6 : Hid (Kid b wx x Ax cx w2.heap.size (w6.alloc (.cells #[.int .i64 z.k, .int .i64 z.o, .int .i64 z.n, .string ⟨z.s.toArray⟩, .slice Az z.ks.length cz, .int .i64 (z.depth : Int)] 198))) := Lib.hid ((HKx_5.out.grow g2).alloc _); have HKy_6 : Hid (Kid b wx y Ay cy w4.heap.size (w6.alloc (.cells #[.int .i64 z.k, .int .i64 z.o, .int .i64 z.n, .string ⟨z.s.toArray⟩, .slice Az z.ks.length cz, .int .i64 (z.depth : Int)] 198))) := Lib.hid ((HKy_5.out.grow g2).alloc _); have HKz_6 : Hid (Kid b wx z Az cz w6.heap.size (w6.alloc (.cells #[.int .i64 z.k, .int .i64 z.o, .int .i64 z.n, .string ⟨z.s.toArray⟩, .slice Az z.ks.length cz, .int .i64 (z.depth : Int)] 198))) := Lib.hid (Kid.made HA5.out hbxx g2 hk); clear g1 g2 h2 hk HX3))
              generalize w6.alloc (.cells #[.int .i64 z.k, .int .i64 z.o, .int .i64 z.n, .string ⟨z.s.toArray⟩, .slice Az z.ks.length cz, .int .i64 (z.depth : Int)] 198) = v6 at HA6 HKx_6 HKy_6 HKz_6 ⊢
              go_wp2_with (first | (go_at_call 178; refine (HEN.out _ HA6.out.st).mono ?_; rintro e w7 ⟨rfl, g1, g2⟩; have HA7 := Lib.hid (HA6.out.grow g1 g2); have HKx_7 := Lib.hid (HKx_6.out.grow g2); have HKy_7 := Lib.hid (HKy_6.out.grow g2); have HKz_7 := Lib.hid (HKz_6.out.grow g2); clear g1 g2 HEN; obtain ⟨x0', x1', x2', x3', x4', x5'⟩ := HKx_7.out.cells; have px := HKx_7.out.row.lt; obtain ⟨y0', y1', y2', y3', y4', y5'⟩ := HKy_7.out.cells; have py := HKy_7.out.row.lt; obtain ⟨z0', z1', z2', z3', z4', z5'⟩ := HKz_7.out.cells; have pz := HKz_7.out.row.lt;) | (go_at_call 179; refine (over3 5 0 0 [] HKx_7.out HKy_7.out HKz_7.out HD.out).mono ?_; rintro e w8 ⟨A9, c9, rfl, hk, hb⟩; have HA8 := Lib.hid (HA7.out.below hb); have HK9 := Lib.hid hk; have HROW := HA8.out.row HPX.out hpb; clear hk hb) | (refine wpList_store_row (o := ⟨none, Op.store _ _ _, _, _, _, _⟩) rfl _ _ _ rfl w.heap.size (t6 (X.mk 5 0 0 [] [x, y, z]) A9 c9) rfl rfl _ _ HROW (t6_size _ _ _) rfl (t6_one _ _ _) ?_))
              obtain ⟨t1, t2, t3, t4⟩ := tree_back (x := X.mk 5 0 0 [] [x, y, z]) (A := A9) (c := c9) (only_trans HGX.out HA8.out.grown) HROW (by rw [← HXZ.out]; exact HK9.out) HA8.out.st hBw
              exact bodyPost_ret (results_cell_row rfl _ _ w.heap.size _ _ _ _ rfl t4 Tryz.underlying198 rfl tree_size) rfl (PRes.okI HR.out t1 rfl ⟨A9, c9, rfl, t2⟩ t3)
            · rw [hE5] at hR HX3
              have HR : Hid (R = .bad c a) := Lib.hid hR
              clear hR hO ho hb ht h he hE1 hE2 hE3 hE4 s1 s2 s3 s4 z1 z2 z3 z4 hd1 hd2 hE5
              go_enter Tryz.func159, Tryz.ntmps159
              go_upto_region 1 with fail
              rw [← hwx]
              clear hwx
              go_upto_region 3 with (first | (go_at_call 177; refine (HBG.out _ HA0.out.st).mono ?_; intro e w1 h2; obtain ⟨v, rfl, hv, g1, g2⟩ := h2.okE rfl; obtain rfl : v = .tuple #[] := hv; have HA1 := Lib.hid (HA0.out.grow g1 g2); clear g1 g2 h2 HBG) | (go_at_call 135; refine (HX1.out _ HA1.out.st HA1.out.env).mono ?_; intro e w2 h2; obtain ⟨v, rfl, ⟨Ax, cx, rfl, hk⟩, g1, g2⟩ := h2.okE rfl; have HA2 : Hid (At s B b wx L1 (o + 1) (w2.alloc (.cells #[.int .i64 x.k, .int .i64 x.o, .int .i64 x.n, .string ⟨x.s.toArray⟩, .slice Ax x.ks.length cx, .int .i64 (x.depth : Int)] 198))) := Lib.hid ((HA1.out.grow g1 g2).alloc _); have HKx_2 : Hid (Kid b wx x Ax cx w2.heap.size (w2.alloc (.cells #[.int .i64 x.k, .int .i64 x.o, .int .i64 x.n, .string ⟨x.s.toArray⟩, .slice Ax x.ks.length cx, .int .i64 (x.depth : Int)] 198))) := Lib.hid (Kid.made HA1.out hbxx g2 hk); clear g1 g2 h2 hk HX1))
              generalize w2.alloc (.cells #[.int .i64 x.k, .int .i64 x.o, .int .i64 x.n, .string ⟨x.s.toArray⟩, .slice Ax x.ks.length cx, .int .i64 (x.depth : Int)] 198) = v2 at HA2 HKx_2 ⊢
              go_upto_region 5 with (first | (go_at_call 99; refine (HM1.out _ HA2.out.st).mono ?_; intro e w3 h2; obtain ⟨v, rfl, hv, g1, g2⟩ := h2.okE rfl; obtain rfl : v = .tuple #[] := hv; have HA3 := Lib.hid (HA2.out.grow g1 g2); have HKx_3 := Lib.hid (HKx_2.out.grow g2); clear g1 g2 h2 HM1) | (go_at_call 135; refine (HX2.out _ HA3.out.st HA3.out.env).mono ?_; intro e w4 h2; obtain ⟨v, rfl, ⟨Ay, cy, rfl, hk⟩, g1, g2⟩ := h2.okE rfl; have HA4 : Hid (At s B b wx L3 (o + 1) (w4.alloc (.cells #[.int .i64 y.k, .int .i64 y.o, .int .i64 y.n, .string ⟨y.s.toArray⟩, .slice Ay y.ks.length cy, .int .i64 (y.depth : Int)] 198))) := Lib.hid ((HA3.out.grow g1 g2).alloc _); have HKx_4 : Hid (Kid b wx x Ax cx w2.heap.size (w4.alloc (.cells #[.int .i64 y.k, .int .i64 y.o, .int .i64 y.n, .string ⟨y.s.toArray⟩, .slice Ay y.ks.length cy, .int .i64 (y.depth : Int)] 198))) := Lib.hid ((HKx_3.out.grow g2).alloc _); have HKy_4 : Hid (Kid b wx y Ay cy w4.heap.size (w4.alloc (.cells #[.int .i64 y.k, .int .i64 y.o, .int .i64 y.n, .string ⟨y.s.toArray⟩, .slice Ay y.ks.length cy, .int .i64 (y.depth : Int)] 198))) := Lib.hid (Kid.made HA3.out hbxx g2 hk); clear g1 g2 h2 hk HX2))
              generalize w4.alloc (.cells #[.int .i64 y.k, .int .i64 y.o, .int .i64 y.n, .string ⟨y.s.toArray⟩, .slice Ay y.ks.length cy, .int .i64 (y.depth : Int)] 198) = v4 at HA4 HKx_4 HKy_4 ⊢
              go_wp2_with (first | (go_at_call 99; refine (HM2.out _ HA4.out.st).mono ?_; intro e w5 h2; obtain ⟨v, rfl, hv, g1, g2⟩ := h2.okE rfl; obtain rfl : v = .tuple #[] := hv; have HA5 := Lib.hid (HA4.out.grow g1 g2); have HKx_5 := Lib.hid (HKx_4.out.grow g2); have HKy_5 := Lib.hid (HKy_4.out.grow g2); clear g1 g2 h2 HM2) | (go_at_call 135; refine (HX3.out _ HA5.out.st HA5.out.env).mono ?_; intro e w6 h2; obtain ⟨rfl, g2⟩ := h2.badE rfl; have HGB := Lib.hid (only_trans HA5.out.grown g2); clear g2 h2 HX3))
              exact ⟨rfl, PRes.badI HR.out (only_trans HGX.out HGB.out) rfl⟩
          · rw [hE4] at hR HM2
            have HR : Hid (R = .bad c a) := Lib.hid hR
            clear hR hO ho hb ht h he hE1 hE2 hE3 s1 s2 s3 z1 z2 hd1 hd2 hE4
            go_enter Tryz.func159, Tryz.ntmps159
            go_upto_region 1 with fail
            rw [← hwx]
            clear hwx
            go_upto_region 3 with (first | (go_at_call 177; refine (HBG.out _ HA0.out.st).mono ?_; intro e w1 h2; obtain ⟨v, rfl, hv, g1, g2⟩ := h2.okE rfl; obtain rfl : v = .tuple #[] := hv; have HA1 := Lib.hid (HA0.out.grow g1 g2); clear g1 g2 h2 HBG) | (go_at_call 135; refine (HX1.out _ HA1.out.st HA1.out.env).mono ?_; intro e w2 h2; obtain ⟨v, rfl, ⟨Ax, cx, rfl, hk⟩, g1, g2⟩ := h2.okE rfl; have HA2 : Hid (At s B b wx L1 (o + 1) (w2.alloc (.cells #[.int .i64 x.k, .int .i64 x.o, .int .i64 x.n, .string ⟨x.s.toArray⟩, .slice Ax x.ks.length cx, .int .i64 (x.depth : Int)] 198))) := Lib.hid ((HA1.out.grow g1 g2).alloc _); have HKx_2 : Hid (Kid b wx x Ax cx w2.heap.size (w2.alloc (.cells #[.int .i64 x.k, .int .i64 x.o, .int .i64 x.n, .string ⟨x.s.toArray⟩, .slice Ax x.ks.length cx, .int .i64 (x.depth : Int)] 198))) := Lib.hid (Kid.made HA1.out hbxx g2 hk); clear g1 g2 h2 hk HX1))
            generalize w2.alloc (.cells #[.int .i64 x.k, .int .i64 x.o, .int .i64 x.n, .string ⟨x.s.toArray⟩, .slice Ax x.ks.length cx, .int .i64 (x.depth : Int)] 198) = v2 at HA2 HKx_2 ⊢
            go_upto_region 5 with (first | (go_at_call 99; refine (HM1.out _ HA2.out.st).mono ?_; intro e w3 h2; obtain ⟨v, rfl, hv, g1, g2⟩ := h2.okE rfl; obtain rfl : v = .tuple #[] := hv; have HA3 := Lib.hid (HA2.out.grow g1 g2); have HKx_3 := Lib.hid (HKx_2.out.grow g2); clear g1 g2 h2 HM1) | (go_at_call 135; refine (HX2.out _ HA3.out.st HA3.out.env).mono ?_; intro e w4 h2; obtain ⟨v, rfl, ⟨Ay, cy, rfl, hk⟩, g1, g2⟩ := h2.okE rfl; have HA4 : Hid (At s B b wx L3 (o + 1) (w4.alloc (.cells #[.int .i64 y.k, .int .i64 y.o, .int .i64 y.n, .string ⟨y.s.toArray⟩, .slice Ay y.ks.length cy, .int .i64 (y.depth : Int)] 198))) := Lib.hid ((HA3.out.grow g1 g2).alloc _); have HKx_4 : Hid (Kid b wx x Ax cx w2.heap.size (w4.alloc (.cells #[.int .i64 y.k, .int .i64 y.o, .int .i64 y.n, .string ⟨y.s.toArray⟩, .slice Ay y.ks.length cy, .int .i64 (y.depth : Int)] 198))) := Lib.hid ((HKx_3.out.grow g2).alloc _); have HKy_4 : Hid (Kid b wx y Ay cy w4.heap.size (w4.alloc (.cells #[.int .i64 y.k, .int .i64 y.o, .int .i64 y.n, .string ⟨y.s.toArray⟩, .slice Ay y.ks.length cy, .int .i64 (y.depth : Int)] 198))) := Lib.hid (Kid.made HA3.out hbxx g2 hk); clear g1 g2 h2 hk HX2))
            generalize w4.alloc (.cells #[.int .i64 y.k, .int .i64 y.o, .int .i64 y.n, .string ⟨y.s.toArray⟩, .slice Ay y.ks.length cy, .int .i64 (y.depth : Int)] 198) = v4 at HA4 HKx_4 HKy_4 ⊢
            go_wp2_with (go_at_call 99; refine (HM2.out _ HA4.out.st).mono ?_; intro e w5 h2; obtain ⟨rfl, g2⟩ := h2.badE rfl; have HGB := Lib.hid (only_trans HA4.out.grown g2); clear g2 h2 HM2)
            exact ⟨rfl, PRes.badI HR.out (only_trans HGX.out HGB.out) rfl⟩
        · rw [hE3] at hR HX2
          have HR : Hid (R = .bad c a) := Lib.hid hR
          clear hR hO ho hb ht h he hE1 hE2 s1 s2 z1 z2 hd1 hE3
          go_enter Tryz.func159, Tryz.ntmps159
          go_upto_region 1 with fail
          rw [← hwx]
          clear hwx
          go_upto_region 3 with (first | (go_at_call 177; refine (HBG.out _ HA0.out.st).mono ?_; intro e w1 h2; obtain ⟨v, rfl, hv, g1, g2⟩ := h2.okE rfl; obtain rfl : v = .tuple #[] := hv; have HA1 := Lib.hid (HA0.out.grow g1 g2); clear g1 g2 h2 HBG) | (go_at_call 135; refine (HX1.out _ HA1.out.st HA1.out.env).mono ?_; intro e w2 h2; obtain ⟨v, rfl, ⟨Ax, cx, rfl, hk⟩, g1, g2⟩ := h2.okE rfl; have HA2 : Hid (At s B b wx L1 (o + 1) (w2.alloc (.cells #[.int .i64 x.k, .int .i64 x.o, .int .i64 x.n, .string ⟨x.s.toArray⟩, .slice Ax x.ks.length cx, .int .i64 (x.depth : Int)] 198))) := Lib.hid ((HA1.out.grow g1 g2).alloc _); have HKx_2 : Hid (Kid b wx x Ax cx w2.heap.size (w2.alloc (.cells #[.int .i64 x.k, .int .i64 x.o, .int .i64 x.n, .string ⟨x.s.toArray⟩, .slice Ax x.ks.length cx, .int .i64 (x.depth : Int)] 198))) := Lib.hid (Kid.made HA1.out hbxx g2 hk); clear g1 g2 h2 hk HX1))
          generalize w2.alloc (.cells #[.int .i64 x.k, .int .i64 x.o, .int .i64 x.n, .string ⟨x.s.toArray⟩, .slice Ax x.ks.length cx, .int .i64 (x.depth : Int)] 198) = v2 at HA2 HKx_2 ⊢
          go_wp2_with (first | (go_at_call 99; refine (HM1.out _ HA2.out.st).mono ?_; intro e w3 h2; obtain ⟨v, rfl, hv, g1, g2⟩ := h2.okE rfl; obtain rfl : v = .tuple #[] := hv; have HA3 := Lib.hid (HA2.out.grow g1 g2); have HKx_3 := Lib.hid (HKx_2.out.grow g2); clear g1 g2 h2 HM1) | (go_at_call 135; refine (HX2.out _ HA3.out.st HA3.out.env).mono ?_; intro e w4 h2; obtain ⟨rfl, g2⟩ := h2.badE rfl; have HGB := Lib.hid (only_trans HA3.out.grown g2); clear g2 h2 HX2))
          exact ⟨rfl, PRes.badI HR.out (only_trans HGX.out HGB.out) rfl⟩
      · rw [hE2] at hR HM1
        have HR : Hid (R = .bad c a) := Lib.hid hR
        clear hR hO ho hb ht h he hE1 s1 hd1 hE2
        go_enter Tryz.func159, Tryz.ntmps159
        go_upto_region 1 with fail
        rw [← hwx]
        clear hwx
        go_upto_region 3 with (first | (go_at_call 177; refine (HBG.out _ HA0.out.st).mono ?_; intro e w1 h2; obtain ⟨v, rfl, hv, g1, g2⟩ := h2.okE rfl; obtain rfl : v = .tuple #[] := hv; have HA1 := Lib.hid (HA0.out.grow g1 g2); clear g1 g2 h2 HBG) | (go_at_call 135; refine (HX1.out _ HA1.out.st HA1.out.env).mono ?_; intro e w2 h2; obtain ⟨v, rfl, ⟨Ax, cx, rfl, hk⟩, g1, g2⟩ := h2.okE rfl; have HA2 : Hid (At s B b wx L1 (o + 1) (w2.alloc (.cells #[.int .i64 x.k, .int .i64 x.o, .int .i64 x.n, .string ⟨x.s.toArray⟩, .slice Ax x.ks.length cx, .int .i64 (x.depth : Int)] 198))) := Lib.hid ((HA1.out.grow g1 g2).alloc _); have HKx_2 : Hid (Kid b wx x Ax cx w2.heap.size (w2.alloc (.cells #[.int .i64 x.k, .int .i64 x.o, .int .i64 x.n, .string ⟨x.s.toArray⟩, .slice Ax x.ks.length cx, .int .i64 (x.depth : Int)] 198))) := Lib.hid (Kid.made HA1.out hbxx g2 hk); clear g1 g2 h2 hk HX1))
        generalize w2.alloc (.cells #[.int .i64 x.k, .int .i64 x.o, .int .i64 x.n, .string ⟨x.s.toArray⟩, .slice Ax x.ks.length cx, .int .i64 (x.depth : Int)] 198) = v2 at HA2 HKx_2 ⊢
        go_wp2_with (go_at_call 99; refine (HM1.out _ HA2.out.st).mono ?_; intro e w3 h2; obtain ⟨rfl, g2⟩ := h2.badE rfl; have HGB := Lib.hid (only_trans HA2.out.grown g2); clear g2 h2 HM1)
        exact ⟨rfl, PRes.badI HR.out (only_trans HGX.out HGB.out) rfl⟩
    · rw [hE1] at hR HX1
      have HR : Hid (R = .bad c a) := Lib.hid hR
      clear hR hO ho hb ht h he hE1
      go_enter Tryz.func159, Tryz.ntmps159
      go_upto_region 1 with fail
      rw [← hwx]
      clear hwx
      go_wp2_with (first | (go_at_call 177; refine (HBG.out _ HA0.out.st).mono ?_; intro e w1 h2; obtain ⟨v, rfl, hv, g1, g2⟩ := h2.okE rfl; obtain rfl : v = .tuple #[] := hv; have HA1 := Lib.hid (HA0.out.grow g1 g2); clear g1 g2 h2 HBG) | (go_at_call 135; refine (HX1.out _ HA1.out.st HA1.out.env).mono ?_; intro e w2 h2; obtain ⟨rfl, g2⟩ := h2.badE rfl; have HGB := Lib.hid (only_trans HA1.out.grown g2); clear g2 h2 HX1))
      exact ⟨rfl, PRes.badI HR.out (only_trans HGX.out HGB.out) rfl⟩

set_option maxRecDepth 100000 in
set_option maxHeartbeats 1000000 in
theorem pSecond (s : T) (B b f o n : Nat) (L : List Tk) (w : World) (ih : PE s B b f) (hf : 16 * L.length + 2 ≤ f + 1) (hn : n < 7) (hne : hdT L ≠ []) (h : StT s B w b L o) (he : PaEnv b w) :
    Calls Tryz.prog 182 #[.pointer (some ⟨b, 0, none⟩), .int .i64 (n : Int)] w (PRes s b B w o (TrV w.heap.size) (secondP (f + 1) n L o)) := by
  obtain ⟨R, hR⟩ : ∃ R, R = secondP (f + 1) n L o := ⟨_, rfl⟩
  rw [← hR]
  have hbB := h.base_
  have hBw := h.room_
  obtain ⟨wx, hwx⟩ : ∃ wx, wx = w.alloc (.cells #[.int .i64 0, .int .i64 0, .int .i64 0, .string ⟨#[]⟩, .slice none 0 0, .int .i64 0] 198) := ⟨_, rfl⟩
  have hbx : Below w.heap.size w wx := by rw [hwx]; exact (Below.refl _ _).alloc (Nat.le_refl _) _
  have hxz : wx.heap.size = w.heap.size + 1 := by rw [hwx]; simp
  have HXZ := Lib.hid hxz
  have HPX : Hid (Row wx w.heap.size 198 z6) := Lib.hid (by rw [hwx]; exact Row.made _ _ _)
  have hbxx : b < wx.heap.size := by omega
  have hpb : w.heap.size ≠ b := by omega
  have HGX := Lib.hid (only_below' hbx b)
  have HA0 : Hid (At s B b wx L o wx) := Lib.hid (At.refl (h.later hbx) (he.grown (only_below hbx none) (by omega) (fun _ e => by cases e)))
  clear hbx hxz
  rw [secondP] at hR
  have ht := tail_sh h.wf_ (.inl hne)
  have hlev := (HA0.out.env.lev_ n hn).1
  have hlt := HA0.out.env.lt_.1
  have hgz : 6 < wx.heap.size := by omega
  have hni : (n : Int) < 7 := by omega
  by_cases h2 : n < 2
  · have hj : joinZ n = 2 := if_pos h2
    rw [hj] at hlev
    rw [if_pos h2] at hR
    have HBG : Hid (∀ w1, StT s B w1 b L o → _) := Lib.hid fun w1 h1 => pBegin s B b o L w1 h1 ht.1
    by_cases ho : 400 ≤ o
    · have hO : (openP o L fun L => .ok () L : Pr Unit) = .bad 5 (hdF L) := if_pos ho
      rw [hO] at HBG
      replace hR : R = .bad 5 (hdF L) := by rw [hR]; exact if_pos ho
      have HR := Lib.hid hR
      clear hR hO ho ht h he hj h2 hne
      go_enter Tryz.func182, Tryz.ntmps182
      go_upto_region 1 with fail
      rw [← hwx]
      clear hwx
      go_wp2_with (go_at_call 177; refine (HBG.out _ HA0.out.st).mono ?_; intro e w1 h2; obtain ⟨rfl, g2⟩ := h2.badE rfl; have HGB := Lib.hid (only_trans HA0.out.grown g2); clear g2 h2 HBG)
      exact ⟨rfl, PRes.badI HR.out (only_trans HGX.out HGB.out) rfl⟩
    · have hO : (openP o L fun L => .ok () L : Pr Unit) = .ok () L.tail := if_neg ho
      rw [hO] at HBG
      replace hR : R = levelP f n L.tail (o + 1) := by rw [hR]; exact if_neg ho
      have HC : Hid (∀ w1, StT s B w1 b L.tail (o + 1) → PaEnv b w1 → _) := Lib.hid fun w1 h1 h2 => ih.level (o + 1) n L.tail w1 (by omega) (by omega) h1 h2
      rcases (levelP f n L.tail (o + 1)).cases with ⟨x, L1, hE⟩ | ⟨c, a, hE⟩
      · rw [hE] at hR HC
        have HR := Lib.hid hR
        have HEN : Hid (∀ w1, StT s B w1 b L1 (o + 1) → _) := Lib.hid fun w1 h1 => pEnd s B b o L1 w1 h1
        clear hR hO ho ht h he hj h2 hne hE
        go_enter Tryz.func182, Tryz.ntmps182
        go_upto_region 1 with fail
        rw [← hwx]
        clear hwx
        go_upto_region 6 with (first | (go_at_call 177; refine (HBG.out _ HA0.out.st).mono ?_; intro e w1 h2; obtain ⟨v, rfl, hv, g1, g2⟩ := h2.okE rfl; obtain rfl : v = .tuple #[] := hv; have HA1 := Lib.hid (HA0.out.grow g1 g2); clear g1 g2 h2 HBG) | (go_at_call 160; refine (HC.out _ HA1.out.st HA1.out.env).mono ?_; intro e w2 h2; obtain ⟨v, rfl, ⟨Ax, cx, rfl, hk⟩, g1, g2⟩ := h2.okE rfl; have HA2 : Hid (At s B b wx L1 (o + 1) (w2.alloc (.cells #[.int .i64 x.k, .int .i64 x.o, .int .i64 x.n, .string ⟨x.s.toArray⟩, .slice Ax x.ks.length cx, .int .i64 (x.depth : Int)] 198))) := Lib.hid ((HA1.out.grow g1 g2).alloc _); have HKx_2 : Hid (Kid b wx x Ax cx w2.heap.size (w2.alloc (.cells #[.int .i64 x.k, .int .i64 x.o, .int .i64 x.n, .string ⟨x.s.toArray⟩, .slice Ax x.ks.length cx, .int .i64 (x.depth : Int)] 198))) := Lib.hid (Kid.made HA1.out hbxx g2 hk); clear g1 g2 h2 hk HC))
        generalize w2.alloc (.cells #[.int .i64 x.k, .int .i64 x.o, .int .i64 x.n, .string ⟨x.s.toArray⟩, .slice Ax x.ks.length cx, .int .i64 (x.depth : Int)] 198) = v2 at HA2 HKx_2 ⊢
        go_wp2_with (first | (go_at_call 178; refine (HEN.out _ HA2.out.st).mono ?_; rintro e w3 ⟨rfl, g1, g2⟩; have HA3 := Lib.hid (HA2.out.grow g1 g2); have HKx_3 := Lib.hid (HKx_2.out.grow g2); clear g1 g2 HEN; obtain ⟨y0, y1, y2, y3, y4, y5⟩ := HKx_3.out.cells; have hpz := HKx_3.out.row.lt; have HROW := HA3.out.row HPX.out hpb) | (refine wpList_store_row (o := ⟨none, Op.store _ _ _, _, _, _, _⟩) rfl _ _ _ rfl w.heap.size (t6 (x) Ax cx) rfl rfl _ _ HROW (t6_size _ _ _) rfl (t6_one _ _ _) ?_))
        have HK9 := Lib.hid HKx_3.out.up
        obtain ⟨t1, t2, t3, t4⟩ := tree_back (x := x) (A := Ax) (c := cx) (only_trans HGX.out HA3.out.grown) HROW (by rw [← HXZ.out]; exact HK9.out) HA3.out.st hBw
        exact bodyPost_ret (results_cell_row rfl _ _ w.heap.size _ _ _ _ rfl t4 Tryz.underlying198 rfl tree_size) rfl (PRes.okI HR.out t1 rfl ⟨Ax, cx, rfl, t2⟩ t3)
      · rw [hE] at hR HC
        have HR : Hid (R = .bad c a) := Lib.hid hR
        clear hR hO ho ht h he hj h2 hne hE
        go_enter Tryz.func182, Tryz.ntmps182
        go_upto_region 1 with fail
        rw [← hwx]
        clear hwx
        go_wp2_with (first | (go_at_call 177; refine (HBG.out _ HA0.out.st).mono ?_; intro e w1 h2; obtain ⟨v, rfl, hv, g1, g2⟩ := h2.okE rfl; obtain rfl : v = .tuple #[] := hv; have HA1 := Lib.hid (HA0.out.grow g1 g2); clear g1 g2 h2 HBG) | (go_at_call 160; refine (HC.out _ HA1.out.st HA1.out.env).mono ?_; intro e w2 h2; obtain ⟨rfl, g2⟩ := h2.badE rfl; have HGB := Lib.hid (only_trans HA1.out.grown g2); clear g2 h2 HC))
        exact ⟨rfl, PRes.badI HR.out (only_trans HGX.out HGB.out) rfl⟩
  · obtain ⟨z, hz⟩ : ∃ z, z = joinZ n := ⟨_, rfl⟩
    have hz2 : z ≠ 2 := by rw [hz]; unfold joinZ; rw [if_neg h2]; split <;> decide
    rw [← hz] at hlev
    have hz3 : (z == 2) = false := beq_eq_false_iff_ne.2 hz2
    have hz4 : (z != 2) = true := bne_iff_ne.2 hz2
    rw [if_neg h2] at hR
    have HPS : Hid (∀ w1, StT s B w1 b L o → _) := Lib.hid fun w1 h1 => pPass s B b o L w1 h1 ht.1
    have hen : ((n + 1 : Nat) : Int) = (n : Int) + 1 := by omega
    have HC : Hid (∀ w1, StT s B w1 b L.tail o → PaEnv b w1 → _) := Lib.hid fun w1 h1 h2 => ih.level o (n + 1) L.tail w1 (by omega) (by omega) h1 h2
    rw [hen] at HC
    rcases (levelP f (n + 1) L.tail o).cases with ⟨x, L1, hE⟩ | ⟨c, a, hE⟩
    · rw [hE] at hR HC
      have HR := Lib.hid hR
      clear hR ht h he h2 hne hz hz2 hen hE
      go_enter Tryz.func182, Tryz.ntmps182
      go_upto_region 1 with fail
      rw [← hwx]
      clear hwx
      go_wp2_with (first | (go_at_call 132; refine (HPS.out _ HA0.out.st).mono ?_; rintro e w1 ⟨rfl, g1, g2⟩; have HA1 := Lib.hid (HA0.out.grow g1 g2); clear g1 g2 HPS) | (go_at_call 160; refine (HC.out _ HA1.out.st HA1.out.env).mono ?_; intro e w2 h2; obtain ⟨v, rfl, ⟨A9, c9, rfl, hk⟩, g1, g2⟩ := h2.okE rfl; have HA2 := Lib.hid (HA1.out.grow g1 g2); have HK9 : Hid (KS w2 (Bt wx.heap.size w2.heap.size) A9 (x).ks) := Lib.hid (hk.widen fun q hq => ⟨Nat.le_trans HA1.out.size hq.1, hq.2⟩); have HROW := HA2.out.row HPX.out hpb; clear g1 g2 h2 hk HC) | (refine wpList_store_row (o := ⟨none, Op.store _ _ _, _, _, _, _⟩) rfl _ _ _ rfl w.heap.size (t6 (x) A9 c9) rfl rfl _ _ HROW (t6_size _ _ _) rfl (t6_one _ _ _) ?_))
      obtain ⟨t1, t2, t3, t4⟩ := tree_back (x := x) (A := A9) (c := c9) (only_trans HGX.out HA2.out.grown) HROW (by rw [← HXZ.out]; exact HK9.out) HA2.out.st hBw
      exact bodyPost_ret (results_cell_row rfl _ _ w.heap.size _ _ _ _ rfl t4 Tryz.underlying198 rfl tree_size) rfl (PRes.okI HR.out t1 rfl ⟨A9, c9, rfl, t2⟩ t3)
    · rw [hE] at hR HC
      have HR : Hid (R = .bad c a) := Lib.hid hR
      clear hR ht h he h2 hne hz hz2 hen hE
      go_enter Tryz.func182, Tryz.ntmps182
      go_upto_region 1 with fail
      rw [← hwx]
      clear hwx
      go_wp2_with (first | (go_at_call 132; refine (HPS.out _ HA0.out.st).mono ?_; rintro e w1 ⟨rfl, g1, g2⟩; have HA1 := Lib.hid (HA0.out.grow g1 g2); clear g1 g2 HPS) | (go_at_call 160; refine (HC.out _ HA1.out.st HA1.out.env).mono ?_; intro e w2 h2; obtain ⟨rfl, g2⟩ := h2.badE rfl; have HGB := Lib.hid (only_trans HA1.out.grown g2); clear g2 h2 HC))
      exact ⟨rfl, PRes.badI HR.out (only_trans HGX.out HGB.out) rfl⟩

end Go.Proofs.YtdabndiaflagpaaGreatDoor
namespace Go.Proofs.YtdabndiaflagpaaGreatDoor
open Go.RowKit

theorem idx_pre0 (w : World) : (Instr.index 178 (.agg #[.string ⟨#[45]⟩, .string ⟨#[110, 111, 116]⟩, .string ⟨#[112, 114, 101]⟩]) (.int .i64 0)).run Tryz.prog w = .ok (.string ⟨#[45]⟩) w := by kernel_rfl
theorem idx_pre1 (w : World) : (Instr.index 178 (.agg #[.string ⟨#[45]⟩, .string ⟨#[110, 111, 116]⟩, .string ⟨#[112, 114, 101]⟩]) (.int .i64 1)).run Tryz.prog w = .ok (.string ⟨#[110, 111, 116]⟩) w := by kernel_rfl
theorem idx_pre2 (w : World) : (Instr.index 178 (.agg #[.string ⟨#[45]⟩, .string ⟨#[110, 111, 116]⟩, .string ⟨#[112, 114, 101]⟩]) (.int .i64 2)).run Tryz.prog w = .ok (.string ⟨#[112, 114, 101]⟩) w := by kernel_rfl
theorem idx_pre {i : Nat} {x : T} (h : presT[i]? = some x) (w : World) : (Instr.index 178 (.agg #[.string ⟨#[45]⟩, .string ⟨#[110, 111, 116]⟩, .string ⟨#[112, 114, 101]⟩]) (.int .i64 (i : Int))).run Tryz.prog w = .ok (.string ⟨x.toArray⟩) w := by
  match i, h with
  | 0, h => obtain rfl := Option.some.inj h; exact idx_pre0 w
  | 1, h => obtain rfl := Option.some.inj h; exact idx_pre1 w
  | 2, h => obtain rfl := Option.some.inj h; exact idx_pre2 w
theorem pres_drop {i : Nat} {x : T} (h : presT[i]? = some x) : presL.drop i = (x, (i : Int)) :: presL.drop (i + 1) := by
  match i, h with
  | 0, h => obtain rfl := Option.some.inj h; rfl
  | 1, h => obtain rfl := Option.some.inj h; rfl
  | 2, h => obtain rfl := Option.some.inj h; rfl
theorem overLeaf (k o n : Int) (s : T) (w : World) : Calls Tryz.prog 179 #[.agg #[.int .i64 k, .int .i64 o, .int .i64 n, .string ⟨s.toArray⟩, .slice none 0 0], .slice none 0 0] w fun e w' =>
    ∃ A c, e = .returned (.agg #[.int .i64 k, .int .i64 o, .int .i64 n, .string ⟨s.toArray⟩, .slice A 0 c, .int .i64 1]) ∧ (∀ lo, KS w' (Bt lo w'.heap.size) A []) ∧ Below w.heap.size w w' :=
  (pOver k o n s [] none 0 w (fun _ => False) (.inl rfl) (fun _ h => h.elim) (by simp) (by simp [X.depths])).mono fun _ _ ⟨A, c, he, _, hb⟩ => ⟨A, c, he, fun _ => .inl rfl, hb⟩
theorem overRow (k o n : Int) (s : T) {ts : List X} {A : Option Addr} {c lo : Nat} {w : World} (h : TR w (Bt lo w.heap.size) A ts) (hlo : lo ≤ w.heap.size) (hl : ts.length ≤ 1000) (hd : X.depths ts ≤ 100000000) :
    Calls Tryz.prog 179 #[.agg #[.int .i64 k, .int .i64 o, .int .i64 n, .string ⟨s.toArray⟩, .slice none 0 0], .slice A ts.length c] w fun e w' =>
      ∃ A c, e = .returned (.agg #[.int .i64 k, .int .i64 o, .int .i64 n, .string ⟨s.toArray⟩, .slice A ts.length c, .int .i64 ((1 + X.depths ts : Nat) : Int)]) ∧ KS w' (Bt lo w'.heap.size) A ts ∧ Below w.heap.size w w' :=
  (pOver k o n s ts A c w _ h (fun q hq => hq.2) (by omega) hd).mono fun _ _ ⟨A, c, he, hk, hb⟩ => ⟨A, c, he, hk.widen fun q hq => by
    have := hb.size
    rcases hq with hq | hq
    · exact ⟨hq.1, by have := hq.2; omega⟩
    · exact ⟨by omega, hq.2⟩, hb⟩

set_option maxRecDepth 100000 in
set_option maxHeartbeats 1000000 in
theorem pVarCall (s : T) (B b f o : Nat) (L : List Tk) (w : World) (ih : PE s B b f) (hf : 16 * L.length + 3 ≤ f) (hk : hdK L = 1) (h : StT s B w b L o) (he : PaEnv b w) :
    Calls Tryz.prog 198 #[.pointer (some ⟨b, 0, none⟩)] w (PRes s b B w o (TrV w.heap.size) ((if isP [40] L.tail = true then (operandsP f L.tail o).bind fun ks L' => .ok (X.mk 6 0 0 (hdT L) ks) L' else .ok (X.mk 2 0 0 (hdT L) []) L.tail : Pr X))) := by
  obtain ⟨R, hR⟩ : ∃ R, R = (if isP [40] L.tail = true then (operandsP f L.tail o).bind fun ks L' => .ok (X.mk 6 0 0 (hdT L) ks) L' else .ok (X.mk 2 0 0 (hdT L) []) L.tail : Pr X) := ⟨_, rfl⟩
  rw [← hR]
  have hbB := h.base_
  have hBw := h.room_
  obtain ⟨wx, hwx⟩ : ∃ wx, wx = w.alloc (.cells #[.int .i64 0, .int .i64 0, .int .i64 0, .string ⟨#[]⟩, .slice none 0 0, .int .i64 0] 198) := ⟨_, rfl⟩
  have hbx : Below w.heap.size w wx := by rw [hwx]; exact (Below.refl _ _).alloc (Nat.le_refl _) _
  have hxz : wx.heap.size = w.heap.size + 1 := by rw [hwx]; simp
  have HXZ := Lib.hid hxz
  have HPX : Hid (Row wx w.heap.size 198 z6) := Lib.hid (by rw [hwx]; exact Row.made _ _ _)
  have hbxx : b < wx.heap.size := by omega
  have hpb : w.heap.size ≠ b := by omega
  have HGX := Lib.hid (only_below' hbx b)
  have HA0 : Hid (At s B b wx L o wx) := Lib.hid (At.refl (h.later hbx) (he.grown (only_below hbx none) (by omega) (fun _ e => by cases e)))
  clear hbx hxz
  have ht := kind_sh h.wf_ hk (by decide)
  have hfew := h.few_
  have hm : nmP L = .ok (hdT L) L.tail := if_pos hk
  have HN : Hid (∀ w1, StT s B w1 b L o → _) := Lib.hid fun w1 h1 => pName s B b o L w1 h1
  rw [hm] at HN
  have HI : Hid (∀ w1, StT s B w1 b L.tail o → _) := Lib.hid fun w1 h1 => pIs s B b o [40] L.tail w1 h1
  obtain ⟨nm, hnm⟩ : ∃ nm, nm = hdT L := ⟨_, rfl⟩
  rw [← hnm] at HN hR
  by_cases hb : isP [40] L.tail = true
  · rw [if_pos hb] at hR
    rw [hb] at HI
    have HC : Hid (∀ w1, StT s B w1 b L.tail o → PaEnv b w1 → _) := Lib.hid fun w1 h1 h2 => ih.operands o L.tail w1 (by omega) hb h1 h2
    rcases (operandsP f L.tail o).cases with ⟨ts, L1, hE⟩ | ⟨c, a, hE⟩
    · have hsz := (sizes f).operands _ _ ht.1 hb _ _ hE
      have hdl := X.depths_le ts
      have HD : Hid (X.depths ts ≤ 100000000) := Lib.hid (by omega)
      rw [hE] at hR HC
      have HR : Hid (R = .ok (.mk 6 0 0 nm ts) L1) := Lib.hid hR
      clear hR hE hb ht h he hk hm hnm
      clear hsz hdl
      go_enter Tryz.func198, Tryz.ntmps198
      go_upto_region 1 with fail
      rw [← hwx]
      clear hwx
      go_wp2_with (first | (go_at_call 100; refine (HN.out _ HA0.out.st).mono ?_; intro e w1 h2; obtain ⟨v, rfl, hv, g1, g2⟩ := h2.okE rfl; obtain rfl : v = .string ⟨(nm).toArray⟩ := hv; have HA1 := Lib.hid (HA0.out.grow g1 g2); clear g1 g2 h2 HN) | (go_at_call 61; refine (HI.out _ HA1.out.st).mono ?_; rintro e w2 ⟨rfl, g1⟩; have HA2 := Lib.hid (HA1.out.below g1); clear g1 HI) | (go_at_call 204; refine (HC.out _ HA2.out.st HA2.out.env).mono ?_; intro e w3 h2; obtain ⟨v, rfl, ⟨⟨A4, c4, rfl, hk⟩, htl⟩, g1, g2⟩ := h2.okE rfl; have HA3 := Lib.hid (HA2.out.grow g1 g2); have HT3 := Lib.hid hk; have hlo := g2.size; have HL2 := Lib.hid HA2.out.size; clear g1 g2 h2 hk HC) | (go_at_call 179; refine (overRow 6 0 0 nm HT3.out hlo htl HD.out).mono ?_; rintro e w4 ⟨A9, c9, rfl, hk, hb⟩; have HA4 := Lib.hid (HA3.out.below hb); have HK9 : Hid (KS w4 (Bt wx.heap.size w4.heap.size) A9 ts) := Lib.hid (hk.widen fun q hq => ⟨Nat.le_trans HL2.out hq.1, hq.2⟩); have HROW := HA4.out.row HPX.out hpb; clear hk hb) | (refine wpList_store_row (o := ⟨none, Op.store _ _ _, _, _, _, _⟩) rfl _ _ _ rfl w.heap.size (t6 (X.mk 6 0 0 nm ts) A9 c9) rfl rfl _ _ HROW (t6_size _ _ _) rfl (t6_one _ _ _) ?_))
      obtain ⟨t1, t2, t3, t4⟩ := tree_back (x := X.mk 6 0 0 nm ts) (A := A9) (c := c9) (only_trans HGX.out HA4.out.grown) HROW (by rw [← HXZ.out]; exact HK9.out) HA4.out.st hBw
      exact bodyPost_ret (results_cell_row rfl _ _ w.heap.size _ _ _ _ rfl t4 Tryz.underlying198 rfl tree_size) rfl (PRes.okI HR.out t1 rfl ⟨A9, c9, rfl, t2⟩ t3)
    · rw [hE] at hR HC
      have HR : Hid (R = .bad c a) := Lib.hid hR
      clear hR hE hb ht h he hk hm hnm
      go_enter Tryz.func198, Tryz.ntmps198
      go_upto_region 1 with fail
      rw [← hwx]
      clear hwx
      go_wp2_with (first | (go_at_call 100; refine (HN.out _ HA0.out.st).mono ?_; intro e w1 h2; obtain ⟨v, rfl, hv, g1, g2⟩ := h2.okE rfl; obtain rfl : v = .string ⟨(nm).toArray⟩ := hv; have HA1 := Lib.hid (HA0.out.grow g1 g2); clear g1 g2 h2 HN) | (go_at_call 61; refine (HI.out _ HA1.out.st).mono ?_; rintro e w2 ⟨rfl, g1⟩; have HA2 := Lib.hid (HA1.out.below g1); clear g1 HI) | (go_at_call 204; refine (HC.out _ HA2.out.st HA2.out.env).mono ?_; intro e w3 h2; obtain ⟨rfl, g2⟩ := h2.badE rfl; have HGB := Lib.hid (only_trans HA2.out.grown g2); clear g2 h2 HC))
      exact ⟨rfl, PRes.badI HR.out (only_trans HGX.out HGB.out) rfl⟩
  · rw [if_neg hb] at hR
    have hb2 : isP [40] L.tail = false := by simpa using hb
    rw [hb2] at HI
    have HR := Lib.hid hR
    clear hR hb hb2 ht h he hk hm hnm
    go_enter Tryz.func198, Tryz.ntmps198
    go_upto_region 1 with fail
    rw [← hwx]
    clear hwx
    go_wp2_with (first | (go_at_call 100; refine (HN.out _ HA0.out.st).mono ?_; intro e w1 h2; obtain ⟨v, rfl, hv, g1, g2⟩ := h2.okE rfl; obtain rfl : v = .string ⟨(nm).toArray⟩ := hv; have HA1 := Lib.hid (HA0.out.grow g1 g2); clear g1 g2 h2 HN) | (go_at_call 61; refine (HI.out _ HA1.out.st).mono ?_; rintro e w2 ⟨rfl, g1⟩; have HA2 := Lib.hid (HA1.out.below g1); clear g1 HI) | (go_at_call 179; refine (overLeaf 2 0 0 nm _).mono ?_; rintro e w3 ⟨A9, c9, rfl, hk, hb⟩; have HA3 := Lib.hid (HA2.out.below hb); have HK9 := Lib.hid (hk wx.heap.size); have HROW := HA3.out.row HPX.out hpb; clear hk hb) | (refine wpList_store_row (o := ⟨none, Op.store _ _ _, _, _, _, _⟩) rfl _ _ _ rfl w.heap.size (t6 (X.mk 2 0 0 nm []) A9 c9) rfl rfl _ _ HROW (t6_size _ _ _) rfl (t6_one _ _ _) ?_))
    obtain ⟨t1, t2, t3, t4⟩ := tree_back (x := X.mk 2 0 0 nm []) (A := A9) (c := c9) (only_trans HGX.out HA3.out.grown) HROW (by rw [← HXZ.out]; exact HK9.out) HA3.out.st hBw
    exact bodyPost_ret (results_cell_row rfl _ _ w.heap.size _ _ _ _ rfl t4 Tryz.underlying198 rfl tree_size) rfl (PRes.okI HR.out t1 rfl ⟨A9, c9, rfl, t2⟩ t3)

set_option maxRecDepth 100000 in
set_option maxHeartbeats 1000000 in
theorem pPrefixed (s : T) (B b f o : Nat) (L : List Tk) (w : World) (ih : PE s B b f) (hf : 16 * L.length + 5 ≤ f + 1) (h : StT s B w b L o) (he : PaEnv b w) :
    Calls Tryz.prog 180 #[.pointer (some ⟨b, 0, none⟩)] w (PRes s b B w o (TrV w.heap.size) (prefixP (f + 1) L o)) := by
  obtain ⟨R, hR⟩ : ∃ R, R = prefixP (f + 1) L o := ⟨_, rfl⟩
  rw [← hR]
  have hbB := h.base_
  have hBw := h.room_
  obtain ⟨wx, hwx⟩ : ∃ wx, wx = w.alloc (.cells #[.int .i64 0, .int .i64 0, .int .i64 0, .string ⟨#[]⟩, .slice none 0 0, .int .i64 0] 198) := ⟨_, rfl⟩
  have hbx : Below w.heap.size w wx := by rw [hwx]; exact (Below.refl _ _).alloc (Nat.le_refl _) _
  have hxz : wx.heap.size = w.heap.size + 1 := by rw [hwx]; simp
  have HXZ := Lib.hid hxz
  have HPX : Hid (Row wx w.heap.size 198 z6) := Lib.hid (by rw [hwx]; exact Row.made _ _ _)
  have hbxx : b < wx.heap.size := by omega
  have hpb : w.heap.size ≠ b := by omega
  have HGX := Lib.hid (only_below' hbx b)
  have HA0 : Hid (At s B b wx L o wx) := Lib.hid (At.refl (h.later hbx) (he.grown (only_below hbx none) (by omega) (fun _ e => by cases e)))
  clear hbx hxz
  have hfew := h.few_
  have HWF := Lib.hid h.wf_
  have HRS : Hid (∀ op, preP L = some op → R = openP o L fun L => (prefixP f L (o + 1)).bind fun x L => .ok (.mk 3 op 0 [] [x]) L) := Lib.hid fun op hop => by rw [hR, prefixP, hop]
  have HRN : Hid (preP L = none → R = atomP f L o) := Lib.hid fun hop => by rw [hR, prefixP, hop]
  clear hR
  have q0 := HA0.out.env.pre_ 0 _ rfl
  have q1 := HA0.out.env.pre_ 1 _ rfl
  have q2 := HA0.out.env.pre_ 2 _ rfl
  have hlt := HA0.out.env.lt_.2
  have hgz : 10 < wx.heap.size := by omega
  have HO := Lib.hid h.open_
  clear h he
  go_enter Tryz.func180, Tryz.ntmps180
  go_upto_region 1 with fail
  rw [← hwx]
  clear hwx
  go_wp2_with fail
  clear q0 q1 q2
  go_loopg [3, 4, 7] 3 (fun g' _ _ k wr => ∃ i : Nat, i + g' = 3 ∧ k = .int .i64 (i : Int) ∧ preP L = ((presL.drop i).find? (fun p => isP p.1 L)).map (·.2) ∧ At s B b wx L o wr)
  case atStart => exact ⟨0, by omega, rfl, rfl, HA0.out⟩
  case round =>
    obtain ⟨i, hi, rfl, hop, hat⟩ := hrel
    replace HA0 := Lib.hid hat
    have hHr : wx.heap.size ≤ wr.heap.size := hat.size
    by_cases hlt3 : i < 3
    · obtain ⟨x, hx⟩ : ∃ x, presT[i]? = some x := ⟨_, List.getElem?_eq_getElem hlt3⟩
      have hix := idx_pre hx
      rw [pres_drop hx] at hop
      have HI : Hid (∀ w1, StT s B w1 b L o → _) := Lib.hid fun w1 h1 => pIs s B b o x L w1 h1
      have hi3 : (i : Int) < 3 := by omega
      by_cases hb : isP x L = true
      · rw [List.find?_cons_of_pos (by exact hb)] at hop
        replace hop : preP L = some (i : Int) := hop
        have ht := tail_sh HWF.out (.inl (preP_ne hop))
        have hR := HRS.out _ hop
        rw [hb] at HI
        have HBG : Hid (∀ w1, StT s B w1 b L o → _) := Lib.hid fun w1 h1 => pBegin s B b o L w1 h1 ht.1
        by_cases ho : 400 ≤ o
        · have hO : (openP o L fun L => .ok () L : Pr Unit) = .bad 5 (hdF L) := if_pos ho
          rw [hO] at HBG
          replace hR : R = .bad 5 (hdF L) := by rw [hR]; exact if_pos ho
          have HR := Lib.hid hR
          clear hR hO ho hb ht hop hx hat
          go_wp2_with (first | (go_at_call 61; refine (HI.out _ HA0.out.st).mono ?_; rintro e w1 ⟨rfl, g1⟩; have HA1 := Lib.hid (HA0.out.below g1); clear g1 HI) | (go_at_call 177; refine (HBG.out _ HA1.out.st).mono ?_; intro e w2 h2; obtain ⟨rfl, g2⟩ := h2.badE rfl; have HGB := Lib.hid (only_trans HA1.out.grown g2); clear g2 h2 HBG))
          exact ⟨rfl, PRes.badI HR.out (only_trans HGX.out HGB.out) rfl⟩
        · have hO : (openP o L fun L => .ok () L : Pr Unit) = .ok () L.tail := if_neg ho
          rw [hO] at HBG
          replace hR : R = (prefixP f L.tail (o + 1)).bind fun x L => .ok (.mk 3 (i : Int) 0 [] [x]) L := by rw [hR]; exact if_neg ho
          have HC : Hid (∀ w1, StT s B w1 b L.tail (o + 1) → PaEnv b w1 → _) := Lib.hid fun w1 h1 h2 => ih.pre (o + 1) L.tail w1 (by omega) h1 h2
          rcases (prefixP f L.tail (o + 1)).cases with ⟨y, L1, hE⟩ | ⟨c, a, hE⟩
          · have hd := deep_of ((sizes f).pre _ _ ht.1 _ _ hE) (by omega)
            have HD : Hid (X.depths [y] ≤ 100000000) := Lib.hid (by simp only [X.depths]; omega)
            rw [hE] at hR HC
            have HR : Hid (R = .ok (.mk 3 (i : Int) 0 [] [y]) L1) := Lib.hid hR
            have HEN : Hid (∀ w1, StT s B w1 b L1 (o + 1) → _) := Lib.hid fun w1 h1 => pEnd s B b o L1 w1 h1
            clear hR hO ho hb ht hop hx hat hE hd
            go_upto_region 7 with (first | (go_at_call 61; refine (HI.out _ HA0.out.st).mono ?_; rintro e w1 ⟨rfl, g1⟩; have HA1 := Lib.hid (HA0.out.below g1); clear g1 HI) | (go_at_call 177; refine (HBG.out _ HA1.out.st).mono ?_; intro e w2 h2; obtain ⟨v, rfl, hv, g1, g2⟩ := h2.okE rfl; obtain rfl : v = .tuple #[] := hv; have HA2 := Lib.hid (HA1.out.grow g1 g2); clear g1 g2 h2 HBG) | (go_at_call 180; refine (HC.out _ HA2.out.st HA2.out.env).mono ?_; intro e w3 h2; obtain ⟨v, rfl, ⟨Ay, cy, rfl, hk⟩, g1, g2⟩ := h2.okE rfl; have HA3 : Hid (At s B b wx L1 (o + 1) (w3.alloc (.cells #[.int .i64 y.k, .int .i64 y.o, .int .i64 y.n, .string ⟨y.s.toArray⟩, .slice Ay y.ks.length cy, .int .i64 (y.depth : Int)] 198))) := Lib.hid ((HA2.out.grow g1 g2).alloc _); have HKy_3 : Hid (Kid b wx y Ay cy w3.heap.size (w3.alloc (.cells #[.int .i64 y.k, .int .i64 y.o, .int .i64 y.n, .string ⟨y.s.toArray⟩, .slice Ay y.ks.length cy, .int .i64 (y.depth : Int)] 198))) := Lib.hid (Kid.made HA2.out hbxx g2 hk); clear g1 g2 h2 hk HC))
            generalize w3.alloc (.cells #[.int .i64 y.k, .int .i64 y.o, .int .i64 y.n, .string ⟨y.s.toArray⟩, .slice Ay y.ks.length cy, .int .i64 (y.depth : Int)] 198) = v3 at HA3 HKy_3 ⊢
            go_wp2_with (first | (go_at_call 178; refine (HEN.out _ HA3.out.st).mono ?_; rintro e w4 ⟨rfl, g1, g2⟩; have HA4 := Lib.hid (HA3.out.grow g1 g2); have HKy_4 := Lib.hid (HKy_3.out.grow g2); clear g1 g2 HEN;obtain ⟨y0', y1', y2', y3', y4', y5'⟩ := HKy_4.out.cells; have py := HKy_4.out.row.lt;) | (go_at_call 179; refine (over1 3 (i : Int) 0 [] HKy_4.out HD.out).mono ?_; rintro e w5 ⟨A9, c9, rfl, hk, hb⟩; have HA5 := Lib.hid (HA4.out.below hb); have HK9 := Lib.hid hk; have HROW := HA5.out.row HPX.out hpb; clear hk hb) | (refine wpList_store_row (o := ⟨none, Op.store _ _ _, _, _, _, _⟩) rfl _ _ _ rfl w.heap.size (t6 (X.mk 3 (i : Int) 0 [] [y]) A9 c9) rfl rfl _ _ HROW (t6_size _ _ _) rfl (t6_one _ _ _) ?_))
            obtain ⟨t1, t2, t3, t4⟩ := tree_back (x := X.mk 3 (i : Int) 0 [] [y]) (A := A9) (c := c9) (only_trans HGX.out HA5.out.grown) HROW (by rw [← HXZ.out]; exact HK9.out) HA5.out.st hBw
            exact bodyPost_ret (results_cell_row rfl _ _ w.heap.size _ _ _ _ rfl t4 Tryz.underlying198 rfl tree_size) rfl (PRes.okI HR.out t1 rfl ⟨A9, c9, rfl, t2⟩ t3)
          · rw [hE] at hR HC
            have HR : Hid (R = .bad c a) := Lib.hid hR
            clear hR hO ho hb ht hop hx hat hE
            go_wp2_with (first | (go_at_call 61; refine (HI.out _ HA0.out.st).mono ?_; rintro e w1 ⟨rfl, g1⟩; have HA1 := Lib.hid (HA0.out.below g1); clear g1 HI) | (go_at_call 177; refine (HBG.out _ HA1.out.st).mono ?_; intro e w2 h2; obtain ⟨v, rfl, hv, g1, g2⟩ := h2.okE rfl; obtain rfl : v = .tuple #[] := hv; have HA2 := Lib.hid (HA1.out.grow g1 g2); clear g1 g2 h2 HBG) | (go_at_call 180; refine (HC.out _ HA2.out.st HA2.out.env).mono ?_; intro e w3 h2; obtain ⟨rfl, g2⟩ := h2.badE rfl; have HGB := Lib.hid (only_trans HA2.out.grown g2); clear g2 h2 HC))
            exact ⟨rfl, PRes.badI HR.out (only_trans HGX.out HGB.out) rfl⟩
      · rw [List.find?_cons_of_neg (by exact hb)] at hop
        have hb2 : isP x L = false := by simpa using hb
        rw [hb2] at HI
        have HOP := Lib.hid hop
        clear hb hb2 hop hx hat
        go_wp2_with (go_at_call 61; refine (HI.out _ HA0.out.st).mono ?_; rintro e w1 ⟨rfl, g1⟩; have HA1 := Lib.hid (HA0.out.below g1); clear g1 HI)
        go_roundg (3 - (i + 1))
        case rel => exact ⟨i + 1, by omega, by go_num, HOP.out, HA1.out⟩
        case measure => omega
    · obtain rfl : i = 3 := by omega
      have hR := HRN.out hop
      have HC : Hid (∀ w1, StT s B w1 b L o → PaEnv b w1 → _) := Lib.hid fun w1 h1 h2 => ih.atom o L w1 (by omega) h1 h2
      rcases (atomP f L o).cases with ⟨y, L1, hE⟩ | ⟨c, a, hE⟩
      · rw [hE] at hR HC
        have HR := Lib.hid hR
        clear hR hop hat hE
        go_wp2_with (first | (go_at_call 195; refine (HC.out _ HA0.out.st HA0.out.env).mono ?_; intro e w1 h2; obtain ⟨v, rfl, ⟨A9, c9, rfl, hk⟩, g1, g2⟩ := h2.okE rfl; have HA1 := Lib.hid (HA0.out.grow g1 g2); have HK9 : Hid (KS w1 (Bt wx.heap.size w1.heap.size) A9 (y).ks) := Lib.hid (hk.widen fun q hq => ⟨Nat.le_trans HA0.out.size hq.1, hq.2⟩); have HROW := HA1.out.row HPX.out hpb; clear g1 g2 h2 hk HC) | (refine wpList_store_row (o := ⟨none, Op.store _ _ _, _, _, _, _⟩) rfl _ _ _ rfl w.heap.size (t6 (y) A9 c9) rfl rfl _ _ HROW (t6_size _ _ _) rfl (t6_one _ _ _) ?_))
        obtain ⟨t1, t2, t3, t4⟩ := tree_back (x := y) (A := A9) (c := c9) (only_trans HGX.out HA1.out.grown) HROW (by rw [← HXZ.out]; exact HK9.out) HA1.out.st hBw
        exact bodyPost_ret (results_cell_row rfl _ _ w.heap.size _ _ _ _ rfl t4 Tryz.underlying198 rfl tree_size) rfl (PRes.okI HR.out t1 rfl ⟨A9, c9, rfl, t2⟩ t3)
      · rw [hE] at hR HC
        have HR := Lib.hid hR
        clear hR hop hat hE
        go_wp2_with (go_at_call 195; refine (HC.out _ HA0.out.st HA0.out.env).mono ?_; intro e w1 h2; obtain ⟨rfl, g2⟩ := h2.badE rfl; have HGB := Lib.hid (only_trans HA0.out.grown g2); clear g2 h2 HC)
        exact ⟨rfl, PRes.badI HR.out (only_trans HGX.out HGB.out) rfl⟩

end Go.Proofs.YtdabndiaflagpaaGreatDoor
