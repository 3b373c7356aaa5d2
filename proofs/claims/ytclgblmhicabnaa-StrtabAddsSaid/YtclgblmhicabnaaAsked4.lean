/- DERIVED. The walk of asked: both readers side by side. -/
import Derived.Test.YtclgblmhicabnaaAsked3
namespace Go.Proofs.Ytclgblmhicabnaa
open Go.RowKit Crc Nums Rd
attribute [local go_sem] Tame.Op Tame.upon

/-- Block k, of type t, is turned, or nothing is. -/
def Turn (k t : Nat) (x y : World) : Prop := x = y ∨ (Only k x y ∧ ∃ cs, Row x k t cs ∧ (t ≠ 84 → ∀ (i : Nat) (u : Int), cs[i]? ≠ some (.int .u8 u)))
theorem Turn.of_rd {p : Nat} {s : St} {x y : World} (h : RD x p s) (hg : Only p x y) : Turn p 84 x y := by
  obtain ⟨A, c, hr, _⟩ := h
  exact .inr ⟨hg, _, hr, fun h => absurd rfl h⟩
theorem Turn.of_rf {q : Nat} {s : St} {x y : World} (h : RF x q s) (hg : Only q x y) : Turn q 44 x y := by
  refine .inr ⟨hg, _, h.1, fun _ i u => ?_⟩
  rcases i with _ | _ | i <;> simp
theorem Turn.of_ptr {k t : Nat} {a : Option Addr} {x y : World} (h : Row x k t #[.pointer a]) (hg : Only k x y) : Turn k t x y := by
  refine .inr ⟨hg, _, h, fun _ i u => ?_⟩
  rcases i with _ | i <;> simp
theorem Row.turn {k t t' g : Nat} {cs : Array Value} {x y : World} (ht : t' ≠ t) (hs : Turn k t x y) (h : Row x g t' cs) : Row y g t' cs := by
  rcases hs with rfl | ⟨hg, cs', hr, _⟩
  · exact h
  · refine h.grown hg ?_
    have : g ≠ k := by
      rintro rfl
      exact ht (h.same hr).2
    simp
    omega
theorem RF.turn {k t q : Nat} {s : St} {x y : World} (ht : 44 ≠ t) (hs : Turn k t x y) (h : RF x q s) : RF y q s := ⟨Row.turn ht hs h.1, h.2⟩
theorem RD.turn {k t p : Nat} {s : St} {x y : World} (ht : 84 ≠ t) (hs : Turn k t x y) (h : RD x p s) : RD y p s := by
  rcases hs with rfl | ⟨hg, cs, hr, hno⟩
  · exact h
  · obtain ⟨A, c, hrow, hl, rest⟩ := h
    have hlt := hrow.lt
    have hrow' : Row y p 84 #[.slice A s.1.length c, .int .i64 s.2] := Row.turn ht (.inr ⟨hg, cs, hr, hno⟩) hrow
    refine ⟨A, c, hrow', fun hn => ?_, rest⟩
    obtain ⟨b, off, e, hb, hc⟩ := hl hn
    refine ⟨b, off, e, hb, fun j u hu => ?_⟩
    have hbk : b ≠ k := by
      rintro rfl
      have h1 := hc j u hu
      rw [hr.cell] at h1
      have hj : j < s.1.length := by
        rcases Nat.lt_or_ge j s.1.length with h' | h'
        · exact h'
        · rw [List.getElem?_eq_none (by rw [bytesV_length]; exact h')] at hu; cases hu
      rw [bytesV_get _ j hj] at hu
      injection hu with hu
      subst hu
      exact hno (fun h => ht h.symm) _ _ h1
    rw [World.cell?_of_block (hg.block b (by omega) (by simp; omega))]
    exact hc j u hu
theorem Since.turn {H0 k t : Nat} {W x y : World} (hk : H0 ≤ k) (hs : Turn k t x y) (h : Since H0 W x) : Since H0 W y := by
  rcases hs with rfl | ⟨hg, _⟩
  · exact h
  · exact h.only hg hk

def Turns (br bw p q : Nat) (j : Nat) : World → World → Prop := if j = 8 then Turn p 84 else if j = 15 then Turn q 44 else if j = 17 then Turn br 40 else Turn bw 42
theorem Turns.refl (br bw p q j : Nat) (w : World) : Turns br bw p q j w w := by
  unfold Turns
  repeat (first | exact .inl rfl | split)

def IsRow40 (br p : Nat) (w : World) : Prop := Row w br 40 #[.pointer (some ⟨p, 0, none⟩)]
def IsRow42 (bw q : Nat) (w : World) : Prop := Row w bw 42 #[.pointer (some ⟨q, 0, none⟩)]
def IsRow49 (A d m : Nat) (w : World) : Prop := Row w A 49 #[.int .u8 d, .int .u64 m]
def IsRD (p : Nat) (s : St) (w : World) : Prop := RD w p s
def IsRF (q : Nat) (s : St) (w : World) : Prop := RF w q s

def ghosts5 (H0 : Nat) (W : World) (br bw A p q d m : Nat) (s : St) : List Tame.Ghost :=
  [⟨IsRow40 br p, [8, 15, 19]⟩, ⟨IsRow42 bw q, [8, 15, 17]⟩, ⟨IsRow49 A d m, [8, 15, 17, 19]⟩, ⟨IsRD p s, [15, 17, 19]⟩, ⟨IsRF q s, [8, 17, 19]⟩, ⟨Since H0 W, [8, 15, 17, 19]⟩]

theorem four_of {j : Nat} (h : [8, 15, 17, 19].contains j = true) : j = 8 ∨ j = 15 ∨ j = 17 ∨ j = 19 := by simpa using h
theorem three_of {a b c j : Nat} (h : [a, b, c].contains j = true) : j = a ∨ j = b ∨ j = c := by simpa using h

theorem Turns.t8 {br bw p q : Nat} {x y : World} (h : Turns br bw p q 8 x y) : Turn p 84 x y := h
theorem Turns.t15 {br bw p q : Nat} {x y : World} (h : Turns br bw p q 15 x y) : Turn q 44 x y := h
theorem Turns.t17 {br bw p q : Nat} {x y : World} (h : Turns br bw p q 17 x y) : Turn br 40 x y := h
theorem Turns.t19 {br bw p q : Nat} {x y : World} (h : Turns br bw p q 19 x y) : Turn bw 42 x y := h

theorem ghosts5_ok {H0 : Nat} {W : World} {br bw A p q d m : Nat} {s : St} {w : World} (hp : H0 ≤ p) (hq : H0 ≤ q) (hbr : H0 ≤ br) (hbw : H0 ≤ bw)
    (h0 : IsRow40 br p w) (h1 : IsRow42 bw q w) (h2 : IsRow49 A d m w) (h3 : IsRD p s w) (h4 : IsRF q s w) (hB : Since H0 W w) :
    ∀ (k : Nat) (g : Tame.Ghost), (ghosts5 H0 W br bw A p q d m s)[k]? = some g → g.g w.drew ∧ (∀ w w', Tame.Later w w' → g.g w → g.g w') ∧
      ∀ j, [8, 15, 17, 19].contains j = true → g.keeps.contains j = true → ∀ w w', Turns br bw p q j w w' → g.g w → g.g w' := by
  have hdr : Tame.Later w w.drew := (Below.refl _ _).drew
  intro k g hk
  rcases k with _ | _ | _ | _ | _ | _ | k
  · obtain rfl : (⟨IsRow40 br p, [8, 15, 19]⟩ : Tame.Ghost) = g := by simpa [ghosts5] using hk
    refine ⟨Row.below h0 hdr h0.lt, fun _ _ hl h => Row.below h hl h.lt, fun j _ hj w w' hs h => ?_⟩
    rcases three_of hj with rfl | rfl | rfl
    · exact Row.turn (by decide) hs.t8 h
    · exact Row.turn (by decide) hs.t15 h
    · exact Row.turn (by decide) hs.t19 h
  · obtain rfl : (⟨IsRow42 bw q, [8, 15, 17]⟩ : Tame.Ghost) = g := by simpa [ghosts5] using hk
    refine ⟨Row.below h1 hdr h1.lt, fun _ _ hl h => Row.below h hl h.lt, fun j _ hj w w' hs h => ?_⟩
    rcases three_of hj with rfl | rfl | rfl
    · exact Row.turn (by decide) hs.t8 h
    · exact Row.turn (by decide) hs.t15 h
    · exact Row.turn (by decide) hs.t17 h
  · obtain rfl : (⟨IsRow49 A d m, [8, 15, 17, 19]⟩ : Tame.Ghost) = g := by simpa [ghosts5] using hk
    refine ⟨Row.below h2 hdr h2.lt, fun _ _ hl h => Row.below h hl h.lt, fun j _ hj w w' hs h => ?_⟩
    rcases four_of hj with rfl | rfl | rfl | rfl
    · exact Row.turn (by decide) hs.t8 h
    · exact Row.turn (by decide) hs.t15 h
    · exact Row.turn (by decide) hs.t17 h
    · exact Row.turn (by decide) hs.t19 h
  · obtain rfl : (⟨IsRD p s, [15, 17, 19]⟩ : Tame.Ghost) = g := by simpa [ghosts5] using hk
    refine ⟨RD.below h3 hdr h3.lt, fun _ _ hl h => RD.below h hl h.lt, fun j _ hj w w' hs h => ?_⟩
    rcases three_of hj with rfl | rfl | rfl
    · exact RD.turn (by decide) hs.t15 h
    · exact RD.turn (by decide) hs.t17 h
    · exact RD.turn (by decide) hs.t19 h
  · obtain rfl : (⟨IsRF q s, [8, 17, 19]⟩ : Tame.Ghost) = g := by simpa [ghosts5] using hk
    refine ⟨RF.below h4 hdr h4.lt, fun _ _ hl h => RF.below h hl h.lt, fun j _ hj w w' hs h => ?_⟩
    rcases three_of hj with rfl | rfl | rfl
    · exact RF.turn (by decide) hs.t8 h
    · exact RF.turn (by decide) hs.t17 h
    · exact RF.turn (by decide) hs.t19 h
  · obtain rfl : (⟨Since H0 W, [8, 15, 17, 19]⟩ : Tame.Ghost) = g := by simpa [ghosts5] using hk
    refine ⟨hB.later hdr, fun _ _ hl h => h.later hl, fun j _ hj w w' hs h => ?_⟩
    rcases four_of hj with rfl | rfl | rfl | rfl
    · exact Since.turn hp hs.t8 h
    · exact Since.turn hq hs.t15 h
    · exact Since.turn hbr hs.t17 h
    · exact Since.turn hbw hs.t19 h
  · simp [ghosts5] at hk

def NewL (H0 : Nat) (n : St) (v : Value) (w : World) : Prop := ∃ p, v = .pointer (some ⟨p, 0, none⟩) ∧ H0 ≤ p ∧ RD w p n
def NewR (H0 : Nat) (n : St) (v : Value) (w : World) : Prop := ∃ q, v = .pointer (some ⟨q, 0, none⟩) ∧ H0 ≤ q ∧ RF w q n
def LaidL (H0 br : Nat) (n : St) (_ : Value) (w : World) : Prop := ∃ p, Row w br 40 #[.pointer (some ⟨p, 0, none⟩)] ∧ H0 ≤ p ∧ RD w p n
def LaidR (H0 bw : Nat) (n : St) (_ : Value) (w : World) : Prop := ∃ q, Row w bw 42 #[.pointer (some ⟨q, 0, none⟩)] ∧ H0 ≤ q ∧ RF w q n

theorem NewL.later {H0 : Nat} {n : St} {v : Value} {w w' : World} (hl : Tame.Later w w') (h : NewL H0 n v w) : NewL H0 n v w' := by
  obtain ⟨p, hv, hp, hr⟩ := h
  exact ⟨p, hv, hp, hr.below hl hr.lt⟩
theorem NewR.later {H0 : Nat} {n : St} {v : Value} {w w' : World} (hl : Tame.Later w w') (h : NewR H0 n v w) : NewR H0 n v w' := by
  obtain ⟨p, hv, hp, hr⟩ := h
  exact ⟨p, hv, hp, hr.below hl hr.lt⟩
theorem LaidL.later {H0 br : Nat} {n : St} {v : Value} {w w' : World} (hl : Tame.Later w w') (h : LaidL H0 br n v w) : LaidL H0 br n v w' := by
  obtain ⟨p, hv, hp, hr⟩ := h
  exact ⟨p, hv.below hl hv.lt, hp, hr.below hl hr.lt⟩
theorem LaidR.later {H0 bw : Nat} {n : St} {v : Value} {w w' : World} (hl : Tame.Later w w') (h : LaidR H0 bw n v w) : LaidR H0 bw n v w' := by
  obtain ⟨p, hv, hp, hr⟩ := h
  exact ⟨p, hv.below hl hv.lt, hp, hr.below hl hr.lt⟩
theorem NewL.spared {br bw p q H0 : Nat} {n : St} {v : Value} {w w' : World} {j : Nat} (hj : [15, 17, 19].contains j = true) (hs : Turns br bw p q j w w') (h : NewL H0 n v w) : NewL H0 n v w' := by
  obtain ⟨x, hv, hx, hr⟩ := h
  refine ⟨x, hv, hx, ?_⟩
  rcases three_of hj with rfl | rfl | rfl
  · exact RD.turn (by decide) hs.t15 hr
  · exact RD.turn (by decide) hs.t17 hr
  · exact RD.turn (by decide) hs.t19 hr
theorem NewR.spared {br bw p q H0 : Nat} {n : St} {v : Value} {w w' : World} {j : Nat} (hj : [8, 17, 19].contains j = true) (hs : Turns br bw p q j w w') (h : NewR H0 n v w) : NewR H0 n v w' := by
  obtain ⟨x, hv, hx, hr⟩ := h
  refine ⟨x, hv, hx, ?_⟩
  rcases three_of hj with rfl | rfl | rfl
  · exact RF.turn (by decide) hs.t8 hr
  · exact RF.turn (by decide) hs.t17 hr
  · exact RF.turn (by decide) hs.t19 hr
theorem LaidL.spared {br bw p q H0 : Nat} {n : St} {v : Value} {w w' : World} {j : Nat} (hj : [15, 19].contains j = true) (hs : Turns br bw p q j w w') (h : LaidL H0 br n v w) : LaidL H0 br n v w' := by
  obtain ⟨x, hv, hx, hr⟩ := h
  rcases two_of hj with rfl | rfl
  · exact ⟨x, Row.turn (by decide) hs.t15 hv, hx, RD.turn (by decide) hs.t15 hr⟩
  · exact ⟨x, Row.turn (by decide) hs.t19 hv, hx, RD.turn (by decide) hs.t19 hr⟩
theorem LaidR.spared {br bw p q H0 : Nat} {n : St} {v : Value} {w w' : World} {j : Nat} (hj : [8, 17].contains j = true) (hs : Turns br bw p q j w w') (h : LaidR H0 bw n v w) : LaidR H0 bw n v w' := by
  obtain ⟨x, hv, hx, hr⟩ := h
  rcases two_of hj with rfl | rfl
  · exact ⟨x, Row.turn (by decide) hs.t8 hv, hx, RF.turn (by decide) hs.t8 hr⟩
  · exact ⟨x, Row.turn (by decide) hs.t17 hv, hx, RF.turn (by decide) hs.t17 hr⟩

set_option maxRecDepth 100000 in
set_option maxHeartbeats 8000000 in
theorem asked_5 (H0 br bw d m : Nat) (s : St) (w : World) (h : Pair H0 w br bw s) (hd : d < 256) (h0 : H0 ≤ w.heap.size) (hk : d % 7 = 5) :
    Calls Try.prog 22 #[.pointer (some ⟨br, 0, none⟩), .pointer (some ⟨bw, 0, none⟩), .agg #[.int .u8 d, .int .u64 m]] w fun e w' => e = .returned (.bool true) ∧ (∃ s', Pair H0 w' br bw s') ∧ Below H0 w w' := by
  obtain ⟨p, q, hp, hq, hbr, hbw, r1, r2, hR, hF⟩ := h
  have t0 : (((d : Int) % 7) == 0) = false := beq_eq_false_iff_ne.2 (by omega)
  have t1 : (((d : Int) % 7) == 1) = false := beq_eq_false_iff_ne.2 (by omega)
  have t2 : (((d : Int) % 7) == 2) = false := beq_eq_false_iff_ne.2 (by omega)
  have t3 : (((d : Int) % 7) == 3) = false := beq_eq_false_iff_ne.2 (by omega)
  have t4 : (((d : Int) % 7) == 4) = false := beq_eq_false_iff_ne.2 (by omega)
  have t5 : (((d : Int) % 7) == 5) = true := by rw [beq_iff_eq]; omega
  obtain ⟨id, hid⟩ : ∃ id : UInt8, id = UInt8.ofNat (m % 256) := ⟨_, rfl⟩
  have hidn : id.toNat = m % 256 := by rw [hid]; exact UInt8.toNat_ofNat_of_lt' (by show m % 256 < 256; omega)
  have e1 : IntKind.u8.wrap (m : Int) = (id.toNat : Int) := by rw [IntKind.wrap_u8']; omega
  obtain ⟨n, hn⟩ : ∃ n, n = secS id.toNat s := ⟨_, rfl⟩
  have CL : Hid (∀ W, RD W p s → Calls Try.prog 27 #[.pointer (some ⟨p, 0, none⟩), .int .u8 id.toNat] W (Sectioned W p n (sec3 id.toNat s))) := fun W h => by rw [hn]; exact Section_any p id s W h
  have CR : Hid (∀ W, RF W q s → Calls Try.prog 50 #[.pointer (some ⟨q, 0, none⟩), .int .u8 id.toNat] W (RSect W q n (sec3 id.toNat s))) := fun W h => by rw [hn]; exact refSection_any q id s W h
  have hl : Tame.Later w (w.alloc (.cells #[.int .u8 d, .int .u64 m] 49)) := (Below.refl _ _).alloc (Nat.le_refl _) _
  have W1 : Hid (IsRow40 br p (w.alloc (.cells #[.int .u8 d, .int .u64 m] 49))) := Lib.hid (r1.alloc _)
  have W2 : Hid (IsRow42 bw q (w.alloc (.cells #[.int .u8 d, .int .u64 m] 49))) := Lib.hid (r2.alloc _)
  have W3 : Hid (IsRow49 w.heap.size d m (w.alloc (.cells #[.int .u8 d, .int .u64 m] 49))) := Lib.hid (Row.made w 49 _)
  have W4 : Hid (IsRD p s (w.alloc (.cells #[.int .u8 d, .int .u64 m] 49))) := Lib.hid (hR.below hl hR.lt)
  have W5 : Hid (IsRF q s (w.alloc (.cells #[.int .u8 d, .int .u64 m] 49))) := Lib.hid (hF.below hl hF.lt)
  have W6 : Hid (Since H0 w (w.alloc (.cells #[.int .u8 d, .int .u64 m] 49))) := Lib.hid (Since.later hl ⟨Below.refl _ _, h0⟩)
  clear r1 r2 hR hF hn hk hl hid hidn
  go_enter Try.func22, Try.ntmps22
  go_wp2_with fail
  refine Tame.wp_region_tamg (L := Tame.Later) (M := Turns br bw p q) (gs := ghosts5 H0 w br bw w.heap.size p q d m s) [8, 15, 17, 19] (by kernel_rfl) (by kernel_rfl) Tame.Later.refl (Turns.refl br bw p q) (ghosts5_ok hp hq hbr hbw W1.out W2.out W3.out W4.out W5.out W6.out) ?_
  repeat
    ((first
      | (refine Tame.walk3_known (o := ⟨some 82, _, _, _, _, _⟩) (by kernel_rfl) (fun _ => rfl) ?_; apply Exists.intro; refine ⟨fun vals w2 hG hd => ?_, ?_⟩; (focus (have hv := Row.cell (hG 0 _ rfl (by kernel_rfl) : IsRow40 br p w2) 0; clear hG hd; simp at hv; go_simp; exact Tame.Is.mk (Tame.Later.refl _))))
      | (refine Tame.walk3_known (o := ⟨some 89, _, _, _, _, _⟩) (by kernel_rfl) (fun _ => rfl) ?_; apply Exists.intro; refine ⟨fun vals w2 hG hd => ?_, ?_⟩; (focus (have hv := Row.cell (hG 1 _ rfl (by kernel_rfl) : IsRow42 bw q w2) 0; clear hG hd; simp at hv; go_simp; exact Tame.Is.mk (Tame.Later.refl _))))
      | (refine Tame.walk3_known (o := ⟨some 84, _, _, _, _, _⟩) (by kernel_rfl) (fun _ => rfl) ?_; apply Exists.intro; refine ⟨fun vals w2 hG hd => ?_, ?_⟩; (focus (have hv := Row.cell (hG 2 _ rfl (by kernel_rfl) : IsRow49 w.heap.size d m w2) 1; clear hG hd; simp at hv; go_simp; exact Tame.Is.mk (Tame.Later.refl _))))
      | (refine Tame.walk3_known (o := ⟨some 91, _, _, _, _, _⟩) (by kernel_rfl) (fun _ => rfl) ?_; apply Exists.intro; refine ⟨fun vals w2 hG hd => ?_, ?_⟩; (focus (have hv := Row.cell (hG 2 _ rfl (by kernel_rfl) : IsRow49 w.heap.size d m w2) 1; clear hG hd; simp at hv; go_simp; exact Tame.Is.mk (Tame.Later.refl _))))
      | (refine Tame.walk3_write (o := ⟨some 86, _, _, _, _, _⟩) (NewL H0 n) (none) ([15, 17, 19]) (fun _ => rfl) (by kernel_rfl) (by kernel_rfl) (fun v w w' hl h => h.later hl) (fun j _ hj v w w' hs h => h.spared hj hs) (fun vals w2 hG hd => ?_) ?_; (focus (have h1 := Lib.hid (hG 3 _ rfl (by kernel_rfl) : IsRD p s w2); have h2 := Lib.hid (hG 5 _ rfl (by kernel_rfl) : Since H0 w w2); clear hG hd; have HC := Lib.hid (CL.out w2 h1.out); go_simp; exact HC.out.mono fun e w' ⟨x, he, hge, hr, _, hg⟩ => ⟨_, he, Turn.of_rd h1.out hg, x, rfl, Nat.le_trans h2.out.2 hge, hr⟩)))
      | (refine Tame.walk3_write (o := ⟨some 93, _, _, _, _, _⟩) (NewR H0 n) (none) ([8, 17, 19]) (fun _ => rfl) (by kernel_rfl) (by kernel_rfl) (fun v w w' hl h => h.later hl) (fun j _ hj v w w' hs h => h.spared hj hs) (fun vals w2 hG hd => ?_) ?_; (focus (have h1 := Lib.hid (hG 4 _ rfl (by kernel_rfl) : IsRF q s w2); have h2 := Lib.hid (hG 5 _ rfl (by kernel_rfl) : Since H0 w w2); clear hG hd; have HC := Lib.hid (CR.out w2 h1.out); go_simp; exact HC.out.mono fun e w' ⟨x, he, hge, hr, _, hg⟩ => ⟨_, he, Turn.of_rf h1.out hg, x, rfl, Nat.le_trans h2.out.2 hge, hr⟩)))
      | (refine Tame.walk3_write (o := ⟨none, Op.store 40 _ _, _, _, _, _⟩) (LaidL H0 br n) none ([15, 19]) (fun _ => rfl) (by kernel_rfl) (by kernel_rfl) (fun v w w' hl h => h.later hl) (fun j _ hj v w w' hs h => h.spared hj hs) (fun vals w2 hG hd => ?_) ?_; (focus (have h1 := Lib.hid (hG 0 _ rfl (by kernel_rfl) : IsRow40 br p w2); have h2 := (hd 8 _ rfl (by kernel_rfl) rfl : NewL H0 n (vals 8) w2); clear hG hd; obtain ⟨x, hv, hx, hr⟩ := h2; have HR := Lib.hid hr; have c0 := Row.cell h1.out 0; have f0 := Row.free h1.out 0; simp at c0; clear hr; go_simp; exact Tame.Leaves.mk (Turn.of_ptr h1.out (only_set (only_refl _ _) _ _)) ⟨x, Row.set h1.out 0 _, hx, RD.turn (by decide) (Turn.of_ptr h1.out (only_set (only_refl _ _) _ _)) HR.out⟩)))
      | (refine Tame.walk3_write (o := ⟨none, Op.store 42 _ _, _, _, _, _⟩) (LaidR H0 bw n) none ([8, 17]) (fun _ => rfl) (by kernel_rfl) (by kernel_rfl) (fun v w w' hl h => h.later hl) (fun j _ hj v w w' hs h => h.spared hj hs) (fun vals w2 hG hd => ?_) ?_; (focus (have h1 := Lib.hid (hG 1 _ rfl (by kernel_rfl) : IsRow42 bw q w2); have h2 := (hd 15 _ rfl (by kernel_rfl) rfl : NewR H0 n (vals 15) w2); clear hG hd; obtain ⟨x, hv, hx, hr⟩ := h2; have HR := Lib.hid hr; have c0 := Row.cell h1.out 0; have f0 := Row.free h1.out 0; simp at c0; clear hr; go_simp; exact Tame.Leaves.mk (Turn.of_ptr h1.out (only_set (only_refl _ _) _ _)) ⟨x, Row.set h1.out 0 _, hx, RF.turn (by decide) (Turn.of_ptr h1.out (only_set (only_refl _ _) _ _)) HR.out⟩)))
      | (refine Tame.walk3_known (by kernel_rfl) (fun _ => rfl) ?_; apply Exists.intro; refine ⟨fun vals w2 hG hd => ?_, ?_⟩; (focus (go_simp; first | exact Tame.Is.mk (Tame.Later.refl _) | (rw [if_neg]; (focus exact Tame.Is.mk (Tame.Later.refl _)); omega)))))
     simp only [Act.put, List.setIfInBounds_toArray, List.set_cons_zero, List.set_cons_succ, List.nil_append, List.cons_append, List.length_cons, List.length_nil, Nat.zero_add, Nat.reduceAdd])
  refine Tame.walk3_end fun vals w2 hG hts => ?_
  have f1 : LaidL H0 br n (vals 17) w2 := hts 17 _ rfl rfl
  have f2 : LaidR H0 bw n (vals 19) w2 := hts 19 _ rfl rfl
  have f4 : Since H0 w w2 := hG 5 _ rfl (by kernel_rfl)
  obtain ⟨p2, g1, g2, g3⟩ := f1
  obtain ⟨q2, k1, k2, k3⟩ := f2
  have HP : Hid (Pair H0 w2 br bw n) := Lib.hid ⟨p2, q2, g2, k2, hbr, hbw, g1, k1, g3, k3⟩
  have HB := Lib.hid f4.1
  clear g1 g2 g3 k1 k2 k3 f4 hts hG
  go_wp2_with fail
  go_ret
  exact ⟨rfl, ⟨_, HP.out⟩, HB.out⟩

end Go.Proofs.Ytclgblmhicabnaa
