/- DERIVED. WireReads: what is said of both readers in a round of its loop. -/
import Derived.Test.YtclgblmhicabnaaAskedAll
namespace Go.Proofs.Ytclgblmhicabnaa
open Go.RowKit Crc Nums Rd

theorem Pair.later {H0 br bw : Nat} {s : St} {w w' : World} (hl : Tame.Later w w') (h : Pair H0 w br bw s) : Pair H0 w' br bw s := by
  obtain ⟨p, q, hp, hq, hbr, hbw, r1, r2, hR, hF⟩ := h
  exact ⟨p, q, hp, hq, hbr, hbw, r1.below hl r1.lt, r2.below hl r2.lt, hR.below hl hR.lt, hF.below hl hF.lt⟩
theorem Pair.one {H0 br bw : Nat} {s t : St} {w : World} (h : Pair H0 w br bw s) (k : Pair H0 w br bw t) : s.1.length = t.1.length ∧ s.2 = t.2 := by
  obtain ⟨p, q, _, _, _, _, r1, _, hR, _⟩ := h
  obtain ⟨p', q', _, _, _, _, r1', _, hR', _⟩ := k
  have e := (r1.same r1').1
  simp at e
  subst e
  obtain ⟨A, c, a1, _⟩ := hR
  obtain ⟨A', c', a1', _⟩ := hR'
  have e := (a1.same a1').1
  simp at e
  exact ⟨e.1.2.1, e.2⟩

def PL (H0 br bw : Nat) (v : Value) (w : World) : Prop := ∃ p s, v = .pointer (some ⟨p, 0, none⟩) ∧ RD w p s ∧ Pair H0 w br bw s
def PR (H0 br bw k : Nat) (v : Value) (w : World) : Prop := ∃ q s, v = .pointer (some ⟨q, k, none⟩) ∧ RF w q s ∧ Pair H0 w br bw s
def VS (H0 br bw : Nat) (f : St → Value) (v : Value) (w : World) : Prop := ∃ s, v = f s ∧ s.1.length ≤ 1099511627776 ∧ Pair H0 w br bw s
def lenV (s : St) : Value := .int .i64 s.1.length
def errV (s : St) : Value := .int .i64 s.2
def endV (s : St) : Value := .int .i64 (endOf s)
def strV (s : St) : Value := .string ⟨s.1.toArray⟩
theorem PL.later {H0 br bw : Nat} {v : Value} {w w' : World} (hl : Tame.Later w w') (h : PL H0 br bw v w) : PL H0 br bw v w' := by
  obtain ⟨p, s, hv, hR, hP⟩ := h
  exact ⟨p, s, hv, hR.below hl hR.lt, hP.later hl⟩
theorem PR.later {H0 br bw k : Nat} {v : Value} {w w' : World} (hl : Tame.Later w w') (h : PR H0 br bw k v w) : PR H0 br bw k v w' := by
  obtain ⟨p, s, hv, hR, hP⟩ := h
  exact ⟨p, s, hv, hR.below hl hR.lt, hP.later hl⟩
theorem VS.later {H0 br bw : Nat} {f : St → Value} {v : Value} {w w' : World} (hl : Tame.Later w w') (h : VS H0 br bw f v w) : VS H0 br bw f v w' := by
  obtain ⟨s, hv, hs, hP⟩ := h
  exact ⟨s, hv, hs, hP.later hl⟩

/-- What asked leaves. -/
def Asked (H0 br bw : Nat) (v : Value) (w : World) : Prop := v = .bool true ∧ ∃ s, Pair H0 w br bw s
theorem Asked.later {H0 br bw : Nat} {v : Value} {w w' : World} (hl : Tame.Later w w') (h : Asked H0 br bw v w) : Asked H0 br bw v w' := by
  obtain ⟨hv, s, hP⟩ := h
  exact ⟨hv, s, hP.later hl⟩
theorem Asked.left {H0 br bw : Nat} {v : Value} {w : World} (h : Asked H0 br bw v w) : ∃ p, w.cell? ⟨br, 0, none⟩ = some (.pointer (some ⟨p, 0, none⟩)) ∧ PL H0 br bw (.pointer (some ⟨p, 0, none⟩)) w := by
  obtain ⟨_, s, hP⟩ := h
  have hP' := hP
  obtain ⟨p, q, _, _, _, _, r1, _, hR, _⟩ := hP'
  exact ⟨p, by rw [r1.cell]; rfl, p, s, rfl, hR, hP⟩
theorem Asked.right {H0 br bw : Nat} {v : Value} {w : World} (h : Asked H0 br bw v w) : ∃ q, w.cell? ⟨bw, 0, none⟩ = some (.pointer (some ⟨q, 0, none⟩)) ∧ PR H0 br bw 0 (.pointer (some ⟨q, 0, none⟩)) w := by
  obtain ⟨_, s, hP⟩ := h
  have hP' := hP
  obtain ⟨p, q, _, _, _, _, _, r2, _, hF⟩ := hP'
  exact ⟨q, by rw [r2.cell]; rfl, q, s, rfl, hF, hP⟩
theorem PR.str {H0 br bw : Nat} {v : Value} {w : World} (h : PR H0 br bw 0 v w) : ∃ q S, v = .pointer (some ⟨q, 0, none⟩) ∧ w.cell? ⟨q, 0, none⟩ = some (.string S) ∧ VS H0 br bw strV (.string S) w := by
  obtain ⟨q, s, hv, hF, hP⟩ := h
  exact ⟨q, ⟨s.1.toArray⟩, hv, by rw [hF.1.cell]; rfl, s, rfl, hF.2.1, hP⟩
theorem PR.err {H0 br bw : Nat} {v : Value} {w : World} (h : PR H0 br bw 1 v w) : ∃ q e, v = .pointer (some ⟨q, 1, none⟩) ∧ w.cell? ⟨q, 1, none⟩ = some (.int .i64 e) ∧ VS H0 br bw errV (.int .i64 e) w := by
  obtain ⟨q, s, hv, hF, hP⟩ := h
  exact ⟨q, s.2, hv, by rw [hF.1.cell]; rfl, s, rfl, hF.2.1, hP⟩
theorem PR.field {H0 br bw : Nat} {v : Value} {w : World} (k : Nat) (h : PR H0 br bw 0 v w) : ∃ q, v = .pointer (some ⟨q, 0, none⟩) ∧ PR H0 br bw k (.pointer (some ⟨q, k, none⟩)) w := by
  obtain ⟨q, s, hv, hF, hP⟩ := h
  exact ⟨q, hv, q, s, rfl, hF, hP⟩
theorem VS.len {H0 br bw : Nat} {v : Value} {w : World} (h : VS H0 br bw strV v w) : ∃ S : ByteArray, v = .string S ∧ S.size ≤ 1099511627776 ∧ VS H0 br bw lenV (.int .i64 S.size) w := by
  obtain ⟨s, hv, hs, hP⟩ := h
  exact ⟨_, hv, hs, s, rfl, hs, hP⟩
theorem VS.same {H0 br bw : Nat} {f : St → Value} {g : St → Int} {v v' : Value} {w : World} (hf : ∀ s, f s = .int .i64 (g s)) (hg : ∀ s t : St, s.1.length = t.1.length → s.2 = t.2 → g s = g t) (h : VS H0 br bw f v w) (k : VS H0 br bw f v' w) : ∃ x, v = .int .i64 x ∧ v' = .int .i64 x := by
  obtain ⟨s, hv, _, hP⟩ := h
  obtain ⟨t, hv', _, hP'⟩ := k
  obtain ⟨e1, e2⟩ := hP.one hP'
  exact ⟨g s, hv.trans (hf s), by rw [hv', hf t, hg s t e1 e2]⟩
theorem VS.sameLen {H0 br bw : Nat} {v v' : Value} {w : World} (h : VS H0 br bw lenV v w) (k : VS H0 br bw lenV v' w) : ∃ x, v = .int .i64 x ∧ v' = .int .i64 x :=
  VS.same (g := fun s => s.1.length) (fun _ => rfl) (fun s t h1 _ => by show (s.1.length : Int) = t.1.length; rw [h1]) h k
theorem VS.sameErr {H0 br bw : Nat} {v v' : Value} {w : World} (h : VS H0 br bw errV v w) (k : VS H0 br bw errV v' w) : ∃ x, v = .int .i64 x ∧ v' = .int .i64 x :=
  VS.same (g := fun s => s.2) (fun _ => rfl) (fun _ _ _ h2 => h2) h k
theorem VS.sameEnd {H0 br bw : Nat} {v v' : Value} {w : World} (h : VS H0 br bw endV v w) (k : VS H0 br bw endV v' w) : ∃ x, v = .int .i64 x ∧ v' = .int .i64 x :=
  VS.same (g := endOf) (fun _ => rfl) (fun s t h1 h2 => by unfold endOf; rw [h1, h2]) h k
theorem Pair.small {H0 br bw : Nat} {s : St} {w : World} (h : Pair H0 w br bw s) : s.1.length ≤ 1099511627776 := by
  obtain ⟨p, q, _, _, _, _, _, _, _, hF⟩ := h
  exact hF.2.1

theorem left_said {H0 br bw : Nat} {v : Value} {w : World} (h : PL H0 br bw v w) : ∃ p, v = .pointer (some ⟨p, 0, none⟩) ∧ Calls Try.prog 23 #[.pointer (some ⟨p, 0, none⟩)] w (fun e w' => ∃ v, e = .returned v ∧ Tame.Has Tame.Later w (VS H0 br bw lenV) v w') := by
  obtain ⟨p, s, hv, hR, hP⟩ := h
  exact ⟨p, hv, (Left_any p s w hR).mono fun e w' ⟨he, hw⟩ => ⟨_, he, by subst hw; exact Tame.Later.refl _, by subst hw; exact ⟨s, rfl, hP.small, hP⟩⟩⟩
theorem err_said {H0 br bw : Nat} {v : Value} {w : World} (h : PL H0 br bw v w) : ∃ p, v = .pointer (some ⟨p, 0, none⟩) ∧ Calls Try.prog 24 #[.pointer (some ⟨p, 0, none⟩)] w (fun e w' => ∃ v, e = .returned v ∧ Tame.Has Tame.Later w (VS H0 br bw errV) v w') := by
  obtain ⟨p, s, hv, hR, hP⟩ := h
  exact ⟨p, hv, (Err_any p s w hR).mono fun e w' ⟨he, hw⟩ => ⟨_, he, by subst hw; exact Tame.Later.refl _, by subst hw; exact ⟨s, rfl, hP.small, hP⟩⟩⟩
theorem end_said {H0 br bw : Nat} {v : Value} {w : World} (h : PL H0 br bw v w) : ∃ p, v = .pointer (some ⟨p, 0, none⟩) ∧ Calls Try.prog 25 #[.pointer (some ⟨p, 0, none⟩)] w (fun e w' => ∃ v, e = .returned v ∧ Tame.Has Tame.Later w (VS H0 br bw endV) v w') := by
  obtain ⟨p, s, hv, hR, hP⟩ := h
  exact ⟨p, hv, (End_any p s w hR).mono fun e w' ⟨he, hw⟩ => ⟨_, he, by subst hw; exact Tame.Later.refl _, by subst hw; exact ⟨s, rfl, hP.small, hP⟩⟩⟩
theorem refEnd_said {H0 br bw : Nat} {v : Value} {w : World} (h : PR H0 br bw 0 v w) : ∃ p, v = .pointer (some ⟨p, 0, none⟩) ∧ Calls Try.prog 26 #[.pointer (some ⟨p, 0, none⟩)] w (fun e w' => ∃ v, e = .returned v ∧ Tame.Has Tame.Later w (VS H0 br bw endV) v w') := by
  obtain ⟨p, s, hv, hF, hP⟩ := h
  exact ⟨p, hv, (refEnd_any p s w hF).mono fun e w' ⟨he, hw⟩ => ⟨_, he, by subst hw; exact Tame.Later.refl _, by subst hw; exact ⟨s, rfl, hP.small, hP⟩⟩⟩

/-- What was laid before the loop is kept by what asked turns. -/
def After (H0 : Nat) (_ : Nat) (x y : World) : Prop := H0 ≤ x.heap.size → Below H0 x y
theorem After.refl (H0 j : Nat) (w : World) : After H0 j w w := fun _ => Below.refl _ _
def ghosts7 (H0 : Nat) (W : World) (br bw p : Nat) (s : St) : List Tame.Ghost :=
  [⟨Since H0 W, [7]⟩, ⟨fun w => Pair H0 w br bw s, []⟩, ⟨IsRow40 br p, []⟩]
theorem ghosts7_ok {H0 br bw p : Nat} {s : St} {W w : World} (hB : Since H0 W w) (hP : Pair H0 w br bw s) (hr : IsRow40 br p w) :
    ∀ (k : Nat) (g : Tame.Ghost), (ghosts7 H0 W br bw p s)[k]? = some g → g.g w.drew ∧ (∀ w w', Tame.Later w w' → g.g w → g.g w') ∧
      ∀ j, [7].contains j = true → g.keeps.contains j = true → ∀ w w', After H0 j w w' → g.g w → g.g w' := by
  have hdr : Tame.Later w w.drew := (Below.refl _ _).drew
  intro k g hk
  rcases k with _ | _ | _ | k
  · obtain rfl : (⟨Since H0 W, [7]⟩ : Tame.Ghost) = g := by simpa [ghosts7] using hk
    exact ⟨hB.later hdr, fun _ _ hl h => h.later hl, fun j _ _ w w' hs h => ⟨h.1.trans (hs h.2), Nat.le_trans h.2 (hs h.2).size⟩⟩
  · obtain rfl : (⟨fun w => Pair H0 w br bw s, []⟩ : Tame.Ghost) = g := by simpa [ghosts7] using hk
    exact ⟨hP.later hdr, fun _ _ hl h => Pair.later hl h, fun j _ hj => by cases hj⟩
  · obtain rfl : (⟨IsRow40 br p, []⟩ : Tame.Ghost) = g := by simpa [ghosts7] using hk
    exact ⟨Row.below hr hdr hr.lt, fun _ _ hl h => Row.below h hl h.lt, fun j _ hj => by cases hj⟩
  · simp [ghosts7] at hk

/-- What is asked, as cells. -/
def asksV : List (Nat × Nat) → List Value
  | [] => []
  | a :: l => .int .u8 (a.1 : Int) :: .int .u64 (a.2 : Int) :: asksV l
theorem asksV_get (l : List (Nat × Nat)) : ∀ (k : Nat) (h : k < l.length), (asksV l)[2 * k]? = some (.int .u8 (l[k].1 : Nat)) ∧ (asksV l)[2 * k + 1]? = some (.int .u64 (l[k].2 : Nat)) := by
  induction l with
  | nil => intro k h; simp at h
  | cons a l ih =>
    intro k h
    cases k with
    | zero => simp [asksV]
    | succ k =>
      have := ih k (by simpa using h)
      rw [show 2 * (k + 1) = 2 * k + 1 + 1 by omega]
      simpa [asksV] using this

end Go.Proofs.Ytclgblmhicabnaa
