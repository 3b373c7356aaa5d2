/- DERIVED. What the chapter's examples say. -/
import Derived.Test.YtmbdnifehgdjeaaDoorRight
namespace Go.Proofs.YtmbdnifehgdjeaaDoor
open Go.RowKit

def oneX : X := .mk 0 0 1 [] []
def sumX : X := .mk 4 11 0 [] [oneX, oneX]
theorem sumX_right : rightB sumX = true := by
  have h1 : fitB oneX = true := fitB_true (.inl ⟨rfl, by simp [fitK, oneX, X.o, X.n, X.s, X.ks, calP]⟩)
  have h2 : fitB sumX = true := fitB_true (.inr (.inr (.inr (.inr (.inl ⟨rfl, by simp [fitK, sumX, X.o, X.n, X.s, X.ks, calP]⟩)))))
  have h3 : inB sumX.depth 200 = true := inB_true (by decide)
  have h4 : oneX.shape = true := by rw [X.shape_walk]; simp [oneX, X.walk, X.walks] at h1 ⊢; exact h1
  rw [rightB, h3, Bool.true_and]
  simp only [sumX, X.shape, X.shapes, h4]
  simpa [sumX] using h2
theorem pre_no : nameB [112, 114, 101] = false := nameB_false fun hp => hp.2.2.2 (by simp [wordsL])
theorem Pre_yes : nameB [80, 114, 101] = true := nameB_true ⟨fun i c h => by
    rcases i with _ | _ | _ | i
    · simp at h; subst h; exact .inl (by decide)
    · simp at h; subst h; exact .inl (by decide)
    · simp at h; subst h; exact .inl (by decide)
    · simp at h, by simp, by simp, by simp [wordsL]⟩

set_option maxRecDepth 100000 in
set_option maxHeartbeats 4000000 in
theorem awake3_any (w : World) (ht : ShapesAt w) : Calls Tryd.prog 18 #[] w fun e w' => e = .returned (.bool true) ∧ Below w.heap.size w w' := by
  have hB3 : Below w.heap.size w (((w.alloc (.cells #[.int .i64 0, .int .i64 0, .int .i64 1, .string ⟨#[]⟩, .slice none 0 0] 28)).alloc (.cells #[.int .i64 0, .int .i64 0, .int .i64 1, .string ⟨#[]⟩, .slice none 0 0, .int .i64 0, .int .i64 0, .int .i64 1, .string ⟨#[]⟩, .slice none 0 0] 28)).alloc (.cells #[.int .i64 4, .int .i64 11, .int .i64 0, .string ⟨#[]⟩, .slice (some ⟨w.heap.size + 1, 0, none⟩) 2 2] 28)) := (((Below.refl _ _).alloc (Nat.le_refl _) _).alloc (by simp) _).alloc (by simp; omega) _
  have hz3 : (((w.alloc (.cells #[.int .i64 0, .int .i64 0, .int .i64 1, .string ⟨#[]⟩, .slice none 0 0] 28)).alloc (.cells #[.int .i64 0, .int .i64 0, .int .i64 1, .string ⟨#[]⟩, .slice none 0 0, .int .i64 0, .int .i64 0, .int .i64 1, .string ⟨#[]⟩, .slice none 0 0] 28)).alloc (.cells #[.int .i64 4, .int .i64 11, .int .i64 0, .string ⟨#[]⟩, .slice (some ⟨w.heap.size + 1, 0, none⟩) 2 2] 28)).heap.size = w.heap.size + 3 := by simp
  have hrow : Row (((w.alloc (.cells #[.int .i64 0, .int .i64 0, .int .i64 1, .string ⟨#[]⟩, .slice none 0 0] 28)).alloc (.cells #[.int .i64 0, .int .i64 0, .int .i64 1, .string ⟨#[]⟩, .slice none 0 0, .int .i64 0, .int .i64 0, .int .i64 1, .string ⟨#[]⟩, .slice none 0 0] 28)).alloc (.cells #[.int .i64 4, .int .i64 11, .int .i64 0, .string ⟨#[]⟩, .slice (some ⟨w.heap.size + 1, 0, none⟩) 2 2] 28)) (w.heap.size + 1) 28 #[.int .i64 0, .int .i64 0, .int .i64 1, .string ⟨#[]⟩, .slice none 0 0, .int .i64 0, .int .i64 0, .int .i64 1, .string ⟨#[]⟩, .slice none 0 0] := by
    have := Row.made (w.alloc (.cells #[.int .i64 0, .int .i64 0, .int .i64 1, .string ⟨#[]⟩, .slice none 0 0] 28)) 28 #[.int .i64 0, .int .i64 0, .int .i64 1, .string ⟨#[]⟩, .slice none 0 0, .int .i64 0, .int .i64 0, .int .i64 1, .string ⟨#[]⟩, .slice none 0 0]
    rw [World.size_alloc] at this
    exact this.alloc _
  have hrow2 : Row (((w.alloc (.cells #[.int .i64 0, .int .i64 0, .int .i64 1, .string ⟨#[]⟩, .slice none 0 0] 28)).alloc (.cells #[.int .i64 0, .int .i64 0, .int .i64 1, .string ⟨#[]⟩, .slice none 0 0, .int .i64 0, .int .i64 0, .int .i64 1, .string ⟨#[]⟩, .slice none 0 0] 28)).alloc (.cells #[.int .i64 4, .int .i64 11, .int .i64 0, .string ⟨#[]⟩, .slice (some ⟨w.heap.size + 1, 0, none⟩) 2 2] 28)) (w.heap.size + 2) 28 #[.int .i64 4, .int .i64 11, .int .i64 0, .string ⟨#[]⟩, .slice (some ⟨w.heap.size + 1, 0, none⟩) 2 2] := by
    have := Row.made ((w.alloc (.cells #[.int .i64 0, .int .i64 0, .int .i64 1, .string ⟨#[]⟩, .slice none 0 0] 28)).alloc (.cells #[.int .i64 0, .int .i64 0, .int .i64 1, .string ⟨#[]⟩, .slice none 0 0, .int .i64 0, .int .i64 0, .int .i64 1, .string ⟨#[]⟩, .slice none 0 0] 28)) 28 #[.int .i64 4, .int .i64 11, .int .i64 0, .string ⟨#[]⟩, .slice (some ⟨w.heap.size + 1, 0, none⟩) 2 2]
    rw [World.size_alloc, World.size_alloc] at this
    exact this
  have hk : KS (((w.alloc (.cells #[.int .i64 0, .int .i64 0, .int .i64 1, .string ⟨#[]⟩, .slice none 0 0] 28)).alloc (.cells #[.int .i64 0, .int .i64 0, .int .i64 1, .string ⟨#[]⟩, .slice none 0 0, .int .i64 0, .int .i64 0, .int .i64 1, .string ⟨#[]⟩, .slice none 0 0] 28)).alloc (.cells #[.int .i64 4, .int .i64 11, .int .i64 0, .string ⟨#[]⟩, .slice (some ⟨w.heap.size + 1, 0, none⟩) 2 2] 28)) (fun b => b < w.heap.size + 3) (some ⟨w.heap.size + 1, 0, none⟩) sumX.ks := by
    refine .inr ⟨w.heap.size + 1, 0, rfl, ?_⟩
    have hc := hrow.cell
    have one : ∀ off, (off = 0 ∨ off = 5) → EC (((w.alloc (.cells #[.int .i64 0, .int .i64 0, .int .i64 1, .string ⟨#[]⟩, .slice none 0 0] 28)).alloc (.cells #[.int .i64 0, .int .i64 0, .int .i64 1, .string ⟨#[]⟩, .slice none 0 0, .int .i64 0, .int .i64 0, .int .i64 1, .string ⟨#[]⟩, .slice none 0 0] 28)).alloc (.cells #[.int .i64 4, .int .i64 11, .int .i64 0, .string ⟨#[]⟩, .slice (some ⟨w.heap.size + 1, 0, none⟩) 2 2] 28)) (fun b => b < w.heap.size + 3) oneX (w.heap.size + 1) off := fun off ho => by
      rcases ho with rfl | rfl
      · exact EC.mk' (x := oneX) (A := none) (c := 0) (Nat.lt_of_lt_of_le (Nat.lt_succ_self _) (by omega)) (by rw [hc]; rfl) (by rw [hc]; rfl) (by rw [hc]; rfl) (by rw [hc]; rfl) (by rw [hc]; rfl) (.inl rfl)
      · exact EC.mk' (x := oneX) (A := none) (c := 0) (Nat.lt_of_lt_of_le (Nat.lt_succ_self _) (by omega)) (by rw [hc]; rfl) (by rw [hc]; rfl) (by rw [hc]; rfl) (by rw [hc]; rfl) (by rw [hc]; rfl) (.inl rfl)
    show ECs _ _ [oneX, oneX] _ _
    unfold ECs ECs ECs
    exact ⟨one 0 (.inl rfl), one 5 (.inr rfl), trivial⟩
  have hok : sumX.ok := by simp [sumX, oneX, X.ok, X.oks]
  have HD : Hid (∀ w2, Below (w.heap.size + 3) (((w.alloc (.cells #[.int .i64 0, .int .i64 0, .int .i64 1, .string ⟨#[]⟩, .slice none 0 0] 28)).alloc (.cells #[.int .i64 0, .int .i64 0, .int .i64 1, .string ⟨#[]⟩, .slice none 0 0, .int .i64 0, .int .i64 0, .int .i64 1, .string ⟨#[]⟩, .slice none 0 0] 28)).alloc (.cells #[.int .i64 4, .int .i64 11, .int .i64 0, .string ⟨#[]⟩, .slice (some ⟨w.heap.size + 1, 0, none⟩) 2 2] 28)) w2 → Calls Tryd.prog 12 #[.agg #[.int .i64 4, .int .i64 11, .int .i64 0, .string ⟨#[]⟩, .slice (some ⟨w.heap.size + 1, 0, none⟩) 2 2]] w2 fun e w' => e = .returned (.int .i64 2) ∧ Below w2.heap.size w2 w') := fun w2 hb => Depth_any 3 sumX _ 2 w2 _ (by decide) (by omega) (hk.move fun b hb' => ⟨hb', hb.block b hb'⟩) (fun b hb' => by have := hb.size; omega)
  have HS : Hid (∀ w2, Below (w.heap.size + 3) (((w.alloc (.cells #[.int .i64 0, .int .i64 0, .int .i64 1, .string ⟨#[]⟩, .slice none 0 0] 28)).alloc (.cells #[.int .i64 0, .int .i64 0, .int .i64 1, .string ⟨#[]⟩, .slice none 0 0, .int .i64 0, .int .i64 0, .int .i64 1, .string ⟨#[]⟩, .slice none 0 0] 28)).alloc (.cells #[.int .i64 4, .int .i64 11, .int .i64 0, .string ⟨#[]⟩, .slice (some ⟨w.heap.size + 1, 0, none⟩) 2 2] 28)) w2 → Calls Tryd.prog 14 #[.agg #[.int .i64 4, .int .i64 11, .int .i64 0, .string ⟨#[]⟩, .slice (some ⟨w.heap.size + 1, 0, none⟩) 2 2]] w2 fun e w' => e = .returned (.int .i64 3) ∧ Below w2.heap.size w2 w') := fun w2 hb => Size_any sumX _ 2 w2 _ hok (by decide) (hk.move fun b hb' => ⟨hb', hb.block b hb'⟩) (fun b hb' => by have := hb.size; omega)
  have HRI : Hid (∀ w2, Below (w.heap.size + 3) (((w.alloc (.cells #[.int .i64 0, .int .i64 0, .int .i64 1, .string ⟨#[]⟩, .slice none 0 0] 28)).alloc (.cells #[.int .i64 0, .int .i64 0, .int .i64 1, .string ⟨#[]⟩, .slice none 0 0, .int .i64 0, .int .i64 0, .int .i64 1, .string ⟨#[]⟩, .slice none 0 0] 28)).alloc (.cells #[.int .i64 4, .int .i64 11, .int .i64 0, .string ⟨#[]⟩, .slice (some ⟨w.heap.size + 1, 0, none⟩) 2 2] 28)) w2 → Calls Tryd.prog 10 #[.agg #[.int .i64 4, .int .i64 11, .int .i64 0, .string ⟨#[]⟩, .slice (some ⟨w.heap.size + 1, 0, none⟩) 2 2]] w2 fun e w' => e = .returned (.bool true) ∧ Below w2.heap.size w2 w') := fun w2 hb => by
    have := Right_any sumX (some ⟨w.heap.size + 1, 0, none⟩) 2 w2 _ ((ht.later hB3).later (hb.mono (by omega))) hok (by decide) (hk.move fun b hb' => ⟨hb', hb.block b hb'⟩) (fun b hb' => by have := hb.size; omega)
    rw [sumX_right] at this
    exact this
  have HN1 : Hid (∀ w2, Calls Tryd.prog 25 #[.string ⟨#[112, 114, 101]⟩] w2 fun e w' => e = .returned (.bool false) ∧ Below w2.heap.size w2 w') := fun w2 => by have := Name_any [112, 114, 101] w2 (by simp); rw [pre_no] at this; exact this
  have HN2 : Hid (∀ w2, Calls Tryd.prog 25 #[.string ⟨#[80, 114, 101]⟩] w2 fun e w' => e = .returned (.bool true) ∧ Below w2.heap.size w2 w') := fun w2 => by have := Name_any [80, 114, 101] w2 (by simp); rw [Pre_yes] at this; exact this
  have HROW := Lib.hid hrow2
  have HB3 := Lib.hid hB3
  clear hB3 hz3 hrow hrow2 hk hok ht
  go_enter Tryd.func18, Tryd.ntmps18
  go_wp2_with (first
    | (go_at_call 12; refine (HD.out _ (Below.refl _ _)).mono ?_; rintro e w1 ⟨rfl, hb1⟩; have G1 : Hid (Below (w.heap.size + 3) (((w.alloc (.cells #[.int .i64 0, .int .i64 0, .int .i64 1, .string ⟨#[]⟩, .slice none 0 0] 28)).alloc (.cells #[.int .i64 0, .int .i64 0, .int .i64 1, .string ⟨#[]⟩, .slice none 0 0, .int .i64 0, .int .i64 0, .int .i64 1, .string ⟨#[]⟩, .slice none 0 0] 28)).alloc (.cells #[.int .i64 4, .int .i64 11, .int .i64 0, .string ⟨#[]⟩, .slice (some ⟨w.heap.size + 1, 0, none⟩) 2 2] 28)) w1) := Lib.hid (hb1.mono (by simp)); have r := HROW.out.below G1.out (Nat.lt_succ_self _); have c0 := r.cell 0; have c1 := r.cell 1; have c2 := r.cell 2; have c3 := r.cell 3; have c4 := r.cell 4; simp at c0 c1 c2 c3 c4; clear hb1 r)
    | (go_at_call 14; refine (HS.out _ G1.out).mono ?_; rintro e w2 ⟨rfl, hb2⟩; have G2 : Hid (Below (w.heap.size + 3) (((w.alloc (.cells #[.int .i64 0, .int .i64 0, .int .i64 1, .string ⟨#[]⟩, .slice none 0 0] 28)).alloc (.cells #[.int .i64 0, .int .i64 0, .int .i64 1, .string ⟨#[]⟩, .slice none 0 0, .int .i64 0, .int .i64 0, .int .i64 1, .string ⟨#[]⟩, .slice none 0 0] 28)).alloc (.cells #[.int .i64 4, .int .i64 11, .int .i64 0, .string ⟨#[]⟩, .slice (some ⟨w.heap.size + 1, 0, none⟩) 2 2] 28)) w2) := Lib.hid (G1.out.trans (hb2.mono (by have := G1.out.size; simp at this; omega))); have r := HROW.out.below G2.out (Nat.lt_succ_self _); have d0 := r.cell 0; have d1 := r.cell 1; have d2 := r.cell 2; have d3 := r.cell 3; have d4 := r.cell 4; simp at d0 d1 d2 d3 d4; clear hb2 r)
    | (go_at_call 10; refine (HRI.out _ G2.out).mono ?_; rintro e w3 ⟨rfl, hb3⟩; have G3 : Hid (Below (w.heap.size + 3) (((w.alloc (.cells #[.int .i64 0, .int .i64 0, .int .i64 1, .string ⟨#[]⟩, .slice none 0 0] 28)).alloc (.cells #[.int .i64 0, .int .i64 0, .int .i64 1, .string ⟨#[]⟩, .slice none 0 0, .int .i64 0, .int .i64 0, .int .i64 1, .string ⟨#[]⟩, .slice none 0 0] 28)).alloc (.cells #[.int .i64 4, .int .i64 11, .int .i64 0, .string ⟨#[]⟩, .slice (some ⟨w.heap.size + 1, 0, none⟩) 2 2] 28)) w3) := Lib.hid (G2.out.trans (hb3.mono (by have := G2.out.size; simp at this; omega))); clear hb3)
    | (go_at_call 25; refine (HN1.out _).mono ?_; rintro e w4 ⟨rfl, hb4⟩; have G4 : Hid (Below (w.heap.size + 3) (((w.alloc (.cells #[.int .i64 0, .int .i64 0, .int .i64 1, .string ⟨#[]⟩, .slice none 0 0] 28)).alloc (.cells #[.int .i64 0, .int .i64 0, .int .i64 1, .string ⟨#[]⟩, .slice none 0 0, .int .i64 0, .int .i64 0, .int .i64 1, .string ⟨#[]⟩, .slice none 0 0] 28)).alloc (.cells #[.int .i64 4, .int .i64 11, .int .i64 0, .string ⟨#[]⟩, .slice (some ⟨w.heap.size + 1, 0, none⟩) 2 2] 28)) w4) := Lib.hid (G3.out.trans (hb4.mono (by have := G3.out.size; simp at this; omega))); clear hb4)
    | (go_at_call 25; refine (HN2.out _).mono ?_; rintro e w5 ⟨rfl, hb5⟩; have G5 : Hid (Below (w.heap.size + 3) (((w.alloc (.cells #[.int .i64 0, .int .i64 0, .int .i64 1, .string ⟨#[]⟩, .slice none 0 0] 28)).alloc (.cells #[.int .i64 0, .int .i64 0, .int .i64 1, .string ⟨#[]⟩, .slice none 0 0, .int .i64 0, .int .i64 0, .int .i64 1, .string ⟨#[]⟩, .slice none 0 0] 28)).alloc (.cells #[.int .i64 4, .int .i64 11, .int .i64 0, .string ⟨#[]⟩, .slice (some ⟨w.heap.size + 1, 0, none⟩) 2 2] 28)) w5) := Lib.hid (G4.out.trans (hb5.mono (by have := G4.out.size; simp at this; omega))); clear hb5))
  go_ret
  exact ⟨rfl, HB3.out.trans (G5.out.mono (by omega))⟩

end Go.Proofs.YtmbdnifehgdjeaaDoor
