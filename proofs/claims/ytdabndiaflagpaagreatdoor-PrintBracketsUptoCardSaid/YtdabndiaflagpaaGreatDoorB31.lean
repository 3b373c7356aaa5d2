/- Parts: ReadX. -/
import Derived.Test.YtdabndiaflagpaaGreatDoorRows
import Derived.ProofKit
import Derived.OpenShut
import Derived.Deep.Slices
import Derived.Deep.Fields
import Derived.Test.YtdabndiaflagpaaGreatDoorB04
set_option maxRecDepth 100000
set_option maxHeartbeats 4000000
set_option linter.unusedVariables false
namespace Go.Proofs.YtdabndiaflagpaaGreatDoor
open Go.RowKit Go.ChangeShapes Go.WideShapes Go.Deep

section
variable {H : Type} {enc : TypeId × Value → H} {P : Program} {w : World} {base : Nat} {sp : Nat → Bool} {held : Bool}
/-- A struct of one-cell fields, field by field. -/
theorem struct_at {t : TypeId} {fs : Array Field} {fuel : Nat} {cs : List Value} {x : DataW H × List MemPlace} (hs : P.underlying t = some (.struct fs)) (hone : oneCellFields P fs = true) (hC : P.cellsOf t = fs.size) (h : DataW.trod enc P w base sp held fuel t cs = some x) :
    cs.length = fs.size ∧ ∃ (ys : List (DataW H × List MemPlace)) (m : Nat), x.1 = .agg (ys.map (·.1)) ∧ ys.length = fs.size ∧ ∀ (j : Nat) (f : Field), fs[j]? = some f → ∃ v y, cs[j]? = some v ∧ ys[j]? = some y ∧ DataW.trod enc P w base sp held m f.type [v] = some y := by
  obtain ⟨ys, m, _, hx, hl, hyl, hf⟩ := DataW.trod_struct hs h
  rw [hC] at hl
  refine ⟨hl, ys, m, by rw [hx], hyl, fun j f hj => ?_⟩
  have hjl : j < fs.size := (Array.getElem?_eq_some_iff.1 hj).1
  obtain ⟨ho, hc⟩ := hone_of hone j f hj
  have h1 := hf j f hj
  rw [ho, hc, List.drop_eq_getElem_cons (by omega : j < cs.length), List.take_succ_cons, List.take_zero, List.getElem?_eq_getElem (by omega : j < ys.length)] at h1
  exact ⟨_, _, List.getElem?_eq_getElem (by omega), List.getElem?_eq_getElem (by omega), h1⟩
end

theorem bulk_pos {H : Type} (d : DataW H) : 1 ≤ Rows.uptoBulk d := by
  cases d with
  | lit l => cases l <;> simp [Rows.uptoBulk]
  | nil => simp [Rows.uptoBulk]
  | ptr d => simp [Rows.uptoBulk]
  | slice elems spare => simp [Rows.uptoBulk]
  | agg parts => simp [Rows.uptoBulk]
  | iface t d => simp [Rows.uptoBulk]
  | map entries => simp [Rows.uptoBulk]
  | held h => simp [Rows.uptoBulk]
theorem bulk_mem {H : Type} {d : DataW H} {l : List (DataW H)} (h : d ∈ l) : Rows.uptoBulk d ≤ Rows.uptoBulkAll l := by
  induction l with
  | nil => cases h
  | cons x r ih =>
    simp only [Rows.uptoBulkAll]
    rcases List.mem_cons.1 h with rfl | e
    · omega
    · have := ih e; omega

/-- The list of what lies at each index. -/
theorem list_of {α : Type} (n : Nat) {p : Nat → α → Prop} (h : ∀ i, i < n → ∃ a, p i a) : ∃ l : List α, l.length = n ∧ ∀ (i : Nat) a, l[i]? = some a → p i a := by
  induction n with
  | zero => exact ⟨[], rfl, fun i a h => by simp at h⟩
  | succ n ih =>
    obtain ⟨l, hl, hp⟩ := ih fun i hi => h i (by omega)
    obtain ⟨a, ha⟩ := h n (by omega)
    refine ⟨l ++ [a], by simp [hl], fun i b hb => ?_⟩
    rw [List.getElem?_append] at hb
    split at hb
    · exact hp i b hb
    · have : i - l.length = 0 := by
        rcases Nat.eq_zero_or_pos (i - l.length) with h' | h'
        · exact h'
        · rw [List.getElem?_eq_none (by simp; omega)] at hb; cases hb
      rw [this] at hb
      simp at hb
      subst hb
      rw [show i = n by omega]
      exact ha

theorem bulks_of {H : Type} {D : Nat → DataW H} : ∀ (xs : List X) (k : Nat), (∀ (i : Nat) x, xs[i]? = some x → x.bulk ≤ Rows.uptoBulk (D (k + i))) → X.bulks xs ≤ Rows.uptoBulkAll ((List.range xs.length).map fun i => D (k + i)) := by
  intro xs
  induction xs with
  | nil => intro k _; simp [X.bulks]
  | cons x xs ih =>
    intro k h
    have h0 := h 0 x rfl
    have h1 := ih (k + 1) fun i y hi => by
      have := h (i + 1) y (by simpa using hi)
      rw [show k + 1 + i = k + (i + 1) by omega]
      exact this
    rw [List.length_cons, List.range_succ_eq_map, List.map_cons, List.map_map]
    simp only [X.bulks, Rows.uptoBulkAll]
    have e : (List.range xs.length).map ((fun i => D (k + i)) ∘ Nat.succ) = (List.range xs.length).map fun i => D (k + 1 + i) := by
      apply List.map_congr_left
      intro i _
      show D (k + (i + 1)) = D (k + 1 + i)
      rw [show k + (i + 1) = k + 1 + i by omega]
    rw [e]
    simp only [Nat.add_zero] at h0 ⊢
    omega

/-- What a reading of an expression gives. -/
def ReadX {H : Type} (W : World) (d : DataW H) (cs : List Value) (x : X) : Prop := ∃ A c, cs = c5 x A c ∧ KS W (Old W) A x.ks ∧ x.ok ∧ x.bulk ≤ Rows.uptoBulk d

theorem read_x {H : Type} {enc : TypeId × Value → H} {W : World} {sp : Nat → Bool} {held : Bool} (N : Nat) : ∀ (d : DataW H) (fuel : Nat) (cs : List Value) (p : List MemPlace), Rows.uptoBulk d ≤ N → N ≤ 1099511627775 →
    DataW.trod enc Tryz.prog W 0 sp held fuel 52 cs = some (d, p) → ∃ x, ReadX W d cs x := by
  induction N with
  | zero => intro d fuel cs p h; have := bulk_pos d; omega
  | succ N ih =>
    intro d fuel cs p hN hM h
    obtain ⟨hl, ys, m, hd, hyl, hf⟩ := struct_at Tryz.underlying52 (by kernel_rfl) (by kernel_rfl) h
    obtain ⟨v0, y0, a0, b0, t0⟩ := hf 0 _ rfl
    obtain ⟨v1, y1, a1, b1, t1⟩ := hf 1 _ rfl
    obtain ⟨v2, y2, a2, b2, t2⟩ := hf 2 _ rfl
    obtain ⟨v3, y3, a3, b3, t3⟩ := hf 3 _ rfl
    obtain ⟨v4, y4, a4, b4, t4⟩ := hf 4 _ rfl
    obtain ⟨k, hv0, hy0, _⟩ := DataW.trod_int Tryz.underlying3 t0
    obtain ⟨o, hv1, hy1, _⟩ := DataW.trod_int Tryz.underlying3 t1
    obtain ⟨n, hv2, hy2, wn⟩ := DataW.trod_int Tryz.underlying2 t2
    obtain ⟨s, hv3, hy3, hs⟩ := DataW.trod_string Tryz.underlying9 t3
    injection hv0 with hv0
    injection hv1 with hv1
    injection hv2 with hv2
    injection hv3 with hv3
    subst hv0 hv1 hv2 hv3
    have hn9 := (Go.bounds_i64 wn).2
    simp only at hd
    have hcs : cs = [.int .i64 k, .int .i64 o, .int .i64 n, .string s, v4] := by
      match cs, hl with
      | [c0, c1, c2, c3, c4], _ =>
        simp at a0 a1 a2 a3 a4
        rw [a0, a1, a2, a3, a4]
    have hys : ys = [y0, y1, y2, y3, y4] := by
      match ys, hyl with
      | [c0, c1, c2, c3, c4], _ =>
        simp at b0 b1 b2 b3 b4
        rw [b0, b1, b2, b3, b4]
    subst hys
    rw [hd] at hN
    simp only [List.map_cons, List.map_nil, Rows.uptoBulk, Rows.uptoBulkAll, hy0, hy1, hy2, hy3] at hN
    have hs5 : s = ⟨s.data.toList.toArray⟩ := by simp
    rcases open_slice Tryz.underlying50 t4 with ⟨hc4, _⟩ | ⟨a, len, cap, mm, q, D, Pl, hc4, _, hle, hcm, hmm, hx, hi⟩
    · injection hc4 with hc4
      subst hc4
      refine ⟨.mk k o n s.data.toList [], none, 0, ?_, .inl rfl, ?_, ?_⟩
      · rw [hcs]; simp [c5, X.k, X.o, X.n, X.s, X.ks]
      · unfold X.ok; exact ⟨hn9, by have := bulk_pos y4.1; simp at hN ⊢; omega, by unfold X.oks; trivial⟩
      · rw [hd]
        simp only [X.bulk, X.bulks, List.map_cons, List.map_nil, Rows.uptoBulk, Rows.uptoBulkAll, hy3]
        have := bulk_pos y0.1
        omega
    · injection hc4 with hc4
      subst hc4
      rw [hx] at hN
      simp only [Rows.uptoBulk] at hN
      have hmem : ∀ i, i < len → Rows.uptoBulk (D i) ≤ Rows.uptoBulkAll ((List.range len).map D) := fun i hi => bulk_mem (List.mem_map.2 ⟨i, List.mem_range.2 hi, rfl⟩)
      have hmle : len ≤ mm := by rw [hmm]; split <;> omega
      obtain ⟨ks, hkl, hks⟩ := list_of len (p := fun i x => ∃ cs', W.cells? 0 (a.add (i * Tryz.prog.cellsOf 52)) (Tryz.prog.cellsOf 52) = some cs' ∧ ReadX W (D i) cs' x) (fun i hil => by
        obtain ⟨cs', hc, ht⟩ := hi i (by omega)
        obtain ⟨x, hx⟩ := ih (D i) q cs' (Pl i) (by have := hmem i hil; omega) (by omega) ht
        exact ⟨x, cs', hc, hx⟩)
      subst hkl
      have hC : Tryz.prog.cellsOf 52 = 5 := by kernel_rfl
      rw [hC] at hks
      refine ⟨.mk k o n s.data.toList ks, some a, cap, ?_, ?_, ?_, ?_⟩
      · rw [hcs]; simp [c5, X.k, X.o, X.n, X.s, X.ks]
      · rcases Nat.eq_zero_or_pos ks.length with h0 | h0
        · exact .inl (List.eq_nil_of_length_eq_zero h0)
        · have cell : ∀ (i : Nat) x, ks[i]? = some x → ∃ A c, (∀ j u, (c5 x A c)[j]? = some u → W.cell? ((a.add (i * 5)).add j) = some u) ∧ KS W (Old W) A x.ks := fun i x hx => by
            obtain ⟨cs', hc, A, c, he, hk, _⟩ := hks i x hx
            obtain ⟨_, hl5, hat⟩ := World.cells?_some hc
            subst he
            exact ⟨A, c, fun j u hu => by
              have hj : j < 5 := by
                rcases Nat.lt_or_ge j 5 with h' | h'
                · exact h'
                · rw [List.getElem?_eq_none (by simp [c5]; omega)] at hu; cases hu
              rw [hat j hj, hu], hk⟩
          obtain ⟨b, off, spot⟩ := a
          have hspot : spot = none := by
            obtain ⟨A, c, hc, _⟩ := cell 0 _ (List.getElem?_eq_getElem h0)
            have := World.cell?_spot (hc 0 _ rfl)
            simpa [Addr.add] using this
          subst hspot
          refine .inr ⟨b, off, rfl, ECs.of_kids fun i x hx => ?_⟩
          obtain ⟨A, c, hc, hk⟩ := cell i x hx
          have hb : b < W.heap.size := World.block_lt_of_cell? W _ (by have := hc 0 _ rfl; rw [addr_add, addr_add] at this; exact this)
          have at_ : ∀ j u, (c5 x A c)[j]? = some u → W.cell? ⟨b, off + i * 5 + j, none⟩ = some u := fun j u hu => by have := hc j u hu; rw [addr_add, addr_add] at this; exact this
          exact EC.mk' hb (at_ 0 _ rfl) (at_ 1 _ rfl) (at_ 2 _ rfl) (at_ 3 _ rfl) (at_ 4 _ rfl) hk
      · unfold X.ok
        refine ⟨hn9, by simp at hN ⊢; omega, ?_⟩
        have : ∀ (l : List X), (∀ (i : Nat) x, l[i]? = some x → x.ok) → X.oks l := fun l => by
          induction l with
          | nil => intro _; unfold X.oks; trivial
          | cons x l ihl => intro h; unfold X.oks; exact ⟨h 0 x rfl, ihl fun i y hy => h (i + 1) y (by simpa using hy)⟩
        exact this ks fun i x hx => by
          obtain ⟨_, _, _, _, _, _, h3, _⟩ := hks i x hx
          exact h3
      · rw [hd]
        have hb := bulks_of (D := D) ks 0 (fun i x hx => by
          obtain ⟨_, _, _, _, _, _, _, h4⟩ := hks i x hx
          rw [Nat.zero_add]; exact h4)
        have hb : X.bulks ks ≤ Rows.uptoBulkAll ((List.range ks.length).map D) := by simpa using hb
        simp only [X.bulk, List.map_cons, List.map_nil, Rows.uptoBulk, Rows.uptoBulkAll, hy3, hx]
        omega

end Go.Proofs.YtdabndiaflagpaaGreatDoor
