/- DERIVED. A program that came in, as lists that lie in memory. -/
import Derived.Test.YtfajnflfonechaaDoorReadX
import Derived.Test.YtfajnflfonechaaDoorOwnG
namespace Go.Proofs.YtfajnflfonechaaDoor
open Go.RowKit Go.ChangeShapes Go.WideShapes Go.Deep

theorem bulk_len {H : Type} (l : List (DataW H)) : l.length ≤ Rows.uptoBulkAll l := by
  induction l with
  | nil => simp [Rows.uptoBulkAll]
  | cons x r ih => have := bulk_pos x; simp only [Rows.uptoBulkAll, List.length_cons]; omega

/-- A slice of things that can be read. -/
theorem read_slice {H : Type} {enc : TypeId × Value → H} {W : World} {sp : Nat → Bool} {held : Bool} {α : Type} {Pr : List Value → α → Prop} (N : Nat) {t te : TypeId} {k fuel : Nat} {v : Value} {y : DataW H × List MemPlace}
    (hu : Tryd.prog.underlying t = some (.slice te)) (hk : Tryd.prog.cellsOf te = k) (hk0 : 0 < k) (h : DataW.trod enc Tryd.prog W 0 sp held fuel t [v] = some y) (hN : Rows.uptoBulk y.1 ≤ N)
    (one : ∀ (d : DataW H) fuel cs p, Rows.uptoBulk d ≤ N → DataW.trod enc Tryd.prog W 0 sp held fuel te cs = some (d, p) → ∃ x, Pr cs x) :
    ∃ A c xs, v = .slice A xs.length c ∧ (xs.length ≤ N ∧ xs.length ≤ c) ∧ (∀ x ∈ xs, ∃ cs, Pr cs x) ∧ Rw (fun x b off => Old W b ∧ ∃ cs, Pr cs x ∧ ∀ (j : Nat) u, cs[j]? = some u → W.cell? ⟨b, off + j, none⟩ = some u) k A xs := by
  rcases open_slice hu h with ⟨hc, _⟩ | ⟨a, len, cap, mm, q, D, Pl, hc, _, hle, hcm, hmm, hx, hi⟩
  · injection hc with hc
    exact ⟨none, 0, [], hc, ⟨Nat.zero_le _, Nat.zero_le _⟩, fun x hx => by simp at hx, .inl rfl⟩
  · injection hc with hc
    subst hc
    rw [hx] at hN
    simp only [Rows.uptoBulk] at hN
    have hmem : ∀ i, i < len → Rows.uptoBulk (D i) ≤ Rows.uptoBulkAll ((List.range len).map D) := fun i hi => bulk_mem (List.mem_map.2 ⟨i, List.mem_range.2 hi, rfl⟩)
    have hmle : len ≤ mm := by rw [hmm]; split <;> omega
    rw [hk] at hi
    obtain ⟨xs, hxl, hxs⟩ := list_of len (p := fun i x => ∃ cs', W.cells? 0 (a.add (i * k)) k = some cs' ∧ Pr cs' x) (fun i hil => by
      obtain ⟨cs', hc, ht⟩ := hi i (by omega)
      obtain ⟨x, hx⟩ := one (D i) q cs' (Pl i) (by have := hmem i hil; omega) ht
      exact ⟨x, cs', hc, hx⟩)
    subst hxl
    have hlen := bulk_len ((List.range xs.length).map D)
    rw [List.length_map, List.length_range] at hlen
    refine ⟨some a, cap, xs, rfl, ⟨by omega, hle⟩, fun x hx => ?_, ?_⟩
    · obtain ⟨i, hi⟩ := List.getElem?_of_mem hx
      obtain ⟨cs, _, hp⟩ := hxs i x hi
      exact ⟨cs, hp⟩
    · rcases Nat.eq_zero_or_pos xs.length with h0 | h0
      · exact .inl (List.eq_nil_of_length_eq_zero h0)
      · have cell : ∀ (i : Nat) x, xs[i]? = some x → ∃ cs, Pr cs x ∧ cs.length = k ∧ ∀ (j : Nat) u, cs[j]? = some u → W.cell? ((a.add (i * k)).add j) = some u := fun i x hx => by
          obtain ⟨cs', hc, hp⟩ := hxs i x hx
          obtain ⟨_, hl, hat⟩ := World.cells?_some hc
          exact ⟨cs', hp, hl, fun j u hu => by
            have hj : j < k := by
              rcases Nat.lt_or_ge j k with h' | h'
              · exact h'
              · rw [List.getElem?_eq_none (by omega)] at hu; cases hu
            rw [hat j hj, hu]⟩
        obtain ⟨b, off, spot⟩ := a
        have hspot : spot = none := by
          obtain ⟨cs, _, hl, hc⟩ := cell 0 _ (List.getElem?_eq_getElem h0)
          have := World.cell?_spot (hc 0 _ (List.getElem?_eq_getElem (by omega)))
          simpa [Addr.add] using this
        subst hspot
        refine .inr ⟨b, off, rfl, fun i x hx => ?_⟩
        obtain ⟨cs, hp, hl, hc⟩ := cell i x hx
        have at_ : ∀ (j : Nat) u, cs[j]? = some u → W.cell? ⟨b, off + i * k + j, none⟩ = some u := fun j u hu => by have := hc j u hu; rw [addr_add, addr_add] at this; exact this
        exact ⟨World.block_lt_of_cell? W _ (at_ 0 _ (List.getElem?_eq_getElem (by omega))), cs, hp, at_⟩

section
variable {H : Type} {enc : TypeId × Value → H} {W : World} {sp : Nat → Bool} {held : Bool}
def PT (cs : List Value) (t : T) : Prop := cs = [.string ⟨t.toArray⟩] ∧ t.length ≤ 1048576
def PV (cs : List Value) (v : Vr) : Prop := cs = [.string ⟨v.name.toArray⟩, .int .i64 v.type] ∧ okV v
/-- Expressions of a size that a bulk allows. -/
def medQ (l : List Q) : Prop := ∀ q ∈ l, q.rhs.size ≤ 1048576
def PQ (W : World) (cs : List Value) (q : Q) : Prop := RQ W (Old W) q cs ∧ okQ q ∧ q.rhs.size ≤ 1048576
def PN (W : World) (cs : List Value) (n : Nd) : Prop := RN W (Old W) n cs ∧ okN n ∧ medQ n.eqs

theorem one_text (d : DataW H) (fuel : Nat) (cs : List Value) (p : List MemPlace) (hN : Rows.uptoBulk d ≤ 1048576) (h : DataW.trod enc Tryd.prog W 0 sp held fuel 9 cs = some (d, p)) : ∃ t, PT cs t := by
  obtain ⟨s, hc, hx, _⟩ := DataW.trod_string Tryd.underlying9 h
  injection hx with hx _
  subst hx
  simp only [Rows.uptoBulk] at hN
  exact ⟨s.data.toList, by rw [hc], by omega⟩
theorem one_var (d : DataW H) (fuel : Nat) (cs : List Value) (p : List MemPlace) (hN : Rows.uptoBulk d ≤ 1048576) (h : DataW.trod enc Tryd.prog W 0 sp held fuel 113 cs = some (d, p)) : ∃ v, PV cs v := by
  obtain ⟨hl, ys, m, hd, hyl, hf⟩ := struct_at Tryd.underlying113 (by kernel_rfl) (by kernel_rfl) h
  obtain ⟨v0, y0, a0, b0, t0⟩ := hf 0 _ rfl
  obtain ⟨v1, y1, a1, b1, t1⟩ := hf 1 _ rfl
  obtain ⟨s, hv0, hy0, _⟩ := DataW.trod_string Tryd.underlying9 t0
  obtain ⟨k, hv1, hy1, _⟩ := DataW.trod_int Tryd.underlying3 t1
  injection hv0 with hv0
  injection hv1 with hv1
  subst hv0 hv1
  have hcs : cs = [.string s, .int .i64 k] := by
    match cs, hl with
    | [c0, c1], _ =>
      simp at a0 a1
      rw [a0, a1]
  have hys : ys = [y0, y1] := by
    match ys, hyl with
    | [c0, c1], _ =>
      simp at b0 b1
      rw [b0, b1]
  simp only at hd
  rw [hd, hys] at hN
  simp only [List.map_cons, List.map_nil, Rows.uptoBulk, Rows.uptoBulkAll, hy0, hy1] at hN
  exact ⟨⟨s.data.toList, k⟩, by rw [hcs], show s.data.toList.length ≤ _ by omega⟩

theorem read_texts {fuel : Nat} {v : Value} {y : DataW H × List MemPlace} (h : DataW.trod enc Tryd.prog W 0 sp held fuel 39 [v] = some y) (hN : Rows.uptoBulk y.1 ≤ 1048576) :
    ∃ A c l, v = .slice A l.length c ∧ TS W (Old W) A l ∧ okTs l ∧ l.length ≤ c := by
  obtain ⟨A, c, l, hv, ⟨hl, hlc⟩, hall, hr⟩ := read_slice 1048576 Tryd.underlying39 (show Tryd.prog.cellsOf 9 = 1 by kernel_rfl) (by omega) h hN one_text
  exact ⟨A, c, l, hv, Rw.imp hr fun x b off ⟨hb, cs, hp, hat⟩ => ⟨hb, hat 0 _ (by rw [hp.1]; rfl)⟩, ⟨by omega, fun t ht => by obtain ⟨cs, hp⟩ := hall t ht; have := hp.2; omega⟩, hlc⟩
theorem read_vars {fuel : Nat} {v : Value} {y : DataW H × List MemPlace} (h : DataW.trod enc Tryd.prog W 0 sp held fuel 73 [v] = some y) (hN : Rows.uptoBulk y.1 ≤ 1048576) :
    ∃ A c l, v = .slice A l.length c ∧ VS W (Old W) A l ∧ okVs l := by
  obtain ⟨A, c, l, hv, ⟨hl, hlc⟩, hall, hr⟩ := read_slice 1048576 Tryd.underlying73 (show Tryd.prog.cellsOf 113 = 2 by kernel_rfl) (by omega) h hN one_var
  exact ⟨A, c, l, hv, Rw.imp hr fun x b off ⟨hb, cs, hp, hat⟩ => ⟨hb, hat 0 _ (by rw [hp.1]; rfl), hat 1 _ (by rw [hp.1]; rfl)⟩, by omega, fun t ht => by obtain ⟨cs, hp⟩ := hall t ht; exact hp.2⟩

set_option maxRecDepth 100000 in
theorem one_eqn (d : DataW H) (fuel : Nat) (cs : List Value) (p : List MemPlace) (hN : Rows.uptoBulk d ≤ 1048576) (h : DataW.trod enc Tryd.prog W 0 sp held fuel 78 cs = some (d, p)) : ∃ q, PQ W cs q := by
  obtain ⟨ys, m, _, hx, hl, hyl, hf⟩ := DataW.trod_struct Tryd.underlying78 h
  have hC : Tryd.prog.cellsOf 78 = 6 := by kernel_rfl
  have hC1 : Tryd.prog.cellsOf 39 = 1 := by kernel_rfl
  have hC5 : Tryd.prog.cellsOf 46 = 5 := by kernel_rfl
  rw [hC] at hl
  obtain ⟨y0, y1, hys⟩ : ∃ y0 y1, ys = [y0, y1] := by
    match ys, hyl with
    | [c0, c1], _ => exact ⟨c0, c1, rfl⟩
  subst hys
  obtain ⟨v0, rest, hcs⟩ : ∃ v0 rest, cs = v0 :: rest := by
    cases cs with
    | nil => simp at hl
    | cons c0 r => exact ⟨c0, r, rfl⟩
  subst hcs
  have hr5 : rest.length = 5 := by simpa using hl
  have f0 : DataW.trod enc Tryd.prog W 0 sp held m 39 (((v0 :: rest).drop 0).take (Tryd.prog.cellsOf 39)) = some y0 := hf 0 _ rfl
  have f1 : DataW.trod enc Tryd.prog W 0 sp held m 46 (((v0 :: rest).drop 1).take (Tryd.prog.cellsOf 46)) = some y1 := hf 1 _ rfl
  have f0 : DataW.trod enc Tryd.prog W 0 sp held m 39 [v0] = some y0 := by simpa only [hC1, List.drop_zero, List.take_succ_cons, List.take_zero] using f0
  have f1 : DataW.trod enc Tryd.prog W 0 sp held m 46 (rest.take 5) = some y1 := by simpa only [hC5, List.drop_succ_cons, List.drop_zero] using f1
  have e5 : rest.take 5 = rest := List.take_of_length_le (by omega)
  have g1 : DataW.trod enc Tryd.prog W 0 sp held m 46 rest = some y1 := by rw [← e5]; exact f1
  injection hx with hx _
  rw [hx] at hN
  simp only [List.map_cons, List.map_nil, Rows.uptoBulk, Rows.uptoBulkAll] at hN
  obtain ⟨A, c, l, rfl, hts, hok, hlc⟩ := read_texts f0 (by omega)
  obtain ⟨d1, p1⟩ := y1
  simp only at hN
  have hd1 : Rows.uptoBulk d1 ≤ 1048576 := by omega
  have hbig : (1048576 : Nat) ≤ 1099511627775 := by omega
  generalize hM : 1048576 = M at hd1 hbig
  obtain ⟨x, A2, c2, hc, hk, hxo, hxb⟩ := read_x (enc := enc) (W := W) (sp := sp) (held := held) M d1 m rest p1 hd1 hbig g1
  have := X.size_le x
  exact ⟨⟨l, x⟩, ⟨A, c, A2, c2, by subst hc; rfl, hts, hk, hlc⟩, ⟨hok, hxo, show x.size ≤ _ by omega⟩, show x.size ≤ 1048576 by rw [hM]; omega⟩
theorem read_eqs {fuel : Nat} {v : Value} {y : DataW H × List MemPlace} (h : DataW.trod enc Tryd.prog W 0 sp held fuel 74 [v] = some y) (hN : Rows.uptoBulk y.1 ≤ 1048576) :
    ∃ A c l, v = .slice A l.length c ∧ QS W (Old W) A l ∧ okQs l ∧ medQ l := by
  obtain ⟨A, c, l, hv, ⟨hl, hlc⟩, hall, hr⟩ := read_slice 1048576 Tryd.underlying74 (show Tryd.prog.cellsOf 78 = 6 by kernel_rfl) (by omega) h hN one_eqn
  exact ⟨A, c, l, hv, rq_qs (Rw.imp hr fun x b off ⟨hb, cs, hp, hat⟩ => ⟨hb, cs, hp.1, hat⟩), ⟨by omega, fun t ht => by obtain ⟨cs, hp⟩ := hall t ht; exact hp.2.1⟩, fun t ht => by obtain ⟨cs, hp⟩ := hall t ht; exact hp.2.2⟩

theorem one_node (d : DataW H) (fuel : Nat) (cs : List Value) (p : List MemPlace) (hN : Rows.uptoBulk d ≤ 1048576) (h : DataW.trod enc Tryd.prog W 0 sp held fuel 76 cs = some (d, p)) : ∃ n, PN W cs n := by
  obtain ⟨hl, ys, m, hd, hyl, hf⟩ := struct_at Tryd.underlying76 (by kernel_rfl) (by kernel_rfl) h
  obtain ⟨v0, y0, a0, b0, t0⟩ := hf 0 _ rfl
  obtain ⟨v1, y1, a1, b1, t1⟩ := hf 1 _ rfl
  obtain ⟨v2, y2, a2, b2, t2⟩ := hf 2 _ rfl
  obtain ⟨v3, y3, a3, b3, t3⟩ := hf 3 _ rfl
  obtain ⟨v4, y4, a4, b4, t4⟩ := hf 4 _ rfl
  obtain ⟨s, hv0, hy0, _⟩ := DataW.trod_string Tryd.underlying9 t0
  injection hv0 with hv0
  subst hv0
  have hcs : cs = [.string s, v1, v2, v3, v4] := by
    match cs, hl with
    | [c0, c1, c2, c3, c4], _ =>
      simp at a0 a1 a2 a3 a4
      rw [a0, a1, a2, a3, a4]
  have hys : ys = [y0, y1, y2, y3, y4] := by
    match ys, hyl with
    | [c0, c1, c2, c3, c4], _ =>
      simp at b0 b1 b2 b3 b4
      rw [b0, b1, b2, b3, b4]
  simp only at hd
  rw [hd, hys] at hN
  simp only [List.map_cons, List.map_nil, Rows.uptoBulk, Rows.uptoBulkAll, hy0] at hN
  obtain ⟨A1, c1, l1, rfl, h1, o1⟩ := read_vars t1 (by omega)
  obtain ⟨A2, c2, l2, rfl, h2, o2⟩ := read_vars t2 (by omega)
  obtain ⟨A3, c3, l3, rfl, h3, o3⟩ := read_vars t3 (by omega)
  obtain ⟨A4, c4, l4, rfl, h4, o4, m4⟩ := read_eqs t4 (by omega)
  exact ⟨⟨s.data.toList, l1, l2, l3, l4⟩, ⟨A1, c1, A2, c2, A3, c3, A4, c4, by rw [hcs], h1, h2, h3, h4⟩, ⟨show s.data.toList.length ≤ _ by omega, o1, o2, o3, o4⟩, m4⟩
theorem read_nodes {fuel : Nat} {v : Value} {y : DataW H × List MemPlace} (h : DataW.trod enc Tryd.prog W 0 sp held fuel 41 [v] = some y) (hN : Rows.uptoBulk y.1 ≤ 1048576) :
    ∃ A c l, v = .slice A l.length c ∧ l.length ≤ 1048576 ∧ NS W (Old W) A l ∧ okNs l ∧ ∀ n ∈ l, medQ n.eqs := by
  obtain ⟨A, c, l, hv, ⟨hl, hlc⟩, hall, hr⟩ := read_slice 1048576 Tryd.underlying41 (show Tryd.prog.cellsOf 76 = 5 by kernel_rfl) (by omega) h hN one_node
  exact ⟨A, c, l, hv, hl, rn_ns (Rw.imp hr fun x b off ⟨hb, cs, hp, hat⟩ => ⟨hb, cs, hp.1, hat⟩), ⟨by omega, fun t ht => by obtain ⟨cs, hp⟩ := hall t ht; exact hp.2.1⟩, fun t ht => by obtain ⟨cs, hp⟩ := hall t ht; exact hp.2.2⟩
/-- A program. -/
theorem read_prog2 {d : DataW H} {fuel : Nat} {cs : List Value} {p : List MemPlace} (h : DataW.trod enc Tryd.prog W 0 sp held fuel 43 cs = some (d, p)) (hN : Rows.uptoBulk d ≤ 1048576) :
    ∃ A c l, cs = [.slice A l.length c] ∧ l.length ≤ 1048576 ∧ NS W (Old W) A l ∧ okNs l ∧ ∀ n ∈ l, medQ n.eqs := by
  obtain ⟨hl, ys, m, hd, hyl, hf⟩ := struct_at Tryd.underlying43 (by kernel_rfl) (by kernel_rfl) h
  obtain ⟨v0, y0, a0, b0, t0⟩ := hf 0 _ rfl
  have hcs : cs = [v0] := by
    match cs, hl with
    | [c0], _ =>
      simp at a0
      rw [a0]
  have hys : ys = [y0] := by
    match ys, hyl with
    | [c0], _ =>
      simp at b0
      rw [b0]
  simp only at hd
  rw [hd, hys] at hN
  simp only [List.map_cons, List.map_nil, Rows.uptoBulk, Rows.uptoBulkAll] at hN
  obtain ⟨A, c, l, rfl, h1, h2, h3⟩ := read_nodes t0 (by omega)
  exact ⟨A, c, l, hcs, h1, h2, h3⟩
theorem read_prog {d : DataW H} {fuel : Nat} {cs : List Value} {p : List MemPlace} (h : DataW.trod enc Tryd.prog W 0 sp held fuel 43 cs = some (d, p)) (hN : Rows.uptoBulk d ≤ 1048576) :
    ∃ A c l, cs = [.slice A l.length c] ∧ l.length ≤ 1048576 ∧ NS W (Old W) A l ∧ okNs l := by
  obtain ⟨A, c, l, h1, h2, h3, h4, _⟩ := read_prog2 h hN
  exact ⟨A, c, l, h1, h2, h3, h4⟩
end
end Go.Proofs.YtfajnflfonechaaDoor
