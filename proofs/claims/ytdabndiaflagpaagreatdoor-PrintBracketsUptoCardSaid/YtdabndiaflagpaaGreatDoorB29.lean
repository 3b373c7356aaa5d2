/- Parts: Awk6, BrE. -/
import Derived.Test.YtdabndiaflagpaaGreatDoorB28
import Derived.Test.YtdabndiaflagpaaGreatDoorB27
import Derived.Test.YtdabndiaflagpaaGreatDoorB30
set_option maxRecDepth 100000
set_option maxHeartbeats 4000000
set_option linter.unusedVariables false
namespace Go.Proofs.YtdabndiaflagpaaGreatDoor
open Go.RowKit

set_option maxRecDepth 100000 in
set_option maxHeartbeats 2000000 in
theorem neg6 (x : X) (A : Option Addr) (c : Nat) (w : World) (hk : KS w (Old w) A x.ks) :
    Calls Tryz.prog 36 #[ev x A c] w fun e w' => ∃ A', e = .returned (ev (.mk 3 0 0 [] [x]) A' 1) ∧ KS w' (Old w') A' [x] ∧ Below w.heap.size w w' := by
  go_enter Tryz.func36, Tryz.ntmps36
  simp only [ev]
  go_upto_region 1 with fail
  obtain ⟨w1, hw1⟩ : ∃ w1, w1 = (w.alloc (.cells #[.int .i64 x.k, .int .i64 x.o, .int .i64 x.n, .string ⟨x.s.toArray⟩, .slice A x.ks.length c] 46)).alloc (.cells #[.int .i64 0, .int .i64 0, .int .i64 0, .string ⟨#[]⟩, .slice none 0 0] 46) := ⟨_, rfl⟩
  rw [← hw1]
  have HB1 : Hid (Below w.heap.size w w1) := Lib.hid (by rw [hw1]; exact ((Below.refl _ _).alloc (Nat.le_refl _) _).alloc (by simp) _)
  have HR1 : Hid (Row w1 w.heap.size 46 #[.int .i64 x.k, .int .i64 x.o, .int .i64 x.n, .string ⟨x.s.toArray⟩, .slice A x.ks.length c]) := Lib.hid (by rw [hw1]; exact (Row.made w 46 _).alloc _)
  have HZ1 : Hid (Row w1 (w.heap.size + 1) 46 #[.int .i64 0, .int .i64 0, .int .i64 0, .string ⟨#[]⟩, .slice none 0 0]) := Lib.hid (by
    have := Row.made (w.alloc (.cells #[.int .i64 x.k, .int .i64 x.o, .int .i64 x.n, .string ⟨x.s.toArray⟩, .slice A x.ks.length c] 46)) 46 #[.int .i64 0, .int .i64 0, .int .i64 0, .string ⟨#[]⟩, .slice none 0 0]
    rw [World.size_alloc] at this
    rw [hw1]
    exact this)
  have hz : w1.heap.size = w.heap.size + 2 := by rw [hw1]; simp
  clear hw1
  have HK := Lib.hid hk
  have HZZ := Lib.hid hz
  clear hk hz
  have y0 := HR1.out.cell 0
  have y1 := HR1.out.cell 1
  have y2 := HR1.out.cell 2
  have y3 := HR1.out.cell 3
  have y4 := HR1.out.cell 4
  simp at y0 y1 y2 y3 y4
  have HON : (#[.int .i64 3, .int .i64 0, .int .i64 0, .string ⟨#[]⟩, .slice (some ⟨w1.heap.size, 0, none⟩) 1 1] : Array Value).all (·.oneCell') = true := by simp [Value.oneCell']
  have HSS : (#[.int .i64 0, .int .i64 0, .int .i64 0, .string ⟨#[]⟩, .slice none 0 0] : Array Value).size = (#[.int .i64 3, .int .i64 0, .int .i64 0, .string ⟨#[]⟩, .slice (some ⟨w1.heap.size, 0, none⟩) 1 1] : Array Value).size := rfl
  have HSZ : (Tryz.prog.info? 46).map (·.size) = some (#[.int .i64 3, .int .i64 0, .int .i64 0, .string ⟨#[]⟩, .slice (some ⟨w1.heap.size, 0, none⟩) 1 1] : Array Value).size := by
    have : (Tryz.prog.info? 46).map (·.size) = some 5 := by kernel_rfl
    exact this
  have HZW : Hid (Row (w1.alloc (.cells #[.int .i64 x.k, .int .i64 x.o, .int .i64 x.n, .string ⟨x.s.toArray⟩, .slice A x.ks.length c] 46)) (w.heap.size + 1) 46 #[.int .i64 0, .int .i64 0, .int .i64 0, .string ⟨#[]⟩, .slice none 0 0]) := Lib.hid (HZ1.out.alloc _)
  go_wp2_with (refine wpList_store_row (o := ⟨none, Op.store _ _ _, _, _, _, _⟩) rfl _ _ _ rfl (w.heap.size + 1) #[.int .i64 3, .int .i64 0, .int .i64 0, .string ⟨#[]⟩, .slice (some ⟨w1.heap.size, 0, none⟩) 1 1] rfl rfl _ _ HZW.out HSZ HSS HON ?_)
  clear y0 y1 y2 y3 y4
  obtain ⟨w2, hw2⟩ : ∃ w2, w2 = w1.alloc (.cells #[.int .i64 x.k, .int .i64 x.o, .int .i64 x.n, .string ⟨x.s.toArray⟩, .slice A x.ks.length c] 46) := ⟨_, rfl⟩
  rw [← hw2]
  have hb2 : Below w1.heap.size w1 w2 := by rw [hw2]; exact (Below.refl _ _).alloc (Nat.le_refl _) _
  have hr2 : Row w2 w1.heap.size 46 #[.int .i64 x.k, .int .i64 x.o, .int .i64 x.n, .string ⟨x.s.toArray⟩, .slice A x.ks.length c] := by rw [hw2]; exact Row.made _ _ _
  have hz2 : Row w2 (w.heap.size + 1) 46 #[.int .i64 0, .int .i64 0, .int .i64 0, .string ⟨#[]⟩, .slice none 0 0] := by rw [hw2]; exact HZ1.out.alloc _
  clear hw2
  have hzz := HZZ.out
  have hr3 : Row (w2.setRow (w.heap.size + 1) #[.int .i64 3, .int .i64 0, .int .i64 0, .string ⟨#[]⟩, .slice (some ⟨w1.heap.size, 0, none⟩) 1 1]) w1.heap.size 46 #[.int .i64 x.k, .int .i64 x.o, .int .i64 x.n, .string ⟨x.s.toArray⟩, .slice A x.ks.length c] := (setRow_other w2 _ _ _ (by omega)).trans hr2
  have hz3 : Row (w2.setRow (w.heap.size + 1) #[.int .i64 3, .int .i64 0, .int .i64 0, .string ⟨#[]⟩, .slice (some ⟨w1.heap.size, 0, none⟩) 1 1]) (w.heap.size + 1) 46 #[.int .i64 3, .int .i64 0, .int .i64 0, .string ⟨#[]⟩, .slice (some ⟨w1.heap.size, 0, none⟩) 1 1] := setRow_heap w2 _ _ _ _ _ hz2
  have hb3 : Below w.heap.size w (w2.setRow (w.heap.size + 1) #[.int .i64 3, .int .i64 0, .int .i64 0, .string ⟨#[]⟩, .slice (some ⟨w1.heap.size, 0, none⟩) 1 1]) := below_setRow (HB1.out.trans (hb2.mono HB1.out.size)) (by omega) _
  have hbz := hb2.size
  refine bodyPost_ret (results_cell_row rfl _ _ (w.heap.size + 1) _ _ _ _ rfl hz3 Tryz.underlying46 rfl (by kernel_rfl)) rfl ⟨some ⟨w1.heap.size, 0, none⟩, rfl, ?_, hb3⟩
  refine .inr ⟨w1.heap.size, 0, rfl, ?_⟩
  have k0 := hr3.cell 0
  have k1 := hr3.cell 1
  have k2 := hr3.cell 2
  have k3 := hr3.cell 3
  have k4 := hr3.cell 4
  simp at k0 k1 k2 k3 k4
  unfold ECs
  refine ⟨EC.mk' hr3.lt k0 k1 k2 k3 k4 (HK.out.move fun b hb => ⟨Nat.lt_of_lt_of_le hb hb3.size, hb3.block b hb⟩), ?_⟩
  unfold ECs
  trivial

def x60 : X := .mk 0 0 1 [] []
def x61 : X := .mk 3 0 0 [] [x60]
def x62 : X := .mk 3 0 0 [] [x61]
theorem x62_right : rightB x62 = true := by
  have h0 : fitB x60 = true := fitB_true (.inl ⟨rfl, by simp [fitK, x60, X.o, X.n, X.s, X.ks, calP]⟩)
  have h1 : fitB x61 = true := fitB_true (.inr (.inr (.inr (.inl ⟨rfl, by simp [fitK, x61, X.o, X.n, X.s, X.ks, calP]⟩))))
  have h2 : fitB x62 = true := fitB_true (.inr (.inr (.inr (.inl ⟨rfl, by simp [fitK, x62, X.o, X.n, X.s, X.ks, calP]⟩))))
  have h3 : inB x62.depth 200 = true := inB_true (by decide)
  have h4 : x60.shape = true := by rw [X.shape_walk]; simp [x60, X.walk, X.walks] at h0 ⊢; exact h0
  have h5 : x61.shape = true := by simp only [x61, X.shape, X.shapes, h4]; simpa [x61] using h1
  rw [rightB, h3, Bool.true_and]
  simp only [x62, X.shape, X.shapes, h5]
  simpa [x62] using h2
theorem x62_txt : x62.txt = [45, 32, 45, 49] := by
  have h0 : x60.txt = [49] := by
    rw [txt_int rfl]
    show Lib.decDigits 1 = _
    unfold Lib.decDigits
    decide
  have h1 : x61.txt = [45, 49] := by rw [txt_un (a := x60) rfl rfl, h0]; decide
  rw [txt_un (a := x61) rfl rfl, h1]; decide

set_option maxRecDepth 100000 in
set_option maxHeartbeats 2000000 in
theorem awake6_any (w : World) (ht : ShapesAt w) (hpr : PrEnv w.heap.size w) : TrueC 17 #[] w := by
  have H1 : Hid (Calls Tryz.prog 36 #[.agg #[.int .i64 0, .int .i64 0, .int .i64 1, .string ⟨#[]⟩, .slice none 0 0]] w fun e w' => ∃ A', e = .returned (ev x61 A' 1) ∧ KS w' (Old w') A' [x60] ∧ Below w.heap.size w w') := Lib.hid (neg6 x60 none 0 w (.inl rfl))
  have H2 : Hid (∀ w1 A, KS w1 (Old w1) A [x60] → Calls Tryz.prog 36 #[ev x61 A 1] w1 fun e w' => ∃ A', e = .returned (ev x62 A' 1) ∧ KS w' (Old w') A' [x61] ∧ Below w1.heap.size w1 w') := Lib.hid fun w1 A hk => neg6 x61 A 1 w1 hk
  have H3 : Hid (∀ w2 A, Below w.heap.size w w2 → KS w2 (Old w2) A [x61] → Calls Tryz.prog 20 #[ev x62 A 1] w2 fun e w' => e = .returned (.string ⟨#[45, 32, 45, 49]⟩) ∧ Below w2.heap.size w2 w') := Lib.hid fun w2 A hb hk => by
    have h := pexpr_any x62 A 1 w2 (Old w2) (ht.later hb) (by simp [x62, x61, x60, X.ok, X.oks]) (by decide) hk (fun _ h => h) ((hpr.later hb).up hb.size)
    rw [if_pos x62_right, x62_txt] at h
    exact h
  clear ht hpr
  unfold TrueC
  go_enter Tryz.func17, Tryz.ntmps17
  go_wp2_with (first
    | (go_at_call 36; refine H1.out.mono ?_; rintro e w1 ⟨A1, rfl, hk1, hb1⟩; have HK1 := Lib.hid hk1; have HB1 := Lib.hid hb1; clear hk1 hb1 H1; simp only [ev])
    | (go_at_call 36; refine (H2.out w1 A1 HK1.out).mono ?_; rintro e w2 ⟨A2, rfl, hk2, hb2⟩; have HK2 := Lib.hid hk2; have HB2 := Lib.hid (HB1.out.trans (hb2.mono HB1.out.size)); clear hk2 hb2 H2; simp only [ev])
    | (go_at_call 20; refine (H3.out w2 A2 HB2.out HK2.out).mono ?_; rintro e w3 ⟨rfl, hb3⟩; have HB3 := Lib.hid (HB2.out.trans (hb3.mono HB2.out.size)); clear hb3 H3))
  go_ret
  exact ⟨rfl, HB3.out⟩

end Go.Proofs.YtdabndiaflagpaaGreatDoor
namespace Go.Proofs.YtdabndiaflagpaaGreatDoor
open Go.RowKit

set_option maxRecDepth 100000 in
/-- A table of texts, cell by cell. -/
theorem cells_of_texts6 {H : Type} {enc : TypeId × Value → H} {w : World} {base : Nat} {sp : Nat → Bool} {held : Bool} {n fuel : Nat} {t e : TypeId} {cs : List Value} {rows : List T} {p : List MemPlace} (ht : Tryz.prog.underlying t = some (.array n e)) (he : Tryz.prog.underlying e = some .string) (hC : Tryz.prog.cellsOf e = 1)
    (h : DataW.trod enc Tryz.prog w base sp held fuel t cs = some (.agg (rows.map fun l => .lit (.string l)), p)) : ∀ (i : Nat) (l : T), rows[i]? = some l → cs[i]? = some (.string ⟨l.toArray⟩) := by
  obtain ⟨xs, m, rfl, hx, hlen, hn, hel⟩ := DataW.trod_array ht h
  have hxs : rows.map (fun l => (DataW.lit (.string l) : DataW H)) = xs.map (·.1) := by
    injection hx with hx _
    injection hx
  intro i l hi
  have hin : i < n := by
    have := congrArg List.length hxs
    simp only [List.length_map] at this
    have := (List.getElem?_eq_some_iff.1 hi).1
    omega
  have h1 := hel i hin
  rw [hC, Nat.mul_one] at h1
  have h2 : (xs.map (·.1))[i]? = some (.lit (.string l)) := by rw [← hxs]; simp [hi]
  rw [List.getElem?_map] at h2
  cases hy : xs[i]? with
  | none => rw [hy] at h2; cases h2
  | some y =>
    rw [hy] at h1 h2
    injection h2 with h2
    obtain ⟨s, h3, h4, _⟩ := DataW.trod_string he h1
    rw [h4] at h2
    injection h2 with h2
    injection h2 with h2
    have h5 : cs[i]? = some (.string s) := by
      have := congrArg (fun l : List Value => l[0]?) h3
      simpa using this
    rw [h5, ← h2]
theorem gOps : Tryz.prog.globalNamed "shuttlecock/print.operators" = some 2 := by kernel_rfl
theorem gOpsType : (Tryz.prog.globals[2]?).map (·.type) = some 182 := by kernel_rfl
theorem gPre : Tryz.prog.globalNamed "shuttlecock/print.prefixes" = some 1 := by kernel_rfl
theorem gPreType : (Tryz.prog.globals[1]?).map (·.type) = some 178 := by kernel_rfl
theorem gPowType : (Tryz.prog.globals[5]?).map (·.type) = some 221 := by kernel_rfl
def opRows : List (List Lit) := (List.range 16).map fun i => [.string (opS.getD i []), .int .i64 (levL.getD i 0)]
set_option maxRecDepth 100000 in
theorem brEnv_at {W : World} (hL : laidMetH Tryz.prog Rows.printBracketsUptoRow.laid W) : PrEnv W.heap.size W := by
  have h : laidMet Tryz.prog Rows.printBracketsUptoRow.laid W := hL
  have hpow : Lib.TabIs Tryz.prog W "internal/strconv.uint64pow10" .u64 Lib.pow10Tab :=
    Lib.tabIs_of_head gPow gPowType Tryz.underlying221 Tryz.underlying206 (by kernel_rfl) (by kernel_rfl) h.tail.tail
  have hops : ∀ (i j : Nat) (r : List Lit) (l : Lit), opRows[i]? = some r → r[j]? = some l → W.cell? ⟨2, i * 2 + j, none⟩ = some (litV l) := by
    obtain ⟨ps, ⟨g', t', cs, fuel, p, q, hg', ht', hvar, hd, _, _⟩, _⟩ := h.tail.tail.tail.tail.tail.tail.tail.tail.tail
    obtain rfl := Option.some.inj (gOps.symm.trans hg')
    obtain rfl := Option.some.inj (gOpsType.symm.trans ht')
    have hc := cells_of_rows (rows := opRows) Tryz.underlying182 Tryz.underlying181 (by kernel_rfl) (by kernel_rfl) (by kernel_rfl) (fun j f hf m v l q h => by
      match j, hf with
      | 0, hf => obtain rfl := Option.some.inj hf; obtain ⟨n, hv, hx, _⟩ := DataW.trod_string Tryz.underlying9 h; injection hx with hx; injection hx with hx; subst hx; injection hv
      | 1, hf => obtain rfl := Option.some.inj hf; obtain ⟨n, hv, hx, _⟩ := DataW.trod_int Tryz.underlying3 h; injection hx with hx; injection hx with hx; subst hx; injection hv
      | j + 2, hf => simp at hf) (by simp [opRows]) hd
    intro i j r l hi hj
    have := World.var?_cell gOps hvar (i * 2 + j)
    rw [this]
    simpa using hc i j r l hi hj
  have hpre : ∀ (i : Nat) t, preS[i]? = some t → W.cell? ⟨1, i, none⟩ = some (.string ⟨t.toArray⟩) := by
    obtain ⟨ps, ⟨g', t', cs, fuel, p, q, hg', ht', hvar, hd, _, _⟩, _⟩ := h.tail.tail.tail.tail.tail.tail.tail.tail.tail.tail
    obtain rfl := Option.some.inj (gPre.symm.trans hg')
    obtain rfl := Option.some.inj (gPreType.symm.trans ht')
    have hc := cells_of_texts6 (rows := preS) Tryz.underlying178 Tryz.underlying9 (by kernel_rfl) hd
    intro i l hi
    have := World.var?_cell gPre hvar i
    rw [this]
    simpa using hc i l hi
  refine ⟨fun i t hi => ?_, fun i z hi => ?_, hpre, hpow, ?_⟩
  · have hi16 : i < 16 := (List.getElem?_eq_some_iff.1 hi).1
    have h1 := hops i 0 [.string (opS.getD i []), .int .i64 (levL.getD i 0)] (.string (opS.getD i [])) (by simp [opRows, hi16]) rfl
    rw [Nat.add_zero] at h1
    rw [h1, List.getD_eq_getElem?_getD, hi]
    rfl
  · have hi16 : i < 16 := (List.getElem?_eq_some_iff.1 hi).1
    have h1 := hops i 1 [.string (opS.getD i []), .int .i64 (levL.getD i 0)] (.int .i64 (levL.getD i 0)) (by simp [opRows, hi16]) rfl
    rw [h1, List.getD_eq_getElem?_getD, hi]
    rfl
  · refine ⟨World.block_lt_of_cell? W _ (hops 0 0 _ _ rfl rfl), World.block_lt_of_cell? W _ (hpre 0 _ rfl), World.block_lt_of_cell? W _ (hpow.cell gPow 0 (by decide))⟩

theorem br_split {W : World} (hL : laidMetH Tryz.prog Rows.printBracketsUptoRow.laid W) : laidMet Tryz.prog (Rows.parseTellsRow.laid ++ [("shuttlecock/print.operators", Rows.laid_shuttlecock_print_operators), ("shuttlecock/print.prefixes", Rows.laid_shuttlecock_print_prefixes)]) W := hL
/-- THE WITNESS: the heap that the door's own run leaves. -/
theorem br_door_met (os : Os) (args : Array Value) : laidMetH Tryz.prog Rows.printBracketsUptoRow.laid ((World.doorLaid Tryz.prog 200 os).forCall (fun _ _ => 0) ⟨#[], args, []⟩).memory :=
  laidMetH_of_parts3 (fuel := 8) (laidMet_of_run' 8 (by kernel_rfl) (by kernel_rfl)) (by kernel_rfl) (by kernel_rfl)

end Go.Proofs.YtdabndiaflagpaaGreatDoor
