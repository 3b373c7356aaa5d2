/- DERIVED. Words for rows that a call itself makes, of no program: who owns what; append from a slice or a string; string(..) and []byte(..). -/
import Derived.Test.YtfajnflfonechaaDoorMem
import Derived.Maps.AppendAt
import Derived.Lib.AppendStr
import Derived.Lib.ConvBytes
import Derived.Lib.Hide
import Derived.Laws.BytesArg
import Derived.OwnWalk
namespace Go.Proofs.YtfajnflfonechaaDoor
open Go.RowKit

/-- The value v is a slice of the call's own (its row lies from block B on), and holds just these cells. -/
def Owns (w : World) (B : Nat) (e : TypeId) (v : Value) (xs : List Value) : Prop := w.ownsRow B e 1 v xs.length xs

section
variable {w w' : World} {B : Nat} {e : TypeId} {v : Value} {xs : List Value}

theorem Owns.nil (w : World) (B : Nat) (e : TypeId) : Owns w B e (.slice none 0 0) [] := World.ownsRow_nil w B e 1
theorem Owns.made (w : World) (cs : Array Value) (n : Nat) (hn : cs.size = n) (hB : B ≤ w.heap.size) (hm : n ≤ maxLen) : Owns (w.alloc (.cells cs e)) B e (.slice (some ⟨w.heap.size, 0, none⟩) n n) cs.toList := by
  subst hn
  exact World.ownsRow_lit w cs cs.size hB hm (by simp)
theorem Owns.form (h : Owns w B e v xs) : ∃ A c, v = .slice A xs.length c ∧ Lies w w.heap.size A xs := by
  rcases h.2 with ⟨rfl, hx⟩ | ⟨g, cap, cur, rfl, hb, hg, hnc, hcm, hcs, htake⟩
  · have : xs = [] := List.eq_nil_of_length_eq_zero hx
    subst this
    exact ⟨_, _, rfl, Lies.none_⟩
  · refine ⟨_, _, rfl, fun _ => ⟨g, 0, rfl, (Array.getElem?_eq_some_iff.1 hg).1, fun j u hu => ?_⟩⟩
    have hj : j < xs.length := by
      rcases Nat.lt_or_ge j xs.length with h' | h'
      · exact h'
      · rw [List.getElem?_eq_none h'] at hu; cases hu
    have := World.ownsRow.cellAt (show w.ownsRow B e 1 (.slice (some ⟨g, 0, none⟩) xs.length cap) xs.length xs from h) j (by omega)
    rw [Nat.zero_add, this, hu]
theorem Owns.below {B' : Nat} (h : Owns w B e v xs) (hb : Below B' w w') (hB : ∀ k, v.ownBlock = some k → k < B') : Owns w' B e v xs := by
  refine ⟨h.1, ?_⟩
  rcases h.2 with hn | ⟨g, cap, cur, rfl, hbg, hg, rest⟩
  · exact .inl hn
  · exact .inr ⟨g, cap, cur, rfl, hbg, by rw [hb.block g (hB g rfl)]; exact hg, rest⟩
theorem Owns.below_all (h : Owns w B e v xs) (hb : Below w.heap.size w w') : Owns w' B e v xs :=
  h.below hb fun k hk => (World.ownsRow.lt h k hk).2
theorem Owns.alloc (h : Owns w B e v xs) (o : Obj) : Owns (w.alloc o) B e v xs := World.ownsRow.alloc h o
theorem Owns.lt (h : Owns w B e v xs) : ∀ k, v.ownBlock = some k → B ≤ k ∧ k < w.heap.size := World.ownsRow.lt h
theorem Owns.row (h : Owns w B e v xs) (hn : 0 < xs.length) : ∃ g c, v = .slice (some ⟨g, 0, none⟩) xs.length c ∧ B ≤ g ∧ g < w.heap.size := by
  rcases h.2 with ⟨_, hx⟩ | ⟨g, cap, cur, rfl, hbg, hg, _⟩
  · omega
  · exact ⟨g, cap, rfl, hbg, (Array.getElem?_eq_some_iff.1 hg).1⟩
theorem Owns.cell {g n c : Nat} (h : Owns w B e (.slice (some ⟨g, 0, none⟩) n c) xs) (j : Nat) (hj : j < xs.length) : w.cell? ⟨g, j, none⟩ = xs[j]? := by
  have hn : n = xs.length := by
    rcases h.2 with ⟨h', _⟩ | ⟨g', cap', cur, h', _⟩
    · simp at h'
    · simp at h'; exact h'.2.1
  subst hn
  exact World.ownsRow.cellAt h j (by omega)
theorem Owns.free {g n c : Nat} (h : Owns w B e (.slice (some ⟨g, 0, none⟩) n c) xs) (j : Nat) : w.frozen? ⟨g, j, none⟩ = false := by
  have hn : n = xs.length := by
    rcases h.2 with ⟨h', _⟩ | ⟨g', cap', cur, h', _⟩
    · simp at h'
    · simp at h'; exact h'.2.1
  subst hn
  exact World.ownsRow.frozenAt h j
theorem Owns.store {g n c : Nat} (h : Owns w B e (.slice (some ⟨g, 0, none⟩) n c) xs) (j : Nat) (u : Value) : Owns (w.setCell ⟨g, j, none⟩ u) B e (.slice (some ⟨g, 0, none⟩) n c) (xs.set j u) := by
  have hn : n = xs.length := by
    rcases h.2 with ⟨h', _⟩ | ⟨g', cap', cur, h', _⟩
    · simp at h'
    · simp at h'; exact h'.2.1
  subst hn
  have := (World.ownsRow.stored h j u).1
  unfold Owns
  rw [List.length_set]
  exact this
theorem Owns.lies {A : Option Addr} {n c : Nat} (h : Owns w B e (.slice A n c) xs) : Lies w w.heap.size A xs := by
  obtain ⟨A', c', hv, hl⟩ := h.form
  injection hv with h1 _ _
  subst h1
  exact hl
theorem Owns.base {B' : Nat} (h : Owns w B e v xs) (hB : B' ≤ B) : Owns w B' e v xs := by
  refine ⟨h.1, ?_⟩
  rcases h.2 with hn | ⟨g, cap, cur, rfl, hbg, rest⟩
  · exact .inl hn
  · exact .inr ⟨g, cap, cur, rfl, by omega, rest⟩

theorem grown_below {row : Option Nat} (hg : w.grownBy w' row) (hB : B ≤ w.heap.size) (hr : ∀ k, row = some k → B ≤ k) : Below B w w' := (Below.refl _ _).grown hg hB hr
end

theorem lies_new (w : World) (cs : Array Value) (t : TypeId) : Lies (w.alloc (.cells cs t)) (w.alloc (.cells cs t)).heap.size (some ⟨w.heap.size, 0, none⟩) cs.toList := fun _ =>
  ⟨w.heap.size, 0, rfl, by simp, fun j u hu => by
    rw [Nat.zero_add, (Row.made w t cs).cell j, ← hu]
    simp⟩

theorem lies_marked (w : World) (cs : Array Value) (t : TypeId) (fr : Nat × Nat) : Lies (w.alloc (.cells cs t fr)) (w.alloc (.cells cs t fr)).heap.size (some ⟨w.heap.size, 0, none⟩) cs.toList := fun _ =>
  ⟨w.heap.size, 0, rfl, by simp, fun j u hu => by
    rw [Nat.zero_add, cell_of_row _ _ j cs t fr (heap_alloc_new w _), ← hu]
    simp⟩

theorem addr_add (b off j : Nat) : (⟨b, off, none⟩ : Addr).add j = ⟨b, off + j, none⟩ := by
  unfold Addr.add; split <;> simp_all

section
variable {P : Program} (w : World)

/-- append onto a row of the call's own; the source may be nil, empty or any other. -/
theorem run_app (B : Nat) (t ty e : TypeId) (i : TypeInfo) (z : Value) (bytes : Nat) (ht : P.underlying t = some (.slice e)) (hi : P.info? e = some i) (hz : i.zero = some z)
    (hsize : i.size = 1) (hby : i.bytes = bytes) (hzs : z.cells.size = 1)
    (v : Value) (xs : List Value) (hown : Owns w B e v xs) (A : Option Addr) (c : Nat) (news : List Value) (hA : Lies w w.heap.size A news) (h1 : ∀ u ∈ news, u.oneCell' = true) (m : Nat) (hm : m = news.length)
    (h63 : xs.length + news.length ≤ maxLen) (hbytes : (xs.length + news.length) * bytes ≤ 140737488355328) (hB : B ≤ w.heap.size) :
    ∃ v' w', (Builtin.append_ #[t, t] ty #[v, .slice A m c]).run P w = .ok v' w' ∧ Owns w' B e v' (xs ++ news) ∧ Below B w w' := by
  subst hm
  have key : ∀ a : Addr, A = some a → (∀ j u, news[j]? = some u → w.cell? (a.add j) = some u) → ∃ v' w', (Builtin.append_ #[t, t] ty #[v, .slice A news.length c]).run P w = .ok v' w' ∧ Owns w' B e v' (xs ++ news) ∧ Below B w w' := by
    intro a ha hc
    subst ha
    obtain ⟨v', w', hr, h2, h3, _, _⟩ := run_append_own_at (P := P) w B t ty e i z 1 bytes ht hi hz hsize hby hzs (by omega) v xs.length xs hown a news.length c news (by omega) hc h1 h63 hbytes hB
    exact ⟨v', w', hr, by unfold Owns; rw [List.length_append]; exact h2, grown_below h3 hB fun k hk => (hown.lt k hk).1⟩
  by_cases hn : news = []
  · subst hn
    cases A with
    | none =>
      have hr : (Builtin.append_ #[t, t] ty #[v, .slice none 0 c]).run P w = .ok v w := by
        rcases hown.2 with ⟨rfl, _⟩ | ⟨g, cap, cur, rfl, _, _, hnc, _⟩
        · simp [Builtin.append_, run_underlying ht, sizeOf, typeInfo, hi, Builtin.lenOf, Builtin.firstCells]
        · simp [Builtin.append_, run_underlying ht, sizeOf, typeInfo, hi, Builtin.lenOf, Builtin.firstCells, hnc, storeCells]
      exact ⟨v, w, hr, by simpa using hown, Below.refl _ _⟩
    | some a => exact key a rfl (by simp)
  · obtain ⟨b, off, ha, _, hc⟩ := hA hn
    exact key _ ha fun j u hu => by rw [addr_add]; exact hc j u hu

theorem wpList_app {ops : Array Oper} {rest : List Oper} {o : Oper} {a : Act} {Q : Exit → Act → World → Prop} (hgd : o.guard = none) (s x : Operand) (t : TypeId)
    (ho : o.op = .call { callee := .builtin .append, args := #[s, x], argTypes := #[t, t] })
    (B : Nat) (e : TypeId) (i : TypeInfo) (z : Value) (bytes : Nat) (ht : P.underlying t = some (.slice e)) (hi : P.info? e = some i) (hz : i.zero = some z)
    (hsize : i.size = 1) (hby : i.bytes = bytes) (hzs : z.cells.size = 1) (h64 : bytes ≤ 64)
    (v : Value) (hs : a.eval s = v) (xs : List Value) (hown : Owns w B e v xs) (A : Option Addr) (m c : Nat) (hx : a.eval x = .slice A m c) (news : List Value) (hA : Lies w w.heap.size A news) (hm : m = news.length)
    (h : ∀ v' w', Owns w' B e v' (xs ++ news) → Below B w w' → wpList P ops Q rest (a.put o.dst v') w')
    (h1 : ∀ u ∈ news, u.oneCell' = true) (hlen : xs.length + news.length ≤ 1099511627900) (hB : B ≤ w.heap.size) : wpList P ops Q (o :: rest) a w :=
  wpList_plain hgd fun _ hK => by
    have hb2 : (xs.length + news.length) * bytes ≤ 1099511627900 * 64 := Nat.mul_le_mul hlen h64
    obtain ⟨v', w', hr, h2, h3⟩ := run_app (P := P) w B t o.type e i z bytes ht hi hz hsize hby hzs v xs hown A c news hA h1 m hm (by simp only [maxLen]; omega) (by omega) hB
    unfold Oper.wp execOp
    simp only [ho, resolve, invoke, builtin, Sem.run_bind, Sem.run_pure, Result.andThen_ok, List.map_toArray, List.map_cons, List.map_nil, hs, hx, hr]
    exact hK _ _ (h v' w' h2 h3)

/-- make of an empty row with room for n. -/
theorem wpList_mk {ops : Array Oper} {rest : List Oper} {o : Oper} {a : Act} {Q : Exit → Act → World → Prop}
    (hg : o.guard = none) (l c : Operand) (t : TypeId) (hop : o.op = Op.makeSlice t l c)
    (B : Nat) (e : TypeId) (i : TypeInfo) (z : Value) (bytes : Nat) (h1 : P.underlying t = some (.slice e)) (h2 : P.info? e = some i) (h3 : i.zero = some z) (h4 : i.size = 1) (h5 : i.bytes = bytes) (h64 : bytes ≤ 64)
    (kl kc : IntKind) (C : Int) (n : Nat) (hl : a.eval l = .int kl 0) (hc : a.eval c = .int kc C)
    (h : ∀ w', Owns w' B e (.slice (some ⟨w.heap.size, 0, none⟩) 0 n) [] → Below w.heap.size w w' → wpList P ops Q rest (a.put o.dst (.slice (some ⟨w.heap.size, 0, none⟩) 0 n)) w')
    (hC : C = (n : Int)) (hn : n ≤ 1099511627900) (hB : B ≤ w.heap.size) : wpList P ops Q (o :: rest) a w := by
  subst h5
  have hb2 : i.bytes * n ≤ 64 * 1099511627900 := Nat.mul_le_mul h64 hn
  exact wpList_make_own w hg l c t hop B e i z 1 h1 h2 h3 h4 kl kc C n hl hc hC (by omega) (by simp only [maxLen]; omega) hB fun w' r1 r2 =>
    h w' r1 (grown_below r2 (Nat.le_refl _) (by simp))

/-- The value v is a slice without room, whosever its row is. -/
def Full (w : World) (v : Value) (xs : List Value) : Prop := xs ≠ [] ∧ ∃ A, v = .slice A xs.length xs.length ∧ Lies w w.heap.size A xs
/-- What something may be put behind without turning what is not the call's own: a row of the call's own, or one without room. -/
def Src (w : World) (B : Nat) (e : TypeId) (v : Value) (xs : List Value) : Prop := Owns w B e v xs ∨ Full w v xs

theorem Owns.src {w : World} {B : Nat} {e : TypeId} {v : Value} {xs : List Value} (h : Owns w B e v xs) : Src w B e v xs := .inl h
theorem Full.src {w : World} {B : Nat} {e : TypeId} {v : Value} {xs : List Value} (h : Full w v xs) : Src w B e v xs := .inr h
theorem Full.later {w w' : World} {v : Value} {xs : List Value} (h : Full w v xs) (hb : Below w.heap.size w w') : Full w' v xs := by
  obtain ⟨hn, A, hv, hA⟩ := h
  exact ⟨hn, A, hv, (hA.below hb).more hb.size⟩
theorem Full.made (w : World) (cs : Array Value) (t : TypeId) (n : Nat) (hn : cs.size = n) (h0 : 0 < n) : Full (w.alloc (.cells cs t)) (.slice (some ⟨w.heap.size, 0, none⟩) n n) cs.toList := by
  subst hn
  refine ⟨fun h => ?_, _, by simp, lies_new w cs t⟩
  have h2 : cs.toList.length = 0 := by rw [h]; rfl
  rw [Array.length_toList] at h2
  omega
theorem Src.later {w w' : World} {B : Nat} {e : TypeId} {v : Value} {xs : List Value} (h : Src w B e v xs) (hb : Below w.heap.size w w') : Src w' B e v xs := by
  rcases h with h | h
  · exact .inl (h.below_all hb)
  · exact .inr (h.later hb)

theorem run_app_src (B : Nat) (t ty e : TypeId) (i : TypeInfo) (z : Value) (bytes : Nat) (ht : P.underlying t = some (.slice e)) (hi : P.info? e = some i) (hz : i.zero = some z)
    (hsize : i.size = 1) (hby : i.bytes = bytes) (hzs : z.cells.size = 1)
    (v : Value) (xs : List Value) (hown : Src w B e v xs) (A : Option Addr) (c : Nat) (news : List Value) (hA : Lies w w.heap.size A news) (h1 : ∀ u ∈ news, u.oneCell' = true) (m : Nat) (hm : m = news.length) (hm0 : 0 < m)
    (h63 : xs.length + news.length ≤ maxLen) (hbytes : (xs.length + news.length) * bytes ≤ 140737488355328) (hB : B ≤ w.heap.size) :
    ∃ v' w', (Builtin.append_ #[t, t] ty #[v, .slice A m c]).run P w = .ok v' w' ∧ Owns w' B e v' (xs ++ news) ∧ Below B w w' := by
  rcases hown with hown | ⟨hxs, A0, rfl, hA0⟩
  · exact run_app w B t ty e i z bytes ht hi hz hsize hby hzs v xs hown A c news hA h1 m hm h63 hbytes hB
  · subst hm
    obtain ⟨b0, o0, rfl, _, hc0⟩ := hA0 hxs
    obtain ⟨b1, o1, rfl, _, hc1⟩ := hA (by rintro rfl; simp at hm0)
    have h63' : xs.length + news.length ≤ 9223372036854775807 := by simp only [maxLen] at h63; omega
    have hr := run_append_grow (P := P) w t ty e i z ht hi hz ⟨b0, o0, none⟩ xs.length xs.length xs (by rw [hsize]; omega) (fun j u hu => by rw [addr_add]; exact hc0 j u hu) ⟨b1, o1, none⟩ news.length c news (by rw [hsize]; omega) (fun j u hu => by rw [addr_add]; exact hc1 j u hu) (by omega) (by omega)
      (by subst hby; exact growslice_fits (by omega) hbytes)
    have hge := grownCap_ge w (xs.length + news.length) xs.length e
    have hcm := grownCap_le_maxLen w (xs.length + news.length) xs.length e h63
    refine ⟨_, _, hr, ⟨by simp, .inr ⟨w.heap.size, _, _, by simp, hB, heap_alloc_new w.drew _, by simpa using hge, hcm, ?_, ?_⟩⟩, ((Below.refl _ _).drew).alloc hB _⟩
    · simp only [Array.size_append, List.size_toArray, size_zeroCells, hzs]
      omega
    · simp only [Array.toList_append, List.append_assoc]
      rw [← List.append_assoc]
      have : (xs ++ news).length * 1 = (xs ++ news).length := by omega
      rw [this]
      exact List.take_left

theorem wpList_app_src {ops : Array Oper} {rest : List Oper} {o : Oper} {a : Act} {Q : Exit → Act → World → Prop} (hgd : o.guard = none) (s x : Operand) (t : TypeId)
    (ho : o.op = .call { callee := .builtin .append, args := #[s, x], argTypes := #[t, t] })
    (B : Nat) (e : TypeId) (i : TypeInfo) (z : Value) (bytes : Nat) (ht : P.underlying t = some (.slice e)) (hi : P.info? e = some i) (hz : i.zero = some z)
    (hsize : i.size = 1) (hby : i.bytes = bytes) (hzs : z.cells.size = 1) (h64 : bytes ≤ 64)
    (v : Value) (hs : a.eval s = v) (xs : List Value) (hown : Src w B e v xs) (A : Option Addr) (m c : Nat) (hx : a.eval x = .slice A m c) (news : List Value) (hA : Lies w w.heap.size A news) (hm : m = news.length) (hm0 : 0 < m)
    (h : ∀ v' w', Owns w' B e v' (xs ++ news) → Below B w w' → wpList P ops Q rest (a.put o.dst v') w')
    (h1 : ∀ u ∈ news, u.oneCell' = true) (hlen : xs.length + news.length ≤ 1099511627900) (hB : B ≤ w.heap.size) : wpList P ops Q (o :: rest) a w :=
  wpList_plain hgd fun _ hK => by
    have hb2 : (xs.length + news.length) * bytes ≤ 1099511627900 * 64 := Nat.mul_le_mul hlen h64
    obtain ⟨v', w', hr, h2, h3⟩ := run_app_src (P := P) w B t o.type e i z bytes ht hi hz hsize hby hzs v xs hown A c news hA h1 m hm hm0 (by simp only [maxLen]; omega) (by omega) hB
    unfold Oper.wp execOp
    simp only [ho, resolve, invoke, builtin, Sem.run_bind, Sem.run_pure, Result.andThen_ok, List.map_toArray, List.map_cons, List.map_nil, hs, hx, hr]
    exact hK _ _ (h v' w' h2 h3)

theorem bytes_strCells (s : ByteArray) : Lib.strCells s = bytesV s.data.toList := rfl

/-- append of a string's bytes. -/
theorem wpList_app_str {ops : Array Oper} {rest : List Oper} {o : Oper} {a : Act} {Q : Exit → Act → World → Prop} (hgd : o.guard = none) (sl x : Operand) (t u : TypeId)
    (ho : o.op = .call { callee := .builtin .append, args := #[sl, x], argTypes := #[t, u] })
    (B : Nat) (e : TypeId) (i : TypeInfo) (ht : P.underlying t = some (.slice e)) (hu : P.underlying u = some .string) (hi : P.info? e = some i) (hz : i.zero = some (.int .u8 0))
    (hsize : i.size = 1) (hby : i.bytes = 1)
    (v : Value) (hs : a.eval sl = v) (xs : List Value) (hown : Owns w B e v xs) (s : ByteArray) (hx : a.eval x = .string s)
    (h : ∀ v' w', Owns w' B e v' (xs ++ bytesV s.data.toList) → Below B w w' → wpList P ops Q rest (a.put o.dst v') w')
    (hlen : xs.length + s.size ≤ 1099511627900) (hB : B ≤ w.heap.size) : wpList P ops Q (o :: rest) a w :=
  Lib.wpList_append_own_string w hgd sl x t u ho B e i ht hu hi hz hsize hby v xs.length xs hs hown s hx (by simp only [maxLen]; omega) (by omega) hB fun v' w' h2 h3 _ =>
    h v' w' (by unfold Owns; rw [List.length_append, bytesV_length]; simpa [bytes_strCells] using h2) (grown_below h3 hB fun k hk => (hown.lt k hk).1)

/-- string(b) of bytes that lie in memory. -/
theorem run_str (src e dst : TypeId) (hs : P.underlying src = some (.slice e)) (he : P.underlying e = some (.int .u8)) (hd : P.underlying dst = some .string)
    (A : Option Addr) (m c : Nat) (l : List UInt8) (hm : m = l.length) (hA : Lies w w.heap.size A (bytesV l)) :
    (convert src dst (.slice A m c)).run P w = .ok (.string ⟨l.toArray⟩) w := by
  subst hm
  have key : ∀ b off, (∀ j u, (bytesV l)[j]? = some u → w.cell? ⟨b, off + j, none⟩ = some u) → (convert src dst (.slice (some ⟨b, off, none⟩) l.length c)).run P w = .ok (.string ⟨l.toArray⟩) w := by
    intro b off hc
    have hr := run_convert_bytes_arg (P := P) w src e hs he b off l.length c (l.map fun x => (x.toNat : Int)) (by simp) (fun j hj => by
      rw [hc j _ (bytesV_get l j hj)]
      simp [List.getD, hj]) dst hd
    rw [hr]
    congr 2
    unfold strOfNums
    simp [List.map_map, Function.comp_def]
  by_cases hn : l = []
  · subst hn
    cases A with
    | none =>
      rw [run_convert_bytes_nil (P := P) w src e hs he _ c dst hd]
      rfl
    | some a =>
      obtain ⟨b, off, k⟩ := a
      have hl : (loadCells ⟨b, off, k⟩ 0).run P w = .ok ([].map (Value.int .u8)).toArray w := by
        simp [loadCells, loadCellsFrom]
      show (convert src dst (.slice (some ⟨b, off, k⟩) 0 c)).run P w = _
      rw [run_convert_bytes_string w src dst e _ 0 c hs he hd, run_bytesToString w _ 0 c [] hl]
      rfl
  · obtain ⟨b, off, rfl, _, hc⟩ := hA (by intro h; apply hn; simpa [bytesV] using h)
    exact key b off hc

end

/-- The value v is a slice of n bytes, l, wherever they lie. -/
def IsBytes (n : Nat) (l : List UInt8) (v : Value) (w : World) : Prop := ∃ A c, v = .slice A n c ∧ Lies w w.heap.size A (bytesV l)
theorem IsBytes.later {n : Nat} {l : List UInt8} {v : Value} {w w' : World} (h : IsBytes n l v w) (hb : Below w.heap.size w w') : IsBytes n l v w' := by
  obtain ⟨A, c, hv, hA⟩ := h
  exact ⟨A, c, hv, (hA.below hb).more hb.size⟩

/-- []byte(s) of a string. -/
theorem bytesWorld_lies (w : World) (e : TypeId) (s : ByteArray) : Lies (Lib.bytesWorld w e s) (Lib.bytesWorld w e s).heap.size (some ⟨w.heap.size, 0, none⟩) (bytesV s.data.toList) := fun _ =>
  ⟨w.heap.size, 0, rfl, by rw [Lib.bytesWorld_size]; omega, fun j u hu => by
    have hj : j < s.size := by
      rcases Nat.lt_or_ge j s.size with h' | h'
      · exact h'
      · rw [List.getElem?_eq_none (by rw [bytesV_length]; exact h')] at hu; cases hu
    rw [Nat.zero_add, Lib.bytesWorld_cell w e s j hj, ← hu, bytesV_get _ j hj]
    simp [List.getD, hj]⟩
theorem bytesWorld_is (w : World) (e : TypeId) (s : ByteArray) (c : Nat) : IsBytes s.size s.data.toList (.slice (some ⟨w.heap.size, 0, none⟩) s.size c) (Lib.bytesWorld w e s) := ⟨_, _, rfl, bytesWorld_lies w e s⟩
theorem bytesWorld_below (w : World) (e : TypeId) (s : ByteArray) : Below w.heap.size w (Lib.bytesWorld w e s) :=
  ⟨rfl, rfl, rfl, by rw [Lib.bytesWorld_size]; omega, fun k hk => Lib.bytesWorld_at_old w e s k hk⟩

end Go.Proofs.YtfajnflfonechaaDoor
