/- DERIVED. Plain: what WireBack puts, one behind the other (no program). -/
import Derived.Test.YtclgblmhicabnaaReader3
import Derived.Test.YtclgblmhicabnaaTamw
namespace Go.Proofs.Ytclgblmhicabnaa
open Go.RowKit Crc Nums Rd

def numsV (l : List Nat) : List Value := l.map fun (x : Nat) => .int .u64 (x : Int)
def strsV (l : List ByteArray) : List Value := l.map .string
theorem numsV_get (l : List Nat) (k : Nat) (h : k < l.length) : (numsV l)[k]? = some (.int .u64 (l[k] : Nat)) := by simp [numsV, h]
theorem strsV_get (l : List ByteArray) (k : Nat) (h : k < l.length) : (strsV l)[k]? = some (.string l[k]) := by simp [strsV, h]

def enc1 (x : Nat) : List UInt8 := low 2 (x % 65536) ++ low 4 (x % 4294967296) ++ var x
def encN : List Nat → List UInt8
  | [] => []
  | x :: l => enc1 x ++ encN l
def encT : List ByteArray → List UInt8
  | [] => []
  | s :: l => text s.data.toList ++ encT l

theorem enc1_length (x : Nat) : (enc1 x).length ≤ 17 := by
  have := (var_length x).2
  simp [enc1, low_length]; omega
theorem text_length (s : ByteArray) : (text s.data.toList).length ≤ 11 + s.size := by
  have := (var_length s.size).2
  simp [text]; omega

theorem encN_append (l m : List Nat) : encN (l ++ m) = encN l ++ encN m := by
  induction l with
  | nil => rfl
  | cons x l ih => rw [List.cons_append, encN, ih, encN, List.append_assoc]
theorem encT_append (l m : List ByteArray) : encT (l ++ m) = encT l ++ encT m := by
  induction l with
  | nil => rfl
  | cons x l ih => rw [List.cons_append, encT, ih, encT, List.append_assoc]
theorem encN_length (l : List Nat) : (encN l).length ≤ 17 * l.length := by
  induction l with
  | nil => simp [encN]
  | cons x l ih => have := enc1_length x; simp [encN]; omega
theorem encT_length (l : List ByteArray) (h : ∀ s ∈ l, s.size ≤ 300) : (encT l).length ≤ 311 * l.length := by
  induction l with
  | nil => simp [encT]
  | cons s l ih =>
    have h1 := text_length s
    have h2 := h s (by simp)
    have h3 := ih fun t ht => h t (by simp [ht])
    simp [encT]; omega

theorem encN_take (l : List Nat) (k : Nat) (h : k < l.length) : encN (l.take (k + 1)) = encN (l.take k) ++ enc1 l[k] := by
  rw [List.take_succ_eq_append_getElem h, encN_append]
  simp [encN]
theorem encT_take (l : List ByteArray) (k : Nat) (h : k < l.length) : encT (l.take (k + 1)) = encT (l.take k) ++ text (l[k]).data.toList := by
  rw [List.take_succ_eq_append_getElem h, encT_append]
  simp [encT]
theorem encN_drop (l : List Nat) (k : Nat) (h : k < l.length) : encN (l.drop k) = enc1 l[k] ++ encN (l.drop (k + 1)) := by
  rw [List.drop_eq_getElem_cons h, encN]
theorem encT_drop (l : List ByteArray) (k : Nat) (h : k < l.length) : encT (l.drop k) = text (l[k]).data.toList ++ encT (l.drop (k + 1)) := by
  rw [List.drop_eq_getElem_cons h, encT]

theorem string_back (s : ByteArray) : (⟨s.data.toList.toArray⟩ : ByteArray) = s := rfl

/-- As long as what was there at the start is kept. -/
def Above (H : Nat) (a b : World) : Prop := H ≤ a.heap.size → Below H a b
theorem Above.of (H : Nat) (a b : World) (h : Tame.Later a b) : Above H a b := fun hs => Below.mono h hs
theorem Above.trans (H : Nat) (a b c : World) (h : Above H a b) (k : Above H b c) : Above H a c := fun hs =>
  (h hs).trans (k (Nat.le_trans hs (h hs).size))

/-- Only block p is turned. -/
def Only (p : Nat) (a b : World) : Prop := a.grownBy b (some p)
theorem Only.of (p : Nat) (a b : World) (h : Tame.Later a b) : Only p a b := only_below h _
theorem Only.trans (p : Nat) (a b c : World) (h : Only p a b) (k : Only p b c) : Only p a c := only_trans h k

/-- The value is this, and the reader has come so far. -/
def Got (q : Nat) (c : Value) (s : St) (v : Value) (w : World) : Prop := v = c ∧ RD w q s
theorem Got.later (q : Nat) (c : Value) (s : St) (v : Value) (w w' : World) (hl : Tame.Later w w') (h : Got q c s v w) : Got q c s v w' := ⟨h.1, h.2.below hl h.2.lt⟩

theorem num2_back (y : Nat) (r : List UInt8) (h : y < 65536) : num 2 ((low 2 y ++ r, 0) : St) = (y, (r, 0)) := by
  rw [num_low, Nat.mod_eq_of_lt (by omega)]
theorem num4_back (y : Nat) (r : List UInt8) (h : y < 4294967296) : num 4 ((low 4 y ++ r, 0) : St) = (y, (r, 0)) := by
  rw [num_low, Nat.mod_eq_of_lt (by omega)]

end Go.Proofs.Ytclgblmhicabnaa
