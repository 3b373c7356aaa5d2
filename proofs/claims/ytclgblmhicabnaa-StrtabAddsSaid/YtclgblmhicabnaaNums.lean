/- DERIVED. Plain: numbers as bytes (no program). -/
import Derived.Test.YtclgblmhicabnaaCrc
namespace Go.Proofs.Ytclgblmhicabnaa.Nums
open Crc

/-- A number by sevens, with so many digits at most. -/
def varF : Nat → Nat → List UInt8
  | 0, v => [UInt8.ofNat v]
  | k + 1, v => if v < 128 then [UInt8.ofNat v] else UInt8.ofNat (v % 128 + 128) :: varF k (v / 128)

def var (v : Nat) : List UInt8 := varF 10 v

/-- So many bytes of a number, the lowest first. -/
def low : Nat → Nat → List UInt8
  | 0, _ => []
  | k + 1, v => UInt8.ofNat (v % 256) :: low k (v / 256)

def text (l : List UInt8) : List UInt8 := var l.length ++ l

def section_ (id : UInt8) (l : List UInt8) : List UInt8 := id :: (low 4 l.length ++ l ++ low 4 (crc l))

theorem varF_more (k : Nat) : ∀ v : Nat, v < 128 ^ (k + 1) → varF (k + 1) v = varF k v := by
  induction k with
  | zero => intro v h; have h' : v < 128 := by simpa using h
            simp [varF, h']
  | succ k ih =>
    intro v h
    rw [varF]
    conv => rhs; rw [varF]
    split
    · rfl
    · rw [ih (v / 128) (by rw [Nat.pow_succ] at h; omega)]

theorem var_small (v : Nat) (h : v < 128) : var v = [UInt8.ofNat v] := by unfold var; rw [varF, if_pos h]
theorem var_step (v : Nat) (h : ¬ v < 128) (hv : v < 18446744073709551616) : var v = UInt8.ofNat (v % 128 + 128) :: var (v / 128) := by
  unfold var
  rw [varF, if_neg h, varF_more 9 (v / 128) (by omega)]

theorem varF_length (k : Nat) : ∀ v : Nat, 1 ≤ (varF k v).length ∧ (varF k v).length ≤ k + 1 := by
  induction k with
  | zero => intro v; simp [varF]
  | succ k ih => intro v; rw [varF]; split <;> simp; exact (ih (v / 128)).2
theorem var_length (v : Nat) : 1 ≤ (var v).length ∧ (var v).length ≤ 11 := varF_length 10 v
theorem low_length (k : Nat) : ∀ v : Nat, (low k v).length = k := by
  induction k with
  | zero => intro v; rfl
  | succ k ih => intro v; simp [low, ih]

end Go.Proofs.Ytclgblmhicabnaa.Nums
