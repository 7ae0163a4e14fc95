/- Contracts of word, Name and Number: a kind and eight bytes, the highest first, for every number. -/
import Derived.Test.YtildapcdkipakaaMake
namespace Go.Proofs.Ytildapcdkipakaa
open Go.ChangeShapes Go.WideShapes Go.ChangeAt Go.RowKit

namespace Tm
/-- A number as eight bytes, the highest first. -/
def be8 (n : Nat) : List UInt8 := [UInt8.ofNat (n / 256 ^ 7), UInt8.ofNat (n / 256 ^ 6), UInt8.ofNat (n / 256 ^ 5), UInt8.ofNat (n / 256 ^ 4), UInt8.ofNat (n / 256 ^ 3), UInt8.ofNat (n / 256 ^ 2), UInt8.ofNat (n / 256 ^ 1), UInt8.ofNat (n / 256 ^ 0)]
end Tm

def shiftedTo (n m : Nat) : Nat := n / 256 ^ (8 - m)
theorem shiftedTo_next (n m : Nat) (h0 : 0 < m) (h8 : m ≤ 8) : shiftedTo n (m - 1) = shiftedTo n m / 256 := by
  unfold shiftedTo
  rw [Nat.div_div_eq_div_mul, ← Nat.pow_succ]
  congr 2
  omega
def byteAt (n m q : Nat) : Value := .int .u8 ((if m < q then n / 256 ^ (8 - q) % 256 else 0 : Nat) : Int)
def wordCells (k : UInt8) (n m : Nat) : Array Value := #[.int .u8 k.toNat, byteAt n m 1, byteAt n m 2, byteAt n m 3, byteAt n m 4, byteAt n m 5, byteAt n m 6, byteAt n m 7, byteAt n m 8]
theorem wordCells_start (k : UInt8) (n : Nat) : wordCells k n 8 = #[.int .u8 k.toNat, .int .u8 0, .int .u8 0, .int .u8 0, .int .u8 0, .int .u8 0, .int .u8 0, .int .u8 0, .int .u8 0] := by
  simp [wordCells, byteAt]
theorem wordCells_set (k : UInt8) (n m : Nat) (h0 : 0 < m) (h8 : m ≤ 8) :
    (wordCells k n m).setIfInBounds m (.int .u8 ((shiftedTo n m % 256 : Nat) : Int)) = wordCells k n (m - 1) := by
  match m, h0, h8 with
  | 1, _, _ => rfl
  | 2, _, _ => rfl
  | 3, _, _ => rfl
  | 4, _, _ => rfl
  | 5, _, _ => rfl
  | 6, _, _ => rfl
  | 7, _, _ => rfl
  | 8, _, _ => rfl
theorem wordCells_end (k : UInt8) (n : Nat) : wordCells k n 0 = ((k :: Tm.be8 n).map fun b => Value.int .u8 (b.toNat : Int)).toArray := by
  simp only [wordCells, byteAt, Tm.be8, List.map_cons, List.map_nil, UInt8.toNat_ofNat']
  rfl
theorem wordCells_get (k : UInt8) (n m : Nat) (h8 : m ≤ 8) : ∃ u, (wordCells k n m)[m]? = some u :=
  ⟨_, Array.getElem?_eq_getElem (by simp [wordCells]; omega)⟩

end Go.Proofs.Ytildapcdkipakaa
