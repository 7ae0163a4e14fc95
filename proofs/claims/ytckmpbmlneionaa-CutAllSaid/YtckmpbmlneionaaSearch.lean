/- Contract of slices.BinarySearch at rows of terms: the place that it tells has a lesser term ahead of it and none that is less at it. -/
import Derived.Test.YtckmpbmlneionaaExps
namespace Go.Proofs.Ytckmpbmlneionaa
open Go.ChangeShapes Go.WideShapes Go.ChangeAt Go.RowKit

/-- What the search tells of a row. -/
def Found (xs : List (List UInt8)) (t : List UInt8) (i : Nat) : Prop :=
  i ≤ xs.length ∧ (0 < i → Tm.less (xs.getD (i - 1) []) t = true) ∧ (i < xs.length → Tm.less (xs.getD i []) t = false)

def Searching (w : World) (xs : List (List UInt8)) (t : List UInt8) (k : Nat) (v7 v8 : Value) (wr : World) : Prop :=
  ∃ i j : Nat, k = j - i ∧ i ≤ j ∧ j ≤ xs.length ∧ v7 = .int .i64 i ∧ v8 = .int .i64 j ∧ (0 < i → Tm.less (xs.getD (i - 1) []) t = true) ∧ (j < xs.length → Tm.less (xs.getD j []) t = false) ∧ wr = w

def SearchOut (w : World) (xs : List (List UInt8)) (t : List UInt8) (e : Ending) (w' : World) : Prop :=
  ∃ (i : Nat) (b : Bool), e = .returned (.tuple #[.int .i64 i, .bool b]) ∧ Found xs t i ∧ w' = w

end Go.Proofs.Ytckmpbmlneionaa
