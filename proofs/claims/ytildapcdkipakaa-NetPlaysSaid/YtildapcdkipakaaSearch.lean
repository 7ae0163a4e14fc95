/- Contract of slices.BinarySearch at rows of terms: the place that it tells has a lesser term ahead of it and none that is less at it. -/
import Derived.Test.YtildapcdkipakaaExps
namespace Go.Proofs.Ytildapcdkipakaa
open Go.ChangeShapes Go.WideShapes Go.ChangeAt Go.RowKit

set_option maxHeartbeats 400000 in
theorem cmpNaN_calls (x : ByteArray) (w : World) : Calls Try.prog 79 #[.string x] w fun e w' => e = .returned (.bool false) ∧ w = w' := by
  go_enter Try.func79, Try.ntmps79
  go_wp2
  go_ret
  exact ⟨by simp, rfl⟩

set_option maxHeartbeats 400000 in
theorem Less_calls (x y : ByteArray) (w : World) : Calls Try.prog 68 #[.string x, .string y] w fun e w' => e = .returned (.bool (Tm.less x.data.toList y.data.toList)) ∧ w = w' := by
  have hl : Tm.less x.data.toList y.data.toList = Op.bytesLess x.toList y.toList := by rw [ByteArray.toList_eq, ByteArray.toList_eq]; rfl
  rw [hl]
  clear hl
  go_enter Try.func68, Try.ntmps68
  go_wp2_with (go_at_call 79; refine (cmpNaN_calls _ _).mono ?_; rintro e' w' ⟨rfl, rfl⟩)
  go_ret
  exact ⟨rfl, rfl⟩

/-- What the search tells of a row. -/
def Found (xs : List (List UInt8)) (t : List UInt8) (i : Nat) : Prop :=
  i ≤ xs.length ∧ (0 < i → Tm.less (xs.getD (i - 1) []) t = true) ∧ (i < xs.length → Tm.less (xs.getD i []) t = false)

def Searching (w : World) (xs : List (List UInt8)) (t : List UInt8) (k : Nat) (v7 v8 : Value) (wr : World) : Prop :=
  ∃ i j : Nat, k = j - i ∧ i ≤ j ∧ j ≤ xs.length ∧ v7 = .int .i64 i ∧ v8 = .int .i64 j ∧ (0 < i → Tm.less (xs.getD (i - 1) []) t = true) ∧ (j < xs.length → Tm.less (xs.getD j []) t = false) ∧ wr = w

def SearchOut (w : World) (xs : List (List UInt8)) (t : List UInt8) (e : Ending) (w' : World) : Prop :=
  ∃ (i : Nat) (b : Bool), e = .returned (.tuple #[.int .i64 i, .bool b]) ∧ Found xs t i ∧ w' = w

end Go.Proofs.Ytildapcdkipakaa
