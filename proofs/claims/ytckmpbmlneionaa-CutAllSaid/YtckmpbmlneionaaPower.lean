/- Contract of Power: the power of the exponents that the element had and the new one at a place that fits, or the error that the chapter names first. -/
import Derived.Test.YtckmpbmlneionaaInsert
namespace Go.Proofs.Ytckmpbmlneionaa
open Go.ChangeShapes Go.WideShapes Go.ChangeAt Go.RowKit

namespace Tm
def expsOf (l : List UInt8) : List (List UInt8) := if l.getD 0 0 = 103 then [] else exps (l.getD 1 0).toNat (l.drop 2)
def ins (xs : List (List UInt8)) (i : Nat) (t : List UInt8) : List (List UInt8) := xs.take i ++ t :: xs.drop i
theorem ins_length (xs : List (List UInt8)) (i : Nat) (t : List UInt8) (h : i ≤ xs.length) : (ins xs i t).length = xs.length + 1 := by
  simp [ins]; omega
theorem right_begin {l : List UInt8} (h : right l = true) : (begin_ l).1 ≠ 0 := by
  intro h0
  have hr : read l = (0, 0, 2) := by
    unfold read
    rw [run_none (l := l) (st := []) (at_ := 0) (depth := 0) (by simp [inKey]) (by simp) (by simpa using h0)]
  unfold right depthOf at h
  rw [hr] at h
  split at h <;> simp at h
theorem right_power {l : List UInt8} (h : right l = true) (h1 : l.getD 0 0 = 101) : 2 ≤ l.length ∧ 1 ≤ (l.getD 1 0).toNat ∧ (l.getD 1 0).toNat ≤ 32 := by
  have hb := right_begin h
  have hne : l ≠ [] := by intro e; rw [e] at h1; simp at h1
  have hh : headOf l = if 2 ≤ l.length ∧ 1 ≤ (l.getD 1 0).toNat ∧ (l.getD 1 0).toNat ≤ 32 then (2, (l.getD 1 0).toNat) else (0, 0) := by
    unfold headOf
    rw [if_neg hne, h1]
    simp
  unfold begin_ at hb
  rw [hh] at hb
  by_cases hc : 2 ≤ l.length ∧ 1 ≤ (l.getD 1 0).toNat ∧ (l.getD 1 0).toNat ≤ 32
  · exact hc
  · rw [if_neg hc] at hb
    split at hb <;> simp at hb
end Tm

def PowerOut (w : World) (base by_ : List UInt8) (e : Ending) (w' : World) : Prop :=
  ∃ i, Found (Tm.expsOf base) by_ i ∧ Pair2 w (Tm.put [101, UInt8.ofNat ((Tm.expsOf base).length + 1)] (Tm.ins (Tm.expsOf base) i by_)) e w'

theorem read_take_le (r : List UInt8) (k : Nat) : (r.take k).length ≤ r.length := by simp; omega
theorem exps_mem_le (n : Nat) (r p : List UInt8) (h : p ∈ Tm.exps n r) : p.length ≤ r.length := by
  induction n generalizing r with
  | zero => simp [Tm.exps] at h
  | succ n ih =>
    simp only [Tm.exps, List.mem_cons] at h
    rcases h with rfl | h
    · exact read_take_le _ _
    · have := ih _ h
      rw [List.length_drop] at this
      omega

end Go.Proofs.Ytckmpbmlneionaa
