/- Contract of list.Take: the row of a term, or what is wrong. -/
import Derived.Test.YtkhiconkoldllaaListPure
import Derived.Maps.AppendAt
namespace Go.Proofs.Ytkhiconkoldllaa
open Go.ChangeShapes Go.WideShapes Go.ChangeAt Go.RowKit

namespace Tm
/-- The row of a right term; none, if it is no row's, or a longer one. -/
def unrow : Nat → List UInt8 → Option (List (List UInt8))
  | 0, _ => none
  | k + 1, t => if t.getD 0 0 = 112 then (match ofL t with | [x, y] => (unrow k y).map (x :: ·) | _ => none) else if t = num0 then some [] else none
def takeRow (t : List UInt8) : List (List UInt8) × Nat := if right t = true then (match unrow 151 t with | some zs => (zs, 0) | none => ([], 2)) else ([], 2)
theorem pair_two {t : List UInt8} (h : right t = true) (hk : t.getD 0 0 = 112) : ∃ x y, ofL t = [x, y] ∧ t = 112 :: (x ++ y) ∧ Good 400 20000 x ∧ right y = true ∧ y.length < t.length ∧ y.length ≤ 20000 := by
  obtain ⟨o1, o2, o3, o4, o5, o6⟩ := ofL_ok h
  have hh : headOf t = (1, 2) := by unfold headOf; rw [if_neg (right_ne_nil h).1, hk]; simp
  have hb : begin_ t = (1, 2) := by rw [(head_of_right h).1, hh]
  rw [hb] at o3 o1
  match hx : ofL t, o3 with
  | [x, y], _ =>
    rw [hx] at o1 o2
    have hx2 := o2 x (by simp)
    have hy2 := o2 y (by simp)
    refine ⟨x, y, rfl, ?_, ⟨hx2.1, depthOf_le x, by have := hx2.2.2; omega⟩, (right_iff y).2 hy2.1, hy2.2.2, by have := hy2.2.2; omega⟩
    cases t with
    | nil => exact absurd rfl (right_ne_nil h).1
    | cons c t' =>
      simp at o1 hk
      rw [hk, ← o1]
end Tm

def TakeOut (w : World) (r : List (List UInt8) × Nat) (e : Ending) (w' : World) : Prop :=
  ∃ v, e = .returned (.tuple #[v, .int .i64 (r.2 : Nat)]) ∧ w'.ownsRow w.heap.size 28 1 v r.1.length (strs r.1) ∧ (r.2 ≠ 0 → v = .slice none 0 0) ∧ Below w.heap.size w w'
def Taking (w : World) (t0 : List UInt8) (k : Nat) (v0 v4 : Value) (wr : World) : Prop :=
  ∃ t acc, k + acc.length = 151 ∧ acc.length ≤ 150 ∧ v0 = .string ⟨t.toArray⟩ ∧ Tm.right t = true ∧ Tm.unrow 151 t0 = (Tm.unrow k t).map (acc ++ ·) ∧ wr.ownsRow w.heap.size 28 1 v4 acc.length (strs acc) ∧ Below w.heap.size w wr

end Go.Proofs.Ytkhiconkoldllaa
