/- Contract of put: a head and parts make one text, or the error that the chapter names first. -/
import Derived.Test.YtckmpbmlneionaaBuild
namespace Go.Proofs.Ytckmpbmlneionaa
open Go.ChangeShapes Go.WideShapes Go.ChangeAt Go.RowKit

namespace Tm
def maxDepth (ps : List (List UInt8)) : Nat := ps.foldl (fun m p => max m (depthOf p)) 0
def put (hd : List UInt8) (ps : List (List UInt8)) : List UInt8 × Nat :=
  if ps.any (fun p => depthOf p == 0) = true then ([], 1)
  else if 20000 < hd.length + ps.flatten.length then ([], 3)
  else if 400 < maxDepth ps + 1 then ([], 4)
  else (hd ++ ps.flatten, 0)
theorem maxDepth_snoc (ps : List (List UInt8)) (p : List UInt8) : maxDepth (ps ++ [p]) = max (maxDepth ps) (depthOf p) := by
  simp [maxDepth]
theorem maxDepth_le (ps : List (List UInt8)) : maxDepth ps ≤ 400 := by
  have h : ∀ (l : List (List UInt8)) (m : Nat), m ≤ 400 → l.foldl (fun m p => max m (depthOf p)) m ≤ 400 := by
    intro l
    induction l with
    | nil => intro m h; exact h
    | cons p l ih => intro m h; exact ih _ (Nat.max_le.2 ⟨h, depthOf_le p⟩)
  exact h ps 0 (by omega)
theorem right_length (p : List UInt8) (h : depthOf p ≠ 0) : p.length ≤ 20000 := by
  unfold depthOf at h
  split at h
  · exact absurd rfl h
  · omega
theorem flatten_le (ps : List (List UInt8)) (h : ∀ p ∈ ps, depthOf p ≠ 0) : ps.flatten.length ≤ ps.length * 20000 := by
  induction ps with
  | nil => simp
  | cons p ps ih =>
    have h1 := right_length p (h p (by simp))
    have h2 := ih (fun q hq => h q (by simp [hq]))
    simp only [List.flatten_cons, List.length_append, List.length_cons]
    omega
def total (hd : List UInt8) (ps : List (List UInt8)) : Nat := hd.length + ps.flatten.length
theorem total_snoc (hd : List UInt8) (ps : List (List UInt8)) (p : List UInt8) : total hd (ps ++ [p]) = total hd ps + p.length := by
  simp [total, Nat.add_assoc]
theorem any_false {ps : List (List UInt8)} (h : ∀ p ∈ ps, depthOf p ≠ 0) : ¬ ps.any (fun p => depthOf p == 0) = true := by
  intro h2
  obtain ⟨p, hp, h3⟩ := List.any_eq_true.1 h2
  exact h p hp (by simpa using h3)
theorem put_long {hd : List UInt8} {ps : List (List UInt8)} (h : ∀ p ∈ ps, depthOf p ≠ 0) (h2 : 20000 < total hd ps) : put hd ps = ([], 3) := by
  unfold total at h2
  unfold put
  rw [if_neg (any_false h), if_pos h2]
theorem put_deep {hd : List UInt8} {ps : List (List UInt8)} (h : ∀ p ∈ ps, depthOf p ≠ 0) (h2 : ¬ 20000 < total hd ps) (h3 : 400 < maxDepth ps + 1) : put hd ps = ([], 4) := by
  unfold total at h2
  unfold put
  rw [if_neg (any_false h), if_neg h2, if_pos h3]
theorem put_ok {hd : List UInt8} {ps : List (List UInt8)} (h : ∀ p ∈ ps, depthOf p ≠ 0) (h2 : ¬ 20000 < total hd ps) (h3 : ¬ 400 < maxDepth ps + 1) : put hd ps = (hd ++ ps.flatten, 0) := by
  unfold total at h2
  unfold put
  rw [if_neg (any_false h), if_neg h2, if_neg h3]
end Tm

/-- The texts xs lie one by one from cell 0 of block g on. -/
def Texts (w : World) (g : Nat) (xs : List (List UInt8)) : Prop := ∀ j x, xs[j]? = some x → w.cell? ⟨g, j, none⟩ = some (.string ⟨x.toArray⟩)
theorem Texts.below {w w' : World} {B g : Nat} {xs : List (List UInt8)} (h : Texts w g xs) (hb : Below B w w') (hg : g < B) : Texts w' g xs :=
  fun j x hj => (hb.cell (p := ⟨g, j, none⟩) hg).trans (h j x hj)

def Adding (w : World) (hd : List UInt8) (ps : List (List UInt8)) (k : Nat) (v6 v7 v18 : Value) (wr : World) : Prop :=
  ∃ i, k + i = ps.length ∧ v18 = .int .i64 i ∧ v6 = .int .i64 (Tm.total hd (ps.take i)) ∧ v7 = .int .i64 (Tm.maxDepth (ps.take i)) ∧ (∀ p ∈ ps.take i, Tm.depthOf p ≠ 0) ∧ Below w.heap.size w wr

def Pair2 (w : World) (r : List UInt8 × Nat) (e : Ending) (w' : World) : Prop := e = .returned (.tuple #[.string ⟨r.1.toArray⟩, .int .i64 r.2]) ∧ Below w.heap.size w w'

end Go.Proofs.Ytckmpbmlneionaa
