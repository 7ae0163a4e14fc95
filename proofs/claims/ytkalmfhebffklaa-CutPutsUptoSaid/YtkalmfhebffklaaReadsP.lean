/- A row of texts that can be read. -/
import Derived.Test.YtkalmfhebffklaaRef2
import Derived.Test.YtkalmfhebffklaaAllPure
namespace Go.Proofs.Ytkalmfhebffklaa
open Go.ChangeShapes Go.WideShapes Go.ChangeAt Go.RowKit

/-- A row of texts that can be read. -/
def Reads (w : World) (v : Value) (xs : List (List UInt8)) : Prop :=
  ∃ A c, v = .slice A xs.length c ∧ ∀ j x, xs[j]? = some x → ∃ g, A = some ⟨g, 0, none⟩ ∧ g < w.heap.size ∧ w.cell? ⟨g, j, none⟩ = some (.string ⟨x.toArray⟩)
theorem Reads.below {w w' : World} {v : Value} {xs : List (List UInt8)} (h : Reads w v xs) (hb : Below w.heap.size w w') : Reads w' v xs := by
  obtain ⟨A, c, h1, h2⟩ := h
  refine ⟨A, c, h1, fun j x hx => ?_⟩
  obtain ⟨g, e, hg, hc⟩ := h2 j x hx
  exact ⟨g, e, Nat.lt_of_lt_of_le hg hb.size, (hb.cell (p := ⟨g, j, none⟩) hg).trans hc⟩
theorem reads_of_row {w : World} {B : Nat} {v : Value} {xs : List (List UInt8)} (h : w.ownsRow B 9 1 v xs.length (strs xs)) : Reads w v xs := by
  rcases h.2 with ⟨rfl, h0⟩ | ⟨g, cap, cur, rfl, _⟩
  · have : xs = [] := List.length_eq_zero_iff.1 h0
    subst this
    exact ⟨none, 0, rfl, fun j x hx => by simp at hx⟩
  · exact ⟨_, cap, rfl, fun j x hx => ⟨g, rfl, lt_of_row h, texts_of_row h j x hx⟩⟩

theorem less_of_not {x s : List UInt8} (h1 : Tm.less s x = false) (h2 : x ≠ s) : Tm.less x s = true := by
  cases h : Tm.less x s with
  | true => rfl
  | false => exact absurd (Tm.less_antisymm x s h h1) h2

end Go.Proofs.Ytkalmfhebffklaa
