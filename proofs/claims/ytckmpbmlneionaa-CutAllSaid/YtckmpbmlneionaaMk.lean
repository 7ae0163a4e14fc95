/- Contracts of the makers at right terms: what they return without an error is a right term, at most one deeper. -/
import Derived.Test.YtckmpbmlneionaaMakes
namespace Go.Proofs.Ytckmpbmlneionaa
open Go.ChangeShapes Go.WideShapes Go.ChangeAt Go.RowKit

def MkOut (W : World) (k : Nat) (e : Ending) (w' : World) : Prop :=
  ∃ (l : List UInt8) (en : Nat), e = .returned (.tuple #[.string ⟨l.toArray⟩, .int .i64 en]) ∧ (en = 0 → Tm.Good k 20000 l) ∧ Below W.heap.size W w'

theorem size_list (l : List UInt8) : (⟨l.toArray⟩ : ByteArray).size = l.length := by simp [ByteArray.size]
theorem good_size {k : Nat} {l : List UInt8} (h : Tm.Good k 600 l) : (⟨l.toArray⟩ : ByteArray).size ≤ maxLen := by
  rw [size_list]
  have := h.2.2
  unfold maxLen
  omega
theorem mk_of_pair2 {W : World} {k : Nat} {r : List UInt8 × Nat} (h : ∀ l, r = (l, 0) → Tm.Good k 20000 l) {e : Ending} {w' : World} (hp : Pair2 W r e w') : MkOut W k e w' := by
  obtain ⟨l, en⟩ := r
  obtain ⟨he, hb⟩ := hp
  exact ⟨l, en, he, fun h0 => h l (by rw [h0]), hb⟩

end Go.Proofs.Ytckmpbmlneionaa
