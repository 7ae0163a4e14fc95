/- Contract of slices.Insert of one term into a row of terms: the row with that term at that place. -/
import Derived.Test.YtckmpbmlneionaaSearch
import Derived.Lib.Overlaps
import Derived.Laws.CopyOwn
import Derived.Shelf.Spec.SlicesInsert
namespace Go.Proofs.Ytckmpbmlneionaa
open Go.ChangeShapes Go.WideShapes Go.ChangeAt Go.RowKit

def InsertOut (B : Nat) (w : World) (ys : List (List UInt8)) (e : Ending) (w' : World) : Prop :=
  ∃ g cap, e = .returned (.slice (some ⟨g, 0, none⟩) ys.length cap) ∧ Texts w' g ys ∧ g < w'.heap.size ∧ Below B w w'

theorem texts_of_row {w : World} {B g n cap : Nat} {e : TypeId} {xs : List (List UInt8)} (h : w.ownsRow B e 1 (.slice (some ⟨g, 0, none⟩) n cap) n (strs xs)) : Texts w g xs := by
  intro j x hj
  have hl : (strs xs).length = n * 1 := h.1
  rw [strs_length] at hl
  have hjl := (List.getElem?_eq_some_iff.1 hj).1
  rw [h.cellAt j (by omega)]
  simp [strs, hj]
theorem lt_of_row {w : World} {B g n cap : Nat} {e : TypeId} {xs : List Value} (h : w.ownsRow B e 1 (.slice (some ⟨g, 0, none⟩) n cap) n xs) : g < w.heap.size := (h.lt g rfl).2

theorem texts_of_block {w : World} {g : Nat} {xs : List (List UInt8)} {rest : List Value} {e : TypeId} (h : w.heap[g]? = some (.cells (strs xs ++ rest).toArray e (0, 0))) : Texts w g xs := by
  intro j x hj
  have hjl := (List.getElem?_eq_some_iff.1 hj).1
  rw [cell_of_row w g j _ e _ h]
  simp only [List.getElem?_toArray]
  rw [List.getElem?_append_left (by rw [strs_length]; exact hjl)]
  simp [strs, hj]

theorem splice_insert (xs : List Value) (rest : List Value) (i : Nat) (t : Value) (hi : i < xs.length) :
    splice (splice (xs ++ rest) (i + 1) (xs.drop i)) i [t] = (xs.take i ++ t :: xs.drop i) ++ rest.drop 1 := by
  have h1 : splice (xs ++ rest) (i + 1) (xs.drop i) = xs.take (i + 1) ++ (xs.drop i ++ rest.drop 1) := by
    unfold splice
    rw [List.take_append_of_le_length (by omega), List.length_drop, show i + 1 + (xs.length - i) = xs.length + 1 from by omega, List.drop_append]
    simp
  rw [h1]
  unfold splice
  rw [List.take_append_of_le_length (by simp; omega), List.take_take, Nat.min_eq_left (by omega)]
  have h2 : (xs.take (i + 1) ++ (xs.drop i ++ rest.drop 1)).drop (i + [t].length) = xs.drop i ++ rest.drop 1 := by
    have : (xs.take (i + 1)).length = i + [t].length := by simp; omega
    rw [← this, List.drop_left]
  rw [h2]
  simp

theorem strs_insert (xs : List (List UInt8)) (i : Nat) (t : ByteArray) : strs (xs.take i ++ t.data.toList :: xs.drop i) = (strs xs).take i ++ Value.string t :: (strs xs).drop i := by
  have : (⟨t.data.toList.toArray⟩ : ByteArray) = t := (of_bytes t).symm
  simp only [strs, List.map_append, List.map_cons, List.map_take, List.map_drop, this]

theorem row_block {w : World} {B g : Nat} {xs : List (List UInt8)} (h : Row32 B g xs w) : ∃ rest : List Value, w.heap[g]? = some (.cells (strs xs ++ rest).toArray 31 (0, 0)) ∧ xs.length + rest.length = 32 := by
  rcases h.2 with ⟨h0, _⟩ | ⟨g', cap, cur, hv, _, hh, hn, _, hs, ht⟩
  · cases h0
  · cases hv
    refine ⟨cur.toList.drop xs.length, ?_, ?_⟩
    · have : strs xs ++ cur.toList.drop xs.length = cur.toList := by
        rw [← ht, Nat.mul_one, List.take_append_drop]
      rw [this]
      exact hh
    · simp
      omega

end Go.Proofs.Ytckmpbmlneionaa
