/- Contracts of Pair, Hash, Seal, Sign and Key: what put makes of the head and the parts, for all texts. -/
import Derived.Test.YtckmpbmlneionaaPut
namespace Go.Proofs.Ytckmpbmlneionaa
open Go.ChangeShapes Go.WideShapes Go.ChangeAt Go.RowKit

theorem head_cells {w : World} {g : Nat} {hd : List UInt8} {t : TypeId} (h : w.heap[g]? = some (.cells (Lib.byteCells hd).toArray t (0, 0))) :
    ∀ j u, (Lib.byteCells hd)[j]? = some u → w.cell? ((⟨g, 0, none⟩ : Addr).add j) = some u := by
  have := World.news_of_block h
  simpa using this
theorem text_cells {w : World} {g : Nat} {xs : List (List UInt8)} {t : TypeId} (h : w.heap[g]? = some (.cells (xs.map fun x => Value.string ⟨x.toArray⟩).toArray t (0, 0))) : Texts w g xs := by
  intro j x hj
  rw [cell_of_row w g j _ t _ h]
  simp [hj]
theorem of_bytes (s : ByteArray) : s = ⟨s.data.toList.toArray⟩ := by cases s; simp

end Go.Proofs.Ytckmpbmlneionaa
