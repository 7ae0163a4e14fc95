/- Contracts of the makers of leaves: Gen, Text, Private, Name, Number: the bytes that the chapter names, for every argument. -/
import Derived.Test.YtckmpbmlneionaaTop
import Derived.Laws.IdiomStrings
namespace Go.Proofs.Ytckmpbmlneionaa
open Go.ChangeShapes Go.WideShapes Go.ChangeAt Go.RowKit

theorem conv_lit (w : World) (l : List UInt8) (dst c : Nat) (t : TypeId) (hd : Try.prog.underlying dst = some .string) :
    (convert 129 dst (.slice (some ⟨w.heap.size, 0, none⟩) l.length c)).run Try.prog (w.alloc (.cells (l.map fun b => Value.int .u8 (b.toNat : Int)).toArray t)) =
      .ok (.string ⟨l.toArray⟩) (w.alloc (.cells (l.map fun b => Value.int .u8 (b.toNat : Int)).toArray t)) := by
  refine run_convert_bytes_back _ _ _ 5 _ _ l Try.underlying129 Try.underlying5 hd ?_
  intro j hj
  have h := World.news_of_block (heap_alloc_new w (.cells (l.map fun b => Value.int .u8 (b.toNat : Int)).toArray t)) j (.int .u8 (l[j].toNat : Int)) (by simp [hj])
  exact h

end Go.Proofs.Ytckmpbmlneionaa
