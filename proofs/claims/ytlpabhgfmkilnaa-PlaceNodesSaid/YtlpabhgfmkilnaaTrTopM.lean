/- Contract of tree.Merge. -/
import Derived.Test.YtlpabhgfmkilnaaTrMerge
namespace Go.Proofs.Ytlpabhgfmkilnaa.L13
open Go.ChangeShapes Go.WideShapes Go.ChangeAt Go.RowKit Go.Deep
open Go.Proofs.Ytlpabhgfmkilnaa.L5 (One)

theorem merge_text_len {a b : Tr} (oa : a.ok) (ob : b.ok) : (Tr.node a b).text.length ≤ 1000 := by
  have := oa.len
  have := ob.len
  simp only [Tr.text, List.length_cons, List.length_append, List.length_nil]
  omega
end Go.Proofs.Ytlpabhgfmkilnaa.L13
