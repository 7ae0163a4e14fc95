/- The document's put, out, Leaf, Join, Leave, Members, Depth. -/
import Derived.Test.YtlpabhgfmkilnaaRtDeep
import Derived.Test.YtlpabhgfmkilnaaTrRb
namespace Go.Proofs.Ytlpabhgfmkilnaa.L13
open Go.ChangeShapes Go.WideShapes Go.ChangeAt Go.RowKit Go.Deep
open Go.Proofs.Ytlpabhgfmkilnaa.L5 (One)

theorem node_text (l r : Tr) : (Tr.node l r).text = 40 :: (l.text ++ (r.text ++ [41])) := rfl
end Go.Proofs.Ytlpabhgfmkilnaa.L13
