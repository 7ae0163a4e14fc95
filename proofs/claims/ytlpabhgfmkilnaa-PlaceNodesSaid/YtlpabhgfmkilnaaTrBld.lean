/- Contracts of a strings.Builder that lies at block b, with a block of the caller's own behind it; its bytes lie from b + 2 on. -/
import Derived.Test.YtlpabhgfmkilnaaTrRead
import Derived.Lib.Builder
import Derived.Lib.AppendStr
import Derived.Shelf.Abstract
namespace Go.Proofs.Ytlpabhgfmkilnaa.L13
open Go.ChangeShapes Go.WideShapes Go.ChangeAt Go.RowKit Go.Deep

def BdO (b q : Nat) : Prop := q = b ∨ b + 2 ≤ q
end Go.Proofs.Ytlpabhgfmkilnaa.L13
