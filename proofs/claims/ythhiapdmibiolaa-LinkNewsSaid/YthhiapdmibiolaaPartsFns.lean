/- Contract of parts.Said, for every text. -/
import Derived.Test.YthhiapdmibiolaaPFnP
namespace Go.Proofs.Ythhiapdmibiolaa
open Go.ChangeShapes Go.WideShapes Go.ChangeAt Go.RowKit

end Go.Proofs.Ythhiapdmibiolaa
