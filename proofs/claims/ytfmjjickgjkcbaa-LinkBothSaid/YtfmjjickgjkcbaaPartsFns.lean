/- Contract of parts.Said, for every text. -/
import Derived.Test.YtfmjjickgjkcbaaPFnP
namespace Go.Proofs.Ytfmjjickgjkcbaa
open Go.ChangeShapes Go.WideShapes Go.ChangeAt Go.RowKit

end Go.Proofs.Ytfmjjickgjkcbaa
