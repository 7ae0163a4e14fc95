/- Contract of parts.Said, for every text. -/
import Derived.Test.YtiodphkmllcjdaaGreatInG
section
namespace Go.Proofs.YtiodphkmllcjdaaGreat
open Go.ChangeShapes Go.WideShapes Go.ChangeAt Go.RowKit

end Go.Proofs.YtiodphkmllcjdaaGreat
end
