/- Contracts of the makers of leaves: Gen, Text, Private, Name, Number: the bytes that the chapter names, for every argument. -/
import Derived.Test.YtildapcdkipakaaTop
import Derived.Laws.IdiomStrings
namespace Go.Proofs.Ytildapcdkipakaa
open Go.ChangeShapes Go.WideShapes Go.ChangeAt Go.RowKit

end Go.Proofs.Ytildapcdkipakaa
