/- Contracts of strings.Builder's Write and WriteString at this program, of a builder that has been used: the bytes are added behind those it holds. -/
import Derived.Test.YtckmpbmlneionaaWord
import Derived.Lib.UnsafeStr
import Derived.Lib.Builder
import Derived.Lib.AppendStr
namespace Go.Proofs.Ytckmpbmlneionaa
open Go.ChangeShapes Go.WideShapes Go.ChangeAt Go.RowKit

theorem info_byte : (Try.prog.info? 5).map (fun i => (i.zero, i.size, i.bytes)) = some (some (.int .u8 0), 1, 1) := by kernel_rfl
end Go.Proofs.Ytckmpbmlneionaa
