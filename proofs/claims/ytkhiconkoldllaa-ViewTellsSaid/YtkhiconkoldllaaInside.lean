/- Contracts of parts.bytesInside, of the iterator that parts.inside hands back, and of parts.Kind. -/
import Derived.Test.YtkhiconkoldllaaOfPure
import Derived.RangeFuncNested
import Derived.RangeFuncBound
import Derived.RangeFuncCalls
import Derived.RangeFuncLeaves
import Derived.RangeFuncBox
import Derived.Shelf.Abstract
import Derived.Shelf.RegionOpen
import Derived.WalkKit
import Derived.OwnWalkIn
import Derived.TacticsInMore
import Derived.LoopNIn
import Derived.LoopIn
import Derived.Maps.AppendAt
import Derived.Sort.LoopGhostIn
namespace Go.Proofs.Ytkhiconkoldllaa
open Go.ChangeShapes Go.WideShapes Go.ChangeAt Go.RowKit Go.Shelf

attribute [local go_sem] Oper.semAt_some

theorem grown_of_below {w w' : World} (h : Below w.heap.size w w') : w.grownBy w' none := ⟨h.os, h.tape, h.output, h.size, fun k hk _ => h.block k hk⟩

/-- What is still to come of the terms in t. -/
def Telling (ps : List (List UInt8)) (J : List (List UInt8) → World → Prop) (k : Nat) (v3 : Value) (wr : World) : Prop :=
  ∃ pre rest, k = rest.length ∧ v3 = .string ⟨rest.flatten.toArray⟩ ∧ ps = pre ++ rest ∧ J pre wr

end Go.Proofs.Ytkhiconkoldllaa
