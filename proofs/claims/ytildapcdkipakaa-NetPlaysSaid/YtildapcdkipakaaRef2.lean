/- Contracts of the document's own Kind, Of, Open and Check (gemotref2): as the program's. -/
import Derived.Test.YtildapcdkipakaaRef1
import Derived.Test.YtildapcdkipakaaPFnP
namespace Go.Proofs.Ytildapcdkipakaa
open Go.ChangeShapes Go.WideShapes Go.ChangeAt Go.RowKit

theorem info_text : (Try.prog.info? 9).map (fun i => (i.zero, i.size, i.bytes)) = some (some (.string ⟨#[]⟩), 1, 16) := by kernel_rfl

def ROfOut (w : World) (ps : List (List UInt8)) (e : Ending) (w' : World) : Prop :=
  ∃ v, e = .returned v ∧ w'.ownsRow w.heap.size 9 1 v ps.length (strs ps) ∧ Below w.heap.size w w'

def RTelling (l : List UInt8) (ps : List (List UInt8)) (w : World) (K : Nat) (v3 v4 : Value) (wr : World) : Prop :=
  ∃ (pre rest : List (List UInt8)) (at_ : Nat), K = rest.length ∧ ps = pre ++ rest ∧ v4 = .int .i64 at_ ∧ l.drop at_ = rest.flatten ∧ at_ ≤ l.length ∧ wr.ownsRow w.heap.size 9 1 v3 pre.length (strs pre) ∧ Below w.heap.size w wr

/-- Which of the kinds that have parts it is. -/
def KindOfNode (c : UInt8) (a : Nat) : Prop :=
  (((c.toNat : Int) == 107) = true ∧ a = 1) ∨ (((c.toNat : Int) == 107) = false ∧ ((c.toNat : Int) == 104) = true ∧ a = 1) ∨
  (((c.toNat : Int) == 107) = false ∧ ((c.toNat : Int) == 104) = false ∧ ((c.toNat : Int) == 112) = true ∧ a = 1) ∨
  (((c.toNat : Int) == 107) = false ∧ ((c.toNat : Int) == 104) = false ∧ ((c.toNat : Int) == 112) = false ∧ ((c.toNat : Int) == 115) = true ∧ a = 1) ∨
  (((c.toNat : Int) == 107) = false ∧ ((c.toNat : Int) == 104) = false ∧ ((c.toNat : Int) == 112) = false ∧ ((c.toNat : Int) == 115) = false ∧ ((c.toNat : Int) == 120) = true ∧ a = 1) ∨
  (((c.toNat : Int) == 107) = false ∧ ((c.toNat : Int) == 104) = false ∧ ((c.toNat : Int) == 112) = false ∧ ((c.toNat : Int) == 115) = false ∧ ((c.toNat : Int) == 120) = false ∧ ((c.toNat : Int) == 101) = true ∧ a = 2)

end Go.Proofs.Ytildapcdkipakaa
