/- Contract of write: a tree's text. -/
import Derived.Test.YtlpabhgfmkilnaaTrBld
namespace Go.Proofs.Ytlpabhgfmkilnaa.L13
open Go.ChangeShapes Go.WideShapes Go.ChangeAt Go.RowKit Go.Deep

attribute [local go_sem] store_func13
theorem Fr.drew {O : Nat → Prop} {w W : World} (h : Fr O w W) : Fr O w W.drew := ⟨h.os, h.tape, h.output, h.size, h.block⟩
theorem TreeAt.leafCell {w : World} {p a : Nat} {F : List Nat} (h : TreeAt w (.leaf p) a F) : w.cell? ⟨a, 0, none⟩ = some (.int .i64 p) ∧ 1 ≤ p ∧ p ≤ 8 := ⟨by rw [cells_of h.1]; rfl, h.2.1⟩

end Go.Proofs.Ytlpabhgfmkilnaa.L13
