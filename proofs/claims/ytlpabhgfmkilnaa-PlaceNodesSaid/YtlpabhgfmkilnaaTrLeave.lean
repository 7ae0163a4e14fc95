/- Contract of leave: the tree that is left without a process. -/
import Derived.Test.YtlpabhgfmkilnaaTrJoin
namespace Go.Proofs.Ytlpabhgfmkilnaa.L13
open Go.ChangeShapes Go.WideShapes Go.ChangeAt Go.RowKit Go.Deep

attribute [local go_sem] store_func13
def LvOut (w : World) (r : Option Tr) (e : Ending) (w' : World) : Prop := Below w.heap.size w w' ∧ (∀ t, r = some t → ∃ a F, e = .returned (.pointer (some ⟨a, 0, none⟩)) ∧ TreeAt w' t a F) ∧ (r = none → e = .returned (.pointer none))
theorem LvOut.val {w w' : World} {r : Option Tr} {e : Ending} (h : LvOut w r e w') : ∃ v, e = .returned (.pointer v) := by
  cases r with
  | none => exact ⟨none, h.2.2 rfl⟩
  | some t => obtain ⟨a, F, e, _⟩ := h.2.1 t rfl; exact ⟨_, e⟩
theorem LvOut.no {w w' : World} (h : Below w.heap.size w w') : LvOut w none (.returned (.pointer none)) w' := ⟨h, (fun _ e => nomatch e), fun _ => rfl⟩
theorem LvOut.yes {w w' : World} {t : Tr} {a : Nat} {F : List Nat} (h : Below w.heap.size w w') (ht : TreeAt w' t a F) : LvOut w (some t) (.returned (.pointer (some ⟨a, 0, none⟩))) w' := ⟨h, fun t e => by cases e; exact ⟨a, F, rfl, ht⟩, fun e => nomatch e⟩

end Go.Proofs.Ytlpabhgfmkilnaa.L13
