/- The document's deep, full, place, put and out. -/
import Derived.Test.YtlpabhgfmkilnaaRtRight
namespace Go.Proofs.Ytlpabhgfmkilnaa.L13
open Go.ChangeShapes Go.WideShapes Go.ChangeAt Go.RowKit Go.Deep
open Go.Proofs.Ytlpabhgfmkilnaa.L5 (One)

theorem node_len (l r : Tr) : (((Tr.node l r).text.length : Int) == 1) = false := by
  rw [beq_eq_false_iff_ne]
  simp only [Tr.text, List.length_cons, List.length_append]
  omega
theorem Tr.ok.parts {l r : Tr} (h : (Tr.node l r).ok) (w : World) : Calls Try.prog 23 #[.string ⟨(Tr.node l r).text.toArray⟩] w fun e w' => e = .returned (.tuple #[.string ⟨l.text.toArray⟩, .string ⟨r.text.toArray⟩]) ∧ Below w.heap.size w w' := parts_calls h.small (by have := h.len; omega) w
end Go.Proofs.Ytlpabhgfmkilnaa.L13
