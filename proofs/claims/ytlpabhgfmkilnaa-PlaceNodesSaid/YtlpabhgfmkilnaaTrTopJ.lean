/- Contracts of tree.Join and tree.Leave. -/
import Derived.Test.YtlpabhgfmkilnaaTrTop
namespace Go.Proofs.Ytlpabhgfmkilnaa.L13
open Go.ChangeShapes Go.WideShapes Go.ChangeAt Go.RowKit Go.Deep
open Go.Proofs.Ytlpabhgfmkilnaa.L5 (One)

theorem Tr.ok.put_len {t : Tr} (h : t.ok) (p : Nat) : (t.put p).text.length ≤ 1000 := by
  have := (t.put p).text_len
  have := t.put_len p
  have := h.few
  omega
theorem outX_leaf (q : Nat) (p : Int) : outX (.leaf q) p = ([], 8) := rfl
end Go.Proofs.Ytlpabhgfmkilnaa.L13
