/- The document's Leaf, Join, Leave, Depth. -/
import Derived.Test.YtlpabhgfmkilnaaRtOut
namespace Go.Proofs.Ytlpabhgfmkilnaa.L13
open Go.ChangeShapes Go.WideShapes Go.ChangeAt Go.RowKit Go.Deep
open Go.Proofs.Ytlpabhgfmkilnaa.L5 (One)

theorem Tr.ok.icontains {t : Tr} (h : t.ok) (p : Int) : t.ints.contains p = decide (1 ≤ p ∧ p.toNat ∈ t.procs) := by
  rw [← h.contains p, Bool.eq_iff_iff, List.contains_iff_mem, List.contains_iff_mem]
  unfold Tr.mems
  rw [L10.sortL_mem]
theorem Tr.ok.iints {t : Tr} (h : t.ok) {w : World} {v : Value} {B : Nat} (ho : w.ownsRow B 3 1 v t.ints.length (t.ints.map (Value.int .i64))) : IntsA w v t.ints :=
  L10.ints_own10 ho (by rw [← digits_text h.small]; exact digits_fits _) (by simp only [Tr.ints, List.length_map]; have := h.few; omega)
end Go.Proofs.Ytlpabhgfmkilnaa.L13
