/- The document's out. -/
import Derived.Test.YtlpabhgfmkilnaaRtPut
namespace Go.Proofs.Ytlpabhgfmkilnaa.L13
open Go.ChangeShapes Go.WideShapes Go.ChangeAt Go.RowKit Go.Deep
open Go.Proofs.Ytlpabhgfmkilnaa.L5 (One)

def outT (r : Option Tr) : List UInt8 := match r with | none => [] | some u => u.text
theorem text_cons (t : Tr) : ∃ b x, t.text = b :: x := by cases t <;> exact ⟨_, _, rfl⟩
theorem out_len {t : Tr} (o : t.ok) (p : Nat) : (outT (t.out p)).length ≤ 22 := by
  unfold outT
  have := t.out_procs p
  cases h : t.out p with
  | none => simp
  | some u =>
    rw [h] at this
    exact (o.out this).len
end Go.Proofs.Ytlpabhgfmkilnaa.L13
