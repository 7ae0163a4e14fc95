/- Names, the generator and two powers as the chapter's example has them. -/
import Derived.Test.YtckmpbmlneionaaNodes
namespace Go.Proofs.Ytckmpbmlneionaa
open Go.ChangeShapes Go.WideShapes Go.ChangeAt Go.RowKit

namespace Tm
def nm (n : Nat) : List UInt8 := 110 :: be8 n
theorem nm_depth (n : Nat) : depthOf (nm n) = 1 := (depth_of_parse (p := nm n) (d := 1) (name_parse n) (by simp [nm, be8_length])).1
theorem nm_right (n : Nat) : right (nm n) = true := (right_iff _).2 (by rw [nm_depth]; omega)
theorem gen_depth : depthOf [103] = 1 := (depth_of_parse (p := [103]) (d := 1) gen_parse (by simp)).1
theorem gen_right : right [103] = true := (right_iff _).2 (by rw [gen_depth]; omega)
theorem begin_pow (k : Nat) (h1 : 1 ≤ k) (h2 : k ≤ 32) (r : List UInt8) : begin_ ([101, UInt8.ofNat k] ++ r) = (2, k) := by
  have e : (UInt8.ofNat k).toNat = k := by rw [UInt8.toNat_ofNat']; omega
  unfold begin_ headOf
  simp [e, h1, h2]
theorem put_one : put [101, UInt8.ofNat (0 + 1)] [nm 2] = (101 :: 1 :: nm 2, 0) := by
  rw [put_ok (by intro p hp; rw [List.mem_singleton.1 hp, nm_depth]; omega) (by simp [total, nm, be8_length]) (by simp [maxDepth, nm_depth])]
  simp
theorem one_parse : parse 400 (101 :: 1 :: nm 2) = (11, 2, 0) := by
  have h := put_term put_one (begin_pow 1 (by omega) (by omega) _) (by simp) (by simp) (fun _ => ⟨by decide, trivial⟩)
  have h2 := h.2.2.1
  have e1 : maxDepth [nm 2] + 1 = 2 := by simp [maxDepth, nm_depth]
  have e2 : (101 :: 1 :: nm 2).length = 11 := rfl
  rw [e1, e2] at h2
  exact h2
theorem one_right : right (101 :: 1 :: nm 2) = true := right_of_parse (d := 2) (p := 101 :: 1 :: nm 2) one_parse (by simp [nm, be8_length])
theorem one_exps : expsOf (101 :: 1 :: nm 2) = [nm 2] := by
  have hr : read (nm 2) = (9, 1, 0) := by rw [read_parse]; exact name_parse 2
  unfold expsOf
  rw [if_neg (by simp)]
  show exps 1 (nm 2) = _
  simp only [exps, hr]
  rfl
theorem put_both : put [101, UInt8.ofNat (1 + 1)] [nm 1, nm 2] = (101 :: 2 :: (nm 1 ++ nm 2), 0) := by
  rw [put_ok (by
    intro p hp
    simp only [List.mem_cons, List.not_mem_nil, or_false] at hp
    rcases hp with rfl | rfl <;> rw [nm_depth] <;> omega) (by simp [total, nm, be8_length]) (by simp [maxDepth, nm_depth])]
  simp
theorem found_zero {i : Nat} (h : Found [nm 2] (nm 1) i) : i = 0 := by
  rcases Nat.eq_zero_or_pos i with h0 | h0
  · exact h0
  · have h1 := h.1
    simp at h1
    have : i = 1 := by omega
    subst this
    have := h.2.1 (by omega)
    exact absurd this (by decide)
theorem both_bytes : 101 :: 2 :: (nm 1 ++ nm 2) = [101, 2, 110, 0, 0, 0, 0, 0, 0, 0, 1, 110, 0, 0, 0, 0, 0, 0, 0, 2] := by decide
end Tm

end Go.Proofs.Ytckmpbmlneionaa
