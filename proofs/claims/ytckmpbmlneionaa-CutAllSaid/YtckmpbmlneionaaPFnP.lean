/- Seals, signatures and texts taken apart. -/
import Derived.Test.YtckmpbmlneionaaPartsOf
namespace Go.Proofs.Ytckmpbmlneionaa
open Go.ChangeShapes Go.WideShapes Go.ChangeAt Go.RowKit

namespace Tm
theorem kind_right {t : List UInt8} {c : UInt8} (h : kindOf t = c) (hc : c ≠ 0) : right t = true ∧ t.getD 0 0 = c := by
  unfold kindOf at h
  split at h
  · rename_i hr; exact ⟨hr, h⟩
  · exact absurd h.symm hc
theorem seal_parts {t : List UInt8} (h : right t = true) (hk : t.getD 0 0 = 115) : ∃ x y z, ofL t = [x, y, z] := by
  have hl := (ofL_ok h).2.2.1
  have hh : headOf t = (1, 3) := by unfold headOf; rw [if_neg (right_ne_nil h).1, hk]; simp
  rw [(head_of_right h).1, hh] at hl
  match hx : ofL t, hl with
  | [x, y, z], _ => exact ⟨x, y, z, rfl⟩
theorem sign_parts {t : List UInt8} (h : right t = true) (hk : t.getD 0 0 = 120) : ∃ x y, ofL t = [x, y] := by
  have hl := (ofL_ok h).2.2.1
  have hh : headOf t = (1, 2) := by unfold headOf; rw [if_neg (right_ne_nil h).1, hk]; simp
  rw [(head_of_right h).1, hh] at hl
  match hx : ofL t, hl with
  | [x, y], _ => exact ⟨x, y, rfl⟩
theorem text_long {t : List UInt8} (h : right t = true) (hk : t.getD 0 0 = 116) : 3 ≤ t.length := by
  obtain ⟨hb, h0⟩ := head_of_right h
  have hh : headOf t = (textHead t, 0) := by unfold headOf; rw [if_neg (right_ne_nil h).1, hk]; simp
  rw [hh] at h0
  unfold textHead at h0
  by_cases hl : t.length < 3
  · rw [if_pos hl] at h0; exact absurd rfl h0
  · omega
def openT (t key : List UInt8) : List UInt8 × List UInt8 × Nat :=
  if kindOf t ≠ 115 then ([], [], 2) else if (ofL t).getD 0 [] ≠ key then ([], [], 6) else ((ofL t).getD 1 [], (ofL t).getD 2 [], 0)
def checkT (t : List UInt8) (p : Int) : List UInt8 × Nat :=
  if kindOf t ≠ 120 then ([], 2) else if p < 1 ∨ 8 < p then ([], 6) else if (ofL t).getD 0 [] ≠ [105, UInt8.ofNat p.toNat] then ([], 6) else ((ofL t).getD 1 [], 0)
def saidT (t : List UInt8) : List UInt8 × Bool := if kindOf t ≠ 116 then ([], false) else (t.drop 3, true)
end Tm

theorem kind_yes {c : UInt8} {n : Nat} (hn : n < 256) (h : c = UInt8.ofNat n) : ((c.toNat : Int) != (n : Int)) = false := by
  have := u8_yes hn h
  simp only [bne, this, Bool.not_true]
theorem kind_no {c : UInt8} {n : Nat} (hn : n < 256) (h : ¬ c = UInt8.ofNat n) : ((c.toNat : Int) != (n : Int)) = true := by
  have := u8_no hn h
  simp only [bne, this, Bool.not_false]

/-- A row that is not empty, as a slice with its texts. -/
theorem row_slice {w : World} {B : Nat} {v : Value} {ps : List (List UInt8)} (h : w.ownsRow B 31 1 v ps.length (strs ps)) (hne : ps ≠ []) :
    ∃ g cap, v = .slice (some ⟨g, 0, none⟩) ps.length cap ∧ Texts w g ps ∧ g < w.heap.size := by
  rcases h.2 with ⟨_, h0⟩ | ⟨g, cap, cur, rfl, _⟩
  · exact absurd (List.length_eq_zero_iff.1 h0) hne
  · exact ⟨g, cap, rfl, texts_of_row h, lt_of_row h⟩

end Go.Proofs.Ytckmpbmlneionaa
