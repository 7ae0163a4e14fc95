/- Which place a raw number speaks of; right terms of bounded depth and length; the leaves among them. -/
import Derived.Test.YtckmpbmlneionaaLaw
namespace Go.Proofs.Ytckmpbmlneionaa

namespace Tm
def pickN (c : Int) (n : Nat) : Nat := (if c < 0 then -(c + 1) else c).toNat % n
theorem pickN_lt (c : Int) (n : Nat) (h : 0 < n) : pickN c n < n := Nat.mod_lt _ h
/-- A right term: its depth is at most k, its length at most m. -/
def Good (k m : Nat) (l : List UInt8) : Prop := depthOf l ≠ 0 ∧ depthOf l ≤ k ∧ l.length ≤ m
theorem Good.mono {k k' m m' : Nat} {l : List UInt8} (h : Good k m l) (hk : k ≤ k') (hm : m ≤ m') : Good k' m' l := ⟨h.1, Nat.le_trans h.2.1 hk, Nat.le_trans h.2.2 hm⟩
theorem good_name (n : Nat) : Good 1 12 (110 :: be8 n) := by
  have h := (depth_of_parse (p := 110 :: be8 n) (d := 1) (name_parse n) (by simp [be8_length]))
  exact ⟨by rw [h.1]; omega, by rw [h.1]; omega, by simp [be8_length]⟩
theorem good_number (n : Nat) : Good 1 12 (117 :: be8 n) := by
  have h := (depth_of_parse (p := 117 :: be8 n) (d := 1) (number_parse n) (by simp [be8_length]))
  exact ⟨by rw [h.1]; omega, by rw [h.1]; omega, by simp [be8_length]⟩
theorem good_gen : Good 1 12 [103] := by
  have h := (depth_of_parse (p := [103]) (d := 1) gen_parse (by simp))
  exact ⟨by rw [h.1]; omega, by rw [h.1]; omega, by simp⟩
theorem good_private (p : Nat) (h1 : 1 ≤ p) (h8 : p ≤ 8) : Good 1 12 [105, UInt8.ofNat p] := by
  have h := (depth_of_parse (p := [105, UInt8.ofNat p]) (d := 1) (private_parse p h1 h8) (by simp))
  exact ⟨by rw [h.1]; omega, by rw [h.1]; omega, by simp⟩
theorem good_text (s : List UInt8) (h : s.length ≤ 2) : Good 1 12 (116 :: 0 :: UInt8.ofNat s.length :: s) := by
  have h1 := text_parse s (by omega)
  have h2 := (depth_of_parse (p := 116 :: 0 :: UInt8.ofNat s.length :: s) (d := 1) (by simpa using h1) (by simp; omega))
  exact ⟨by rw [h2.1]; omega, by rw [h2.1]; omega, by simp; omega⟩
end Tm

end Go.Proofs.Ytckmpbmlneionaa
