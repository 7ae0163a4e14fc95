/- Rows of ints that a law is handed, as they lie in memory. -/
import Derived.Test.YtkalmfhebffklaaCtRows
import Derived.ChangeSlices
namespace Go.Proofs.Ytkalmfhebffklaa.L11
open Go.ChangeShapes Go.WideShapes Go.ChangeAt Go.RowKit Go.Deep
section
variable {H : Type} {enc : TypeId × Value → H} {W : World}
set_option maxRecDepth 100000 in
theorem trod_ints {n : Nat} {c : Value} {x : DataW H × List MemPlace} (h : DataW.trod enc Try.prog W 0 (fun _ => true) true n 70 [c] = some x) : ∃ xs, IntsI W c xs := by
  rcases open_ints Try.underlying70 Try.underlying3 (by kernel_rfl) h with ⟨h0, _⟩ | ⟨a, len, cap, ss, hcs, _, hl, hm, hsl, _, hcell, hwf⟩
  · cases h0
    exact ⟨[], ⟨none, 0, rfl, fun j x hx => by simp at hx⟩, by simp⟩
  · cases hcs
    simp only [if_true] at hsl
    have hlen : (ss.take len).length = len := by simp; omega
    refine ⟨ss.take len, ⟨some a, cap, by rw [hlen], fun j x hx => ?_⟩, by rw [hlen]; omega⟩
    have hx0 := hx
    rw [List.getElem?_take] at hx
    have hjn : j < len := by
      rcases Nat.lt_or_ge j len with h | h
      · exact h
      · rw [if_neg (by omega)] at hx; cases hx
    rw [if_pos hjn] at hx
    have hc2 := hcell j (by omega)
    rw [List.getD, hx, Option.getD_some] at hc2
    have hlt := World.block_lt_of_cell? W _ hc2
    rw [addr_blockC] at hlt
    exact ⟨a, rfl, hlt, hc2, L5.i64_of_wf (hwf x (List.mem_of_getElem? hx))⟩
set_option maxRecDepth 100000 in
theorem open_irow {base : Nat} {v : Value} {d : DataW H} {ps : List MemPlace} (hval : Value.okWide Try.prog W .any base 70 v) (h : DataW.Trod enc Try.prog W 0 (fun _ => true) true 70 v d ps) : ∃ zs, IntsI W v zs := by
  obtain ⟨A, n, c, rfl⟩ := okWide_slice Try.underlying70 hval
  obtain ⟨fuel, hf⟩ := h
  exact trod_ints (c := .slice A n c) hf
end
end Go.Proofs.Ytkalmfhebffklaa.L11
