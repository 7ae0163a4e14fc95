/- Rows of numbers that a law is handed, as their cells lie in memory. -/
import Derived.Test.YtfbkebdlioibpaaWAll
import Derived.ChangeSlices
namespace Go.Proofs.Ytfbkebdlioibpaa.L5
open Go.ChangeShapes Go.WideShapes Go.ChangeAt Go.RowKit

set_option maxRecDepth 100000 in
theorem open_urow {H : Type} {enc : TypeId × Value → H} {W : World} {base : Nat} {v : Value} {d : DataW H} {ps : List MemPlace}
    (hval : Value.okWide Try.prog W .any base 66 v) (h : DataW.Trod enc Try.prog W 0 (fun _ => true) true 66 v d ps) : ∃ zs, URow W v zs := by
  obtain ⟨A, n, c, rfl⟩ := okWide_slice Try.underlying66 hval
  obtain ⟨fuel, hf⟩ := h
  rcases open_ints Try.underlying66 Try.underlying30 (by kernel_rfl) hf with ⟨h0, _⟩ | ⟨a, len, cap, zs, hcs, _, hl, hm, hsl, _, hcell, hsz⟩
  · simp [Value.cells] at h0
    obtain ⟨rfl, rfl, rfl⟩ := h0
    exact ⟨[], ⟨none, 0, rfl, fun j x hx => by simp at hx⟩, by simp⟩
  · simp [Value.cells] at hcs
    obtain ⟨rfl, rfl, rfl⟩ := hcs
    simp only [if_true] at hsl
    have hlen : ((zs.take n).map Int.toNat).length = n := by simp; omega
    refine ⟨(zs.take n).map Int.toNat, ⟨some a, c, by rw [hlen], fun j x hx => ?_⟩, fun z hz => ?_⟩
    · rw [List.getElem?_map, Option.map_eq_some_iff] at hx
      obtain ⟨s, hs, rfl⟩ := hx
      have hs' := hs
      rw [List.getElem?_take] at hs
      have hjn : j < n := by
        rcases Nat.lt_or_ge j n with h | h
        · exact h
        · rw [if_neg (by omega)] at hs; cases hs
      rw [if_pos hjn] at hs
      have hc2 := hcell j (by omega)
      rw [List.getD, hs, Option.getD_some] at hc2
      have hlt := World.block_lt_of_cell? W _ hc2
      rw [addr_block] at hlt
      refine ⟨a, rfl, hlt, ?_⟩
      obtain ⟨m, e, _⟩ := u64_of_wf (hsz s (List.mem_of_getElem? hs))
      rw [hc2, e]
      rfl
    · obtain ⟨s, hs, rfl⟩ := List.mem_map.1 hz
      obtain ⟨m, e, hm⟩ := u64_of_wf (hsz s (List.mem_of_mem_take hs))
      rw [e]
      exact hm

end Go.Proofs.Ytfbkebdlioibpaa.L5
