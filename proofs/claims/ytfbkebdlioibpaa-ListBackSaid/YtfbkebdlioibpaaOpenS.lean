/- A row of texts that a law is handed, as its cells lie in memory. -/
import Derived.Test.YtfbkebdlioibpaaMeasure
import Derived.SliceStrings
namespace Go.Proofs.Ytfbkebdlioibpaa
open Go.ChangeShapes Go.WideShapes Go.ChangeAt Go.RowKit

set_option maxRecDepth 100000 in
theorem open_rowA {t e : TypeId} (ht : Try.prog.underlying t = some (.slice e)) (he : Try.prog.underlying e = some .string) (hc : Try.prog.cellsOf e = 1) {H : Type} {enc : TypeId × Value → H} {W : World} {base : Nat} {v : Value} {d : DataW H} {ps : List MemPlace}
    (hval : Value.okWide Try.prog W .any base t v) (h : DataW.Trod enc Try.prog W 0 (fun _ => true) true t v d ps) : ∃ zs, RowA W v zs := by
  obtain ⟨A, n, c, rfl⟩ := okWide_slice ht hval
  obtain ⟨fuel, hf⟩ := h
  rcases open_strings ht he hc hf with ⟨h0, _⟩ | ⟨a, len, cap, ss, hcs, _, hl, hm, hsl, _, hcell, hsz⟩
  · simp [Value.cells] at h0
    obtain ⟨rfl, rfl, rfl⟩ := h0
    exact ⟨[], ⟨none, 0, rfl, fun j x hx => by simp at hx⟩, by simp, by simp⟩
  · simp [Value.cells] at hcs
    obtain ⟨rfl, rfl, rfl⟩ := hcs
    simp only [if_true] at hsl
    have hlen : ((ss.take n).map (fun s => s.data.toList)).length = n := by simp; omega
    refine ⟨(ss.take n).map (fun s => s.data.toList), ⟨some a, c, by rw [hlen], fun j x hx => ?_⟩, fun z hz => ?_, by rw [hlen]; omega⟩
    · rw [List.getElem?_map, Option.map_eq_some_iff] at hx
      obtain ⟨s, hs, rfl⟩ := hx
      rw [List.getElem?_take] at hs
      have hjn : j < n := by
        rcases Nat.lt_or_ge j n with h | h
        · exact h
        · rw [if_neg (by omega)] at hs; cases hs
      rw [if_pos hjn] at hs
      have hc2 := hcell j (by omega)
      rw [List.getD, hs, Option.getD_some] at hc2
      have hlt := World.block_lt_of_cell? W _ hc2
      rw [addr_block] at hlt
      refine ⟨a, rfl, hlt, id, ?_⟩
      rw [hc2]
    · obtain ⟨s, hs, rfl⟩ := List.mem_map.1 hz
      have := hsz s (List.mem_of_mem_take hs)
      rwa [← len_bytes] at this

end Go.Proofs.Ytfbkebdlioibpaa
