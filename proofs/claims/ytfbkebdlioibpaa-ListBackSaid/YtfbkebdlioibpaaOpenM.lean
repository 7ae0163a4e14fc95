/- A message that a law is handed, as its cells lie in memory. -/
import Derived.Test.YtfbkebdlioibpaaOpenS
import Derived.Test.YtfbkebdlioibpaaMsg
import Derived.Test.YtfbkebdlioibpaaOpenK4
import Derived.ChangeSlices
namespace Go.Proofs.Ytfbkebdlioibpaa
open Go.ChangeShapes Go.WideShapes Go.ChangeAt Go.RowKit

section
variable {H : Type} {enc : TypeId × Value → H} {W : World}
set_option maxRecDepth 100000 in
theorem trod_ints {n : Nat} {c : Value} {x : DataW H × List MemPlace} (h : DataW.trod enc Try.prog W 0 (fun _ => true) true n 23 [c] = some x) : ∃ xs, IntsA W c xs := by
  rcases open_ints Try.underlying23 Try.underlying3 (by kernel_rfl) h with ⟨h0, _⟩ | ⟨a, len, cap, ss, hcs, _, hl, hm, hsl, _, hcell, hwf⟩
  · cases h0
    exact ⟨[], ⟨none, 0, rfl, fun j x hx => by simp at hx⟩, by simp, by simp⟩
  · cases hcs
    simp only [if_true] at hsl
    have hlen : (ss.take len).length = len := by simp; omega
    refine ⟨ss.take len, ⟨some a, cap, by rw [hlen], fun j x hx => ?_⟩, fun z hz => i64_of_wf (hwf z (List.mem_of_mem_take hz)), by rw [hlen]; omega⟩
    rw [List.getElem?_take] at hx
    have hjn : j < len := by
      rcases Nat.lt_or_ge j len with h | h
      · exact h
      · rw [if_neg (by omega)] at hx; cases hx
    rw [if_pos hjn] at hx
    have hc2 := hcell j (by omega)
    rw [List.getD, hx, Option.getD_some] at hc2
    have hlt := World.block_lt_of_cell? W _ hc2
    rw [addr_block] at hlt
    exact ⟨a, rfl, hlt, hc2⟩
set_option maxRecDepth 100000 in
theorem trod_row {n : Nat} {c : Value} {x : DataW H × List MemPlace} (h : DataW.trod enc Try.prog W 0 (fun _ => true) true n 25 [c] = some x) : ∃ zs, RowA W c zs ∧ ∀ n k, c = .slice none n k → k = 0 := by
  rcases open_strings Try.underlying25 Try.underlying28 (by kernel_rfl) h with ⟨h0, _⟩ | ⟨a, n, cap, ss, hcs, _, hl, hm, hsl, _, hcell, hsz⟩
  · cases h0
    exact ⟨[], ⟨⟨none, 0, rfl, fun j x hx => by simp at hx⟩, by simp, by simp⟩, fun n k e => by cases e; rfl⟩
  · cases hcs
    simp only [if_true] at hsl
    have hlen : ((ss.take n).map (fun s => s.data.toList)).length = n := by simp; omega
    refine ⟨(ss.take n).map (fun s => s.data.toList), ⟨⟨some a, cap, by rw [hlen], fun j x hx => ?_⟩, fun z hz => ?_, by rw [hlen]; omega⟩, fun n k e => by cases e⟩
    · rw [List.getElem?_map, Option.map_eq_some_iff] at hx
      obtain ⟨s, hs, rfl⟩ := hx
      rw [List.getElem?_take] at hs
      have hjn : j < n := by
        rcases Nat.lt_or_ge j n with h | h
        · exact h
        · rw [if_neg (by omega)] at hs; cases hs
      rw [if_pos hjn] at hs
      have hc2 := hcell j (by omega)
      rw [List.getD, hs, Option.getD_some] at hc2
      have hlt := World.block_lt_of_cell? W _ hc2
      rw [addr_block] at hlt
      refine ⟨a, rfl, hlt, id, ?_⟩
      rw [hc2]
    · obtain ⟨s, hs, rfl⟩ := List.mem_map.1 hz
      have := hsz s (List.mem_of_mem_take hs)
      rwa [← len_bytes] at this
theorem trod_num {n : Nat} {c : Value} {x : DataW H × List MemPlace} (h : DataW.trod enc Try.prog W 0 (fun _ => true) true n 3 [c] = some x) : ∃ k : Int, c = .int .i64 k ∧ -9223372036854775808 ≤ k ∧ k ≤ 9223372036854775807 := by
  obtain ⟨k, hk, _, hw⟩ := DataW.trod_int Try.underlying3 h
  cases hk
  exact ⟨k, rfl, i64_of_wf hw⟩
set_option maxRecDepth 100000 in
theorem trod_id {n : Nat} {c d : Value} {x : DataW H × List MemPlace} (h : DataW.trod enc Try.prog W 0 (fun _ => true) true n 42 [c, d] = some x) : (∃ k : Int, c = .int .i64 k) ∧ ∃ k : Int, d = .int .i64 k := by
  have hC : Try.prog.cellsOf 3 = 1 := by kernel_rfl
  obtain ⟨xs, n', _, _, _, hlen, hg⟩ := DataW.trod_struct Try.underlying42 h
  match xs, hlen with
  | [x0, x1], _ =>
    have h0 : DataW.trod enc Try.prog W 0 (fun _ => true) true n' 3 (([c, d].drop 0).take (Try.prog.cellsOf 3)) = some x0 := hg 0 _ rfl
    have h1 : DataW.trod enc Try.prog W 0 (fun _ => true) true n' 3 (([c, d].drop 1).take (Try.prog.cellsOf 3)) = some x1 := hg 1 _ rfl
    rw [hC] at h0 h1
    obtain ⟨k0, e0, _⟩ := trod_num (c := c) h0
    obtain ⟨k1, e1, _⟩ := trod_num (c := d) h1
    exact ⟨⟨k0, e0⟩, ⟨k1, e1⟩⟩
set_option maxRecDepth 100000 in
theorem open_msg {base : Nat} {v : Value} {d : DataW H} {ps : List MemPlace} (hval : Value.okWide Try.prog W .any base 44 v) (h : DataW.Trod enc Try.prog W 0 (fun _ => true) true 44 v d ps) :
    ∃ m vm vt, v = .agg (msgCells m vm vt) ∧ MsgA W m vm vt ∧ (∀ n c, vt = .slice none n c → c = 0) := by
  have hC1 : Try.prog.cellsOf 3 = 1 := by kernel_rfl
  have hC2 : Try.prog.cellsOf 42 = 2 := by kernel_rfl
  have hC3 : Try.prog.cellsOf 23 = 1 := by kernel_rfl
  have hC4 : Try.prog.cellsOf 25 = 1 := by kernel_rfl
  have hC : Try.prog.cellsOf 44 = 8 := by kernel_rfl
  obtain ⟨cs, rfl, hsz⟩ := okWide_struct Try.underlying44 hval
  obtain ⟨l⟩ := cs
  match l, hsz.trans hC with
  | [c0, c1, c2, c3, c4, c5, c6, c7], _ =>
    obtain ⟨fuel, hf⟩ := h
    obtain ⟨xs, n, _, _, _, hlen, hg⟩ := DataW.trod_struct Try.underlying44 hf
    match xs, hlen with
    | [x0, x1, x2, x3, x4, x5], _ =>
      have h0 : DataW.trod enc Try.prog W 0 (fun _ => true) true n 3 (([c0, c1, c2, c3, c4, c5, c6, c7].drop 0).take (Try.prog.cellsOf 3)) = some x0 := hg 0 _ rfl
      have h1 : DataW.trod enc Try.prog W 0 (fun _ => true) true n 42 (([c0, c1, c2, c3, c4, c5, c6, c7].drop 1).take (Try.prog.cellsOf 42)) = some x1 := hg 1 _ rfl
      have h2 : DataW.trod enc Try.prog W 0 (fun _ => true) true n 42 (([c0, c1, c2, c3, c4, c5, c6, c7].drop 3).take (Try.prog.cellsOf 42)) = some x2 := hg 2 _ rfl
      have h3 : DataW.trod enc Try.prog W 0 (fun _ => true) true n 3 (([c0, c1, c2, c3, c4, c5, c6, c7].drop 5).take (Try.prog.cellsOf 3)) = some x3 := hg 3 _ rfl
      have h4 : DataW.trod enc Try.prog W 0 (fun _ => true) true n 23 (([c0, c1, c2, c3, c4, c5, c6, c7].drop 6).take (Try.prog.cellsOf 23)) = some x4 := hg 4 _ rfl
      have h5 : DataW.trod enc Try.prog W 0 (fun _ => true) true n 25 (([c0, c1, c2, c3, c4, c5, c6, c7].drop 7).take (Try.prog.cellsOf 25)) = some x5 := hg 5 _ rfl
      rw [hC1] at h0 h3
      rw [hC2] at h1 h2
      rw [hC3] at h4
      rw [hC4] at h5
      obtain ⟨k0, rfl, _⟩ := trod_num (c := c0) h0
      obtain ⟨⟨k1, rfl⟩, k2, rfl⟩ := trod_id (c := c1) (d := c2) h1
      obtain ⟨⟨k3, rfl⟩, k4, rfl⟩ := trod_id (c := c3) (d := c4) h2
      obtain ⟨k5, rfl, _⟩ := trod_num (c := c5) h3
      obtain ⟨xs6, hI⟩ := trod_ints (c := c6) h4
      obtain ⟨zs7, hR, hn⟩ := trod_row (c := c7) h5
      exact ⟨⟨k0, k1, k2, k3, k4, k5, xs6, zs7⟩, c6, c7, rfl, ⟨hI, hR⟩, hn⟩
end
end Go.Proofs.Ytfbkebdlioibpaa
