/- The head of chapter 4's laws; rows of the call's own as rows that are read. -/
import Derived.Test.YtkhiconkoldllaaLPut
import Derived.Test.YtkhiconkoldllaaRowFacts
import Derived.Test.YtkhiconkoldllaaFine
namespace Go.Proofs.Ytkhiconkoldllaa
open Go.ChangeShapes Go.WideShapes Go.ChangeAt Go.RowKit

theorem addr_flat (g j : Nat) : (⟨g, 0, none⟩ : Addr).add j = ⟨g, j, none⟩ := by
  by_cases h0 : j = 0
  · subst h0; simp [Addr.add]
  · simp [Addr.add, h0]
theorem rowA_texts {w : World} {g n c : Nat} {zs : List (List UInt8)} (hn : zs.length = n) (hg : g < w.heap.size) (hT : Texts w g zs) (hs : ∀ z ∈ zs, z.length ≤ maxLen) (hf : zs.length ≤ maxLen) : RowA w (.slice (some ⟨g, 0, none⟩) n c) zs := by
  subst hn
  exact ⟨⟨_, c, rfl, fun j x hx => ⟨⟨g, 0, none⟩, rfl, hg, id, by rw [addr_flat]; exact hT j x hx⟩⟩, hs, hf⟩
theorem rowA_own {w : World} {B : Nat} {v : Value} {zs : List (List UInt8)} (h : w.ownsRow B 28 1 v zs.length (strs zs)) (hs : ∀ z ∈ zs, z.length ≤ maxLen) (hf : zs.length ≤ maxLen) : RowA w v zs := by
  rcases h.2 with ⟨rfl, h0⟩ | ⟨g, cap, cur, rfl, _⟩
  · obtain rfl : zs = [] := List.length_eq_zero_iff.1 h0
    exact ⟨⟨none, 0, rfl, fun j x hx => by simp at hx⟩, hs, hf⟩
  · exact rowA_texts rfl (lt_of_row h) (texts_of_row h) hs hf
theorem good_short {k m : Nat} {z : List UInt8} (h : Tm.Good k m z) (hm : m ≤ 20000) : z.length ≤ maxLen := by have := h.2.2; unfold maxLen; omega

namespace Tm
theorem put_good {ts : List (List UInt8)} (hg : ∀ t ∈ ts, depthOf t ≠ 0) (hl : ts.length ≤ 150) : (putRow ts = (rowL ts, 0) ∧ (rowL ts).length ≤ 20000) ∨ putRow ts = ([], 3) ∨ putRow ts = ([], 4) := by
  have hw : wrongIn ts = false := by
    unfold wrongIn
    rw [List.any_eq_false]
    intro t ht
    simpa using hg t ht
  have hn : ¬ (150 < ts.length ∨ wrongIn ts = true) := by rw [hw]; simp; omega
  by_cases h2 : 20000 < (rowL ts).length
  · have e : measureL ts = (0, 3) := by unfold measureL; rw [if_neg hn, if_pos h2]
    unfold putRow
    rw [e]
    exact .inr (.inl rfl)
  · by_cases h3 : 400 < deepR ts
    · have e : measureL ts = (0, 4) := by unfold measureL; rw [if_neg hn, if_neg h2, if_pos h3]
      unfold putRow
      rw [e]
      exact .inr (.inr rfl)
    · exact .inl ⟨putRow_mk hl hw (by omega) (by omega), by omega⟩
theorem shown_row : putRow [[103], [104, 103]] = ([112, 103, 112, 104, 103] ++ num0, 0) := by
  have h1 : depthOf [103] ≠ 0 := good_gen.1
  have hp : put [104] [[103]] = ([104, 103], 0) := put_fine (by decide) (by decide) (fun p hp => by simp at hp; rw [hp]; exact good_gen.mono (by decide) (by decide))
  obtain ⟨_, k2, k3⟩ := good_hash hp good_gen.2.1
  have h2 : depthOf [104, 103] ≠ 0 := k3.1
  have h3 := good_gen.2.1
  have := putRow_mk (zs := [[103], [104, 103]]) (by decide) (by unfold wrongIn; simp [h1, h2]) (by decide) (by rw [deepR_cons _ h1, deepR_cons _ h2, deepR_nil]; omega)
  rw [this]
  rfl
end Tm

namespace L4
end L4

end Go.Proofs.Ytkhiconkoldllaa
