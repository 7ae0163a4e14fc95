/- Contract of place: where the next process joins. -/
import Derived.Test.YtlpabhgfmkilnaaTrMem2
namespace Go.Proofs.Ytlpabhgfmkilnaa.L13
open Go.ChangeShapes Go.WideShapes Go.ChangeAt Go.RowKit Go.Deep

attribute [local go_sem] store_func13
/-- The block at which one joins. -/
def SpotIs (w : World) : Tr → Nat → Nat → Prop
  | .leaf _, a, r => r = a
  | .node x y, a, r => if (Tr.node x y).full then r = a else ∃ b c, w.cell? ⟨a, 1, none⟩ = some (.pointer (some ⟨b, 0, none⟩)) ∧ w.cell? ⟨a, 2, none⟩ = some (.pointer (some ⟨c, 0, none⟩)) ∧ (if y.best ≤ x.best then SpotIs w y c r else SpotIs w x b r)
theorem SpotIs.same {w W : World} : ∀ {t : Tr} {a r : Nat} {F : List Nat}, TreeAt w t a F → SpotIs w t a r → (∀ q ∈ F, W.heap[q]? = w.heap[q]?) → SpotIs W t a r := by
  intro t
  induction t with
  | leaf p => intro a r F _ h _; exact h
  | node x y ihx ihy =>
    intro a r F ht h hs
    obtain ⟨b, c, G, H, c0, c1, c2, tx, ty, rfl⟩ := ht.cells12
    unfold SpotIs at h ⊢
    split at h
    · rename_i hf
      rw [if_pos hf]
      exact h
    · rename_i hf
      rw [if_neg hf]
      obtain ⟨b', c', e1, e2, h⟩ := h
      rw [c1] at e1
      rw [c2] at e2
      cases e1
      cases e2
      refine ⟨b, c, (World.cell?_of_block (hs a (by simp))).trans c1, (World.cell?_of_block (hs a (by simp))).trans c2, ?_⟩
      split at h
      · rename_i hb
        rw [if_pos hb]
        exact ihy ty h (fun q hq => hs q (by simp [hq]))
      · rename_i hb
        rw [if_neg hb]
        exact ihx tx h (fun q hq => hs q (by simp [hq]))
def ptrO : Option Nat → Value
  | none => .pointer none
  | some r => .pointer (some ⟨r, 0, none⟩)
def upd (f : Option Nat) (s r m : Nat) : Option Nat × Nat := if f = none ∨ m ≤ s then (some r, m) else (f, s)
theorem upd_upd (f : Option Nat) (s r1 b1 r2 b2 : Nat) : upd (upd f s r1 b1).1 (upd f s r1 b1).2 r2 b2 = upd f s (if b2 ≤ b1 then r2 else r1) (min b1 b2) := by
  unfold upd
  by_cases h1 : f = none
  · subst h1
    by_cases h2 : b2 ≤ b1
    · simp [h2]
    · simp [h2]; omega
  · by_cases h3 : b1 ≤ s
    · by_cases h2 : b2 ≤ b1
      · have : b2 ≤ s := by omega
        simp [h1, h2, h3, this]
      · have e : min b1 b2 = b1 := by omega
        simp [h1, h2, h3, e]
    · by_cases h4 : b2 ≤ s
      · have h2 : b2 ≤ b1 := by omega
        have e : min b1 b2 = b2 := by omega
        simp [h1, h2, h3, h4, e]
      · have : ¬ min b1 b2 ≤ s := by omega
        simp [h1, h3, h4, this]
theorem spot_full {w : World} {t : Tr} {a : Nat} (h : t.full = true) : SpotIs w t a a ∧ t.best = t.deep ∧ ¬ t.least < t.deep := by
  have hl : ¬ t.least < t.deep := by unfold Tr.full at h; simp at h; omega
  cases t with
  | leaf p => exact ⟨rfl, rfl, hl⟩
  | node x y => exact ⟨by unfold SpotIs; rw [if_pos h], by unfold Tr.best; rw [if_pos h], hl⟩

end Go.Proofs.Ytlpabhgfmkilnaa.L13
