/- What the laws of layer 13 share: which of n things a number speaks of; the chapter's example; a tree that is made. -/
import Derived.Test.YtlpabhgfmkilnaaTrBuild
namespace Go.Proofs.Ytlpabhgfmkilnaa.L13
open Go.ChangeShapes Go.WideShapes Go.ChangeAt Go.RowKit Go.Deep
open Go.Proofs.Ytlpabhgfmkilnaa.L5 (One)

def pickI (c n : Int) : Int := (if c < 0 then -(c + 1) else c) % n
theorem pickI_bounds (c : Int) {n : Int} (h : 1 ≤ n) : 0 ≤ pickI c n ∧ pickI c n < n := ⟨Int.emod_nonneg _ (by omega), Int.emod_lt_of_pos _ (by omega)⟩
theorem build_five : buildX [1, 2, 3, 4, 5] = ([40, 40, 40, 49, 50, 41, 40, 51, 52, 41, 41, 53, 41], 0) := by decide
/-- A text of a tree, or an error. -/
def FineX (r : List UInt8 × Int) : Prop := (∃ u : Tr, u.ok ∧ r = (u.text, 0)) ∨ (∃ y, r = (y, 1)) ∨ ∃ y, r = (y, 8)
theorem join_fine {t : Tr} (h : t.ok) (p : Int) : FineX (joinX t.text p) := by
  unfold joinX
  rw [readT_text h]
  dsimp only
  split
  · rename_i hc
    exact .inl ⟨_, h.put (by omega) hc.2.2, rfl⟩
  · exact .inr (.inl ⟨_, rfl⟩)
theorem leave_fine {t : Tr} (h : t.ok) (p : Int) : FineX (leaveX t.text p) := by
  unfold leaveX
  rw [readT_text h]
  dsimp only
  unfold outX
  split
  · rename_i l r u hu
    split
    · obtain ⟨u', e, hp⟩ := Tr.out_some (h.other p.toNat)
      rw [e] at hu
      cases hu
      exact .inl ⟨_, h.out hp, rfl⟩
    · exact .inr (.inr ⟨_, rfl⟩)
  · exact .inr (.inr ⟨_, rfl⟩)
theorem shared_none {a b : Tr} (oa : a.ok) (ob : b.ok) (h : ¬ 0 < (sharedL a b).length) : ∀ p ∈ a.procs, p ∉ b.procs := by
  intro p hp hq
  have h0 : sharedL a b = [] := List.eq_nil_of_length_eq_zero (by omega)
  have e1 := oa.contains (p : Int)
  have e2 := ob.contains (p : Int)
  rw [Int.toNat_natCast] at e1 e2
  have := oa.small p hp
  rw [decide_eq_true (And.intro (by omega) hp), List.contains_iff_mem] at e1
  rw [decide_eq_true (And.intro (by omega) hq)] at e2
  have : (p : Int) ∈ sharedL a b := List.mem_filter.2 ⟨e1, e2⟩
  rw [h0] at this
  cases this
theorem merge_ok {a b : Tr} (oa : a.ok) (ob : b.ok) (h : ∀ p ∈ a.procs, p ∉ b.procs) : (a.merge b).ok := by
  unfold Tr.merge
  split
  · exact oa.node ob h
  · exact ob.node oa (fun p hp hq => h p hq hp)
theorem merge_fine {t u : Tr} (h : t.ok) (g : u.ok) : FineX (mergeX t.text u.text) := by
  unfold mergeX
  rw [readT_text h, readT_text g]
  dsimp only
  split
  · exact .inr (.inl ⟨_, rfl⟩)
  · rename_i hn
    exact .inl ⟨_, merge_ok h g (shared_none h g hn), rfl⟩
end Go.Proofs.Ytlpabhgfmkilnaa.L13
