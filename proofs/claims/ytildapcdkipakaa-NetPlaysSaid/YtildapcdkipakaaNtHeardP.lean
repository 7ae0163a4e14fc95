/- NetHeard: has; what was heard stands in order, each once. -/
import Derived.Test.YtildapcdkipakaaNtInts
import Derived.Laws.Cover1
namespace Go.Proofs.Ytildapcdkipakaa.L8
open Go.ChangeShapes Go.WideShapes Go.ChangeAt Go.RowKit Go.Deep

theorem bytesLess_cons8 (x y : UInt8) (a b : Bytes) : Op.bytesLess (x :: a) (y :: b) = true ↔ x < y ∨ (x = y ∧ Op.bytesLess a b = true) := by
  simp only [Op.bytesLess, Bool.or_eq_true, decide_eq_true_eq, Bool.and_eq_true, beq_iff_eq]
theorem not_less_of_le : ∀ {x y : Bytes}, y ≤ x → Op.bytesLess x y = false
  | [], y, h => by
    have : y = [] := by
      cases y with
      | nil => rfl
      | cons b y => simp at h
    rw [this]
    rfl
  | a :: x, [], _ => by simp [Op.bytesLess]
  | a :: x, b :: y, h => by
    rw [List.cons_le_cons_iff] at h
    cases hl : Op.bytesLess (a :: x) (b :: y) with
    | false => rfl
    | true =>
      exfalso
      rcases (bytesLess_cons8 a b x y).1 hl with h2 | ⟨h2, h3⟩
      · rcases h with h | ⟨h, _⟩
        · exact absurd (UInt8.lt_trans h h2) (UInt8.lt_irrefl _)
        · subst h; exact absurd h2 (UInt8.lt_irrefl _)
      · rcases h with h | ⟨_, h4⟩
        · subst h2; exact absurd h (UInt8.lt_irrefl _)
        · rw [not_less_of_le h4] at h3; cases h3
/-- In order, each once. -/
theorem inOrder_strict {hs : List Bytes} (hn : hs.Nodup) {k : Nat} {x y : Bytes} (hy : (inOrder hs)[k]? = some y) (hx : (inOrder hs)[k + 1]? = some x) : Op.bytesLess x y = false ∧ x ≠ y := by
  have tr : ∀ a b c : Bytes, leB a b = true → leB b c = true → leB a c = true := fun a b c h1 h2 => by simp only [leB, decide_eq_true_eq] at *; exact List.le_trans h1 h2
  have to : ∀ a b : Bytes, (leB a b || leB b a) = true := fun a b => by simp only [leB, Bool.or_eq_true, decide_eq_true_eq]; exact List.le_total a b
  have hp := List.pairwise_mergeSort tr to hs
  have hnd : (inOrder hs).Nodup := (List.mergeSort_perm hs leB).nodup_iff.2 hn
  obtain ⟨i1, rfl⟩ := List.getElem?_eq_some_iff.1 hy
  obtain ⟨i2, rfl⟩ := List.getElem?_eq_some_iff.1 hx
  constructor
  · have := List.pairwise_iff_getElem.1 hp k (k + 1) i1 i2 (by omega)
    simp only [leB, decide_eq_true_eq] at this
    exact not_less_of_le this
  · exact fun e => List.pairwise_iff_getElem.1 hnd k (k + 1) i1 i2 (by omega) e.symm
theorem mem_inOrder {hs : List Bytes} {x : Bytes} : x ∈ inOrder hs ↔ x ∈ hs := (List.mergeSort_perm hs leB).mem_iff
theorem row_shape_t {w : World} {B n : Nat} {e : TypeId} {v : Value} {vs : List Value} (h : w.ownsRow B e 1 v n vs) (hn : 0 < n) : ∃ g cap, v = .slice (some ⟨g, 0, none⟩) n cap ∧ g < w.heap.size ∧ B ≤ g ∧ (∀ j u, vs[j]? = some u → w.cell? ⟨g, j, none⟩ = some u) := by
  have h' := h
  rcases h.2 with ⟨_, h0⟩ | ⟨g, cap, cur, rfl, h2, _, h4, _⟩
  · omega
  · refine ⟨g, cap, rfl, (h'.lt g rfl).2, h2, fun j u hj => ?_⟩
    have := h'.cells (g := g) rfl j u hj
    rw [add_zero8] at this
    exact this
def HasGo (w : World) (zs : List Bytes) (t : Bytes) (k : Nat) (v5 : Value) (wr : World) : Prop := ∃ i : Nat, k + i = zs.length ∧ v5 = .int .i64 i ∧ t ∈ zs.drop i ∧ wr = w
end Go.Proofs.Ytildapcdkipakaa.L8
