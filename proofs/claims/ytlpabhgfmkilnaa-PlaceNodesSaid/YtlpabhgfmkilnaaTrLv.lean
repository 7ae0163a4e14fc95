/- The law TreeLeaves. -/
import Derived.Test.YtlpabhgfmkilnaaTrMade
namespace Go.Proofs.Ytlpabhgfmkilnaa.L13
open Go.ChangeShapes Go.WideShapes Go.ChangeAt Go.RowKit Go.Deep
open Go.Proofs.Ytlpabhgfmkilnaa.L5 (One)

theorem filter_len {l : List Nat} (h : l.Nodup) {p : Nat} (hp : p ∈ l) : (l.filter (fun q => decide (q ≠ p))).length + 1 = l.length := by
  have e : l.filter (fun q => decide (q ≠ p)) = l.erase p := by
    rw [h.erase_eq_filter]
    congr 1
    funext q
    by_cases e : q = p <;> simp [e]
  rw [e, List.length_erase_of_mem hp]
  have := List.length_pos_of_mem hp
  omega
theorem mem_mems {t : Tr} {y : Int} (o : t.ok) (h : y ∈ t.mems) : 1 ≤ y ∧ y ≤ 8 ∧ y.toNat ∈ t.procs := by
  have e := o.contains y
  rw [List.contains_iff_mem.2 h] at e
  have g := of_decide_eq_true e.symm
  have := o.small _ g.2
  exact ⟨g.1, by omega, g.2⟩
/-- One of more leaves. -/
theorem leave_mem {t : Tr} (o : t.ok) {y : Int} (hy : y ∈ t.mems) (h2 : 2 ≤ t.procs.length) : ∃ u : Tr, u.ok ∧ leaveX t.text y = (u.text, 0) ∧ t.out y.toNat = some u ∧ u.procs = t.procs.filter (fun q => decide (q ≠ y.toNat)) ∧ u.procs.length + 1 = t.procs.length := by
  obtain ⟨g1, g8, gm⟩ := mem_mems o hy
  cases t with
  | leaf p => simp [Tr.procs] at h2
  | node l r =>
    obtain ⟨u, e, hp⟩ := Tr.out_some (o.other y.toNat)
    refine ⟨u, o.out hp, ?_, e, hp, ?_⟩
    · unfold leaveX
      rw [readT_text o]
      dsimp only
      unfold outX
      rw [e]
      dsimp only
      rw [if_pos ⟨g1, gm⟩]
    · rw [hp]
      exact filter_len o.once gm
theorem memsX_text {t : Tr} (o : t.ok) : memsX t.text = t.mems := by unfold memsX; rw [readT_text o]
theorem deepX_text {t : Tr} (o : t.ok) : deepX t.text = (t.deep : Int) := by unfold deepX; rw [readT_text o]
theorem mems_leaf (p : Nat) : (Tr.leaf p).mems = [(p : Int)] := by
  simp [Tr.mems, Tr.ints, Tr.procs, L10.sortL]
def LeavesRel (w : World) (k : Nat) (v6 v7 : Value) (wr : World) : Prop := ∃ (i : Nat) (t : Tr), k + i = 8 ∧ v7 = .int .i64 i ∧ t.ok ∧ t.procs.length + i ≤ 8 ∧ v6 = .string ⟨t.text.toArray⟩ ∧ Below w.heap.size w wr
end Go.Proofs.Ytlpabhgfmkilnaa.L13
