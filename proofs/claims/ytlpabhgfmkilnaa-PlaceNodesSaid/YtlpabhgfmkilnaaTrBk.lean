/- The law TreeBack. -/
import Derived.Test.YtlpabhgfmkilnaaTrLv
namespace Go.Proofs.Ytlpabhgfmkilnaa.L13
open Go.ChangeShapes Go.WideShapes Go.ChangeAt Go.RowKit Go.Deep
open Go.Proofs.Ytlpabhgfmkilnaa.L5 (One)

theorem sorted_unique : ∀ (xs ys : List Int), xs.Pairwise (· ≤ ·) → ys.Pairwise (· ≤ ·) → xs.Perm ys → xs = ys := by
  intro xs
  induction xs with
  | nil => intro ys _ _ h; exact (List.nil_perm.1 h).symm
  | cons x xs ih =>
    intro ys hx hy h
    cases ys with
    | nil => exact absurd h.length_eq (by simp)
    | cons y ys =>
      have h1 := List.pairwise_cons.1 hx
      have h2 := List.pairwise_cons.1 hy
      have e : x = y := by
        have m1 : x ∈ y :: ys := h.mem_iff.1 (by simp)
        have m2 : y ∈ x :: xs := h.mem_iff.2 (by simp)
        rcases List.mem_cons.1 m1 with e | m1
        · exact e
        · rcases List.mem_cons.1 m2 with e | m2
          · exact e.symm
          · have := h1.1 y m2
            have := h2.1 x m1
            omega
      subst e
      rw [ih ys h1.2 h2.2 (List.Perm.cons_inv h)]
theorem sortL_perm (xs : List Int) : (L10.sortL xs).Perm xs := List.mergeSort_perm xs _
/-- Who is left, sorted. -/
theorem mems_filter {t u : Tr} {q : Nat} (hu : u.procs = t.procs.filter (fun p => decide (p ≠ q))) : u.mems = t.mems.filter (fun p => ![(q : Int)].contains p) := by
  refine sorted_unique _ _ (L10.sortL_sorted _) ((L10.sortL_sorted _).filter _) ?_
  refine (sortL_perm _).trans ?_
  refine List.Perm.trans ?_ ((sortL_perm t.ints).filter _).symm
  unfold Tr.ints
  rw [hu, List.filter_map]
  refine List.Perm.of_eq ?_
  congr 2
  funext p
  by_cases e : p = q
  · subst e; simp
  · have : ¬ (p : Int) = (q : Int) := by omega
    simp [e, this]
theorem back_join {t : Tr} (o : t.ok) {q : Nat} (hq : 1 ≤ q ∧ q ≤ 8) (hn : q ∉ t.procs) : joinX t.text (q : Int) = ((t.put q).text, 0) ∧ leaveX (t.put q).text (q : Int) = (t.text, 0) := by
  have ou := o.put hq hn
  refine ⟨?_, ?_⟩
  · unfold joinX
    rw [readT_text o]
    dsimp only
    rw [Int.toNat_natCast, if_pos ⟨by omega, by omega, hn⟩]
  · unfold leaveX
    rw [readT_text ou]
    dsimp only
    have hout := Tr.out_put hn
    have hm : q ∈ (t.put q).procs := (t.put_mem q q).2 (.inl rfl)
    unfold outX
    rw [Int.toNat_natCast, hout]
    cases hp : t.put q with
    | leaf p => exfalso; have h1 := t.put_len q; have h2 := t.procs_pos; rw [hp, show (Tr.leaf p).procs.length = 1 from rfl] at h1; omega
    | node l r =>
      dsimp only
      rw [if_pos ⟨by omega, by rw [← hp]; exact hm⟩]
theorem natCast_one (m : Nat) : (1 : Int) + (m : Int) = ((1 + m : Nat) : Int) := by omega
end Go.Proofs.Ytlpabhgfmkilnaa.L13
