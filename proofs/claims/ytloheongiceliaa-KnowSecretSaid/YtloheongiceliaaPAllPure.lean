/- A row that is sorted and of which each one stays once: by bytes, each once. -/
import Derived.Test.YtloheongiceliaaAllPure
import Derived.Lib.SlicesCompact
namespace Go.Proofs.Ytloheongiceliaa.Tm
open Go.Lib

theorem le_iff_leq (x y : List UInt8) : x ≤ y ↔ leq x y := by
  induction x generalizing y with
  | nil => simp [leq_nil]
  | cons a x ih =>
    cases y with
    | nil => simp [leq, less, Op.bytesLess]
    | cons b y =>
      have h1 : less (b :: y) (a :: x) = true ↔ b < a ∨ (b = a ∧ less y x = true) := less_cons b a y x
      have ih' : x ≤ y ↔ leq x y := ih y
      unfold leq at ih' ⊢
      rw [List.cons_le_cons_iff]
      constructor
      · intro h
        cases hl : less (b :: y) (a :: x) with
        | false => rfl
        | true =>
          exfalso
          rcases h1.1 hl with h2 | ⟨h2, h3⟩
          · rcases h with h | ⟨h, _⟩
            · exact absurd (UInt8.lt_trans h h2) (UInt8.lt_irrefl _)
            · subst h; exact absurd h2 (UInt8.lt_irrefl _)
          · rcases h with h | ⟨h, h4⟩
            · subst h2; exact absurd h (UInt8.lt_irrefl _)
            · rw [ih'.1 h4] at h3; cases h3
      · intro h
        by_cases hab : a < b
        · exact .inl hab
        · by_cases hba : b < a
          · rw [h1.2 (.inl hba)] at h; cases h
          · have e : a = b := by
              apply UInt8.toNat_inj.1
              have h2 : ¬ a.toNat < b.toNat := fun q => hab (UInt8.lt_iff_toNat_lt.2 q)
              have h3 : ¬ b.toNat < a.toNat := fun q => hba (UInt8.lt_iff_toNat_lt.2 q)
              omega
            refine .inr ⟨e, ih'.2 ?_⟩
            cases hl : less y x with
            | false => rfl
            | true => rw [h1.2 (.inr ⟨e.symm, hl⟩)] at h; cases h

theorem compactUpTo_mem (d : Array (List UInt8)) (m : Nat) (hm : m ≤ d.size) (x : List UInt8) : x ∈ compactUpTo d m ↔ ∃ j, j < m ∧ d[j]! = x := by
  induction m with
  | zero => simp [compactUpTo]
  | succ m ih =>
    rw [compactUpTo_succ, List.mem_append, ih (by omega)]
    constructor
    · rintro (⟨j, h1, h2⟩ | h)
      · exact ⟨j, by omega, h2⟩
      · split at h
        · exact ⟨m, by omega, (List.mem_singleton.1 h).symm⟩
        · cases h
    · rintro ⟨j, h1, h2⟩
      by_cases hj : j < m
      · exact .inl ⟨j, hj, h2⟩
      · have e : j = m := by omega
        subst e
        by_cases hk : keeps d j = true
        · exact .inr (by rw [if_pos hk]; simp [h2])
        · left
          have : ¬ (j = 0 ∨ d[j]! ≠ d[j - 1]!) := by simpa [keeps] using hk
          have hj0 : j ≠ 0 := fun q => this (.inl q)
          have he : d[j]! = d[j - 1]! := by
            by_cases q : d[j]! = d[j - 1]!
            · exact q
            · exact absurd (.inr q) this
          exact ⟨j - 1, by omega, by rw [← he]; exact h2⟩

theorem compactUpTo_strict (d : Array (List UInt8)) (hd : ∀ i j, i ≤ j → j < d.size → leq d[i]! d[j]!) (m : Nat) (hm : m ≤ d.size) : (compactUpTo d m).Pairwise strict ∧ ∀ x ∈ compactUpTo d m, ∀ j, m ≤ j + 1 → j < d.size → leq x d[j]! := by
  induction m with
  | zero => simp [compactUpTo]
  | succ m ih =>
    obtain ⟨h1, h2⟩ := ih (by omega)
    rw [compactUpTo_succ]
    have up : ∀ x ∈ compactUpTo d (m + 1), ∀ j, m + 1 ≤ j + 1 → j < d.size → leq x d[j]! := by
      intro x hx j hj hjs
      obtain ⟨i, hi, rfl⟩ := (compactUpTo_mem d (m + 1) hm x).1 hx
      exact hd i j (by omega) hjs
    rw [compactUpTo_succ] at up
    refine ⟨?_, up⟩
    split
    · rename_i hk
      rw [List.pairwise_append]
      refine ⟨h1, List.pairwise_singleton _ _, ?_⟩
      intro x hx y hy
      rw [List.mem_singleton.1 hy]
      have hk' : m = 0 ∨ d[m]! ≠ d[m - 1]! := by simpa [keeps] using hk
      rcases hk' with hm0 | hne
      · subst hm0; simp [compactUpTo] at hx
      · by_cases hm0 : m = 0
        · subst hm0; simp [compactUpTo] at hx
        · have l1 := h2 x hx (m - 1) (by omega) (by omega)
          have l2 := hd (m - 1) m (by omega) (by omega)
          unfold strict
          cases hs : less x d[m]! with
          | true => rfl
          | false =>
            exfalso
            have l3 : leq d[m]! x := hs
            have l4 : leq d[m]! d[m - 1]! := leq_trans l3 l1
            exact hne (less_antisymm _ _ l2 l4 |>.symm ▸ rfl)
    · simpa using h1

theorem less_irr (a : List UInt8) : less a a = false := by
  cases h : less a a with
  | false => rfl
  | true => have := less_asymm a a h; rw [h] at this; cases this
theorem compact_chain {ys : List (List UInt8)} (hs : ys.Pairwise leq) : (compact ys).Pairwise strict ∧ (∀ x, x ∈ compact ys ↔ x ∈ ys) ∧ (compact ys).length ≤ ys.length := by
  have hd : ∀ i j, i ≤ j → j < ys.toArray.size → leq ys.toArray[i]! ys.toArray[j]! := by
    intro i j hij hj
    have hj' : j < ys.length := by simpa using hj
    rw [getElem!_pos ys.toArray j hj, getElem!_pos ys.toArray i (by simp; omega)]
    simp only [List.getElem_toArray]
    rcases Nat.lt_or_eq_of_le hij with h | h
    · exact List.pairwise_iff_getElem.1 hs i j (by omega) hj' h
    · subst h; exact less_irr _
  refine ⟨(compactUpTo_strict _ hd _ (by simp)).1, fun x => ?_, ?_⟩
  · unfold compact
    rw [compactUpTo_mem _ _ (by simp)]
    constructor
    · rintro ⟨j, hj, rfl⟩
      rw [getElem!_pos ys.toArray j (by simpa using hj)]
      simp
    · intro hx
      obtain ⟨j, hj, e⟩ := List.getElem_of_mem hx
      exact ⟨j, hj, by rw [getElem!_pos ys.toArray j (by simpa using hj)]; simpa using e⟩
  · unfold compact compactUpTo
    rw [List.length_map]
    exact Nat.le_trans (List.length_filter_le _ _) (by simp)

theorem compact_sorted (zs : List (List UInt8)) : (compact (zs.mergeSort fun x y => decide (x ≤ y))).Pairwise strict ∧ (∀ x, x ∈ compact (zs.mergeSort fun x y => decide (x ≤ y)) ↔ x ∈ zs) ∧ (compact (zs.mergeSort fun x y => decide (x ≤ y))).length ≤ zs.length := by
  have hs : (zs.mergeSort fun x y => decide (x ≤ y)).Pairwise (fun x y => leq x y) := by
    have := List.pairwise_mergeSort (le := fun x y : List UInt8 => decide (x ≤ y)) (by
      intro a b c h1 h2
      simp only [decide_eq_true_eq] at *
      exact (le_iff_leq _ _).2 (leq_trans ((le_iff_leq _ _).1 h1) ((le_iff_leq _ _).1 h2))) (by
      intro a b
      simp only [Bool.or_eq_true, decide_eq_true_eq]
      cases h : less b a with
      | false => exact .inl ((le_iff_leq _ _).2 h)
      | true => exact .inr ((le_iff_leq _ _).2 (less_asymm _ _ h))) zs
    exact this.imp fun h => (le_iff_leq _ _).1 (by simpa using h)
  have hmem : ∀ x, x ∈ (zs.mergeSort fun x y => decide (x ≤ y)) ↔ x ∈ zs := fun x => List.mem_mergeSort
  have hlen : (zs.mergeSort fun x y => decide (x ≤ y)).length = zs.length := List.length_mergeSort _
  generalize (zs.mergeSort fun x y => decide (x ≤ y)) = ys at *
  have hd : ∀ i j, i ≤ j → j < ys.toArray.size → leq ys.toArray[i]! ys.toArray[j]! := by
    intro i j hij hj
    have hj' : j < ys.length := by simpa using hj
    rw [getElem!_pos ys.toArray j hj, getElem!_pos ys.toArray i (by simp; omega)]
    simp only [List.getElem_toArray]
    rcases Nat.lt_or_eq_of_le hij with h | h
    · exact List.pairwise_iff_getElem.1 hs i j (by omega) hj' h
    · subst h; exact less_irrefl' _
  refine ⟨(compactUpTo_strict _ hd _ (by simp)).1, fun x => ?_, ?_⟩
  · rw [← hmem x]
    unfold compact
    rw [compactUpTo_mem _ _ (by simp)]
    constructor
    · rintro ⟨j, hj, rfl⟩
      rw [getElem!_pos ys.toArray j (by simpa using hj)]
      simp
    · intro hx
      obtain ⟨j, hj, e⟩ := List.getElem_of_mem hx
      exact ⟨j, hj, by rw [getElem!_pos ys.toArray j (by simpa using hj)]; simpa using e⟩
  · unfold compact compactUpTo
    rw [List.length_map]
    exact Nat.le_trans (List.length_filter_le _ _) (by simp [hlen])
where
  less_irrefl' (a : List UInt8) : less a a = false := by
    cases h : less a a with
    | false => rfl
    | true => have := less_asymm a a h; rw [h] at this; cases this

end Go.Proofs.Ytloheongiceliaa.Tm
