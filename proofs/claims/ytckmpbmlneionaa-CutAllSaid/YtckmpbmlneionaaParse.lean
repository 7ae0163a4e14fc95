/- The reader's machine is a plain recursive reading; what it reads is stable under whatever stands behind. -/
import Derived.Test.YtckmpbmlneionaaPure2
namespace Go.Proofs.Ytckmpbmlneionaa.Tm

def partsOf (p : List UInt8 → Nat × Nat × Nat) (kind : UInt8) : Nat → List UInt8 → List UInt8 → Nat × Nat × Nat
  | 0, _, _ => (0, 0, 0)
  | k + 1, l, ah =>
    if (p l).2.2 ≠ 0 then (0, 0, (p l).2.2)
    else if kind = 101 ∧ less (l.take (p l).1) ah = true then (0, 0, 2)
    else if (partsOf p kind k (l.drop (p l).1) (l.take (p l).1)).2.2 ≠ 0 then (0, 0, (partsOf p kind k (l.drop (p l).1) (l.take (p l).1)).2.2)
    else ((p l).1 + (partsOf p kind k (l.drop (p l).1) (l.take (p l).1)).1, max (p l).2.1 (partsOf p kind k (l.drop (p l).1) (l.take (p l).1)).2.1, 0)

def parse : Nat → List UInt8 → Nat × Nat × Nat
  | 0, _ => (0, 0, 4)
  | f + 1, l =>
    if (begin_ l).1 = 0 then (0, 0, 2)
    else if l.getD 0 0 = 107 ∧ element (l.drop (begin_ l).1) = false then (0, 0, 2)
    else if (partsOf (parse f) (l.getD 0 0) (begin_ l).2 (l.drop (begin_ l).1) []).2.2 ≠ 0 then (0, 0, (partsOf (parse f) (l.getD 0 0) (begin_ l).2 (l.drop (begin_ l).1) []).2.2)
    else ((begin_ l).1 + (partsOf (parse f) (l.getD 0 0) (begin_ l).2 (l.drop (begin_ l).1) []).1, (partsOf (parse f) (l.getD 0 0) (begin_ l).2 (l.drop (begin_ l).1) []).2.1 + 1, 0)

/-- A key has one part. -/
theorem begin_key {l : List UInt8} (h : l.getD 0 0 = 107) (h0 : (begin_ l).1 ≠ 0) : begin_ l = (1, 1) := by
  have hne : l ≠ [] := by intro e; rw [e] at h; simp at h
  have hh : headOf l = (1, 1) := by unfold headOf; rw [if_neg hne, h]; simp
  unfold begin_ at h0 ⊢
  rw [hh] at h0 ⊢
  split at h0
  · exact absurd rfl h0
  · rename_i h1; rw [if_neg h1]
theorem begin_power {l : List UInt8} (h : (begin_ l).2 = 0) (hk : l.getD 0 0 = 107) : (begin_ l).1 = 0 := by
  rcases Nat.eq_zero_or_pos (begin_ l).1 with h0 | h0
  · exact h0
  · rw [begin_key hk (by omega)] at h; simp at h

theorem run_parts (l : List UInt8) (f : Nat)
    (ih : ∀ (st : List Fr) (at_ depth : Nat), st.length + f = 400 → ¬ (inKey st = true ∧ element (l.drop at_) = false) →
      run l false st at_ depth = if (parse f (l.drop at_)).2.2 ≠ 0 then (0, 0, (parse f (l.drop at_)).2.2) else run l true st (at_ + (parse f (l.drop at_)).1) (max depth (st.length + (parse f (l.drop at_)).2.1)))
    (kind : UInt8) (k : Nat) : ∀ (st : List Fr) (at_ depth : Nat) (ah : List UInt8), st.length + 1 + f = 400 → (kind = 107 → k = 0 ∧ element (l.drop at_) = true) →
      run l false (⟨kind, k + 1, at_, ah⟩ :: st) at_ depth =
        if (partsOf (parse f) kind (k + 1) (l.drop at_) ah).2.2 ≠ 0 then (0, 0, (partsOf (parse f) kind (k + 1) (l.drop at_) ah).2.2)
        else run l true st (at_ + (partsOf (parse f) kind (k + 1) (l.drop at_) ah).1) (max depth (st.length + 1 + (partsOf (parse f) kind (k + 1) (l.drop at_) ah).2.1)) := by
  induction k with
  | zero =>
    intro st at_ depth ah hs hk
    have hkey : ¬ (inKey (⟨kind, 0 + 1, at_, ah⟩ :: st) = true ∧ element (l.drop at_) = false) := by
      rintro ⟨h1, h2⟩
      simp only [inKey, beq_iff_eq] at h1
      rw [(hk h1).2] at h2
      cases h2
    rw [ih _ at_ depth (by simp; omega) hkey]
    simp only [partsOf]
    obtain ⟨⟨n, d, e⟩, hr⟩ : ∃ r, parse f (l.drop at_) = r := ⟨_, rfl⟩
    simp only [hr, List.length_cons]
    by_cases he : e = 0
    · subst he
      simp only [ne_eq, not_true_eq_false, if_false]
      by_cases hl : kind = 101 ∧ less ((l.drop at_).take n) ah = true
      · rw [run_less (f := ⟨kind, 0 + 1, at_, ah⟩) (by simpa using hl)]
        simp [hl]
      · rw [run_pop (f := ⟨kind, 0 + 1, at_, ah⟩) (by simpa using hl) (by simp)]
        simp [hl]
    · simp [he]
  | succ k ihk =>
    intro st at_ depth ah hs hk
    have hk7 : kind ≠ 107 := fun h => by have := (hk h).1; omega
    have hkey : ¬ (inKey (⟨kind, k + 1 + 1, at_, ah⟩ :: st) = true ∧ element (l.drop at_) = false) := by
      rintro ⟨h1, h2⟩
      simp only [inKey, beq_iff_eq] at h1
      exact hk7 h1
    rw [ih _ at_ depth (by simp; omega) hkey]
    conv => rhs; rw [partsOf]
    obtain ⟨⟨n, d, e⟩, hr⟩ : ∃ r, parse f (l.drop at_) = r := ⟨_, rfl⟩
    simp only [hr, List.length_cons]
    by_cases he : e = 0
    · subst he
      simp only [ne_eq, not_true_eq_false, if_false]
      by_cases hl : kind = 101 ∧ less ((l.drop at_).take n) ah = true
      · rw [run_less (f := ⟨kind, k + 1 + 1, at_, ah⟩) (by simpa using hl)]
        simp [hl]
      · rw [run_more (f := ⟨kind, k + 1 + 1, at_, ah⟩) (by simpa using hl) (by simp)]
        rw [if_neg hl]
        simp only [Nat.add_sub_cancel, Nat.add_sub_cancel_left]
        rw [ihk st (at_ + n) _ _ hs (fun h => absurd h hk7)]
        rw [List.drop_drop]
        generalize partsOf (parse f) kind (k + 1) (l.drop (at_ + n)) ((l.drop at_).take n) = q
        obtain ⟨n2, d2, e2⟩ := q
        by_cases he2 : e2 = 0
        · subst he2
          simp only [ne_eq, not_true_eq_false, if_false]
          congr 1
          · omega
          · omega
        · simp [he2]
    · simp [he]

theorem run_parse (l : List UInt8) (f : Nat) : ∀ (st : List Fr) (at_ depth : Nat), st.length + f = 400 → ¬ (inKey st = true ∧ element (l.drop at_) = false) →
    run l false st at_ depth = if (parse f (l.drop at_)).2.2 ≠ 0 then (0, 0, (parse f (l.drop at_)).2.2) else run l true st (at_ + (parse f (l.drop at_)).1) (max depth (st.length + (parse f (l.drop at_)).2.1)) := by
  induction f with
  | zero =>
    intro st at_ depth hs hk
    rw [run_deep hk (by omega)]
    simp [parse]
  | succ f ih =>
    intro st at_ depth hs hk
    have h4 : ¬ st.length = 400 := by omega
    conv => rhs; rw [parse]
    by_cases h0 : (begin_ (l.drop at_)).1 = 0
    · rw [run_none hk h4 h0]
      simp [h0]
    · rw [if_neg h0]
      obtain ⟨⟨a, b⟩, hab⟩ : ∃ b, begin_ (l.drop at_) = b := ⟨_, rfl⟩
      have hg : l.getD at_ 0 = (l.drop at_).getD 0 0 := by simp [List.getD]
      rw [hab] at h0 ⊢
      simp only at h0 ⊢
      cases b with
      | zero =>
        rw [run_leaf hk h4 hab h0 (by omega)]
        have hk7 : ¬ ((l.drop at_).getD 0 0 = 107 ∧ element ((l.drop at_).drop a) = false) := by
          rintro ⟨h1, _⟩
          have := begin_power (l := l.drop at_) (by rw [hab]) h1
          rw [hab] at this
          exact h0 this
        rw [if_neg hk7]
        simp [partsOf]
      | succ b =>
        rw [run_push hk h4 hab h0 (by omega), hg]
        by_cases hk7 : (l.drop at_).getD 0 0 = 107 ∧ element ((l.drop at_).drop a) = false
        · rw [if_pos hk7]
          have : element (l.drop (at_ + a)) = false := by rw [← List.drop_drop]; exact hk7.2
          rw [run_key (by simp only [inKey, beq_iff_eq]; exact hk7.1) this]
          simp
        · rw [if_neg hk7]
          rw [run_parts l f ih _ b st (at_ + a) _ [] (by omega) (fun h => by
            have hb := begin_key h (by rw [hab]; exact h0)
            rw [hab] at hb
            simp only [Prod.mk.injEq] at hb
            refine ⟨by omega, ?_⟩
            rw [← List.drop_drop]
            cases he : element ((l.drop at_).drop a) with
            | true => rfl
            | false => exact absurd ⟨h, he⟩ hk7)]
          rw [← List.drop_drop]
          generalize partsOf (parse f) _ (b + 1) ((l.drop at_).drop a) [] = q
          obtain ⟨n2, d2, e2⟩ := q
          by_cases he2 : e2 = 0
          · subst he2
            simp only [ne_eq, not_true_eq_false, if_false]
            congr 1
            · omega
            · omega
          · simp [he2]

theorem read_parse (l : List UInt8) : read l = parse 400 l := by
  unfold read
  rw [run_parse l 400 [] 0 0 (by simp) (by simp [inKey])]
  simp only [List.drop_zero, List.length_nil]
  have herr : ∀ f l, (parse f l).2.2 ≠ 0 → parse f l = (0, 0, (parse f l).2.2) := by
    intro f l h
    cases f with
    | zero => rfl
    | succ f =>
      rw [parse] at h ⊢
      split
      · rfl
      · rename_i h1
        rw [if_neg h1] at h
        split
        · rfl
        · rename_i h2
          rw [if_neg h2] at h
          split
          · rfl
          · rename_i h3
            rw [if_neg h3] at h
            exact absurd rfl h
  by_cases he : (parse 400 l).2.2 ≠ 0
  · rw [if_pos he]
    exact (herr 400 l he).symm
  · rw [if_neg he, run_end]
    have he' : (parse 400 l).2.2 = 0 := by simpa using he
    generalize parse 400 l = r at *
    obtain ⟨n, d, e⟩ := r
    simp only at he' ⊢
    subst he'
    simp

end Go.Proofs.Ytckmpbmlneionaa.Tm
