/- Pure: what joining and leaving do to whose a tree is, and to how deep it is. -/
import Derived.Test.YtlpabhgfmkilnaaTrPure
namespace Go.Proofs.Ytlpabhgfmkilnaa.L13

theorem Tr.deep_lt (t : Tr) : t.deep + 1 ≤ t.procs.length := by
  induction t with
  | leaf p => simp [Tr.deep, Tr.procs]
  | node l r hl hr =>
    have := l.procs_pos
    have := r.procs_pos
    simp only [Tr.deep, Tr.procs, List.length_append]
    omega
theorem Tr.ok.deep8 {t : Tr} (h : t.ok) : t.deep ≤ 7 := by
  have := t.deep_lt
  have := h.few
  omega
theorem Tr.put_procs (t : Tr) (p : Nat) : (t.put p).procs.Perm (p :: t.procs) := by
  induction t with
  | leaf q => exact List.Perm.swap p q []
  | node l r hl hr =>
    rw [Tr.put]
    split
    · show (l.procs ++ r.procs ++ [p]).Perm _
      exact List.perm_append_singleton p (l.procs ++ r.procs)
    · split
      · show (l.procs ++ (r.put p).procs).Perm (p :: (l.procs ++ r.procs))
        exact (List.Perm.append_left _ hr).trans List.perm_middle
      · show ((l.put p).procs ++ r.procs).Perm (p :: (l.procs ++ r.procs))
        exact List.Perm.append_right _ hl
theorem Tr.put_len (t : Tr) (p : Nat) : (t.put p).procs.length = t.procs.length + 1 := (t.put_procs p).length_eq
theorem Tr.put_mem (t : Tr) (p q : Nat) : q ∈ (t.put p).procs ↔ q = p ∨ q ∈ t.procs := by
  rw [(t.put_procs p).mem_iff, List.mem_cons]
theorem Tr.ok.put {t : Tr} (h : t.ok) {p : Nat} (hp : 1 ≤ p ∧ p ≤ 8) (hn : p ∉ t.procs) : (t.put p).ok :=
  ⟨fun q hq => ((t.put_mem p q).1 hq).elim (fun e => e ▸ hp) (h.small q), (t.put_procs p).nodup_iff.2 (List.nodup_cons.2 ⟨hn, h.once⟩)⟩
theorem Tr.out_not {t : Tr} {p : Nat} (h : p ∉ t.procs) : t.out p = some t := by
  induction t with
  | leaf q => simp [Tr.out, Tr.procs] at h ⊢; omega
  | node l r hl hr =>
    simp only [Tr.procs, List.mem_append, not_or] at h
    rw [Tr.out, hl h.1, hr h.2]
    rfl
theorem Tr.out_put {t : Tr} {p : Nat} (h : p ∉ t.procs) : (t.put p).out p = some t := by
  induction t with
  | leaf q =>
    simp [Tr.procs] at h
    simp [Tr.put, Tr.out, both, Ne.symm h]
  | node l r hl hr =>
    have hh := h
    simp only [Tr.procs, List.mem_append, not_or] at h
    rw [Tr.put]
    split
    · rw [Tr.out, Tr.out_not hh]
      simp [Tr.out, both]
    · split
      · rw [Tr.out, Tr.out_not h.1, hr h.2]
        rfl
      · rw [Tr.out, Tr.out_not h.2, hl h.1]
        rfl
/-- Who is left. -/
theorem Tr.out_procs (t : Tr) (p : Nat) : (match t.out p with | none => [] | some u => u.procs) = t.procs.filter (fun q => decide (q ≠ p)) := by
  induction t with
  | leaf q =>
    by_cases e : q = p
    · simp [Tr.out, Tr.procs, e]
    · simp [Tr.out, Tr.procs, e]
  | node l r hl hr =>
    rw [Tr.out, Tr.procs, List.filter_append, ← hl, ← hr]
    cases l.out p with
    | none => cases r.out p <;> simp [both]
    | some a => cases r.out p <;> simp [both, Tr.procs]
theorem Tr.out_some {t : Tr} {p : Nat} (h : ∃ q ∈ t.procs, q ≠ p) : ∃ u, t.out p = some u ∧ u.procs = t.procs.filter (fun q => decide (q ≠ p)) := by
  have := t.out_procs p
  cases hu : t.out p with
  | none =>
    rw [hu] at this
    obtain ⟨q, hq, hne⟩ := h
    have hm : q ∈ t.procs.filter (fun q => decide (q ≠ p)) := List.mem_filter.2 ⟨hq, by simpa using hne⟩
    rw [← this] at hm
    cases hm
  | some u =>
    rw [hu] at this
    exact ⟨u, rfl, this⟩
theorem Tr.out_deep {t u : Tr} {p : Nat} (h : t.out p = some u) : u.deep ≤ t.deep := by
  induction t generalizing u with
  | leaf q =>
    simp only [Tr.out] at h
    split at h
    · cases h
    · cases h; exact Nat.le_refl _
  | node l r hl hr =>
    rw [Tr.out] at h
    cases h1 : l.out p with
    | none =>
      rw [h1] at h
      have := hr (u := u) (by cases h2 : r.out p <;> rw [h2] at h <;> exact h)
      simp only [Tr.deep]; omega
    | some a =>
      have ha := hl h1
      rw [h1] at h
      cases h2 : r.out p with
      | none =>
        rw [h2] at h
        cases h
        simp only [Tr.deep]; omega
      | some b =>
        have hb := hr h2
        rw [h2] at h
        cases h
        simp only [Tr.deep]; omega
theorem Tr.ok.out {t u : Tr} (h : t.ok) {p : Nat} (hu : u.procs = t.procs.filter (fun q => decide (q ≠ p))) : u.ok :=
  ⟨fun q hq => h.small q (List.mem_filter.1 (hu ▸ hq)).1, hu ▸ h.once.filter _⟩
theorem Tr.one_of_len {t : Tr} (h : t.procs.length = 1) : ∃ p, t = .leaf p := by
  cases t with
  | leaf p => exact ⟨p, rfl⟩
  | node l r =>
    have := l.procs_pos
    have := r.procs_pos
    simp only [Tr.procs, List.length_append] at h
    omega
/-- Of a node there is one besides any process. -/
theorem Tr.ok.other {l r : Tr} (h : (Tr.node l r).ok) (p : Nat) : ∃ q ∈ (Tr.node l r).procs, q ≠ p := by
  obtain ⟨a, ha⟩ : ∃ a, a ∈ l.procs := by
    have := l.procs_pos
    cases hl : l.procs with
    | nil => rw [hl] at this; simp at this
    | cons a _ => exact ⟨a, by simp⟩
  obtain ⟨b, hb⟩ : ∃ b, b ∈ r.procs := by
    have := r.procs_pos
    cases hl : r.procs with
    | nil => rw [hl] at this; simp at this
    | cons a _ => exact ⟨a, by simp⟩
  by_cases e : a = p
  · refine ⟨b, by simp [Tr.procs, hb], fun e2 => h.apart a ha ?_⟩
    rw [e, ← e2]; exact hb
  · exact ⟨a, by simp [Tr.procs, ha], e⟩
/-- How deep a tree is behind one that joined. -/
theorem Tr.best_le (t : Tr) : t.best ≤ t.deep := by
  induction t with
  | leaf p => exact Nat.le_refl _
  | node l r hl hr =>
    rw [Tr.best]
    split
    · exact Nat.le_refl _
    · simp only [Tr.deep]; omega
theorem Tr.best_full {t : Tr} (h : t.full = true) : t.best = t.deep := by
  cases t with
  | leaf p => rfl
  | node l r => rw [Tr.best, if_pos h]
theorem Tr.best_lt {t : Tr} (h : ¬ t.full = true) : t.best < t.deep := by
  cases t with
  | leaf p => exact absurd rfl h
  | node l r =>
    have := l.best_le
    rw [Tr.best, if_neg h]
    simp only [Tr.deep]
    omega
theorem Tr.full_node {l r : Tr} (hl : l.full = true) (hr : r.full = true) (e : l.deep = r.deep) : (Tr.node l r).full = true := by
  unfold Tr.full at hl hr ⊢
  rw [decide_eq_true_iff] at hl hr ⊢
  simp only [Tr.deep, Tr.least]
  omega
theorem Tr.put_deep (t : Tr) (p : Nat) : (t.put p).deep = if t.full then t.deep + 1 else t.deep := by
  induction t with
  | leaf q => simp [Tr.put, Tr.deep, Tr.full, Tr.least]
  | node l r hl hr =>
    by_cases hf : (Tr.node l r).full = true
    · rw [if_pos hf, Tr.put, if_pos hf]
      simp only [Tr.deep]; omega
    · rw [if_neg hf, Tr.put, if_neg hf]
      have b1 := l.best_le
      have b2 := r.best_le
      split
      · rename_i hb
        simp only [Tr.deep]
        rw [hr]
        by_cases fr : r.full = true
        · rw [if_pos fr]
          have := Tr.best_full fr
          by_cases fl : l.full = true
          · have := Tr.best_full fl
            have : l.deep ≠ r.deep := fun e => hf (Tr.full_node fl fr e)
            omega
          · have := Tr.best_lt fl
            omega
        · rw [if_neg fr]
      · rename_i hb
        simp only [Tr.deep]
        rw [hl]
        by_cases fl : l.full = true
        · rw [if_pos fl]
          have := Tr.best_full fl
          omega
        · rw [if_neg fl]
theorem Tr.size_between (t : Tr) : 2 ^ t.least ≤ t.procs.length ∧ t.procs.length ≤ 2 ^ t.deep := by
  induction t with
  | leaf p => simp [Tr.least, Tr.deep, Tr.procs]
  | node l r hl hr =>
    simp only [Tr.least, Tr.deep, Tr.procs, List.length_append, Nat.pow_add, Nat.pow_one]
    have h1 : 2 ^ min l.least r.least ≤ 2 ^ l.least := Nat.pow_le_pow_right (by decide) (by omega)
    have h2 : 2 ^ min l.least r.least ≤ 2 ^ r.least := Nat.pow_le_pow_right (by decide) (by omega)
    have h3 : 2 ^ l.deep ≤ 2 ^ max l.deep r.deep := Nat.pow_le_pow_right (by decide) (by omega)
    have h4 : 2 ^ r.deep ≤ 2 ^ max l.deep r.deep := Nat.pow_le_pow_right (by decide) (by omega)
    omega
theorem Tr.size_full_aux (t : Tr) : (t.least < t.deep → t.procs.length < 2 ^ t.deep) := by
  induction t with
  | leaf p => simp [Tr.least, Tr.deep]
  | node l r hl hr =>
    intro h
    have s1 := l.size_between
    have s2 := r.size_between
    have a1 := l.least_le
    have a2 := r.least_le
    simp only [Tr.least, Tr.deep] at h
    simp only [Tr.deep, Tr.procs, List.length_append, Nat.pow_add, Nat.pow_one]
    have h3 : 2 ^ l.deep ≤ 2 ^ max l.deep r.deep := Nat.pow_le_pow_right (by decide) (by omega)
    have h4 : 2 ^ r.deep ≤ 2 ^ max l.deep r.deep := Nat.pow_le_pow_right (by decide) (by omega)
    by_cases e1 : l.least < l.deep
    · have := hl e1; omega
    · by_cases e2 : r.least < r.deep
      · have := hr e2; omega
      · have e3 : l.deep ≠ r.deep := by omega
        rcases Nat.lt_or_gt_of_ne e3 with e | e
        · have : 2 ^ l.deep < 2 ^ max l.deep r.deep := Nat.pow_lt_pow_right (by decide) (by omega)
          omega
        · have : 2 ^ r.deep < 2 ^ max l.deep r.deep := Nat.pow_lt_pow_right (by decide) (by omega)
          omega
theorem Tr.full_iff (t : Tr) : t.full = true ↔ t.procs.length = 2 ^ t.deep := by
  have s := t.size_between
  have a := t.least_le
  unfold Tr.full
  rw [decide_eq_true_iff]
  constructor
  · intro h
    have : t.least = t.deep := by omega
    rw [this] at s
    omega
  · intro h
    rcases Nat.lt_or_ge t.least t.deep with h' | h'
    · have := t.size_full_aux h'; omega
    · exact h'
end Go.Proofs.Ytlpabhgfmkilnaa.L13
