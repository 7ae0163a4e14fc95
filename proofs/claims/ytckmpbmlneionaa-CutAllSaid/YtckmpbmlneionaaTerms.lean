/- What is read stays as it is whatever stands behind it; a head and parts that are terms are a term. -/
import Derived.Test.YtckmpbmlneionaaParse
namespace Go.Proofs.Ytckmpbmlneionaa.Tm

theorem headOf_congr {l l' : List UInt8} (h0 : (headOf l).1 ≠ 0) (hl' : (headOf l).1 ≤ l'.length) (hg : ∀ i, i < (headOf l).1 → l'.getD i 0 = l.getD i 0) : headOf l' = headOf l := by
  have hne : l ≠ [] := by rintro rfl; exact h0 rfl
  have hne' : l' ≠ [] := by rintro rfl; simp at hl'; omega
  have hc := hg 0 (by omega)
  have e : ∀ x : List UInt8, x ≠ [] → headOf x =
      if x.getD 0 0 = 103 then (1, 0)
      else if x.getD 0 0 = 110 ∨ x.getD 0 0 = 117 then (9, 0)
      else if x.getD 0 0 = 116 then (textHead x, 0)
      else if x.getD 0 0 = 105 then (if 2 ≤ x.length ∧ 1 ≤ (x.getD 1 0).toNat ∧ (x.getD 1 0).toNat ≤ 8 then (2, 0) else (0, 0))
      else if x.getD 0 0 = 101 then (if 2 ≤ x.length ∧ 1 ≤ (x.getD 1 0).toNat ∧ (x.getD 1 0).toNat ≤ 32 then (2, (x.getD 1 0).toNat) else (0, 0))
      else if x.getD 0 0 = 107 ∨ x.getD 0 0 = 104 then (1, 1)
      else if x.getD 0 0 = 112 ∨ x.getD 0 0 = 120 then (1, 2)
      else if x.getD 0 0 = 115 then (1, 3)
      else (0, 0) := fun x hx => by unfold headOf; rw [if_neg hx]
  rw [e l hne] at h0 hl' hg
  rw [e l' hne', e l hne, hc]
  by_cases c1 : l.getD 0 0 = 103
  · simp only [c1, if_true]
  simp only [if_neg c1] at h0 hl' hg ⊢
  by_cases c2 : l.getD 0 0 = 110 ∨ l.getD 0 0 = 117
  · simp only [if_pos c2]
  simp only [if_neg c2] at h0 hl' hg ⊢
  by_cases c3 : l.getD 0 0 = 116
  · simp only [if_pos c3] at h0 hl' hg ⊢
    have h3 : 3 ≤ textHead l := by
      unfold textHead at h0 ⊢
      split at h0
      · exact absurd rfl h0
      · rename_i h1
        rw [if_neg h1]
        split at h0
        · exact absurd rfl h0
        · rename_i h2
          rw [if_neg h2]
          omega
    have hll : ¬ l.length < 3 := by
      intro h; unfold textHead at h3; rw [if_pos h] at h3; omega
    have ht : textHead l' = textHead l := by
      unfold textHead
      rw [if_neg hll, if_neg (by omega), hg 1 (by omega), hg 2 (by omega)]
    rw [ht]
  simp only [if_neg c3] at h0 hl' hg ⊢
  by_cases c4 : l.getD 0 0 = 105
  · simp only [if_pos c4] at h0 hl' hg ⊢
    by_cases c5 : 2 ≤ l.length ∧ 1 ≤ (l.getD 1 0).toNat ∧ (l.getD 1 0).toNat ≤ 8
    · rw [if_pos c5] at h0 hl' hg ⊢
      simp only at hl' hg
      rw [hg 1 (by omega), if_pos ⟨hl', c5.2⟩]
    · rw [if_neg c5] at h0
      exact absurd rfl h0
  simp only [if_neg c4] at h0 hl' hg ⊢
  by_cases c4 : l.getD 0 0 = 101
  · simp only [if_pos c4] at h0 hl' hg ⊢
    by_cases c5 : 2 ≤ l.length ∧ 1 ≤ (l.getD 1 0).toNat ∧ (l.getD 1 0).toNat ≤ 32
    · rw [if_pos c5] at h0 hl' hg ⊢
      simp only at hl' hg
      rw [hg 1 (by omega), if_pos ⟨hl', c5.2⟩]
    · rw [if_neg c5] at h0
      exact absurd rfl h0

  simp only [if_neg c4]

theorem begin_some {l : List UInt8} (h0 : (begin_ l).1 ≠ 0) : begin_ l = headOf l ∧ (headOf l).1 ≤ l.length := by
  unfold begin_ at h0 ⊢
  split at h0
  · exact absurd rfl h0
  · rename_i h1
    rw [if_neg h1]
    exact ⟨rfl, by omega⟩

theorem getD_take (l y : List UInt8) (a i : Nat) (hi : i < a) (ha : a ≤ l.length) : (l.take a ++ y).getD i 0 = l.getD i 0 := by
  simp only [List.getD]
  rw [List.getElem?_append_left (by simp; omega), List.getElem?_take_of_lt hi]

theorem begin_stable {l : List UInt8} (h0 : (begin_ l).1 ≠ 0) (y : List UInt8) : begin_ (l.take (begin_ l).1 ++ y) = begin_ l ∧ (l.take (begin_ l).1 ++ y).getD 0 0 = l.getD 0 0 := by
  obtain ⟨h1, h2⟩ := begin_some h0
  rw [h1] at h0 ⊢
  have hlen : (headOf l).1 ≤ (l.take (headOf l).1 ++ y).length := by simp; omega
  have hh := headOf_congr (l' := l.take (headOf l).1 ++ y) h0 hlen (fun i hi => getD_take l y _ i hi h2)
  refine ⟨?_, getD_take l y _ 0 (by omega) h2⟩
  unfold begin_
  rw [hh, if_neg (by omega)]

theorem parse_bounds (f : Nat) : ∀ l, (parse f l).1 ≤ l.length ∧ ((parse f l).2.2 = 0 → 1 ≤ (parse f l).1 ∧ 1 ≤ (parse f l).2.1 ∧ (parse f l).2.1 ≤ f) := by
  induction f with
  | zero => intro l; simp [parse]
  | succ f ih =>
    have hp : ∀ kind k l ah, (partsOf (parse f) kind k l ah).1 ≤ l.length ∧ ((partsOf (parse f) kind k l ah).2.2 = 0 → (partsOf (parse f) kind k l ah).2.1 ≤ f) := by
      intro kind k
      induction k with
      | zero => intro l ah; simp [partsOf]
      | succ k ihk =>
        intro l ah
        rw [partsOf]
        have h1 := ih l
        have h2 := ihk (l.drop (parse f l).1) (l.take (parse f l).1)
        rw [List.length_drop] at h2
        split
        · simp_all
        · rename_i he
          split
          · simp
          · split
            · simp_all
            · rename_i he2
              have he2' : (partsOf (parse f) kind k (l.drop (parse f l).1) (l.take (parse f l).1)).2.2 = 0 := by simpa using he2
              have he' : (parse f l).2.2 = 0 := by simpa using he
              have h3 := h2.2 he2'
              have h4 := h1.2 he'
              refine ⟨by simp only; omega, fun _ => by simp only; omega⟩
    intro l
    rw [parse]
    split
    · simp
    · rename_i h0
      split
      · simp
      · split
        · simp_all
        · rename_i he
          have hb := (begin_some h0)
          have h2 := hp (l.getD 0 0) (begin_ l).2 (l.drop (begin_ l).1) []
          have he' : (partsOf (parse f) (l.getD 0 0) (begin_ l).2 (l.drop (begin_ l).1) []).2.2 = 0 := by simpa using he
          have h3 := h2.2 he'
          have h4 := h2.1
          rw [List.length_drop] at h4
          have h5 : (begin_ l).1 ≤ l.length := by rw [hb.1]; exact hb.2
          refine ⟨by simp only; omega, fun _ => ⟨by simp only; omega, by simp only; omega, by simp only; omega⟩⟩

theorem parts_bounds (f : Nat) (kind : UInt8) (k : Nat) : ∀ l ah, (partsOf (parse f) kind k l ah).1 ≤ l.length ∧ ((partsOf (parse f) kind k l ah).2.2 = 0 → 0 < k → 1 ≤ (partsOf (parse f) kind k l ah).1) := by
  induction k with
  | zero => intro l ah; simp [partsOf]
  | succ k ihk =>
    intro l ah
    rw [partsOf]
    have h1 := parse_bounds f l
    have h2 := ihk (l.drop (parse f l).1) (l.take (parse f l).1)
    rw [List.length_drop] at h2
    split
    · simp_all
    · rename_i he
      split
      · simp
      · split
        · simp_all
        · have he' : (parse f l).2.2 = 0 := by simpa using he
          have h4 := h1.2 he'
          refine ⟨by simp only; omega, fun _ _ => by simp only; omega⟩

/-- What a part's reading comes to when all goes well. -/
theorem parts_ok {p : List UInt8 → Nat × Nat × Nat} {kind : UInt8} {k n e : Nat} {l ah : List UInt8} (h : partsOf p kind (k + 1) l ah = (n, e, 0)) :
    ∃ n1 d1 n2 e2, p l = (n1, d1, 0) ∧ ¬ (kind = 101 ∧ less (l.take n1) ah = true) ∧ partsOf p kind k (l.drop n1) (l.take n1) = (n2, e2, 0) ∧ n = n1 + n2 ∧ e = max d1 e2 := by
  rw [partsOf] at h
  obtain ⟨⟨n1, d1, e1⟩, hr⟩ : ∃ r, p l = r := ⟨_, rfl⟩
  simp only [hr] at h
  by_cases he : e1 = 0
  · subst he
    simp only [ne_eq, not_true_eq_false, if_false] at h
    by_cases hl : kind = 101 ∧ less (l.take n1) ah = true
    · rw [if_pos hl] at h
      simp at h
    · rw [if_neg hl] at h
      obtain ⟨⟨n2, e2, er2⟩, hr2⟩ : ∃ r, partsOf p kind k (l.drop n1) (l.take n1) = r := ⟨_, rfl⟩
      simp only [hr2] at h
      by_cases he2 : er2 = 0
      · subst he2
        simp only [not_true_eq_false, if_false, Prod.mk.injEq, and_true] at h
        exact ⟨n1, d1, n2, e2, hr, hl, hr2, h.1.symm, h.2.symm⟩
      · simp [he2] at h
  · simp [he] at h
theorem parts_mk {p : List UInt8 → Nat × Nat × Nat} {kind : UInt8} {k n1 d1 n2 e2 : Nat} {l ah : List UInt8} (h1 : p l = (n1, d1, 0)) (h2 : ¬ (kind = 101 ∧ less (l.take n1) ah = true)) (h3 : partsOf p kind k (l.drop n1) (l.take n1) = (n2, e2, 0)) :
    partsOf p kind (k + 1) l ah = (n1 + n2, max d1 e2, 0) := by
  rw [partsOf]
  simp only [h1, ne_eq, not_true_eq_false, if_false, if_neg h2, h3]
theorem parse_ok {f n d : Nat} {l : List UInt8} (h : parse (f + 1) l = (n, d, 0)) :
    (begin_ l).1 ≠ 0 ∧ ¬ (l.getD 0 0 = 107 ∧ element (l.drop (begin_ l).1) = false) ∧ ∃ m e, partsOf (parse f) (l.getD 0 0) (begin_ l).2 (l.drop (begin_ l).1) [] = (m, e, 0) ∧ n = (begin_ l).1 + m ∧ d = e + 1 := by
  rw [parse] at h
  by_cases h0 : (begin_ l).1 = 0
  · rw [if_pos h0] at h; simp at h
  rw [if_neg h0] at h
  by_cases h1 : l.getD 0 0 = 107 ∧ element (l.drop (begin_ l).1) = false
  · rw [if_pos h1] at h; simp at h
  rw [if_neg h1] at h
  obtain ⟨⟨m, e, er⟩, hr⟩ : ∃ r, partsOf (parse f) (l.getD 0 0) (begin_ l).2 (l.drop (begin_ l).1) [] = r := ⟨_, rfl⟩
  simp only [hr] at h
  by_cases he : er = 0
  · subst he
    simp only [ne_eq, not_true_eq_false, if_false, Prod.mk.injEq, and_true] at h
    exact ⟨h0, h1, m, e, hr, h.1.symm, h.2.symm⟩
  · simp [he] at h
theorem parse_mk {f m e : Nat} {l : List UInt8} (h0 : (begin_ l).1 ≠ 0) (h1 : ¬ (l.getD 0 0 = 107 ∧ element (l.drop (begin_ l).1) = false)) (h2 : partsOf (parse f) (l.getD 0 0) (begin_ l).2 (l.drop (begin_ l).1) [] = (m, e, 0)) :
    parse (f + 1) l = ((begin_ l).1 + m, e + 1, 0) := by
  rw [parse, if_neg h0, if_neg h1]
  simp only [h2, ne_eq, not_true_eq_false, if_false]

theorem parts_fuel {f g : Nat} (ih : ∀ l n d, parse f l = (n, d, 0) → d ≤ g → parse g l = (n, d, 0)) (kind : UInt8) (k : Nat) :
    ∀ l ah n e, partsOf (parse f) kind k l ah = (n, e, 0) → e ≤ g → partsOf (parse g) kind k l ah = (n, e, 0) := by
  induction k with
  | zero => intro l ah n e h _; exact h
  | succ k ihk =>
    intro l ah n e h hg
    obtain ⟨n1, d1, n2, e2, a1, a2, a3, rfl, rfl⟩ := parts_ok h
    exact parts_mk (ih l n1 d1 a1 (by omega)) a2 (ihk _ _ _ _ a3 (by omega))
theorem parse_fuel (f : Nat) : ∀ g l n d, parse f l = (n, d, 0) → d ≤ g → parse g l = (n, d, 0) := by
  induction f with
  | zero => intro g l n d h _; simp [parse] at h
  | succ f ih =>
    intro g l n d h hg
    obtain ⟨h0, h1, m, e, h2, rfl, rfl⟩ := parse_ok h
    cases g with
    | zero => omega
    | succ g => exact parse_mk h0 h1 (parts_fuel (fun l n d h hd => ih g l n d h hd) _ _ _ _ _ _ h2 (by omega))

theorem parts_stable {f : Nat} (ih : ∀ l n d, parse f l = (n, d, 0) → ∀ y, parse f (l.take n ++ y) = (n, d, 0)) (kind : UInt8) (k : Nat) :
    ∀ l ah n e, partsOf (parse f) kind k l ah = (n, e, 0) → ∀ y, partsOf (parse f) kind k (l.take n ++ y) ah = (n, e, 0) := by
  induction k with
  | zero => intro l ah n e h y; exact h
  | succ k ihk =>
    intro l ah n e h y
    obtain ⟨n1, d1, n2, e2, a1, a2, a3, rfl, rfl⟩ := parts_ok h
    have hb : n1 ≤ l.length := by have := (parse_bounds f l).1; rw [a1] at this; exact this
    have hs : l.take (n1 + n2) ++ y = l.take n1 ++ ((l.drop n1).take n2 ++ y) := by rw [List.take_add, List.append_assoc]
    have ht : (l.take n1 ++ ((l.drop n1).take n2 ++ y)).take n1 = l.take n1 := by
      rw [List.take_append_of_le_length (by simp; omega), List.take_take, Nat.min_self]
    have hd : (l.take n1 ++ ((l.drop n1).take n2 ++ y)).drop n1 = (l.drop n1).take n2 ++ y := by
      have : (l.take n1).length = n1 := by simp; omega
      conv => lhs; rw [← this]
      rw [this, List.drop_left' this]
    rw [hs]
    refine parts_mk (ih l n1 d1 a1 _) (by rw [ht]; exact a2) ?_
    rw [ht, hd]
    exact ihk _ _ _ _ a3 y
theorem element_stable {l y : List UInt8} {m : Nat} (h : 0 < m) (hm : m ≤ l.length) : element (l.take m ++ y) = element l := by
  cases l with
  | nil => simp at hm; omega
  | cons c l =>
    cases m with
    | zero => omega
    | succ m => rfl
theorem parse_stable (f : Nat) : ∀ l n d, parse f l = (n, d, 0) → ∀ y, parse f (l.take n ++ y) = (n, d, 0) := by
  induction f with
  | zero => intro l n d h; simp [parse] at h
  | succ f ih =>
    intro l n d h y
    obtain ⟨h0, h1, m, e, h2, rfl, rfl⟩ := parse_ok h
    obtain ⟨b1, b2⟩ := begin_some h0
    have hal : (begin_ l).1 ≤ l.length := by rw [b1]; exact b2
    have hs : l.take ((begin_ l).1 + m) ++ y = l.take (begin_ l).1 ++ ((l.drop (begin_ l).1).take m ++ y) := by rw [List.take_add, List.append_assoc]
    have hd : (l.take (begin_ l).1 ++ ((l.drop (begin_ l).1).take m ++ y)).drop (begin_ l).1 = (l.drop (begin_ l).1).take m ++ y := by
      have : (l.take (begin_ l).1).length = (begin_ l).1 := by simp; omega
      rw [List.drop_left' this]
    obtain ⟨s1, s2⟩ := begin_stable h0 ((l.drop (begin_ l).1).take m ++ y)
    rw [hs]
    have hk : ¬ ((l.take (begin_ l).1 ++ ((l.drop (begin_ l).1).take m ++ y)).getD 0 0 = 107 ∧ element ((l.take (begin_ l).1 ++ ((l.drop (begin_ l).1).take m ++ y)).drop (begin_ (l.take (begin_ l).1 ++ ((l.drop (begin_ l).1).take m ++ y))).1) = false) := by
      rw [s1, s2, hd]
      rintro ⟨k1, k2⟩
      have hb := begin_key k1 h0
      have pb := parts_bounds f (l.getD 0 0) (begin_ l).2 (l.drop (begin_ l).1) []
      rw [h2] at pb
      have hm1 : 1 ≤ m := pb.2 rfl (by rw [hb]; simp)
      rw [element_stable (by omega) pb.1] at k2
      exact h1 ⟨k1, k2⟩
    have := parse_mk (f := f) (m := m) (e := e) (l := l.take (begin_ l).1 ++ ((l.drop (begin_ l).1).take m ++ y)) (by rw [s1]; exact h0) hk (by
      rw [s1, s2, hd]
      exact parts_stable ih _ _ _ _ _ _ h2 y)
    rw [s1] at this
    exact this

end Go.Proofs.Ytckmpbmlneionaa.Tm
