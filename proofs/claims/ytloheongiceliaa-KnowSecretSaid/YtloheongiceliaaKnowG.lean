/- What can be made of terms that are known, and when rows are among others. When a term can be made: kind by kind; of a power by what lacks. -/
import Derived.Test.YtloheongiceliaaPAllPure
section
namespace Go.Proofs.Ytloheongiceliaa.Tm

/-- What can be made of terms that are known. -/
inductive Mk (K : List UInt8 → Prop) : List UInt8 → Prop where
  | known {t : List UInt8} (h : K t) : Mk K t
  | free {t : List UInt8} (hr : right t = true) (h : t.getD 0 0 = 103 ∨ t.getD 0 0 = 117 ∨ t.getD 0 0 = 116) : Mk K t
  | parts {t : List UInt8} (hr : right t = true) (h : t.getD 0 0 = 107 ∨ t.getD 0 0 = 104 ∨ t.getD 0 0 = 112 ∨ t.getD 0 0 = 115 ∨ t.getD 0 0 = 120) (hp : ∀ p ∈ ofL t, Mk K p) : Mk K t
  | power {t : List UInt8} (hr : right t = true) (hk : t.getD 0 0 = 101) (bs rest : List (List UInt8)) (hb : bs = [] ∨ ∃ b, K b ∧ b.getD 0 0 = 101 ∧ ofL b = bs) (hp : (bs ++ rest).Perm (ofL t)) (hm : ∀ x ∈ rest, Mk K x) : Mk K t

theorem Mk.mono {K K' : List UInt8 → Prop} (h : ∀ t, K t → K' t) {t : List UInt8} (hm : Mk K t) : Mk K' t := by
  induction hm with
  | known hk => exact .known (h _ hk)
  | free hr hk => exact .free hr hk
  | parts hr hk _ ih => exact .parts hr hk ih
  | power hr hk bs rest hb hp _ ih =>
    refine .power hr hk bs rest ?_ hp ih
    rcases hb with hb | ⟨b, h1, h2, h3⟩
    · exact .inl hb
    · exact .inr ⟨b, h _ h1, h2, h3⟩

theorem Mk.right {K : List UInt8 → Prop} (hK : ∀ t, K t → Tm.right t = true) {t : List UInt8} (hm : Mk K t) : Tm.right t = true := by
  cases hm with
  | known hk => exact hK _ hk
  | free hr _ => exact hr
  | parts hr _ _ => exact hr
  | power hr _ _ _ _ _ _ => exact hr

/-- The kinds of right terms. -/
theorem right_kinds {t : List UInt8} (h : Tm.right t = true) : t.getD 0 0 = 103 ∨ t.getD 0 0 = 117 ∨ t.getD 0 0 = 116 ∨ t.getD 0 0 = 110 ∨ t.getD 0 0 = 105 ∨ t.getD 0 0 = 101 ∨ t.getD 0 0 = 107 ∨ t.getD 0 0 = 104 ∨ t.getD 0 0 = 112 ∨ t.getD 0 0 = 115 ∨ t.getD 0 0 = 120 := by
  obtain ⟨_, hh⟩ := head_of_right h
  have hne := (right_ne_nil h).1
  by_cases c1 : t.getD 0 0 = 103; · exact .inl c1
  by_cases c2 : t.getD 0 0 = 117; · exact .inr (.inl c2)
  by_cases c3 : t.getD 0 0 = 116; · exact .inr (.inr (.inl c3))
  by_cases c4 : t.getD 0 0 = 110; · exact .inr (.inr (.inr (.inl c4)))
  by_cases c5 : t.getD 0 0 = 105; · exact .inr (.inr (.inr (.inr (.inl c5))))
  by_cases c6 : t.getD 0 0 = 101; · exact .inr (.inr (.inr (.inr (.inr (.inl c6)))))
  by_cases c7 : t.getD 0 0 = 107; · exact .inr (.inr (.inr (.inr (.inr (.inr (.inl c7))))))
  by_cases c8 : t.getD 0 0 = 104; · exact .inr (.inr (.inr (.inr (.inr (.inr (.inr (.inl c8)))))))
  by_cases c9 : t.getD 0 0 = 112; · exact .inr (.inr (.inr (.inr (.inr (.inr (.inr (.inr (.inl c9))))))))
  by_cases c10 : t.getD 0 0 = 115; · exact .inr (.inr (.inr (.inr (.inr (.inr (.inr (.inr (.inr (.inl c10)))))))))
  by_cases c11 : t.getD 0 0 = 120; · exact .inr (.inr (.inr (.inr (.inr (.inr (.inr (.inr (.inr (.inr c11)))))))))
  exfalso
  apply hh
  unfold headOf
  rw [if_neg hne]
  simp only [c1, c2, c3, c4, c5, c6, c7, c8, c9, c10, c11]
  rfl

/-- A row that is found in another one, from the left on. -/
theorem sub_step {t : List UInt8} {a pre post : List (List UInt8)} (hnt : t ∉ pre) : (t :: a).Sublist (pre ++ t :: post) ↔ a.Sublist post := by
  constructor
  · intro h
    induction pre with
    | nil =>
      simp only [List.nil_append] at h
      cases h with
      | cons _ h => exact (List.sublist_cons_self t a).trans h
      | cons_cons _ h => exact h
    | cons y pre ihp =>
      simp only [List.cons_append] at h
      cases h with
      | cons _ h => exact ihp (fun hm => hnt (List.mem_cons_of_mem _ hm)) h
      | cons_cons _ h => exact absurd (by simp) hnt
  · intro h
    exact (h.cons_cons t).trans (List.sublist_append_right _ _)
theorem sub_none {t : List UInt8} {a b : List (List UInt8)} (h : t ∉ b) : ¬ (t :: a).Sublist b := fun hs => h (hs.subset (by simp))

/-- Of rows in order: each as often at most is found from the left on. -/
theorem sublist_of_count : ∀ (b a : List (List UInt8)), a.Pairwise leq → b.Pairwise leq → (∀ x, a.count x ≤ b.count x) → a.Sublist b := by
  intro b
  induction b with
  | nil =>
    intro a _ _ h
    cases a with
    | nil => exact List.Sublist.refl _
    | cons x a => have := h x; simp at this
  | cons y b ih =>
    intro a ha hb h
    cases a with
    | nil => exact List.nil_sublist _
    | cons x a =>
      cases ha with
      | cons ha1 ha2 =>
      cases hb with
      | cons hb1 hb2 =>
      by_cases hxy : x = y
      · subst hxy
        refine (ih a ha2 hb2 (fun z => ?_)).cons_cons x
        have := h z
        rw [List.count_cons, List.count_cons] at this
        omega
      · refine (ih (x :: a) (List.Pairwise.cons ha1 ha2) hb2 (fun z => ?_)).cons y
        have hz := h z
        rw [List.count_cons (b := y)] at hz
        by_cases hzy : y = z
        · subst hzy
          have h0 : (x :: a).count y = 0 := by
            apply List.count_eq_zero.2
            intro hm
            rcases List.mem_cons.1 hm with e | e
            · exact hxy e.symm
            · -- x ≤ y and x in b, so y ≤ x
              have h1 := ha1 y e
              have hxb : x ∈ y :: b := by
                have := h x
                have h2 : 0 < (x :: a).count x := by simp
                exact List.count_pos_iff.1 (by omega)
              rcases List.mem_cons.1 hxb with e2 | e2
              · exact hxy e2
              · exact hxy (less_antisymm _ _ (hb1 x e2) h1 |>.symm ▸ rfl)
          omega
        · have : (y == z) = false := by simpa using hzy
          rw [this] at hz
          simpa using hz

end Go.Proofs.Ytloheongiceliaa.Tm
end

section
namespace Go.Proofs.Ytloheongiceliaa.Tm

open Classical in
/-- Can it be made? -/
noncomputable def mkB (K : List UInt8 → Prop) (x : List UInt8) : Bool := decide (Mk K x)
theorem mkB_iff {K : List UInt8 → Prop} {x : List UInt8} : mkB K x = true ↔ Mk K x := by simp [mkB]
/-- Those that cannot. -/
noncomputable def lackL (K : List UInt8 → Prop) (l : List (List UInt8)) : List (List UInt8) := l.filter (fun x => !mkB K x)

theorem mk_free {K : List UInt8 → Prop} {t : List UInt8} (hr : right t = true) (h : t.getD 0 0 = 103 ∨ t.getD 0 0 = 117 ∨ t.getD 0 0 = 116) : Mk K t := .free hr h
theorem mk_not {K : List UInt8 → Prop} {t : List UInt8} (hn : ¬ K t) (h : t.getD 0 0 = 110 ∨ t.getD 0 0 = 105) : ¬ Mk K t := by
  intro hm
  cases hm with
  | known hk => exact hn hk
  | free _ hk => rcases h with h | h <;> rw [h] at hk <;> simp at hk
  | parts _ hk _ => rcases h with h | h <;> rw [h] at hk <;> simp at hk
  | power _ hk _ _ _ _ _ => rcases h with h | h <;> rw [h] at hk <;> simp at hk
theorem mk_parts {K : List UInt8 → Prop} {t : List UInt8} (hr : right t = true) (hn : ¬ K t) (h : t.getD 0 0 = 107 ∨ t.getD 0 0 = 104 ∨ t.getD 0 0 = 112 ∨ t.getD 0 0 = 115 ∨ t.getD 0 0 = 120) : Mk K t ↔ ∀ p ∈ ofL t, Mk K p := by
  constructor
  · intro hm
    cases hm with
    | known hk => exact absurd hk hn
    | free _ hk => rcases h with h | h | h | h | h <;> rw [h] at hk <;> simp at hk
    | parts _ _ hp => exact hp
    | power _ hk _ _ _ _ _ => rcases h with h | h | h | h | h <;> rw [h] at hk <;> simp at hk
  · exact fun hp => .parts hr h hp

theorem sublist_rest : ∀ {a b : List (List UInt8)}, a.Sublist b → ∃ r, (a ++ r).Perm b := by
  intro a b h
  induction h with
  | slnil => exact ⟨[], .refl _⟩
  | cons x _ ih =>
    obtain ⟨r, hr⟩ := ih
    exact ⟨x :: r, (List.perm_middle).trans (hr.cons x)⟩
  | cons_cons x _ ih =>
    obtain ⟨r, hr⟩ := ih
    exact ⟨r, hr.cons x⟩
theorem ofL_sorted {t : List UInt8} (hr : right t = true) (hk : t.getD 0 0 = 101) : (ofL t).Pairwise leq := (chain_pairwise _ _ ((ofL_ok hr).2.2.2.1 hk)).1
theorem lack_count (K : List UInt8 → Prop) (l : List (List UInt8)) (y : List UInt8) : (lackL K l).count y = if mkB K y then 0 else l.count y := by
  unfold lackL
  split
  · rename_i h
    apply List.count_eq_zero.2
    intro hm
    have := (List.mem_filter.1 hm).2
    rw [h] at this
    cases this
  · rename_i h
    exact List.count_filter (by simpa using h)
theorem mk_power {K : List UInt8 → Prop} {t : List UInt8} (hK : ∀ k, K k → right k = true) (hr : right t = true) (hk : t.getD 0 0 = 101) (hn : ¬ K t) (Pw : List UInt8 → List (List (List UInt8)))
    (h1 : ∀ x, ∀ l ∈ Pw x, ∃ b, K b ∧ b.getD 0 0 = 101 ∧ ofL b = l) (h2 : ∀ x b, K b → b.getD 0 0 = 101 → x ∈ ofL b → ofL b ∈ Pw x) :
    Mk K t ↔ lackL K (ofL t) = [] ∨ ∃ x, (lackL K (ofL t)).head? = some x ∧ ∃ l ∈ Pw x, (lackL K (ofL t)).Sublist l ∧ l.Sublist (ofL t) := by
  have hst := ofL_sorted hr hk
  constructor
  · intro hm
    cases hm with
    | known h => exact absurd h hn
    | free _ h => rw [hk] at h; simp at h
    | parts _ h _ => rw [hk] at h; simp at h
    | power _ _ bs rest hb hp hm =>
      cases hl : lackL K (ofL t) with
      | nil => exact .inl rfl
      | cons x q =>
        right
        refine ⟨x, rfl, ?_⟩
        have hx : x ∈ lackL K (ofL t) := by rw [hl]; simp
        obtain ⟨hx1, hx2⟩ := List.mem_filter.1 hx
        have hxn : ¬ Mk K x := fun h => by rw [mkB_iff.2 h] at hx2; cases hx2
        have hxb : x ∈ bs := by
          rcases List.mem_append.1 (hp.mem_iff.2 hx1) with h | h
          · exact h
          · exact absurd (hm x h) hxn
        rcases hb with hb | ⟨b, k1, k2, k3⟩
        · rw [hb] at hxb; cases hxb
        · subst k3
          have hcount : ∀ y, (ofL t).count y = (ofL b).count y + rest.count y := fun y => by rw [← hp.count_eq, List.count_append]
          have hsb := ofL_sorted (hK b k1) k2
          refine ⟨ofL b, h2 x b k1 k2 hxb, ?_, ?_⟩
          · rw [← hl]
            refine sublist_of_count _ _ (hst.filter _) hsb (fun y => ?_)
            rw [lack_count]
            split
            · omega
            · rename_i hy
              rw [hcount y]
              have : rest.count y = 0 := List.count_eq_zero.2 (fun hy' => hy (mkB_iff.2 (hm y hy')))
              omega
          · refine sublist_of_count _ _ hsb hst (fun y => ?_)
            rw [hcount y]
            omega
  · rintro (hl | ⟨x, _, l, hlP, s1, s2⟩)
    · refine .power hr hk [] (ofL t) (.inl rfl) (.refl _) (fun y hy => ?_)
      by_cases h : Mk K y
      · exact h
      · have : y ∈ lackL K (ofL t) := List.mem_filter.2 ⟨hy, by simp [mkB, h]⟩
        rw [hl] at this
        cases this
    · obtain ⟨b, k1, k2, k3⟩ := h1 x l hlP
      obtain ⟨rest, hp⟩ := sublist_rest s2
      refine .power hr hk l rest (.inr ⟨b, k1, k2, k3⟩) hp (fun y hy => ?_)
      by_cases h : Mk K y
      · exact h
      · exfalso
        have hc1 := s1.count_le y
        rw [lack_count, if_neg (by simp [mkB, h])] at hc1
        rw [← hp.count_eq, List.count_append] at hc1
        have := List.count_pos_iff.2 hy
        omega

end Go.Proofs.Ytloheongiceliaa.Tm
end
