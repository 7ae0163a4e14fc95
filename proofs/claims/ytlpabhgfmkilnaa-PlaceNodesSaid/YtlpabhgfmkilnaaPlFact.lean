/- Pure: what holds of the nodes, the paths and the duties of a tree. -/
import Derived.Test.YtlpabhgfmkilnaaPlPure
namespace Go.Proofs.Ytlpabhgfmkilnaa.L13

theorem Tr.at_nil (t : Tr) : t.at [] = some t := by cases t <;> rfl
theorem Tr.at_append (t : Tr) (x z : List UInt8) : t.at (x ++ z) = (t.at x).bind (fun u => u.at z) := by
  induction x generalizing t with
  | nil => rw [t.at_nil]; rfl
  | cons b x ih =>
    cases t with
    | leaf p => rfl
    | node l r =>
      simp only [List.cons_append, Tr.at]
      split
      · exact ih l
      · split
        · exact ih r
        · rfl
theorem Tr.at_procs {t : Tr} {x : List UInt8} {u : Tr} (h : t.at x = some u) : ∀ p ∈ u.procs, p ∈ t.procs := by
  induction x generalizing t with
  | nil => rw [t.at_nil] at h; cases h; exact fun p hp => hp
  | cons b x ih =>
    cases t with
    | leaf p => cases h
    | node l r =>
      rw [Tr.at] at h
      intro p hp
      split at h
      · simp [Tr.procs, ih h p hp]
      · split at h
        · simp [Tr.procs, ih h p hp]
        · cases h
theorem Tr.ok.at {t : Tr} (ho : t.ok) {x : List UInt8} {u : Tr} (h : t.at x = some u) : u.ok := by
  induction x generalizing t with
  | nil => rw [t.at_nil] at h; cases h; exact ho
  | cons b x ih =>
    cases t with
    | leaf p => cases h
    | node l r =>
      rw [Tr.at] at h
      split at h
      · exact ih ho.left h
      · split at h
        · exact ih ho.right h
        · cases h
/-- The node beside one. -/
def turn (b : UInt8) : UInt8 := if b = 108 then 114 else 108
def besideL (x : List UInt8) : List UInt8 := match x.getLast? with | none => [] | some b => x.dropLast ++ [turn b]
theorem besideL_snoc (x : List UInt8) (b : UInt8) : besideL (x ++ [b]) = x ++ [turn b] := by simp [besideL]
theorem besideL_nil : besideL [] = [] := rfl
/-- A step down of a chain. -/
def Steps (a b : Nd) : Prop := ∃ l r c, a.2 = .node l r ∧ b.1 = a.1 ++ [c] ∧ ((c = 108 ∧ b.2 = l) ∨ (c = 114 ∧ b.2 = r))
theorem chain_ne (p : Nat) (x : List UInt8) (t : Tr) : ∃ q, chain p x t = (x, t) :: q := by cases t <;> exact ⟨_, rfl⟩
theorem chain_steps (p : Nat) (x : List UInt8) (t : Tr) : ∀ i a b, (chain p x t)[i]? = some a → (chain p x t)[i + 1]? = some b → Steps a b := by
  induction t generalizing x with
  | leaf q => intro i a b ha hb; simp [chain] at hb
  | node l r hl hr =>
    intro i a b ha hb
    rw [chain] at ha hb
    cases i with
    | zero =>
      cases ha
      rw [List.getElem?_cons_succ] at hb
      split at hb
      · obtain ⟨q, e⟩ := chain_ne p (x ++ [108]) l
        rw [e] at hb
        cases hb
        exact ⟨l, r, 108, rfl, rfl, .inl ⟨rfl, rfl⟩⟩
      · obtain ⟨q, e⟩ := chain_ne p (x ++ [114]) r
        rw [e] at hb
        cases hb
        exact ⟨l, r, 114, rfl, rfl, .inr ⟨rfl, rfl⟩⟩
    | succ i =>
      rw [List.getElem?_cons_succ] at ha hb
      split at ha
      · rename_i hp; rw [if_pos hp] at hb; exact hl _ i a b ha hb
      · rename_i hp; rw [if_neg hp] at hb; exact hr _ i a b ha hb
theorem chain_has {p : Nat} (x : List UInt8) {t : Tr} (h : p ∈ t.procs) : ∀ s ∈ chain p x t, p ∈ s.2.procs := by
  induction t generalizing x with
  | leaf q => intro s hs; simp only [chain, List.mem_singleton] at hs; subst hs; exact h
  | node l r hl hr =>
    intro s hs
    rw [chain, List.mem_cons] at hs
    rcases hs with rfl | hs
    · exact h
    · split at hs
      · rename_i hp; exact hl _ hp s hs
      · rename_i hp
        simp only [Tr.procs, List.mem_append] at h
        exact hr _ (h.resolve_left hp) s hs
theorem chain_last {p : Nat} (x : List UInt8) {t : Tr} (h : p ∈ t.procs) : ∃ y, (chain p x t).getLast? = some (y, .leaf p) := by
  induction t generalizing x with
  | leaf q =>
    simp only [Tr.procs, List.mem_singleton] at h
    subst h
    exact ⟨x, rfl⟩
  | node l r hl hr =>
    rw [chain]
    split
    · rename_i hp
      obtain ⟨y, e⟩ := hl (x ++ [108]) hp
      obtain ⟨q, e2⟩ := chain_ne p (x ++ [108]) l
      rw [e2] at e ⊢
      exact ⟨y, by rw [List.getLast?_cons_cons]; exact e⟩
    · rename_i hp
      simp only [Tr.procs, List.mem_append] at h
      obtain ⟨y, e⟩ := hr (x ++ [114]) (h.resolve_left hp)
      obtain ⟨q, e2⟩ := chain_ne p (x ++ [114]) r
      rw [e2] at e ⊢
      exact ⟨y, by rw [List.getLast?_cons_cons]; exact e⟩
theorem chain_pre (p : Nat) (x : List UInt8) (t : Tr) : ∀ s ∈ chain p x t, ∃ z, s.1 = x ++ z := by
  induction t generalizing x with
  | leaf q => intro s hs; simp only [chain, List.mem_singleton] at hs; subst hs; exact ⟨[], by simp⟩
  | node l r hl hr =>
    intro s hs
    rw [chain, List.mem_cons] at hs
    rcases hs with rfl | hs
    · exact ⟨[], by simp⟩
    · split at hs
      · obtain ⟨z, e⟩ := hl _ s hs; exact ⟨108 :: z, by simpa using e⟩
      · obtain ⟨z, e⟩ := hr _ s hs; exact ⟨114 :: z, by simpa using e⟩
/-- Two ways part at one node. -/
theorem chain_meet {p q : Nat} (x : List UInt8) {t : Tr} (hp : p ∈ t.procs) (hq : q ∈ t.procs) (hne : p ≠ q) :
    ∃ C A B y b c, chain p x t = C ++ A ∧ chain q x t = C ++ B ∧ ((b = 108 ∧ c = 114) ∨ (b = 114 ∧ c = 108)) ∧ A.head?.map (·.1) = some (y ++ [b]) ∧ B.head?.map (·.1) = some (y ++ [c]) ∧
      (∀ s ∈ A, ∃ z, s.1 = y ++ b :: z) ∧ (∀ s ∈ B, ∃ z, s.1 = y ++ c :: z) := by
  induction t generalizing x with
  | leaf k =>
    simp only [Tr.procs, List.mem_singleton] at hp hq
    exact absurd (hp.trans hq.symm) hne
  | node l r hl hr =>
    simp only [Tr.procs, List.mem_append] at hp hq
    have side : ∀ (k : Nat) (b : UInt8) (s : Tr), (chain k (x ++ [b]) s).head?.map (·.1) = some (x ++ [b]) ∧ ∀ u ∈ chain k (x ++ [b]) s, ∃ z, u.1 = x ++ b :: z := by
      intro k b s
      obtain ⟨w, e⟩ := chain_ne k (x ++ [b]) s
      refine ⟨by rw [e]; rfl, fun u hu => ?_⟩
      obtain ⟨z, e⟩ := chain_pre _ _ _ u hu
      exact ⟨z, by simpa using e⟩
    rw [chain, chain]
    by_cases h1 : p ∈ l.procs
    · rw [if_pos h1]
      by_cases h2 : q ∈ l.procs
      · rw [if_pos h2]
        obtain ⟨C, A, B, y, b, c, e1, e2, h⟩ := hl (x ++ [108]) h1 h2
        exact ⟨(x, .node l r) :: C, A, B, y, b, c, by rw [e1]; rfl, by rw [e2]; rfl, h⟩
      · rw [if_neg h2]
        exact ⟨[(x, .node l r)], _, _, x, 108, 114, rfl, rfl, .inl ⟨rfl, rfl⟩, (side _ _ _).1, (side _ _ _).1, (side _ _ _).2, (side _ _ _).2⟩
    · rw [if_neg h1]
      by_cases h2 : q ∈ l.procs
      · rw [if_pos h2]
        exact ⟨[(x, .node l r)], _, _, x, 114, 108, rfl, rfl, .inr ⟨rfl, rfl⟩, (side _ _ _).1, (side _ _ _).1, (side _ _ _).2, (side _ _ _).2⟩
      · rw [if_neg h2]
        obtain ⟨C, A, B, y, b, c, e1, e2, h⟩ := hr (x ++ [114]) (hp.resolve_left h1) (hq.resolve_left h2)
        exact ⟨(x, .node l r) :: C, A, B, y, b, c, by rw [e1]; rfl, by rw [e2]; rfl, h⟩
/-- The least process. -/
def low : Tr → Nat
  | .leaf p => p
  | .node l r => min (low l) (low r)
theorem low_mem (t : Tr) : low t ∈ t.procs := by
  induction t with
  | leaf p => simp [low, Tr.procs]
  | node l r hl hr =>
    simp only [low, Tr.procs, List.mem_append]
    rcases Nat.le_total (low l) (low r) with h | h
    · rw [Nat.min_eq_left h]; exact .inl hl
    · rw [Nat.min_eq_right h]; exact .inr hr
theorem low_le (t : Tr) : ∀ p ∈ t.procs, low t ≤ p := by
  induction t with
  | leaf q => intro p hp; simp only [Tr.procs, List.mem_singleton] at hp; subst hp; exact Nat.le_refl _
  | node l r hl hr =>
    intro p hp
    simp only [Tr.procs, List.mem_append] at hp
    simp only [low]
    rcases hp with hp | hp
    · exact Nat.le_trans (Nat.min_le_left _ _) (hl p hp)
    · exact Nat.le_trans (Nat.min_le_right _ _) (hr p hp)

/-! ### From the leaf up -/
theorem Tr.ok.up_chain {t : Tr} (h : t.ok) {p : Nat} (hp : p ∈ t.procs) : t.up p = (chain p [] t).reverse := by rw [Tr.up, h.down_chain hp]
theorem Tr.up_none {t : Tr} {p : Nat} (hp : p ∉ t.procs) : t.up p = [] := by rw [Tr.up, t.down_none hp]; rfl
theorem Tr.up_at (t : Tr) (p : Nat) (y : List UInt8) (u : Tr) : (y, u) ∈ t.up p ↔ t.at y = some u ∧ p ∈ u.procs := by
  rw [Tr.up, List.mem_reverse, List.mem_filter, t.down_mem]
  simp [has]
theorem Tr.up_nodup (t : Tr) (p : Nat) : ((t.up p).map (·.1)).Nodup := by
  have e : ((t.down.filter (has p)).map (·.1)).Nodup := t.down_nodup.sublist (List.filter_sublist.map _)
  rw [Tr.up, List.map_reverse]
  exact (List.reverse_perm _).nodup_iff.2 e
/-- All of a path but the root, and the root. -/
theorem Tr.ok.up_root {t : Tr} (h : t.ok) {p : Nat} (hp : p ∈ t.procs) : ∃ U, t.up p = U ++ [([], t)] ∧ ∀ s ∈ U, s.1 ≠ [] := by
  obtain ⟨q, e⟩ := chain_ne p [] t
  have e2 : t.up p = q.reverse ++ [([], t)] := by rw [h.up_chain hp, e, List.reverse_cons]
  refine ⟨q.reverse, e2, fun s hs h0 => ?_⟩
  have hn := t.up_nodup p
  rw [e2, List.map_append, List.nodup_append] at hn
  exact hn.2.2 s.1 (List.mem_map_of_mem hs) [] (by simp) h0
theorem Tr.ok.up_steps {t : Tr} (h : t.ok) {p : Nat} (hp : p ∈ t.procs) (i : Nat) (a b : Nd) (ha : (t.up p)[i]? = some a) (hb : (t.up p)[i + 1]? = some b) : Steps b a := by
  have hi : i + 1 < (t.up p).length := (List.getElem?_eq_some_iff.1 hb).1
  rw [h.up_chain hp] at ha hb hi
  rw [List.length_reverse] at hi
  rw [List.getElem?_reverse (by omega)] at ha hb
  refine chain_steps p [] t _ b a hb ?_
  rw [← ha]
  congr 1
  omega
theorem Tr.ok.up_leaf {t : Tr} (h : t.ok) {p : Nat} (hp : p ∈ t.procs) : ∃ y U, t.up p = (y, .leaf p) :: U := by
  obtain ⟨y, e⟩ := chain_last (p := p) [] hp
  rw [List.getLast?_eq_head?_reverse] at e
  rw [h.up_chain hp]
  cases hc : (chain p [] t).reverse with
  | nil => rw [hc] at e; cases e
  | cons a U => rw [hc] at e; cases e; exact ⟨y, U, rfl⟩
end Go.Proofs.Ytlpabhgfmkilnaa.L13
