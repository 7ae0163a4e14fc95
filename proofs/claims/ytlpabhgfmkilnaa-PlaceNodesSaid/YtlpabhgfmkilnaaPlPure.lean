/- Pure: the nodes of a tree, what stands at one, a process's path, what is beside it, who answers for which. -/
import Derived.Test.YtlpabhgfmkilnaaTrFact
namespace Go.Proofs.Ytlpabhgfmkilnaa.L13

/-- What stands at a way. -/
def Tr.at : Tr → List UInt8 → Option Tr
  | t, [] => some t
  | .leaf _, _ :: _ => none
  | .node l r, b :: x => if b = 108 then l.at x else if b = 114 then r.at x else none
def Tr.size : Tr → Nat
  | .leaf _ => 1
  | .node l r => 1 + (l.size + r.size)
theorem Tr.size_procs (t : Tr) : t.size + 1 = 2 * t.procs.length := by
  induction t with
  | leaf p => rfl
  | node l r hl hr => simp only [Tr.size, Tr.procs, List.length_append]; omega
abbrev Nd := List UInt8 × Tr
def kids : Nd → List Nd
  | (_, .leaf _) => []
  | (x, .node l r) => [(x ++ [108], l), (x ++ [114], r)]
def sizes (q : List Nd) : Nat := (q.map (fun s => s.2.size)).sum
theorem sizes_cons (s : Nd) (q : List Nd) : sizes (s :: q) = s.2.size + sizes q := by simp [sizes]
theorem sizes_append (q r : List Nd) : sizes (q ++ r) = sizes q + sizes r := by simp [sizes]
theorem sizes_kids (s : Nd) : sizes (kids s) + 1 = s.2.size := by
  obtain ⟨x, t⟩ := s
  cases t with
  | leaf p => rfl
  | node l r => simp only [kids, sizes_cons, Tr.size]; simp [sizes]; omega
def bfs : Nat → List Nd → List Nd
  | 0, _ => []
  | _ + 1, [] => []
  | f + 1, s :: q => s :: bfs f (q ++ kids s)
theorem bfs_nil (f : Nat) : bfs f [] = [] := by cases f <;> rfl
theorem Tr.size_pos (t : Tr) : 1 ≤ t.size := by cases t <;> simp [Tr.size]
theorem sizes_zero {q : List Nd} (h : sizes q = 0) : q = [] := by
  cases q with
  | nil => rfl
  | cons s q => rw [sizes_cons] at h; have := s.2.size_pos; omega
def dfs (x : List UInt8) : Tr → List Nd
  | .leaf p => [(x, .leaf p)]
  | .node l r => (x, .node l r) :: (dfs (x ++ [108]) l ++ dfs (x ++ [114]) r)
theorem dfs_kids (s : Nd) : dfs s.1 s.2 = s :: (kids s).flatMap (fun u => dfs u.1 u.2) := by
  obtain ⟨x, t⟩ := s
  cases t with
  | leaf p => rfl
  | node l r => simp [kids, dfs]
theorem bfs_perm : ∀ (f : Nat) (q : List Nd), sizes q ≤ f → (bfs f q).Perm (q.flatMap (fun u => dfs u.1 u.2)) := by
  intro f
  induction f with
  | zero => intro q h; rw [sizes_zero (by omega : sizes q = 0)]; exact List.Perm.refl _
  | succ f ih =>
    intro q h
    cases q with
    | nil => exact List.Perm.refl _
    | cons s q =>
      rw [sizes_cons] at h
      have hk := sizes_kids s
      have := ih (q ++ kids s) (by rw [sizes_append]; omega)
      rw [bfs, List.flatMap_cons, dfs_kids s, List.cons_append]
      refine List.Perm.cons s (this.trans ?_)
      rw [List.flatMap_append]
      exact List.perm_append_comm
def Tr.down (t : Tr) : List Nd := bfs t.size [([], t)]
theorem Tr.down_perm (t : Tr) : t.down.Perm (dfs [] t) := by
  have := bfs_perm t.size [([], t)] (by simp [sizes])
  unfold Tr.down
  simpa using this
theorem dfs_len (x : List UInt8) (t : Tr) : (dfs x t).length = t.size := by
  induction t generalizing x with
  | leaf p => rfl
  | node l r hl hr => simp only [dfs, List.length_cons, List.length_append, hl, hr, Tr.size]; omega
theorem Tr.down_len (t : Tr) : t.down.length = t.size := by rw [t.down_perm.length_eq, dfs_len]
theorem dfs_mem (x : List UInt8) (t : Tr) (y : List UInt8) (u : Tr) : (y, u) ∈ dfs x t ↔ ∃ z, y = x ++ z ∧ t.at z = some u := by
  induction t generalizing x with
  | leaf p =>
    simp only [dfs, List.mem_singleton, Prod.mk.injEq]
    constructor
    · rintro ⟨rfl, rfl⟩; exact ⟨[], by simp, rfl⟩
    · rintro ⟨z, rfl, h⟩
      cases z with
      | nil => simp [Tr.at] at h ⊢; exact h.symm
      | cons b z => simp [Tr.at] at h
  | node l r hl hr =>
    simp only [dfs, List.mem_cons, List.mem_append, Prod.mk.injEq, hl, hr]
    constructor
    · rintro (⟨rfl, rfl⟩ | ⟨z, rfl, h⟩ | ⟨z, rfl, h⟩)
      · exact ⟨[], by simp, rfl⟩
      · exact ⟨108 :: z, by simp, by simp [Tr.at, h]⟩
      · exact ⟨114 :: z, by simp, by simp [Tr.at, h]⟩
    · rintro ⟨z, rfl, h⟩
      cases z with
      | nil => exact .inl ⟨by simp, by simpa [Tr.at] using h.symm⟩
      | cons b z =>
        rw [Tr.at] at h
        split at h
        · rename_i e; subst e; exact .inr (.inl ⟨z, by simp, h⟩)
        · split at h
          · rename_i e; subst e; exact .inr (.inr ⟨z, by simp, h⟩)
          · cases h
theorem Tr.down_mem (t : Tr) (y : List UInt8) (u : Tr) : (y, u) ∈ t.down ↔ t.at y = some u := by
  rw [t.down_perm.mem_iff, dfs_mem]
  constructor
  · rintro ⟨z, rfl, h⟩; exact h
  · intro h; exact ⟨y, by simp, h⟩
theorem dfs_nodup (x : List UInt8) (t : Tr) : ((dfs x t).map (·.1)).Nodup := by
  induction t generalizing x with
  | leaf p => simp [dfs]
  | node l r hl hr =>
    simp only [dfs, List.map_cons, List.map_append, List.nodup_cons, List.mem_append, List.nodup_append, hl, hr, true_and]
    have key : ∀ (b : UInt8) (s : Tr) (y : List UInt8), y ∈ (dfs (x ++ [b]) s).map (·.1) → ∃ z, y = x ++ b :: z := by
      intro b s y hy
      obtain ⟨⟨y', u⟩, h, rfl⟩ := List.mem_map.1 hy
      obtain ⟨z, e, _⟩ := (dfs_mem _ _ _ _).1 h
      exact ⟨z, by simpa using e⟩
    refine ⟨fun h => ?_, fun a ha c hc e => ?_⟩
    · rcases h with h | h
      · obtain ⟨z, e⟩ := key _ _ _ h
        have := congrArg List.length e; simp at this
      · obtain ⟨z, e⟩ := key _ _ _ h
        have := congrArg List.length e; simp at this
    · obtain ⟨z1, e1⟩ := key _ _ _ ha
      obtain ⟨z2, e2⟩ := key _ _ _ hc
      rw [e, e2] at e1
      have := List.append_cancel_left e1
      simp at this
theorem Tr.down_nodup (t : Tr) : (t.down.map (·.1)).Nodup := (t.down_perm.map _).nodup_iff.2 (dfs_nodup [] t)

/-- From the root to the leaf of p. -/
def chain (p : Nat) (x : List UInt8) : Tr → List Nd
  | .leaf q => [(x, .leaf q)]
  | .node l r => (x, .node l r) :: (if p ∈ l.procs then chain p (x ++ [108]) l else chain p (x ++ [114]) r)
def has (p : Nat) (s : Nd) : Bool := decide (p ∈ s.2.procs)
theorem has_kids {p : Nat} {s : Nd} (h : p ∉ s.2.procs) : ∀ u ∈ kids s, p ∉ u.2.procs := by
  obtain ⟨x, t⟩ := s
  cases t with
  | leaf q => intro u hu; cases hu
  | node l r =>
    simp only [Tr.procs, List.mem_append, not_or] at h
    intro u hu
    simp only [kids, List.mem_cons, List.not_mem_nil, or_false] at hu
    rcases hu with rfl | rfl
    · exact h.1
    · exact h.2
theorem bfs_none {p : Nat} : ∀ (f : Nat) (q : List Nd), (∀ s ∈ q, p ∉ s.2.procs) → (bfs f q).filter (has p) = [] := by
  intro f
  induction f with
  | zero => intro q _; rfl
  | succ f ih =>
    intro q h
    cases q with
    | nil => rfl
    | cons s q =>
      have hs := h s (by simp)
      rw [bfs, List.filter_cons, if_neg (by unfold has; simpa using hs)]
      refine ih _ (fun u hu => ?_)
      rcases List.mem_append.1 hu with hu | hu
      · exact h u (by simp [hu])
      · exact has_kids hs u hu
theorem bfs_chain {p : Nat} : ∀ (f : Nat) (q1 q2 : List Nd) (s : Nd), sizes (q1 ++ s :: q2) ≤ f → s.2.procs.Nodup → p ∈ s.2.procs → (∀ u ∈ q1, p ∉ u.2.procs) → (∀ u ∈ q2, p ∉ u.2.procs) →
    (bfs f (q1 ++ s :: q2)).filter (has p) = chain p s.1 s.2 := by
  intro f
  induction f with
  | zero =>
    intro q1 q2 s h
    rw [sizes_append, sizes_cons] at h
    have := s.2.size_pos
    omega
  | succ f ih =>
    intro q1 q2 s h hn hp h1 h2
    rw [sizes_append, sizes_cons] at h
    cases q1 with
    | cons a q1 =>
      have ha := h1 a (by simp)
      rw [List.cons_append, bfs, List.filter_cons, if_neg (by unfold has; simpa using ha), List.append_assoc, List.cons_append]
      have hk := sizes_kids a
      rw [sizes_cons] at h
      refine ih q1 (q2 ++ kids a) s (by rw [sizes_append, sizes_cons, sizes_append]; omega) hn hp (fun u hu => h1 u (by simp [hu])) (fun u hu => ?_)
      rcases List.mem_append.1 hu with hu | hu
      · exact h2 u hu
      · exact has_kids ha u hu
    | nil =>
      rw [List.nil_append, bfs, List.filter_cons, if_pos (by unfold has; simpa using hp)]
      have hk := sizes_kids s
      obtain ⟨x, t⟩ := s
      have h0 : sizes ([] : List Nd) = 0 := rfl
      cases t with
      | leaf q =>
        rw [show kids (x, .leaf q) = [] from rfl, List.append_nil, bfs_none f q2 h2]
        rfl
      | node l r =>
        have h3 : kids (x, Tr.node l r) = [(x ++ [108], l), (x ++ [114], r)] := rfl
        rw [h3] at hk ⊢
        rw [sizes_cons, sizes_cons] at hk
        simp only [Tr.procs, List.nodup_append] at hn
        rw [chain]
        by_cases hl : p ∈ l.procs
        · rw [if_pos hl]
          have := ih q2 [(x ++ [114], r)] (x ++ [108], l) (by rw [sizes_append, sizes_cons, sizes_cons]; omega) hn.1 hl h2 (fun u hu => by
            simp only [List.mem_singleton] at hu; subst hu
            exact fun hr => hn.2.2 p hl p hr rfl)
          rw [this]
        · rw [if_neg hl]
          have hr : p ∈ r.procs := by
            simp only [Tr.procs, List.mem_append] at hp
            exact hp.resolve_left hl
          have := ih (q2 ++ [(x ++ [108], l)]) [] (x ++ [114], r) (by rw [sizes_append, sizes_append, sizes_cons, sizes_cons]; omega) hn.2.1 hr (fun u hu => by
            rcases List.mem_append.1 hu with hu | hu
            · exact h2 u hu
            · simp only [List.mem_singleton] at hu; subst hu
              exact hl) (fun u hu => by cases hu)
          rw [List.append_assoc] at this
          exact congrArg ((x, Tr.node l r) :: ·) this
theorem Tr.ok.down_chain {t : Tr} (h : t.ok) {p : Nat} (hp : p ∈ t.procs) : t.down.filter (has p) = chain p [] t :=
  bfs_chain t.size [] [] ([], t) (by simp [sizes]) h.once hp (fun _ hu => by cases hu) (fun _ hu => by cases hu)
theorem Tr.down_none {t : Tr} {p : Nat} (hp : p ∉ t.procs) : t.down.filter (has p) = [] := bfs_none _ _ (fun s hs => by simp only [List.mem_singleton] at hs; subst hs; exact hp)
/-- From the leaf of p up. -/
def Tr.up (t : Tr) (p : Nat) : List Nd := (t.down.filter (has p)).reverse
end Go.Proofs.Ytlpabhgfmkilnaa.L13
