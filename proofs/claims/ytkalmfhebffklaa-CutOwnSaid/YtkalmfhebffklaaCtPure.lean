/- The longest rows, by old view and sender: a list that stands by keys; what is put into it. -/
import Derived.Test.YtkalmfhebffklaaCtOrder
namespace Go.Proofs.Ytkalmfhebffklaa.L11
open Go.ChangeShapes Go.WideShapes Go.ChangeAt Go.RowKit Go.Deep Go.Sort

theorem key_iff (x y : Pt) : keyP x = keyP y ↔ x.ep = y.ep ∧ x.co = y.co ∧ x.se = y.se := by simp [keyP]
theorem ahead_trans {x y z : Pt} (h : aheadP x y = true) (k : aheadP y z = true) : aheadP x z = true := by
  rw [aheadP_iff] at *; omega
theorem ahead_irrefl {x y : Pt} (h : aheadP x y = true) : keyP x ≠ keyP y := by
  rw [aheadP_iff] at h; rw [Ne, key_iff]; omega
theorem ahead_total {x y : Pt} (h : keyP x ≠ keyP y) : aheadP x y = true ∨ aheadP y x = true := by
  rw [Ne, key_iff] at h; rw [aheadP_iff, aheadP_iff]; omega
theorem ahead_not {x y : Pt} (h : aheadP x y = true) : ¬ aheadP y x = true := by
  rw [aheadP_iff] at *; omega
theorem ahead_congr {x y z : Pt} (h : keyP x = keyP y) : aheadP x z = aheadP y z := by
  rw [key_iff] at h; rw [Bool.eq_iff_iff, aheadP_iff, aheadP_iff, h.1, h.2.1, h.2.2]
theorem ahead_congr' {x y z : Pt} (h : keyP x = keyP y) : aheadP z x = aheadP z y := by
  rw [key_iff] at h; rw [Bool.eq_iff_iff, aheadP_iff, aheadP_iff, h.1, h.2.1, h.2.2]

def SortedP (l : List Pt) : Prop := l.Pairwise (fun x y => aheadP x y = true)
/-- A part into its place. -/
def insP : List Pt → Pt → List Pt
  | [], x => [x]
  | y :: l, x => if keyP y = keyP x then (if y.it.l.length < x.it.l.length then x else y) :: l else if aheadP x y = true then x :: y :: l else y :: insP l x
def stepP (l : List Pt) (x : Pt) : List Pt := if x.it.l = [] then l else insP l x
theorem insP_mem {l : List Pt} {x p : Pt} (h : p ∈ insP l x) : p ∈ l ∨ p = x := by
  induction l with
  | nil => simp [insP] at h; exact .inr h
  | cons y l ih =>
    unfold insP at h
    split at h
    · rcases List.mem_cons.1 h with rfl | h
      · split
        · exact .inr rfl
        · exact .inl (by simp)
      · exact .inl (by simp [h])
    · split at h
      · rcases List.mem_cons.1 h with rfl | h
        · exact .inr rfl
        · exact .inl h
      · rcases List.mem_cons.1 h with rfl | h
        · exact .inl (by simp)
        · exact (ih h).imp (fun h => by simp [h]) id
theorem insP_sorted {l : List Pt} (h : SortedP l) (x : Pt) : SortedP (insP l x) := by
  induction l with
  | nil => simp [insP, SortedP]
  | cons y l ih =>
    obtain ⟨h1, h2⟩ := List.pairwise_cons.1 h
    unfold insP
    split
    · rename_i hk
      refine List.pairwise_cons.2 ⟨fun z hz => ?_, h2⟩
      split
      · rw [← ahead_congr hk]; exact h1 z hz
      · exact h1 z hz
    · rename_i hk
      split
      · rename_i ha
        refine List.pairwise_cons.2 ⟨fun z hz => ?_, h⟩
        rcases List.mem_cons.1 hz with rfl | hz
        · exact ha
        · exact ahead_trans ha (h1 z hz)
      · rename_i ha
        refine List.pairwise_cons.2 ⟨fun z hz => ?_, ih h2⟩
        rcases insP_mem hz with hz | rfl
        · exact h1 z hz
        · exact (ahead_total hk).resolve_right ha
theorem sorted_one {l : List Pt} (h : SortedP l) {p q : Pt} (hp : p ∈ l) (hq : q ∈ l) (hk : keyP p = keyP q) : p = q := by
  induction l with
  | nil => simp at hp
  | cons y l ih =>
    obtain ⟨h1, h2⟩ := List.pairwise_cons.1 h
    rcases List.mem_cons.1 hp with rfl | hp2
    · rcases List.mem_cons.1 hq with rfl | hq
      · rfl
      · exact absurd hk (ahead_irrefl (h1 q hq))
    · rcases List.mem_cons.1 hq with e | hq2
      · subst e; exact absurd hk.symm (ahead_irrefl (h1 p (by assumption)))
      · exact ih h2 (by assumption) hq2
/-- One as long, or longer, is there: nothing turns. -/
theorem insP_keep {l : List Pt} (h : SortedP l) {x p : Pt} (hp : p ∈ l) (hk : keyP p = keyP x) (hl : ¬ p.it.l.length < x.it.l.length) : insP l x = l := by
  induction l with
  | nil => simp at hp
  | cons y l ih =>
    obtain ⟨h1, h2⟩ := List.pairwise_cons.1 h
    unfold insP
    rcases List.mem_cons.1 hp with rfl | hp
    · rw [if_pos hk, if_neg hl]
    · have hy := h1 p hp
      rw [if_neg (fun e => ahead_irrefl hy (e.trans hk.symm)), if_neg (fun e => by rw [← ahead_congr hk] at e; exact ahead_not hy e), ih h2 hp]
/-- It is put, and nothing of its key is left beside it. -/
theorem insP_put {l : List Pt} (h : SortedP l) {x : Pt} (hl : ∀ p ∈ l, keyP p = keyP x → p.it.l.length < x.it.l.length) (q : Pt) : q ∈ insP l x ↔ q = x ∨ q ∈ l ∧ keyP q ≠ keyP x := by
  induction l with
  | nil => simp [insP]
  | cons y l ih =>
    obtain ⟨h1, h2⟩ := List.pairwise_cons.1 h
    unfold insP
    split
    · rename_i hk
      rw [if_pos (hl y (by simp) hk)]
      constructor
      · intro hq
        rcases List.mem_cons.1 hq with rfl | hq
        · exact .inl rfl
        · exact .inr ⟨by simp [hq], fun e => ahead_irrefl (h1 q hq) (hk.trans e.symm)⟩
      · rintro (rfl | ⟨hq, hn⟩)
        · simp
        · rcases List.mem_cons.1 hq with rfl | hq
          · exact absurd hk hn
          · simp [hq]
    · rename_i hk
      split
      · rename_i ha
        constructor
        · intro hq
          rcases List.mem_cons.1 hq with rfl | hq
          · exact .inl rfl
          · refine .inr ⟨hq, fun e => ?_⟩
            rcases List.mem_cons.1 hq with rfl | hq
            · exact hk e
            · have := ahead_trans ha (h1 q hq)
              exact ahead_irrefl this e.symm
        · rintro (rfl | ⟨hq, _⟩)
          · simp
          · simp only [List.mem_cons] at hq ⊢
            exact .inr hq
      · have := ih h2 (fun p hp => hl p (by simp [hp]))
        constructor
        · intro hq
          rcases List.mem_cons.1 hq with rfl | hq
          · exact .inr ⟨by simp, hk⟩
          · exact (this.1 hq).imp id (fun h => ⟨by simp [h.1], h.2⟩)
        · rintro (rfl | ⟨hq, hn⟩)
          · exact List.mem_cons_of_mem _ (this.2 (.inl rfl))
          · rcases List.mem_cons.1 hq with rfl | hq
            · simp
            · exact List.mem_cons_of_mem _ (this.2 (.inr ⟨hq, hn⟩))
theorem stepP_sorted {l : List Pt} (h : SortedP l) (x : Pt) : SortedP (stepP l x) := by
  unfold stepP; split
  · exact h
  · exact insP_sorted h x
theorem stepP_mem {l : List Pt} {x p : Pt} (h : p ∈ stepP l x) : p ∈ l ∨ p = x ∧ x.it.l ≠ [] := by
  unfold stepP at h; split at h
  · exact .inl h
  · rename_i hx
    exact (insP_mem h).imp id (fun e => ⟨e, hx⟩)
/-- What the program looks up: how long the row is that is kept. -/
def lenAt (l : List Pt) (x : Pt) : Nat := match l.find? (fun p => decide (keyP p = keyP x)) with | some p => p.it.l.length | none => 0
theorem lenAt_some {l : List Pt} (h : SortedP l) {x p : Pt} (hp : p ∈ l) (hk : keyP p = keyP x) : lenAt l x = p.it.l.length := by
  unfold lenAt
  cases hf : l.find? (fun p => decide (keyP p = keyP x)) with
  | none => exact absurd (decide_eq_true hk) (by simpa using List.find?_eq_none.1 hf p hp)
  | some q =>
    have h1 := List.mem_of_find?_eq_some hf
    have h2 : keyP q = keyP x := by simpa using List.find?_some hf
    rw [sorted_one h hp h1 (hk.trans h2.symm)]
theorem lenAt_none {l : List Pt} {x : Pt} (hn : ∀ p ∈ l, keyP p ≠ keyP x) : lenAt l x = 0 := by
  unfold lenAt
  rw [List.find?_eq_none.2 (fun p hp => by simpa using hn p hp)]
/-- Not longer: as it was. -/
theorem stepP_no {l : List Pt} (h : SortedP l) {x : Pt} (hl : ¬ lenAt l x < x.it.l.length) : stepP l x = l := by
  unfold stepP
  split
  · rfl
  · rename_i hx
    by_cases hk : ∃ p ∈ l, keyP p = keyP x
    · obtain ⟨p, hp, hk⟩ := hk
      rw [lenAt_some h hp hk] at hl
      exact insP_keep h hp hk hl
    · rw [lenAt_none (fun p hp e => hk ⟨p, hp, e⟩)] at hl
      exact absurd (List.length_pos_iff.2 hx) hl
/-- Longer: put. -/
theorem stepP_yes {l : List Pt} (h : SortedP l) {x : Pt} (hl : lenAt l x < x.it.l.length) (q : Pt) : q ∈ stepP l x ↔ q = x ∨ q ∈ l ∧ keyP q ≠ keyP x := by
  unfold stepP
  rw [if_neg (fun e => by rw [e] at hl; simp at hl)]
  exact insP_put h (fun p hp hk => by rw [← lenAt_some h hp hk]; exact hl) q

def ptsOf (r : Rp) : List Pt := r.lg.map fun g => ⟨r.ep, r.co, g.se, g.it⟩
def cutP (rs : List Rp) : List Pt := (rs.flatMap ptsOf).foldl stepP []
theorem fold_sorted {xs l : List Pt} (h : SortedP l) : SortedP (xs.foldl stepP l) := by
  induction xs generalizing l with
  | nil => exact h
  | cons x xs ih => exact ih (stepP_sorted h x)
theorem fold_mem {xs l : List Pt} {p : Pt} (h : p ∈ xs.foldl stepP l) : p ∈ l ∨ p ∈ xs ∧ p.it.l ≠ [] := by
  induction xs generalizing l with
  | nil => exact .inl h
  | cons x xs ih =>
    rcases ih h with h | ⟨h, h2⟩
    · rcases stepP_mem h with h | ⟨rfl, h⟩
      · exact .inl h
      · exact .inr ⟨by simp, h⟩
    · exact .inr ⟨by simp [h], h2⟩
theorem cutP_sorted (rs : List Rp) : SortedP (cutP rs) := fold_sorted List.Pairwise.nil
theorem fold_len {xs l : List Pt} : (xs.foldl stepP l).length ≤ l.length + xs.length := by
  induction xs generalizing l with
  | nil => simp
  | cons x xs ih =>
    have h1 : (stepP l x).length ≤ l.length + 1 := by
      unfold stepP; split
      · omega
      · rename_i hx; clear hx ih
        induction l with
        | nil => simp [insP]
        | cons y l ih => unfold insP; split
                         · simp
                         · split
                           · simp
                           · simp; simpa using ih
    have := @ih (stepP l x)
    simp only [List.foldl_cons, List.length_cons]
    omega
/-- A sorted list is fixed by what stands in it. -/
theorem sorted_perm_eq {l k : List Pt} (hl : SortedP l) (hp : k.Perm l) (hk : k.Pairwise (fun x y => aheadP y x = false)) : k = l := by
  have hn : k.Pairwise (fun x y => keyP x ≠ keyP y) := by
    refine hp.symm.pairwise ?_ (fun {x y} h => Ne.symm h)
    exact hl.imp (fun h => ahead_irrefl h)
  have hs : k.Pairwise (fun x y => aheadP x y = true) := by
    refine (hk.and hn).imp ?_
    rintro x y ⟨h1, h2⟩
    rcases ahead_total h2 with h | h
    · exact h
    · rw [h] at h1; cases h1
  exact List.Perm.eq_of_pairwise (fun a b _ _ h1 h2 => absurd h2 (ahead_not h1)) hs hl hp
end Go.Proofs.Ytkalmfhebffklaa.L11
