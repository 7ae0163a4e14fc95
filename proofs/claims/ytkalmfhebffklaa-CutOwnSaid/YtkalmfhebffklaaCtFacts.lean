/- What the longest rows, and what is missing, come to where the reports are rows. -/
import Derived.Test.YtkalmfhebffklaaCtRows
namespace Go.Proofs.Ytkalmfhebffklaa.L11
open Go.ChangeShapes Go.WideShapes Go.ChangeAt Go.RowKit Go.Deep

theorem insP_last {l : List Pt} {x : Pt} (h : ∀ p ∈ l, aheadP p x = true) : insP l x = l ++ [x] := by
  induction l with
  | nil => rfl
  | cons y l ih =>
    have hy := h y (by simp)
    unfold insP
    rw [if_neg (ahead_irrefl hy), if_neg (ahead_not hy), ih (fun p hp => h p (by simp [hp]))]
    rfl
theorem fold_append {xs l : List Pt} (hs : SortedP (l ++ xs)) (hne : ∀ x ∈ xs, x.it.l ≠ []) : xs.foldl stepP l = l ++ xs := by
  induction xs generalizing l with
  | nil => simp
  | cons x xs ih =>
    have h1 : stepP l x = l ++ [x] := by
      unfold stepP
      rw [if_neg (hne x (by simp))]
      exact insP_last (fun p hp => (List.pairwise_append.1 hs).2.2 p hp x (by simp))
    rw [List.foldl_cons, h1, ih (by simpa using hs) (fun y hy => hne y (by simp [hy]))]
    simp
/-- Senders rise, and each has items. -/
def RisingC (lc : List LCore) : Prop := lc.Pairwise (fun x y => x.1 < y.1) ∧ ∀ c ∈ lc, c.2 ≠ []
theorem cut_one {r : Rp} {lc : List LCore} (h : r.lg.map Lg.core = lc) (hr : RisingC lc) : (cutP [r]).map Pt.core = lc.map (fun c => (r.ep, r.co, c.1, c.2)) := by
  subst h
  have hp : SortedP (ptsOf r) := by
    unfold SortedP ptsOf
    rw [List.pairwise_map]
    have := List.pairwise_map.1 hr.1
    refine this.imp ?_
    intro a b hab
    rw [aheadP_iff]
    exact .inr ⟨rfl, .inr ⟨rfl, hab⟩⟩
  have hne : ∀ x ∈ ptsOf r, x.it.l ≠ [] := fun x hx => by
    obtain ⟨g, hg, rfl⟩ := List.mem_map.1 hx
    exact hr.2 g.core (List.mem_map.2 ⟨g, hg, rfl⟩)
  have e : cutP [r] = ptsOf r := by
    unfold cutP
    rw [List.flatMap_cons, List.flatMap_nil, List.append_nil, fold_append (l := []) (by simpa using hp) hne]
    rfl
  rw [e]
  simp only [ptsOf, List.map_map]
  rfl
theorem rowsC_mem {f : Nat → Nat} {t : Nat} {c : LCore} (h : c ∈ rowsC f t) : ∃ s : Nat, 1 ≤ s ∧ s ≤ t ∧ f s ≠ 0 ∧ c = ((s : Int), numsL s (f s)) := by
  obtain ⟨j, hj, hc⟩ := List.mem_flatMap.1 h
  rw [List.mem_range] at hj
  unfold rowOne at hc
  split at hc
  · simp at hc
  · rename_i hf
    simp only [List.mem_singleton] at hc
    exact ⟨j + 1, by omega, by omega, hf, hc⟩
theorem mem_rowsC {f : Nat → Nat} {t s : Nat} (h1 : 1 ≤ s) (h2 : s ≤ t) (hf : f s ≠ 0) : ((s : Int), numsL s (f s)) ∈ rowsC f t := by
  refine List.mem_flatMap.2 ⟨s - 1, List.mem_range.2 (by omega), ?_⟩
  rw [show s - 1 + 1 = s by omega, rowOne, if_neg hf]
  simp
theorem rowsC_rising (f : Nat → Nat) (t : Nat) : RisingC (rowsC f t) := by
  induction t with
  | zero => exact ⟨List.Pairwise.nil, by simp [rowsC]⟩
  | succ t ih =>
    rw [rowsC_succ]
    constructor
    · refine List.pairwise_append.2 ⟨ih.1, by unfold rowOne; split <;> simp, fun a ha b hb => ?_⟩
      obtain ⟨s, _, hs, _, rfl⟩ := rowsC_mem ha
      unfold rowOne at hb
      split at hb
      · simp at hb
      · simp at hb
        subst hb
        simp only
        omega
    · intro c hc
      rcases List.mem_append.1 hc with hc | hc
      · exact ih.2 c hc
      · unfold rowOne at hc
        split at hc
        · simp at hc
        · rename_i hf
          simp at hc
          subst hc
          intro e
          have := congrArg List.length e
          rw [numsL_len] at this
          exact hf this
theorem rowsC_len (f : Nat → Nat) (t : Nat) : (rowsC f t).length ≤ t := by
  induction t with
  | zero => simp [rowsC]
  | succ t ih =>
    rw [rowsC_succ, List.length_append]
    have : (rowOne f (t + 1)).length ≤ 1 := by unfold rowOne; split <;> simp
    omega
theorem ownC_mem {lc : List LCore} (hr : RisingC lc) {c : LCore} (hc : c ∈ lc) : ownC lc c.1 = c.2 := by
  unfold ownC
  cases hf : lc.find? (fun l => decide (l.1 = c.1)) with
  | none => exact absurd (show decide (c.1 = c.1) = true by simp) (List.find?_eq_none.1 hf c hc)
  | some d =>
    have hd := List.mem_of_find?_eq_some hf
    have he : d.1 = c.1 := by simpa using List.find?_some hf
    have : d = c := by
      have key : ∀ (l : List LCore), l.Pairwise (fun x y => x.1 < y.1) → d ∈ l → c ∈ l → d = c := by
        intro l
        induction l with
        | nil => intro _ h; simp at h
        | cons y l ih =>
          intro hp h1 h2
          obtain ⟨q1, q2⟩ := List.pairwise_cons.1 hp
          rcases List.mem_cons.1 h1 with e1 | h1
          · rcases List.mem_cons.1 h2 with e2 | h2
            · rw [e1, e2]
            · have := q1 c h2; rw [← e1] at this; omega
          · rcases List.mem_cons.1 h2 with e2 | h2
            · have := q1 d h1; rw [← e2] at this; omega
            · exact ih q2 h1 h2
      exact key lc hr.1 hd hc
    rw [this]
theorem ownC_none {lc : List LCore} {s : Int} (h : ∀ c ∈ lc, c.1 ≠ s) : ownC lc s = [] := by
  unfold ownC
  rw [List.find?_eq_none.2 (fun c hc => by simpa using h c hc)]
/-- One's own parts: nothing lacks. -/
theorem miss_own {lc : List LCore} (hr : RisingC lc) (ep co : Int) : missC (lc.map (fun c => (ep, co, c.1, c.2))) ep co lc = [] := by
  unfold missC
  rw [List.flatMap_eq_nil_iff]
  intro x hx
  obtain ⟨c, hc, rfl⟩ := List.mem_map.1 hx
  unfold missOne
  simp only
  rw [ownC_mem hr hc, if_neg (by omega)]
theorem miss_other {lc : List LCore} (ep co ep' co' : Int) (h : ¬ (ep = ep' ∧ co = co')) (k : List LCore) : missC (lc.map (fun c => (ep, co, c.1, c.2))) ep' co' k = [] := by
  unfold missC
  rw [List.flatMap_eq_nil_iff]
  intro x hx
  obtain ⟨c, hc, rfl⟩ := List.mem_map.1 hx
  unfold missOne
  simp only
  rw [if_neg (fun e => h ⟨e.1, e.2.1⟩)]
theorem miss_all {lc : List LCore} (hr : ∀ c ∈ lc, c.2 ≠ []) (ep co : Int) : missC (lc.map (fun c => (ep, co, c.1, c.2))) ep co [] = lc := by
  unfold missC
  induction lc with
  | nil => rfl
  | cons c l ih =>
    have h0 : ownC [] c.1 = [] := rfl
    rw [List.map_cons, List.flatMap_cons, ih (fun d hd => hr d (by simp [hd]))]
    have : missOne ep co [] (ep, co, c.1, c.2) = [c] := by
      unfold missOne
      simp only
      rw [h0, if_pos ⟨trivial, trivial, by simpa using List.length_pos_iff.2 (hr c (by simp)), by simp [beginsL]⟩]
      simp
    rw [this]
    rfl
end Go.Proofs.Ytkalmfhebffklaa.L11
