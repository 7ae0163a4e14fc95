/- What the longest rows, and what is missing, come to where the reports are rows. The parts of reports: in whatever order they are gone through. -/
import Derived.Test.YtkalmfhebffklaaCtGc
import Derived.Test.YtkalmfhebffklaaCtGe
section
namespace Go.Proofs.Ytkalmfhebffklaa.L11
open Go.ChangeShapes Go.WideShapes Go.ChangeAt Go.RowKit Go.Deep

theorem insP_last {l : List Pt} {x : Pt} (h : ∀ p ∈ l, aheadP p x = true) : insP l x = l ++ [x] := by
  induction l with
  | nil => rfl
  | cons y l ih =>
    have hy := h y (by simp)
    unfold insP
    rw [if_neg (ahead_irrefl hy), if_neg (ahead_not hy), ih (fun p hp => h p (by simp [hp]))]
    rfl
theorem fold_append {xs l : List Pt} (hs : SortedP (l ++ xs)) (hne : ∀ x ∈ xs, x.it.l ≠ []) : xs.foldl stepP l = l ++ xs := by
  induction xs generalizing l with
  | nil => simp
  | cons x xs ih =>
    have h1 : stepP l x = l ++ [x] := by
      unfold stepP
      rw [if_neg (hne x (by simp))]
      exact insP_last (fun p hp => (List.pairwise_append.1 hs).2.2 p hp x (by simp))
    rw [List.foldl_cons, h1, ih (by simpa using hs) (fun y hy => hne y (by simp [hy]))]
    simp
/-- Senders rise, and each has items. -/
def RisingC (lc : List LCore) : Prop := lc.Pairwise (fun x y => x.1 < y.1) ∧ ∀ c ∈ lc, c.2 ≠ []
theorem cut_one {r : Rp} {lc : List LCore} (h : r.lg.map Lg.core = lc) (hr : RisingC lc) : (cutP [r]).map Pt.core = lc.map (fun c => (r.ep, r.co, c.1, c.2)) := by
  subst h
  have hp : SortedP (ptsOf r) := by
    unfold SortedP ptsOf
    rw [List.pairwise_map]
    have := List.pairwise_map.1 hr.1
    refine this.imp ?_
    intro a b hab
    rw [aheadP_iff]
    exact .inr ⟨rfl, .inr ⟨rfl, hab⟩⟩
  have hne : ∀ x ∈ ptsOf r, x.it.l ≠ [] := fun x hx => by
    obtain ⟨g, hg, rfl⟩ := List.mem_map.1 hx
    exact hr.2 g.core (List.mem_map.2 ⟨g, hg, rfl⟩)
  have e : cutP [r] = ptsOf r := by
    unfold cutP
    rw [List.flatMap_cons, List.flatMap_nil, List.append_nil, fold_append (l := []) (by simpa using hp) hne]
    rfl
  rw [e]
  simp only [ptsOf, List.map_map]
  rfl
theorem rowsC_mem {f : Nat → Nat} {t : Nat} {c : LCore} (h : c ∈ rowsC f t) : ∃ s : Nat, 1 ≤ s ∧ s ≤ t ∧ f s ≠ 0 ∧ c = ((s : Int), numsL s (f s)) := by
  obtain ⟨j, hj, hc⟩ := List.mem_flatMap.1 h
  rw [List.mem_range] at hj
  unfold rowOne at hc
  split at hc
  · simp at hc
  · rename_i hf
    simp only [List.mem_singleton] at hc
    exact ⟨j + 1, by omega, by omega, hf, hc⟩
theorem mem_rowsC {f : Nat → Nat} {t s : Nat} (h1 : 1 ≤ s) (h2 : s ≤ t) (hf : f s ≠ 0) : ((s : Int), numsL s (f s)) ∈ rowsC f t := by
  refine List.mem_flatMap.2 ⟨s - 1, List.mem_range.2 (by omega), ?_⟩
  rw [show s - 1 + 1 = s by omega, rowOne, if_neg hf]
  simp
theorem rowsC_rising (f : Nat → Nat) (t : Nat) : RisingC (rowsC f t) := by
  induction t with
  | zero => exact ⟨List.Pairwise.nil, by simp [rowsC]⟩
  | succ t ih =>
    rw [rowsC_succ]
    constructor
    · refine List.pairwise_append.2 ⟨ih.1, by unfold rowOne; split <;> simp, fun a ha b hb => ?_⟩
      obtain ⟨s, _, hs, _, rfl⟩ := rowsC_mem ha
      unfold rowOne at hb
      split at hb
      · simp at hb
      · simp at hb
        subst hb
        simp only
        omega
    · intro c hc
      rcases List.mem_append.1 hc with hc | hc
      · exact ih.2 c hc
      · unfold rowOne at hc
        split at hc
        · simp at hc
        · rename_i hf
          simp at hc
          subst hc
          intro e
          have := congrArg List.length e
          rw [numsL_len] at this
          exact hf this
theorem rowsC_len (f : Nat → Nat) (t : Nat) : (rowsC f t).length ≤ t := by
  induction t with
  | zero => simp [rowsC]
  | succ t ih =>
    rw [rowsC_succ, List.length_append]
    have : (rowOne f (t + 1)).length ≤ 1 := by unfold rowOne; split <;> simp
    omega
theorem ownC_mem {lc : List LCore} (hr : RisingC lc) {c : LCore} (hc : c ∈ lc) : ownC lc c.1 = c.2 := by
  unfold ownC
  cases hf : lc.find? (fun l => decide (l.1 = c.1)) with
  | none => exact absurd (show decide (c.1 = c.1) = true by simp) (List.find?_eq_none.1 hf c hc)
  | some d =>
    have hd := List.mem_of_find?_eq_some hf
    have he : d.1 = c.1 := by simpa using List.find?_some hf
    have : d = c := by
      have key : ∀ (l : List LCore), l.Pairwise (fun x y => x.1 < y.1) → d ∈ l → c ∈ l → d = c := by
        intro l
        induction l with
        | nil => intro _ h; simp at h
        | cons y l ih =>
          intro hp h1 h2
          obtain ⟨q1, q2⟩ := List.pairwise_cons.1 hp
          rcases List.mem_cons.1 h1 with e1 | h1
          · rcases List.mem_cons.1 h2 with e2 | h2
            · rw [e1, e2]
            · have := q1 c h2; rw [← e1] at this; omega
          · rcases List.mem_cons.1 h2 with e2 | h2
            · have := q1 d h1; rw [← e2] at this; omega
            · exact ih q2 h1 h2
      exact key lc hr.1 hd hc
    rw [this]
theorem ownC_none {lc : List LCore} {s : Int} (h : ∀ c ∈ lc, c.1 ≠ s) : ownC lc s = [] := by
  unfold ownC
  rw [List.find?_eq_none.2 (fun c hc => by simpa using h c hc)]
/-- One's own parts: nothing lacks. -/
theorem miss_own {lc : List LCore} (hr : RisingC lc) (ep co : Int) : missC (lc.map (fun c => (ep, co, c.1, c.2))) ep co lc = [] := by
  unfold missC
  rw [List.flatMap_eq_nil_iff]
  intro x hx
  obtain ⟨c, hc, rfl⟩ := List.mem_map.1 hx
  unfold missOne
  simp only
  rw [ownC_mem hr hc, if_neg (by omega)]
theorem miss_other {lc : List LCore} (ep co ep' co' : Int) (h : ¬ (ep = ep' ∧ co = co')) (k : List LCore) : missC (lc.map (fun c => (ep, co, c.1, c.2))) ep' co' k = [] := by
  unfold missC
  rw [List.flatMap_eq_nil_iff]
  intro x hx
  obtain ⟨c, hc, rfl⟩ := List.mem_map.1 hx
  unfold missOne
  simp only
  rw [if_neg (fun e => h ⟨e.1, e.2.1⟩)]
theorem miss_all {lc : List LCore} (hr : ∀ c ∈ lc, c.2 ≠ []) (ep co : Int) : missC (lc.map (fun c => (ep, co, c.1, c.2))) ep co [] = lc := by
  unfold missC
  induction lc with
  | nil => rfl
  | cons c l ih =>
    have h0 : ownC [] c.1 = [] := rfl
    rw [List.map_cons, List.flatMap_cons, ih (fun d hd => hr d (by simp [hd]))]
    have : missOne ep co [] (ep, co, c.1, c.2) = [c] := by
      unfold missOne
      simp only
      rw [h0, if_pos ⟨trivial, trivial, by simpa using List.length_pos_iff.2 (hr c (by simp)), by simp [beginsL]⟩]
      simp
    rw [this]
    rfl
end Go.Proofs.Ytkalmfhebffklaa.L11
end

section
namespace Go.Proofs.Ytkalmfhebffklaa.L11
open Go.ChangeShapes Go.WideShapes Go.ChangeAt Go.RowKit Go.Deep Go.Sort

/-- Each that has items is kept, or one of its key that is as long. -/
theorem step_keeps {l : List Pt} (h : SortedP l) (x : Pt) : ∀ z, (z ∈ l ∨ z = x ∧ x.it.l ≠ []) → ∃ p ∈ stepP l x, keyP p = keyP z ∧ z.it.l.length ≤ p.it.l.length := by
  intro z hz
  by_cases hlt : lenAt l x < x.it.l.length
  · have hy := stepP_yes h hlt
    rcases hz with hz | ⟨rfl, _⟩
    · by_cases hk : keyP z = keyP x
      · exact ⟨x, (hy x).2 (.inl rfl), hk.symm, by rw [← lenAt_some h hz hk]; omega⟩
      · exact ⟨z, (hy z).2 (.inr ⟨hz, hk⟩), rfl, Nat.le_refl _⟩
    · exact ⟨z, (hy z).2 (.inl rfl), rfl, Nat.le_refl _⟩
  · rw [stepP_no h hlt]
    rcases hz with hz | ⟨rfl, hne⟩
    · exact ⟨z, hz, rfl, Nat.le_refl _⟩
    · by_cases hk : ∃ p ∈ l, keyP p = keyP z
      · obtain ⟨p, hp, hk⟩ := hk
        exact ⟨p, hp, hk, by rw [lenAt_some h hp hk] at hlt; omega⟩
      · rw [lenAt_none (fun p hp e => hk ⟨p, hp, e⟩)] at hlt
        exact absurd (List.length_pos_iff.2 hne) hlt
theorem fold_keeps {xs l : List Pt} (h : SortedP l) : ∀ z, (z ∈ l ∨ z ∈ xs ∧ z.it.l ≠ []) → ∃ p ∈ xs.foldl stepP l, keyP p = keyP z ∧ z.it.l.length ≤ p.it.l.length := by
  induction xs generalizing l with
  | nil =>
    intro z hz
    rcases hz with hz | ⟨hz, _⟩
    · exact ⟨z, hz, rfl, Nat.le_refl _⟩
    · simp at hz
  | cons x xs ih =>
    intro z hz
    have hs := stepP_sorted h x
    have key : (z ∈ l ∨ z = x ∧ x.it.l ≠ []) → ∃ p ∈ xs.foldl stepP (stepP l x), keyP p = keyP z ∧ z.it.l.length ≤ p.it.l.length := fun hz => by
      obtain ⟨p, hp, hk, hl⟩ := step_keeps h x z hz
      obtain ⟨q, hq, hk2, hl2⟩ := ih hs p (.inl hp)
      exact ⟨q, hq, hk2.trans hk, Nat.le_trans hl hl2⟩
    rcases hz with hz | ⟨hz, hne⟩
    · exact key (.inl hz)
    · rcases List.mem_cons.1 hz with rfl | hz
      · exact key (.inr ⟨rfl, hne⟩)
      · exact ih hs z (.inr ⟨hz, hne⟩)
/-- A part whose items are a beginning of its sender's row. -/
def Begun (x : Pt) : Prop := ∃ s n : Nat, x.se = s ∧ x.it.l = numsL s n
theorem begun_core {p q : Pt} (hp : Begun p) (hq : Begun q) (hk : keyP p = keyP q) (hl : p.it.l.length = q.it.l.length) : p.core = q.core := by
  obtain ⟨s, n, e1, e2⟩ := hp
  obtain ⟨s', n', e3, e4⟩ := hq
  obtain ⟨k1, k2, k3⟩ := (key_iff _ _).1 hk
  have hs : s = s' := by rw [e1, e3] at k3; omega
  subst hs
  rw [e2, e4, numsL_len, numsL_len] at hl
  subst hl
  unfold Pt.core
  rw [k1, k2, k3, e2, e4]
theorem core_pairs {l : List Pt} (h : SortedP l) : (l.map Pt.core).Pairwise (fun x y => aheadC x y = true) := List.pairwise_map.2 (h.imp (fun h => h))
theorem aheadC_iff (x y : Core) : aheadC x y = true ↔ x.1 < y.1 ∨ x.1 = y.1 ∧ (x.2.1 < y.2.1 ∨ x.2.1 = y.2.1 ∧ x.2.2.1 < y.2.2.1) := by
  simp only [aheadC, Bool.or_eq_true, lessB_iff, Bool.and_eq_true, decide_eq_true_eq]
  omega
theorem cores_same {xs ys : List Pt} (hm : ∀ x, x ∈ xs ↔ x ∈ ys) (hb : ∀ x ∈ xs, Begun x) : (xs.foldl stepP []).map Pt.core = (ys.foldl stepP []).map Pt.core := by
  have hs1 : SortedP (xs.foldl stepP []) := fold_sorted List.Pairwise.nil
  have hs2 : SortedP (ys.foldl stepP []) := fold_sorted List.Pairwise.nil
  have half : ∀ (xs ys : List Pt), (∀ x, x ∈ xs ↔ x ∈ ys) → (∀ x ∈ xs, Begun x) → SortedP (xs.foldl stepP []) → ∀ p ∈ xs.foldl stepP [], p.core ∈ (ys.foldl stepP []).map Pt.core := by
    intro xs ys hm hb hs1 p hp
    obtain ⟨hpx, hne⟩ : p ∈ xs ∧ p.it.l ≠ [] := by
      rcases fold_mem hp with h | h
      · simp at h
      · exact h
    obtain ⟨q, hq, hk, hl⟩ := fold_keeps (l := []) List.Pairwise.nil p (.inr ⟨(hm p).1 hpx, hne⟩)
    obtain ⟨hqy, hne2⟩ : q ∈ ys ∧ q.it.l ≠ [] := by
      rcases fold_mem hq with h | h
      · simp at h
      · exact h
    obtain ⟨p', hp', hk', hl'⟩ := fold_keeps (l := []) List.Pairwise.nil q (.inr ⟨(hm q).2 hqy, hne2⟩)
    obtain rfl := sorted_one hs1 hp hp' (hk'.trans hk).symm
    exact List.mem_map.2 ⟨q, hq, begun_core (hb q ((hm q).2 hqy)) (hb p hpx) hk (by omega)⟩
  have hirr : ∀ c : Core, aheadC c c ≠ true := fun c h => by rw [aheadC_iff] at h; omega
  have n1 : ((xs.foldl stepP []).map Pt.core).Nodup := (core_pairs hs1).imp (fun {a b} h e => by subst e; exact hirr _ h)
  have n2 : ((ys.foldl stepP []).map Pt.core).Nodup := (core_pairs hs2).imp (fun {a b} h e => by subst e; exact hirr _ h)
  have hp : ((xs.foldl stepP []).map Pt.core).Perm ((ys.foldl stepP []).map Pt.core) := (List.perm_ext_iff_of_nodup n1 n2).2 fun c => by
    constructor
    · intro hc
      obtain ⟨p, hp, rfl⟩ := List.mem_map.1 hc
      exact half xs ys hm hb hs1 p hp
    · intro hc
      obtain ⟨p, hp, rfl⟩ := List.mem_map.1 hc
      exact half ys xs (fun x => (hm x).symm) (fun x hx => hb x ((hm x).2 hx)) hs2 p hp
  exact List.Perm.eq_of_pairwise (fun a b _ _ h1 h2 => by
    rw [aheadC_iff] at h1 h2
    exact absurd h1 (by omega)) (core_pairs hs1) (core_pairs hs2) hp
theorem cut_turned (rs : List Rp) (t : Nat) (hb : ∀ x ∈ rs.flatMap ptsOf, Begun x) : (cutP (rs.drop t ++ rs.take t)).map Pt.core = (cutP rs).map Pt.core := by
  refine (cores_same (xs := rs.flatMap ptsOf) (ys := (rs.drop t ++ rs.take t).flatMap ptsOf) (fun x => ?_) hb).symm
  rw [List.flatMap_append]
  conv => lhs; rw [← List.take_append_drop t rs, List.flatMap_append]
  simp only [List.mem_append]
  exact Or.comm
/-- The parts of right reports are right. -/
theorem ok_cut {rs : List Rp} (h : ∀ x ∈ rs.flatMap ptsOf, OldOk x.ep x.co ∧ 1 ≤ x.se ∧ x.se ≤ 8) : OkParts ((cutP rs).map Pt.core) := by
  have hs := cutP_sorted rs
  intro i c hc
  obtain ⟨p, hp, rfl⟩ := Option.map_eq_some_iff.1 (by rw [List.getElem?_map] at hc; exact hc)
  have hpm := List.mem_of_getElem? hp
  obtain ⟨hx, hne⟩ : p ∈ rs.flatMap ptsOf ∧ p.it.l ≠ [] := by
    rcases fold_mem hpm with h | h
    · simp at h
    · exact h
  obtain ⟨k1, k2⟩ := h p hx
  refine ⟨k1, k2, hne, fun d hi hd => ?_⟩
  obtain ⟨q, hq, rfl⟩ := Option.map_eq_some_iff.1 (by rw [List.getElem?_map] at hd; exact hd)
  obtain ⟨h1, e1⟩ := List.getElem?_eq_some_iff.1 hp
  obtain ⟨h2, e2⟩ := List.getElem?_eq_some_iff.1 hq
  have := List.pairwise_iff_getElem.1 hs (i - 1) i h2 h1 (by omega)
  rw [e1, e2] at this
  exact this
theorem numT_depth (n : Nat) : Tm.depthOf (numT n) = 1 := (Tm.depth_of_parse (p := numT n) (d := 1) (Tm.number_parse n) (by simp [numT, Tm.be8_length])).1
theorem nums_put {zs : List Bytes} (h : ∀ z ∈ zs, ∃ k, z = numT k) (hl : zs.length ≤ 100) : rowE zs = 0 := by
  have hw : Tm.wrongIn zs = false := by
    unfold Tm.wrongIn
    rw [List.any_eq_false]
    intro z hz
    obtain ⟨k, rfl⟩ := h z hz
    simp [numT_depth]
  have hlen : (Tm.rowL zs).length ≤ 10 * zs.length + 9 := by
    clear hw hl
    induction zs with
    | nil => simp [Tm.rowL, Tm.num0, Tm.be8_length]
    | cons z zs ih =>
      have := ih (fun z hz => h z (by simp [hz]))
      obtain ⟨k, rfl⟩ := h z (by simp)
      rw [Tm.rowL_cons, List.length_cons, List.length_append, List.length_cons]
      simp only [numT, List.length_cons, Tm.be8_length]
      omega
  have hd : Tm.deepR zs ≤ zs.length + 1 := by
    clear hl hlen
    induction zs with
    | nil => simp [Tm.deepR]
    | cons z zs ih =>
      obtain ⟨h1, h2⟩ := Tm.wrongIn_cons hw
      have := ih (fun z hz => h z (by simp [hz])) h2
      obtain ⟨k, rfl⟩ := h z (by simp)
      rw [Tm.deepR_cons zs h1, numT_depth, List.length_cons]
      omega
  have := Tm.putRow_mk (by omega) hw (by omega) (by omega)
  unfold rowE
  rw [this]
theorem part_put {p : Pt} (hb : Begun p) (hl : p.it.l.length ≤ 50) : rowE (rowPt p.core) = 0 := by
  obtain ⟨s, n, e1, e2⟩ := hb
  refine nums_put (fun z hz => ?_) (by simp only [rowPt, Pt.core, List.length_cons]; omega)
  simp only [rowPt, Pt.core, List.mem_cons] at hz
  rcases hz with rfl | rfl | rfl | hz
  · exact ⟨_, rfl⟩
  · exact ⟨_, rfl⟩
  · exact ⟨_, rfl⟩
  · rw [e2] at hz
    obtain ⟨i, _, rfl⟩ := List.mem_map.1 hz
    exact ⟨_, rfl⟩
end Go.Proofs.Ytkalmfhebffklaa.L11
end
