/- What the longest rows, and what is missing, come to where the reports are rows. The parts of reports: in whatever order they are gone through. What CutAll comes to: the longest rows of those of the old view, and that each has, with what it lacked, just these. -/
import Derived.Test.YtckmpbmlneionaaCtGc
import Derived.Test.YtckmpbmlneionaaCtGe
section
namespace Go.Proofs.Ytckmpbmlneionaa.L11
open Go.ChangeShapes Go.WideShapes Go.ChangeAt Go.RowKit Go.Deep

theorem insP_last {l : List Pt} {x : Pt} (h : ∀ p ∈ l, aheadP p x = true) : insP l x = l ++ [x] := by
  induction l with
  | nil => rfl
  | cons y l ih =>
    have hy := h y (by simp)
    unfold insP
    rw [if_neg (ahead_irrefl hy), if_neg (ahead_not hy), ih (fun p hp => h p (by simp [hp]))]
    rfl
theorem fold_append {xs l : List Pt} (hs : SortedP (l ++ xs)) (hne : ∀ x ∈ xs, x.it.l ≠ []) : xs.foldl stepP l = l ++ xs := by
  induction xs generalizing l with
  | nil => simp
  | cons x xs ih =>
    have h1 : stepP l x = l ++ [x] := by
      unfold stepP
      rw [if_neg (hne x (by simp))]
      exact insP_last (fun p hp => (List.pairwise_append.1 hs).2.2 p hp x (by simp))
    rw [List.foldl_cons, h1, ih (by simpa using hs) (fun y hy => hne y (by simp [hy]))]
    simp
/-- Senders rise, and each has items. -/
def RisingC (lc : List LCore) : Prop := lc.Pairwise (fun x y => x.1 < y.1) ∧ ∀ c ∈ lc, c.2 ≠ []
theorem cut_one {r : Rp} {lc : List LCore} (h : r.lg.map Lg.core = lc) (hr : RisingC lc) : (cutP [r]).map Pt.core = lc.map (fun c => (r.ep, r.co, c.1, c.2)) := by
  subst h
  have hp : SortedP (ptsOf r) := by
    unfold SortedP ptsOf
    rw [List.pairwise_map]
    have := List.pairwise_map.1 hr.1
    refine this.imp ?_
    intro a b hab
    rw [aheadP_iff]
    exact .inr ⟨rfl, .inr ⟨rfl, hab⟩⟩
  have hne : ∀ x ∈ ptsOf r, x.it.l ≠ [] := fun x hx => by
    obtain ⟨g, hg, rfl⟩ := List.mem_map.1 hx
    exact hr.2 g.core (List.mem_map.2 ⟨g, hg, rfl⟩)
  have e : cutP [r] = ptsOf r := by
    unfold cutP
    rw [List.flatMap_cons, List.flatMap_nil, List.append_nil, fold_append (l := []) (by simpa using hp) hne]
    rfl
  rw [e]
  simp only [ptsOf, List.map_map]
  rfl
theorem rowsC_mem {f : Nat → Nat} {t : Nat} {c : LCore} (h : c ∈ rowsC f t) : ∃ s : Nat, 1 ≤ s ∧ s ≤ t ∧ f s ≠ 0 ∧ c = ((s : Int), numsL s (f s)) := by
  obtain ⟨j, hj, hc⟩ := List.mem_flatMap.1 h
  rw [List.mem_range] at hj
  unfold rowOne at hc
  split at hc
  · simp at hc
  · rename_i hf
    simp only [List.mem_singleton] at hc
    exact ⟨j + 1, by omega, by omega, hf, hc⟩
theorem mem_rowsC {f : Nat → Nat} {t s : Nat} (h1 : 1 ≤ s) (h2 : s ≤ t) (hf : f s ≠ 0) : ((s : Int), numsL s (f s)) ∈ rowsC f t := by
  refine List.mem_flatMap.2 ⟨s - 1, List.mem_range.2 (by omega), ?_⟩
  rw [show s - 1 + 1 = s by omega, rowOne, if_neg hf]
  simp
theorem rowsC_rising (f : Nat → Nat) (t : Nat) : RisingC (rowsC f t) := by
  induction t with
  | zero => exact ⟨List.Pairwise.nil, by simp [rowsC]⟩
  | succ t ih =>
    rw [rowsC_succ]
    constructor
    · refine List.pairwise_append.2 ⟨ih.1, by unfold rowOne; split <;> simp, fun a ha b hb => ?_⟩
      obtain ⟨s, _, hs, _, rfl⟩ := rowsC_mem ha
      unfold rowOne at hb
      split at hb
      · simp at hb
      · simp at hb
        subst hb
        simp only
        omega
    · intro c hc
      rcases List.mem_append.1 hc with hc | hc
      · exact ih.2 c hc
      · unfold rowOne at hc
        split at hc
        · simp at hc
        · rename_i hf
          simp at hc
          subst hc
          intro e
          have := congrArg List.length e
          rw [numsL_len] at this
          exact hf this
theorem rowsC_len (f : Nat → Nat) (t : Nat) : (rowsC f t).length ≤ t := by
  induction t with
  | zero => simp [rowsC]
  | succ t ih =>
    rw [rowsC_succ, List.length_append]
    have : (rowOne f (t + 1)).length ≤ 1 := by unfold rowOne; split <;> simp
    omega
theorem ownC_mem {lc : List LCore} (hr : RisingC lc) {c : LCore} (hc : c ∈ lc) : ownC lc c.1 = c.2 := by
  unfold ownC
  cases hf : lc.find? (fun l => decide (l.1 = c.1)) with
  | none => exact absurd (show decide (c.1 = c.1) = true by simp) (List.find?_eq_none.1 hf c hc)
  | some d =>
    have hd := List.mem_of_find?_eq_some hf
    have he : d.1 = c.1 := by simpa using List.find?_some hf
    have : d = c := by
      have key : ∀ (l : List LCore), l.Pairwise (fun x y => x.1 < y.1) → d ∈ l → c ∈ l → d = c := by
        intro l
        induction l with
        | nil => intro _ h; simp at h
        | cons y l ih =>
          intro hp h1 h2
          obtain ⟨q1, q2⟩ := List.pairwise_cons.1 hp
          rcases List.mem_cons.1 h1 with e1 | h1
          · rcases List.mem_cons.1 h2 with e2 | h2
            · rw [e1, e2]
            · have := q1 c h2; rw [← e1] at this; omega
          · rcases List.mem_cons.1 h2 with e2 | h2
            · have := q1 d h1; rw [← e2] at this; omega
            · exact ih q2 h1 h2
      exact key lc hr.1 hd hc
    rw [this]
theorem ownC_none {lc : List LCore} {s : Int} (h : ∀ c ∈ lc, c.1 ≠ s) : ownC lc s = [] := by
  unfold ownC
  rw [List.find?_eq_none.2 (fun c hc => by simpa using h c hc)]
/-- One's own parts: nothing lacks. -/
theorem miss_own {lc : List LCore} (hr : RisingC lc) (ep co : Int) : missC (lc.map (fun c => (ep, co, c.1, c.2))) ep co lc = [] := by
  unfold missC
  rw [List.flatMap_eq_nil_iff]
  intro x hx
  obtain ⟨c, hc, rfl⟩ := List.mem_map.1 hx
  unfold missOne
  simp only
  rw [ownC_mem hr hc, if_neg (by omega)]
theorem miss_other {lc : List LCore} (ep co ep' co' : Int) (h : ¬ (ep = ep' ∧ co = co')) (k : List LCore) : missC (lc.map (fun c => (ep, co, c.1, c.2))) ep' co' k = [] := by
  unfold missC
  rw [List.flatMap_eq_nil_iff]
  intro x hx
  obtain ⟨c, hc, rfl⟩ := List.mem_map.1 hx
  unfold missOne
  simp only
  rw [if_neg (fun e => h ⟨e.1, e.2.1⟩)]
theorem miss_all {lc : List LCore} (hr : ∀ c ∈ lc, c.2 ≠ []) (ep co : Int) : missC (lc.map (fun c => (ep, co, c.1, c.2))) ep co [] = lc := by
  unfold missC
  induction lc with
  | nil => rfl
  | cons c l ih =>
    have h0 : ownC [] c.1 = [] := rfl
    rw [List.map_cons, List.flatMap_cons, ih (fun d hd => hr d (by simp [hd]))]
    have : missOne ep co [] (ep, co, c.1, c.2) = [c] := by
      unfold missOne
      simp only
      rw [h0, if_pos ⟨trivial, trivial, by simpa using List.length_pos_iff.2 (hr c (by simp)), by simp [beginsL]⟩]
      simp
    rw [this]
    rfl
end Go.Proofs.Ytckmpbmlneionaa.L11
end

section
namespace Go.Proofs.Ytckmpbmlneionaa.L11
open Go.ChangeShapes Go.WideShapes Go.ChangeAt Go.RowKit Go.Deep Go.Sort

/-- Each that has items is kept, or one of its key that is as long. -/
theorem step_keeps {l : List Pt} (h : SortedP l) (x : Pt) : ∀ z, (z ∈ l ∨ z = x ∧ x.it.l ≠ []) → ∃ p ∈ stepP l x, keyP p = keyP z ∧ z.it.l.length ≤ p.it.l.length := by
  intro z hz
  by_cases hlt : lenAt l x < x.it.l.length
  · have hy := stepP_yes h hlt
    rcases hz with hz | ⟨rfl, _⟩
    · by_cases hk : keyP z = keyP x
      · exact ⟨x, (hy x).2 (.inl rfl), hk.symm, by rw [← lenAt_some h hz hk]; omega⟩
      · exact ⟨z, (hy z).2 (.inr ⟨hz, hk⟩), rfl, Nat.le_refl _⟩
    · exact ⟨z, (hy z).2 (.inl rfl), rfl, Nat.le_refl _⟩
  · rw [stepP_no h hlt]
    rcases hz with hz | ⟨rfl, hne⟩
    · exact ⟨z, hz, rfl, Nat.le_refl _⟩
    · by_cases hk : ∃ p ∈ l, keyP p = keyP z
      · obtain ⟨p, hp, hk⟩ := hk
        exact ⟨p, hp, hk, by rw [lenAt_some h hp hk] at hlt; omega⟩
      · rw [lenAt_none (fun p hp e => hk ⟨p, hp, e⟩)] at hlt
        exact absurd (List.length_pos_iff.2 hne) hlt
theorem fold_keeps {xs l : List Pt} (h : SortedP l) : ∀ z, (z ∈ l ∨ z ∈ xs ∧ z.it.l ≠ []) → ∃ p ∈ xs.foldl stepP l, keyP p = keyP z ∧ z.it.l.length ≤ p.it.l.length := by
  induction xs generalizing l with
  | nil =>
    intro z hz
    rcases hz with hz | ⟨hz, _⟩
    · exact ⟨z, hz, rfl, Nat.le_refl _⟩
    · simp at hz
  | cons x xs ih =>
    intro z hz
    have hs := stepP_sorted h x
    have key : (z ∈ l ∨ z = x ∧ x.it.l ≠ []) → ∃ p ∈ xs.foldl stepP (stepP l x), keyP p = keyP z ∧ z.it.l.length ≤ p.it.l.length := fun hz => by
      obtain ⟨p, hp, hk, hl⟩ := step_keeps h x z hz
      obtain ⟨q, hq, hk2, hl2⟩ := ih hs p (.inl hp)
      exact ⟨q, hq, hk2.trans hk, Nat.le_trans hl hl2⟩
    rcases hz with hz | ⟨hz, hne⟩
    · exact key (.inl hz)
    · rcases List.mem_cons.1 hz with rfl | hz
      · exact key (.inr ⟨rfl, hne⟩)
      · exact ih hs z (.inr ⟨hz, hne⟩)
/-- A part whose items are a beginning of its sender's row. -/
def Begun (x : Pt) : Prop := ∃ s n : Nat, x.se = s ∧ x.it.l = numsL s n
theorem begun_core {p q : Pt} (hp : Begun p) (hq : Begun q) (hk : keyP p = keyP q) (hl : p.it.l.length = q.it.l.length) : p.core = q.core := by
  obtain ⟨s, n, e1, e2⟩ := hp
  obtain ⟨s', n', e3, e4⟩ := hq
  obtain ⟨k1, k2, k3⟩ := (key_iff _ _).1 hk
  have hs : s = s' := by rw [e1, e3] at k3; omega
  subst hs
  rw [e2, e4, numsL_len, numsL_len] at hl
  subst hl
  unfold Pt.core
  rw [k1, k2, k3, e2, e4]
theorem core_pairs {l : List Pt} (h : SortedP l) : (l.map Pt.core).Pairwise (fun x y => aheadC x y = true) := List.pairwise_map.2 (h.imp (fun h => h))
theorem aheadC_iff (x y : Core) : aheadC x y = true ↔ x.1 < y.1 ∨ x.1 = y.1 ∧ (x.2.1 < y.2.1 ∨ x.2.1 = y.2.1 ∧ x.2.2.1 < y.2.2.1) := by
  simp only [aheadC, Bool.or_eq_true, lessB_iff, Bool.and_eq_true, decide_eq_true_eq]
  omega
theorem cores_same {xs ys : List Pt} (hm : ∀ x, x ∈ xs ↔ x ∈ ys) (hb : ∀ x ∈ xs, Begun x) : (xs.foldl stepP []).map Pt.core = (ys.foldl stepP []).map Pt.core := by
  have hs1 : SortedP (xs.foldl stepP []) := fold_sorted List.Pairwise.nil
  have hs2 : SortedP (ys.foldl stepP []) := fold_sorted List.Pairwise.nil
  have half : ∀ (xs ys : List Pt), (∀ x, x ∈ xs ↔ x ∈ ys) → (∀ x ∈ xs, Begun x) → SortedP (xs.foldl stepP []) → ∀ p ∈ xs.foldl stepP [], p.core ∈ (ys.foldl stepP []).map Pt.core := by
    intro xs ys hm hb hs1 p hp
    obtain ⟨hpx, hne⟩ : p ∈ xs ∧ p.it.l ≠ [] := by
      rcases fold_mem hp with h | h
      · simp at h
      · exact h
    obtain ⟨q, hq, hk, hl⟩ := fold_keeps (l := []) List.Pairwise.nil p (.inr ⟨(hm p).1 hpx, hne⟩)
    obtain ⟨hqy, hne2⟩ : q ∈ ys ∧ q.it.l ≠ [] := by
      rcases fold_mem hq with h | h
      · simp at h
      · exact h
    obtain ⟨p', hp', hk', hl'⟩ := fold_keeps (l := []) List.Pairwise.nil q (.inr ⟨(hm q).2 hqy, hne2⟩)
    obtain rfl := sorted_one hs1 hp hp' (hk'.trans hk).symm
    exact List.mem_map.2 ⟨q, hq, begun_core (hb q ((hm q).2 hqy)) (hb p hpx) hk (by omega)⟩
  have hirr : ∀ c : Core, aheadC c c ≠ true := fun c h => by rw [aheadC_iff] at h; omega
  have n1 : ((xs.foldl stepP []).map Pt.core).Nodup := (core_pairs hs1).imp (fun {a b} h e => by subst e; exact hirr _ h)
  have n2 : ((ys.foldl stepP []).map Pt.core).Nodup := (core_pairs hs2).imp (fun {a b} h e => by subst e; exact hirr _ h)
  have hp : ((xs.foldl stepP []).map Pt.core).Perm ((ys.foldl stepP []).map Pt.core) := (List.perm_ext_iff_of_nodup n1 n2).2 fun c => by
    constructor
    · intro hc
      obtain ⟨p, hp, rfl⟩ := List.mem_map.1 hc
      exact half xs ys hm hb hs1 p hp
    · intro hc
      obtain ⟨p, hp, rfl⟩ := List.mem_map.1 hc
      exact half ys xs (fun x => (hm x).symm) (fun x hx => hb x ((hm x).2 hx)) hs2 p hp
  exact List.Perm.eq_of_pairwise (fun a b _ _ h1 h2 => by
    rw [aheadC_iff] at h1 h2
    exact absurd h1 (by omega)) (core_pairs hs1) (core_pairs hs2) hp
theorem cut_turned (rs : List Rp) (t : Nat) (hb : ∀ x ∈ rs.flatMap ptsOf, Begun x) : (cutP (rs.drop t ++ rs.take t)).map Pt.core = (cutP rs).map Pt.core := by
  refine (cores_same (xs := rs.flatMap ptsOf) (ys := (rs.drop t ++ rs.take t).flatMap ptsOf) (fun x => ?_) hb).symm
  rw [List.flatMap_append]
  conv => lhs; rw [← List.take_append_drop t rs, List.flatMap_append]
  simp only [List.mem_append]
  exact Or.comm
/-- The parts of right reports are right. -/
theorem ok_cut {rs : List Rp} (h : ∀ x ∈ rs.flatMap ptsOf, OldOk x.ep x.co ∧ 1 ≤ x.se ∧ x.se ≤ 8) : OkParts ((cutP rs).map Pt.core) := by
  have hs := cutP_sorted rs
  intro i c hc
  obtain ⟨p, hp, rfl⟩ := Option.map_eq_some_iff.1 (by rw [List.getElem?_map] at hc; exact hc)
  have hpm := List.mem_of_getElem? hp
  obtain ⟨hx, hne⟩ : p ∈ rs.flatMap ptsOf ∧ p.it.l ≠ [] := by
    rcases fold_mem hpm with h | h
    · simp at h
    · exact h
  obtain ⟨k1, k2⟩ := h p hx
  refine ⟨k1, k2, hne, fun d hi hd => ?_⟩
  obtain ⟨q, hq, rfl⟩ := Option.map_eq_some_iff.1 (by rw [List.getElem?_map] at hd; exact hd)
  obtain ⟨h1, e1⟩ := List.getElem?_eq_some_iff.1 hp
  obtain ⟨h2, e2⟩ := List.getElem?_eq_some_iff.1 hq
  have := List.pairwise_iff_getElem.1 hs (i - 1) i h2 h1 (by omega)
  rw [e1, e2] at this
  exact this
theorem numT_depth (n : Nat) : Tm.depthOf (numT n) = 1 := (Tm.depth_of_parse (p := numT n) (d := 1) (Tm.number_parse n) (by simp [numT, Tm.be8_length])).1
theorem nums_put {zs : List Bytes} (h : ∀ z ∈ zs, ∃ k, z = numT k) (hl : zs.length ≤ 100) : rowE zs = 0 := by
  have hw : Tm.wrongIn zs = false := by
    unfold Tm.wrongIn
    rw [List.any_eq_false]
    intro z hz
    obtain ⟨k, rfl⟩ := h z hz
    simp [numT_depth]
  have hlen : (Tm.rowL zs).length ≤ 10 * zs.length + 9 := by
    clear hw hl
    induction zs with
    | nil => simp [Tm.rowL, Tm.num0, Tm.be8_length]
    | cons z zs ih =>
      have := ih (fun z hz => h z (by simp [hz]))
      obtain ⟨k, rfl⟩ := h z (by simp)
      rw [Tm.rowL_cons, List.length_cons, List.length_append, List.length_cons]
      simp only [numT, List.length_cons, Tm.be8_length]
      omega
  have hd : Tm.deepR zs ≤ zs.length + 1 := by
    clear hl hlen
    induction zs with
    | nil => simp [Tm.deepR]
    | cons z zs ih =>
      obtain ⟨h1, h2⟩ := Tm.wrongIn_cons hw
      have := ih (fun z hz => h z (by simp [hz])) h2
      obtain ⟨k, rfl⟩ := h z (by simp)
      rw [Tm.deepR_cons zs h1, numT_depth, List.length_cons]
      omega
  have := Tm.putRow_mk (by omega) hw (by omega) (by omega)
  unfold rowE
  rw [this]
theorem part_put {p : Pt} (hb : Begun p) (hl : p.it.l.length ≤ 50) : rowE (rowPt p.core) = 0 := by
  obtain ⟨s, n, e1, e2⟩ := hb
  refine nums_put (fun z hz => ?_) (by simp only [rowPt, Pt.core, List.length_cons]; omega)
  simp only [rowPt, Pt.core, List.mem_cons] at hz
  rcases hz with rfl | rfl | rfl | hz
  · exact ⟨_, rfl⟩
  · exact ⟨_, rfl⟩
  · exact ⟨_, rfl⟩
  · rw [e2] at hz
    obtain ⟨i, _, rfl⟩ := List.mem_map.1 hz
    exact ⟨_, rfl⟩
end Go.Proofs.Ytckmpbmlneionaa.L11
end

section
namespace Go.Proofs.Ytckmpbmlneionaa.L11
open Go.ChangeShapes Go.WideShapes Go.ChangeAt Go.RowKit Go.Deep Go.Sort

/-- The items of one sender, log behind log. -/
def gath (lc : List LCore) (s : Int) : List Bytes := (lc.filter fun c => decide (c.1 = s)).flatMap (·.2)
theorem gath_snoc (lc : List LCore) (c : LCore) (s : Int) : gath (lc ++ [c]) s = gath lc s ++ (if c.1 = s then c.2 else []) := by
  unfold gath
  rw [List.filter_append, List.flatMap_append]
  by_cases h : c.1 = s <;> simp [h]
theorem gath_none {lc : List LCore} {s : Int} (h : ∀ c ∈ lc, c.1 ≠ s) : gath lc s = [] := by
  unfold gath
  rw [List.filter_eq_nil_iff.2 (fun c hc => by simpa using h c hc)]
  rfl
theorem gath_append (a b : List LCore) (s : Int) : gath (a ++ b) s = gath a s ++ gath b s := by
  unfold gath
  rw [List.filter_append, List.flatMap_append]
theorem gath_one (c : LCore) : gath [c] c.1 = c.2 := by simp [gath]
theorem gath_rows (f : Nat → Nat) (t s : Nat) (h1 : 1 ≤ s) (h2 : s ≤ t) : gath (rowsC f t) (s : Int) = numsL s (f s) := by
  induction t with
  | zero => omega
  | succ t ih =>
    rw [rowsC_succ, gath_append]
    by_cases hs : s ≤ t
    · rw [ih hs]
      have : gath (rowOne f (t + 1)) (s : Int) = [] := gath_none (fun c hc => by
        unfold rowOne at hc
        split at hc
        · simp at hc
        · simp at hc; subst hc; simp only; omega)
      rw [this, List.append_nil]
    · obtain rfl : s = t + 1 := by omega
      have e : gath (rowsC f t) ((t + 1 : Nat) : Int) = [] := gath_none (fun c hc => by
        obtain ⟨s, _, hs, _, rfl⟩ := rowsC_mem hc
        simp only
        omega)
      rw [e, List.nil_append]
      unfold rowOne
      split
      · rename_i h0
        rw [h0]; rfl
      · exact gath_one (((t + 1 : Nat) : Int), numsL (t + 1) (f (t + 1)))
theorem nums_take {s a b : Nat} (h : a ≤ b) : (numsL s b).take a = numsL s a := by
  unfold numsL
  rw [← List.map_take, List.take_range, Nat.min_eq_left h]
theorem nums_begin {s a b : Nat} (h : a ≤ b) : beginsL (numsL s a) (numsL s b) = true := by
  unfold beginsL
  rw [numsL_len, numsL_len, nums_take h]
  simp [h]
theorem nums_join {s a b : Nat} (h : a ≤ b) : numsL s a ++ (numsL s b).drop a = numsL s b := by
  conv => rhs; rw [← List.take_append_drop a (numsL s b), nums_take h]

/-- The most that one of those ahead of i, of the old view, has of a sender. -/
def mostUp (xss : List (Value × List Int)) (other : Int) : Nat → Nat → Nat
  | 0, _ => 0
  | i + 1, s => if (i : Int) = other then mostUp xss other i s else max (mostUp xss other i s) (nOf ((xss[i]?.getD (.bool false, [])).2) s)
theorem nOf_five (xs : List Int) (s : Nat) : nOf xs s ≤ 5 := by
  unfold nOf
  split
  · have := pickN_lt (xs.getD (s - 1) 0) (n := 6) (by omega); omega
  · omega
theorem mostUp_five (xss : List (Value × List Int)) (other : Int) (i s : Nat) : mostUp xss other i s ≤ 5 := by
  induction i with
  | zero => simp [mostUp]
  | succ i ih =>
    unfold mostUp
    split
    · exact ih
    · have := nOf_five ((xss[i]?.getD (.bool false, [])).2) s
      omega
theorem mostUp_ge {xss : List (Value × List Int)} {other : Int} {n j s : Nat} {x : Value × List Int} (hj : j < n) (hx : xss[j]? = some x) (ho : (j : Int) ≠ other) : nOf x.2 s ≤ mostUp xss other n s := by
  induction n with
  | zero => omega
  | succ n ih =>
    unfold mostUp
    by_cases hjn : j = n
    · subst hjn
      rw [if_neg ho, hx]
      exact Nat.le_max_right _ _
    · have := ih (by omega)
      split <;> omega
theorem mostUp_is {xss : List (Value × List Int)} {other : Int} {n s : Nat} (hn : n ≤ xss.length) (h : mostUp xss other n s ≠ 0) : ∃ j x, j < n ∧ xss[j]? = some x ∧ (j : Int) ≠ other ∧ nOf x.2 s = mostUp xss other n s := by
  induction n with
  | zero => exact absurd rfl h
  | succ n ih =>
    unfold mostUp at h ⊢
    split
    · rename_i ho
      rw [if_pos ho] at h
      obtain ⟨j, x, h1, h2, h3, h4⟩ := ih (by omega) h
      exact ⟨j, x, by omega, h2, h3, h4⟩
    · rename_i ho
      rw [if_neg ho] at h
      obtain ⟨x, hx⟩ : ∃ x, xss[n]? = some x := ⟨_, List.getElem?_eq_getElem (by omega)⟩
      rw [hx] at h ⊢
      simp only [Option.getD_some] at h ⊢
      rcases Nat.le_total (mostUp xss other n s) (nOf x.2 s) with hle | hle
      · exact ⟨n, x, by omega, hx, ho, (Nat.max_eq_right hle).symm⟩
      · rw [Nat.max_eq_left hle] at h ⊢
        obtain ⟨j, y, h1, h2, h3, h4⟩ := ih (by omega) h
        exact ⟨j, y, by omega, h2, h3, h4⟩
/-- The reports of a law: each one's rows, all of one old view, but one. -/
def RepAll (xss : List (Value × List Int)) (other : Int) (j : Nat) (r : Rp) : Prop :=
  ∃ x, xss[j]? = some x ∧ r.lg.map Lg.core = rowsC (nOf x.2) 3 ∧ ((j : Int) = other ∧ r.ep = 5 ∧ r.co = 1 ∨ (j : Int) ≠ other ∧ r.ep = 0 ∧ r.co = 0)
theorem all_pts {xss : List (Value × List Int)} {other : Int} {rs : List Rp} (h : ∀ j r, rs[j]? = some r → RepAll xss other j r) {p : Pt} (hp : p ∈ rs.flatMap ptsOf) :
    ∃ (j : Nat) (x : Value × List Int) (s : Nat), j < rs.length ∧ xss[j]? = some x ∧ 1 ≤ s ∧ s ≤ 3 ∧ p.se = s ∧ p.it.l = numsL s (nOf x.2 s) ∧ ((j : Int) = other ∧ p.ep = 5 ∧ p.co = 1 ∨ (j : Int) ≠ other ∧ p.ep = 0 ∧ p.co = 0) := by
  obtain ⟨r, hr, hpr⟩ := List.mem_flatMap.1 hp
  obtain ⟨j, hj, e⟩ := List.mem_iff_getElem.1 hr
  obtain ⟨x, hx, hc, ho⟩ := h j r (by rw [List.getElem?_eq_getElem hj, e])
  obtain ⟨g, hg, rfl⟩ := List.mem_map.1 hpr
  have hm : g.core ∈ rowsC (nOf x.2) 3 := by rw [← hc]; exact List.mem_map.2 ⟨g, hg, rfl⟩
  obtain ⟨s, h1, h2, h3, h4⟩ := rowsC_mem hm
  exact ⟨j, x, s, hj, hx, h1, h2, congrArg Prod.fst h4, congrArg Prod.snd h4, ho⟩
/-- What is kept of a sender of the old view is the longest. -/
theorem all_kept {xss : List (Value × List Int)} {other : Int} {rs : List Rp} (hl : rs.length = xss.length) (h : ∀ j r, rs[j]? = some r → RepAll xss other j r) {s : Nat} (h1 : 1 ≤ s) (h3 : s ≤ 3)
    (hm : mostUp xss other xss.length s ≠ 0) : ∃ p ∈ cutP rs, p.ep = 0 ∧ p.co = 0 ∧ p.se = s ∧ p.it.l = numsL s (mostUp xss other xss.length s) := by
  obtain ⟨j, x, hj, hx, ho, hn⟩ := mostUp_is (Nat.le_refl _) hm
  obtain ⟨r, hr⟩ : ∃ r, rs[j]? = some r := ⟨_, List.getElem?_eq_getElem (by omega)⟩
  obtain ⟨x', hx', hc, ho'⟩ := h j r hr
  rw [hx] at hx'
  obtain rfl := Option.some.inj hx'
  have hcm : ((s : Int), numsL s (nOf x.2 s)) ∈ rowsC (nOf x.2) 3 := mem_rowsC h1 h3 (by rw [hn]; exact hm)
  rw [← hc] at hcm
  obtain ⟨g, hg, hgc⟩ := List.mem_map.1 hcm
  have he : r.ep = 0 ∧ r.co = 0 := by
    rcases ho' with ⟨e, _⟩ | ⟨_, e⟩
    · exact absurd e ho
    · exact e
  have hz : (⟨r.ep, r.co, g.se, g.it⟩ : Pt) ∈ rs.flatMap ptsOf := List.mem_flatMap.2 ⟨r, List.mem_of_getElem? hr, List.mem_map.2 ⟨g, hg, rfl⟩⟩
  have hgs : g.se = s := congrArg Prod.fst hgc
  have hgl : g.it.l = numsL s (nOf x.2 s) := congrArg Prod.snd hgc
  have hne : g.it.l ≠ [] := fun e => by
    have := congrArg List.length e
    rw [hgl, numsL_len, hn] at this
    exact hm this
  obtain ⟨p, hp, hk, hlen⟩ := fold_keeps (l := []) List.Pairwise.nil ⟨r.ep, r.co, g.se, g.it⟩ (.inr ⟨hz, hne⟩)
  obtain ⟨k1, k2, k3⟩ := (key_iff _ _).1 hk
  simp only at k1 k2 k3 hlen
  have hpm : p ∈ rs.flatMap ptsOf := by
    rcases fold_mem hp with h | ⟨h, _⟩
    · simp at h
    · exact h
  obtain ⟨j2, y, s2, hj2, hy, _, _, q1, q2, q3⟩ := all_pts h hpm
  have hs2 : s2 = s := by rw [k3, hgs] at q1; omega
  subst hs2
  have ho2 : (j2 : Int) ≠ other := by
    rcases q3 with ⟨_, e, _⟩ | ⟨e, _⟩
    · rw [k1, he.1] at e; cases e
    · exact e
  have hge := mostUp_ge (n := xss.length) (s := s2) (by omega) hy ho2
  have hlen2 : p.it.l.length = mostUp xss other xss.length s2 := by
    rw [hgl, numsL_len, hn] at hlen
    have : p.it.l.length = nOf y.2 s2 := by rw [q2, numsL_len]
    omega
  refine ⟨p, hp, by rw [k1, he.1], by rw [k2, he.2], by rw [k3, hgs], ?_⟩
  rw [q2, numsL_len] at hlen2
  rw [q2, hlen2]
/-- What one has of a sender, with what it lacked. -/
theorem all_gathered {xss : List (Value × List Int)} {other : Int} {rs : List Rp} (hl : rs.length = xss.length) (h : ∀ j r, rs[j]? = some r → RepAll xss other j r) {s : Nat} (h1 : 1 ≤ s) (h3 : s ≤ 3)
    (hm : mostUp xss other xss.length s ≠ 0) {i : Nat} {x : Value × List Int} (hx : xss[i]? = some x) (ho : (i : Int) ≠ other) :
    gath (rowsC (nOf x.2) 3) s ++ gath (missC ((cutP rs).map Pt.core) 0 0 (rowsC (nOf x.2) 3)) s = numsL s (mostUp xss other xss.length s) := by
  obtain ⟨p, hp, e1, e2, e3, e4⟩ := all_kept hl h h1 h3 hm
  have hle := mostUp_ge (n := xss.length) (s := s) (List.getElem?_eq_some_iff.1 hx).1 hx ho
  rw [gath_rows _ _ _ h1 h3]
  obtain ⟨l1, l2, hsp⟩ := List.append_of_mem hp
  have hs := cutP_sorted rs
  have hown : ownC (rowsC (nOf x.2) 3) (s : Int) = numsL s (nOf x.2 s) := by
    by_cases h0 : nOf x.2 s = 0
    · rw [h0, ownC_none (fun c hc => by
        obtain ⟨s', _, _, hn, rfl⟩ := rowsC_mem hc
        intro e
        have e' : s' = s := by simp only at e; omega
        exact hn (by rw [e']; exact h0))]
      rfl
    · exact ownC_mem (rowsC_rising _ _) (mem_rowsC h1 h3 h0)
  have hoth : ∀ q ∈ cutP rs, keyP q ≠ keyP p → gath (missOne 0 0 (rowsC (nOf x.2) 3) q.core) s = [] := fun q hq hk => by
    unfold missOne
    split
    · rename_i hc
      refine gath_none (fun c hc' => ?_)
      simp at hc'
      subst hc'
      simp only [Pt.core] at hc ⊢
      intro e
      exact hk ((key_iff _ _).2 ⟨hc.1.trans e1.symm, hc.2.1.trans e2.symm, e.trans e3.symm⟩)
    · rfl
  have hnil : ∀ l : List Pt, (∀ q ∈ l, q ∈ cutP rs ∧ keyP q ≠ keyP p) → gath ((l.map Pt.core).flatMap (missOne 0 0 (rowsC (nOf x.2) 3))) s = [] := by
    intro l
    induction l with
    | nil => intro _; rfl
    | cons a l ih =>
      intro hq
      rw [List.map_cons, List.flatMap_cons, gath_append, ih (fun q hq' => hq q (by simp [hq'])), hoth a (hq a (by simp)).1 (hq a (by simp)).2]
      rfl
  have hp2 := hs
  rw [hsp] at hp2
  obtain ⟨_, hpl, hcr⟩ := List.pairwise_append.1 hp2
  obtain ⟨hpl2, _⟩ := List.pairwise_cons.1 hpl
  have hmid : gath (missOne 0 0 (rowsC (nOf x.2) 3) p.core) s = (numsL s (mostUp xss other xss.length s)).drop (nOf x.2 s) := by
    have hpc : p.core = (0, 0, (s : Int), numsL s (mostUp xss other xss.length s)) := by unfold Pt.core; rw [e1, e2, e3, e4]
    rw [hpc]
    unfold missOne
    simp only
    rw [hown, numsL_len, numsL_len, nums_begin hle]
    by_cases hlt : nOf x.2 s < mostUp xss other xss.length s
    · rw [if_pos ⟨trivial, trivial, hlt, rfl⟩]
      exact gath_one ((s : Int), _)
    · rw [if_neg (fun e => hlt e.2.2.1), List.drop_eq_nil_of_le (by rw [numsL_len]; omega)]
      rfl
  have e : gath (missC ((cutP rs).map Pt.core) 0 0 (rowsC (nOf x.2) 3)) s = (numsL s (mostUp xss other xss.length s)).drop (nOf x.2 s) := by
    unfold missC
    rw [hsp, List.map_append, List.map_cons, List.flatMap_append, List.flatMap_cons, gath_append, gath_append, hmid,
      hnil l1 (fun q hq => ⟨by rw [hsp]; simp [hq], ahead_irrefl (hcr q hq p (by simp))⟩), hnil l2 (fun q hq => ⟨by rw [hsp]; simp [hq], (ahead_irrefl (hpl2 q hq)).symm⟩)]
    simp
  rw [e, nums_join hle]
end Go.Proofs.Ytckmpbmlneionaa.L11
end
