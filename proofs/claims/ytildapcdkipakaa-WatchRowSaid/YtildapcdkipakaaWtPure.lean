/- The document's words of layer 9 over plain lists: what Quiet tells after a hearing and after a tick, and who is there; and the document's own way: when each was heard last. -/
import Derived.Test.YtildapcdkipakaaWtBase
namespace Go.Proofs.Ytildapcdkipakaa.L9

/-- Of eight processes, how many ticks ago each was heard. -/
structure WOk (me lim : Int) (L : List Int) : Prop where
  len : L.length = 8
  m1 : 1 ≤ me
  m2 : me ≤ 8
  l1 : 1 ≤ lim
  l2 : lim ≤ 100
  all : ∀ x ∈ L, 0 ≤ x ∧ x ≤ lim + 1
def hearL (L : List Int) (p : Int) : List Int := if 1 ≤ p ∧ p ≤ 8 then L.set (p - 1).toNat 0 else L
def tickTo (me lim : Int) (L : List Int) : Nat → List Int
  | 0 => L
  | i + 1 => if (i : Int) + 1 = me then tickTo me lim L i else (tickTo me lim L i).set i (min (L.getD i 0) lim + 1)
def tickL (me lim : Int) (L : List Int) : List Int := tickTo me lim L 8
def thereTo (lim : Int) (L : List Int) : Nat → List Int
  | 0 => []
  | i + 1 => if L.getD i 0 ≤ lim then thereTo lim L i ++ [(i : Int) + 1] else thereTo lim L i
def thereL (lim : Int) (L : List Int) : List Int := thereTo lim L 8
def newL (me lim : Int) : List Int := hearL (List.replicate 8 (lim + 1)) me

theorem tickTo_len (me lim : Int) (L : List Int) (i : Nat) : (tickTo me lim L i).length = L.length := by
  induction i with
  | zero => rfl
  | succ i ih => unfold tickTo; split <;> simp [ih]
theorem tickTo_at (me lim : Int) (L : List Int) {j : Nat} (hj : j < L.length) (i : Nat) : (tickTo me lim L i)[j]? = some (if j < i ∧ ¬ (j : Int) + 1 = me then min (L.getD j 0) lim + 1 else L.getD j 0) := by
  induction i with
  | zero => simp [tickTo, List.getD, List.getElem?_eq_getElem hj]
  | succ i ih =>
    have hl := tickTo_len me lim L i
    unfold tickTo
    by_cases hm : (i : Int) + 1 = me
    · rw [if_pos hm, ih]
      by_cases hji : j = i
      · subst hji; simp [hm]
      · congr 1
        by_cases h : j < i
        · simp [h, show j < i + 1 by omega]
        · simp [h, show ¬ j < i + 1 by omega]
    · rw [if_neg hm, List.getElem?_set]
      by_cases hji : i = j
      · subst hji; simp [hm, hl, hj]
      · rw [if_neg hji, ih]
        congr 1
        by_cases h : j < i
        · simp [h, show j < i + 1 by omega]
        · simp [h, show ¬ j < i + 1 by omega]
theorem getD_at {L : List Int} {j : Nat} (hj : j < L.length) : L[j]? = some (L.getD j 0) := by simp [List.getD, List.getElem?_eq_getElem hj]
theorem mem_getD {L : List Int} {x : Int} (h : x ∈ L) : ∃ j, j < L.length ∧ L.getD j 0 = x := by
  obtain ⟨j, hj, e⟩ := List.getElem_of_mem h
  exact ⟨j, hj, by simp [List.getD, List.getElem?_eq_getElem hj, e]⟩
theorem getD_mem {L : List Int} {j : Nat} (hj : j < L.length) : L.getD j 0 ∈ L := List.mem_of_getElem? (getD_at hj)
theorem tickL_get (me lim : Int) {L : List Int} (hl : L.length = 8) {j : Nat} (hj : j < 8) : (tickL me lim L).getD j 0 = if (j : Int) + 1 = me then L.getD j 0 else min (L.getD j 0) lim + 1 := by
  have := tickTo_at me lim L (j := j) (by omega) 8
  unfold tickL
  rw [List.getD, this, Option.getD_some]
  by_cases h : (j : Int) + 1 = me <;> simp [h, hj]
theorem tickL_len (me lim : Int) (L : List Int) : (tickL me lim L).length = L.length := tickTo_len me lim L 8
theorem hearL_len (L : List Int) (p : Int) : (hearL L p).length = L.length := by unfold hearL; split <;> simp
theorem hearL_get {L : List Int} (hl : L.length = 8) (p : Int) {j : Nat} (hj : j < 8) : (hearL L p).getD j 0 = if (j : Int) + 1 = p then 0 else L.getD j 0 := by
  unfold hearL
  by_cases hp : 1 ≤ p ∧ p ≤ 8
  · rw [if_pos hp, List.getD, List.getElem?_set]
    by_cases h : (p - 1).toNat = j
    · rw [if_pos h, if_pos (by omega), if_pos (by omega)]; rfl
    · rw [if_neg h, if_neg (by omega), List.getD]
  · rw [if_neg hp, if_neg (by omega)]
theorem WOk.hear {me lim : Int} {L : List Int} (h : WOk me lim L) (p : Int) : WOk me lim (hearL L p) := by
  refine ⟨(hearL_len L p).trans h.len, h.m1, h.m2, h.l1, h.l2, fun x hx => ?_⟩
  obtain ⟨j, hj, rfl⟩ := mem_getD hx
  rw [hearL_len, h.len] at hj
  rw [hearL_get h.len p hj]
  have hl1 := h.l1
  have := h.all _ (getD_mem (by rw [h.len]; exact hj))
  split <;> omega
theorem WOk.tick {me lim : Int} {L : List Int} (h : WOk me lim L) : WOk me lim (tickL me lim L) := by
  refine ⟨(tickL_len me lim L).trans h.len, h.m1, h.m2, h.l1, h.l2, fun x hx => ?_⟩
  obtain ⟨j, hj, rfl⟩ := mem_getD hx
  rw [tickL_len, h.len] at hj
  rw [tickL_get me lim h.len hj]
  have hl1 := h.l1
  have := h.all _ (getD_mem (by rw [h.len]; exact hj))
  split <;> omega
theorem WOk.new {me lim : Int} (m1 : 1 ≤ me) (m2 : me ≤ 8) (l1 : 1 ≤ lim) (l2 : lim ≤ 100) : WOk me lim (newL me lim) := by
  have h : WOk me lim (List.replicate 8 (lim + 1)) := ⟨by simp, m1, m2, l1, l2, fun x hx => by rw [List.eq_of_mem_replicate hx]; omega⟩
  exact h.hear me
theorem newL_get {me lim : Int} {j : Nat} (hj : j < 8) : (newL me lim).getD j 0 = if (j : Int) + 1 = me then 0 else lim + 1 := by
  unfold newL
  rw [hearL_get (by simp) me hj]
  congr 1
  rw [List.getD, List.getElem?_replicate, if_pos hj]
  rfl

theorem thereTo_len (lim : Int) (L : List Int) (i : Nat) : (thereTo lim L i).length ≤ i := by
  induction i with
  | zero => simp [thereTo]
  | succ i ih =>
    unfold thereTo
    split
    · rw [List.length_append, List.length_singleton]; omega
    · omega
theorem thereTo_mem (lim : Int) (L : List Int) (i : Nat) (x : Int) : x ∈ thereTo lim L i ↔ ∃ j : Nat, j < i ∧ x = (j : Int) + 1 ∧ L.getD j 0 ≤ lim := by
  induction i with
  | zero => simp [thereTo]
  | succ i ih =>
    unfold thereTo
    split
    · rename_i h
      rw [List.mem_append, ih, List.mem_singleton]
      constructor
      · rintro (⟨j, h1, h2, h3⟩ | rfl)
        · exact ⟨j, by omega, h2, h3⟩
        · exact ⟨i, by omega, rfl, h⟩
      · rintro ⟨j, h1, h2, h3⟩
        by_cases hji : j = i
        · subst hji; exact .inr h2
        · exact .inl ⟨j, by omega, h2, h3⟩
    · rename_i h
      rw [ih]
      constructor
      · rintro ⟨j, h1, h2, h3⟩
        exact ⟨j, by omega, h2, h3⟩
      · rintro ⟨j, h1, h2, h3⟩
        by_cases hji : j = i
        · subst hji; exact absurd h3 h
        · exact ⟨j, by omega, h2, h3⟩
/-- The numbers rise. -/
theorem thereTo_rise (lim : Int) (L : List Int) (i : Nat) : (thereTo lim L i).Pairwise (· < ·) := by
  induction i with
  | zero => simp [thereTo]
  | succ i ih =>
    unfold thereTo
    split
    · rw [List.pairwise_append]
      refine ⟨ih, by simp, fun a ha b hb => ?_⟩
      obtain ⟨j, h1, h2, h3⟩ := (thereTo_mem lim L i a).1 ha
      simp at hb
      omega
    · exact ih
theorem thereL_mem (lim : Int) (L : List Int) (x : Int) : x ∈ thereL lim L ↔ ∃ j : Nat, j < 8 ∧ x = (j : Int) + 1 ∧ L.getD j 0 ≤ lim := thereTo_mem lim L 8 x
theorem thereL_len (lim : Int) (L : List Int) : (thereL lim L).length ≤ 8 := thereTo_len lim L 8
/-- Who is there is told by what Quiet tells alone. -/
theorem thereTo_congr {lim : Int} {L L' : List Int} (i : Nat) (h : ∀ j, j < i → L.getD j 0 = L'.getD j 0) : thereTo lim L i = thereTo lim L' i := by
  induction i with
  | zero => rfl
  | succ i ih => unfold thereTo; rw [ih (fun j hj => h j (by omega)), h i (by omega)]

/-- The document's way: when each was heard last (below 0: never). -/
def quietD (me lim now : Int) (H : List Int) (j : Nat) : Int := if (j : Int) + 1 = me then 0 else if H.getD j 0 < 0 then lim + 1 else min (now - H.getD j 0) (lim + 1)
structure HOk (now : Int) (H : List Int) : Prop where
  len : H.length = 8
  pos : 0 ≤ now
  few : now ≤ 1000
  all : ∀ x ∈ H, -1 ≤ x ∧ x ≤ now
def Says (me lim now : Int) (H L : List Int) : Prop := ∀ j : Nat, j < 8 → L.getD j 0 = quietD me lim now H j
theorem Says.new {me lim : Int} : Says me lim 0 (List.replicate 8 (-1)) (newL me lim) := fun j hj => by
  rw [newL_get hj]
  unfold quietD
  have : (List.replicate 8 (-1 : Int)).getD j 0 = -1 := by rw [List.getD, List.getElem?_replicate, if_pos hj]; rfl
  rw [this, if_pos (show (-1 : Int) < 0 by omega)]
theorem Says.tick {me lim now : Int} {H L : List Int} (h : Says me lim now H L) (hl : L.length = 8) (hH : HOk now H) : Says me lim (now + 1) H (tickL me lim L) := fun j hj => by
  rw [tickL_get me lim hl hj, h j hj]
  unfold quietD
  have := hH.all _ (getD_mem (L := H) (j := j) (by rw [hH.len]; exact hj))
  split
  · rfl
  · split <;> omega
theorem Says.hear {me lim now : Int} {H L : List Int} (h : Says me lim now H L) (hl : L.length = 8) (hH : HOk now H) (h1 : 1 ≤ lim) (p : Int) : Says me lim now (if 1 ≤ p ∧ p ≤ 8 then H.set (p - 1).toNat now else H) (hearL L p) := fun j hj => by
  rw [hearL_get hl p hj, h j hj]
  have hn := hH.pos
  have hHl := hH.len
  by_cases hp : 1 ≤ p ∧ p ≤ 8
  · rw [if_pos hp]
    unfold quietD
    have e : (H.set (p - 1).toNat now).getD j 0 = if (j : Int) + 1 = p then now else H.getD j 0 := by
      rw [List.getD, List.getElem?_set]
      by_cases h : (p - 1).toNat = j
      · rw [if_pos h, if_pos (by omega), if_pos (by omega)]; rfl
      · rw [if_neg h, if_neg (by omega), List.getD]
    rw [e]
    by_cases hjp : (j : Int) + 1 = p
    · rw [if_pos hjp, if_pos hjp]
      split
      · rfl
      · rw [if_neg (by omega)]; omega
    · rw [if_neg hjp, if_neg hjp]
  · rw [if_neg hp, if_neg (by omega)]
theorem HOk.hear {now : Int} {H : List Int} (h : HOk now H) (p : Int) : HOk now (if 1 ≤ p ∧ p ≤ 8 then H.set (p - 1).toNat now else H) := by
  refine ⟨by split <;> simp [h.len], h.pos, h.few, fun x hx => ?_⟩
  have := h.pos
  split at hx
  · rcases List.mem_or_eq_of_mem_set hx with hx | rfl
    · exact h.all x hx
    · omega
  · exact h.all x hx
theorem HOk.tick {now : Int} {H : List Int} (h : HOk now H) (h2 : now < 1000) : HOk (now + 1) H := ⟨h.len, by have := h.pos; omega, by omega, fun x hx => by have := h.all x hx; omega⟩
theorem HOk.new : HOk 0 (List.replicate 8 (-1)) := ⟨by simp, by omega, by omega, fun x hx => by rw [List.eq_of_mem_replicate hx]; omega⟩
end Go.Proofs.Ytildapcdkipakaa.L9
