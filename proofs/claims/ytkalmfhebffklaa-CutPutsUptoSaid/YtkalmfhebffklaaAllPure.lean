/- All terms that stand in a right one, however deep: what is reached by going through the parts, one by one; a row in order, each once, is fixed by what stands in it. -/
import Derived.Test.YtkalmfhebffklaaOfPure
import Derived.Test.YtkalmfhebffklaaOrder
namespace Go.Proofs.Ytkalmfhebffklaa.Tm

/-- A term that stands in a right one, however deep, or is it. -/
inductive Sub : List UInt8 → List UInt8 → Prop where
  | self (t : List UInt8) : Sub t t
  | part {t p x : List UInt8} (hp : p ∈ ofL t) (hx : Sub p x) : Sub t x
theorem Sub.snoc {t x p : List UInt8} (h : Sub t x) (hp : p ∈ ofL x) : Sub t p := by
  induction h with
  | self t => exact .part hp (.self p)
  | part hq _ ih => exact .part hq (ih hp)
theorem Sub.right {t x : List UInt8} (h : Sub t x) (ht : right t = true) : right x = true ∧ x.length ≤ t.length ∧ depthOf x ≤ depthOf t := by
  induction h with
  | self t => exact ⟨ht, Nat.le_refl _, Nat.le_refl _⟩
  | part hp _ ih =>
    obtain ⟨h1, h2, h3⟩ := (ofL_ok ht).2.1 _ hp
    obtain ⟨i1, i2, i3⟩ := ih ((right_iff _).2 h1)
    exact ⟨i1, by omega, by omega⟩

/-- How far the row has been gone through: all in it stand in t; the parts of those ahead of i are in it. -/
def Reached (t : List UInt8) (l : List (List UInt8)) (i : Nat) : Prop :=
  t ∈ l ∧ (∀ x ∈ l, Sub t x) ∧ ∀ x ∈ l.take i, ∀ p ∈ ofL x, p ∈ l
theorem reached_start (t : List UInt8) : Reached t [t] 0 := ⟨by simp, by intro x hx; simp at hx; subst hx; exact .self _, by simp⟩
theorem Reached.step {t x : List UInt8} {l : List (List UInt8)} {i : Nat} (h : Reached t l i) (hx : l[i]? = some x) : Reached t (l ++ ofL x) (i + 1) := by
  obtain ⟨h1, h2, h3⟩ := h
  have hxm : x ∈ l := List.mem_of_getElem? hx
  have hil : i < l.length := (List.getElem?_eq_some_iff.1 hx).1
  refine ⟨List.mem_append_left _ h1, ?_, ?_⟩
  · intro y hy
    rcases List.mem_append.1 hy with hy | hy
    · exact h2 y hy
    · exact (h2 x hxm).snoc hy
  · intro y hy p hp
    have e : (l ++ ofL x).take (i + 1) = l.take i ++ [x] := by
      rw [List.take_append_of_le_length (by omega), List.take_add_one, hx]; rfl
    rw [e] at hy
    rcases List.mem_append.1 hy with hy | hy
    · exact List.mem_append_left _ (h3 y hy p hp)
    · rw [List.mem_singleton.1 hy] at hp
      exact List.mem_append_right _ hp
theorem Reached.all {t : List UInt8} {l : List (List UInt8)} (h : Reached t l l.length) (x : List UInt8) : x ∈ l ↔ Sub t x := by
  obtain ⟨h1, h2, h3⟩ := h
  rw [List.take_length] at h3
  refine ⟨h2 x, fun hx => ?_⟩
  have key : ∀ a b, Sub a b → a ∈ l → b ∈ l := by
    intro a b hab
    induction hab with
    | self _ => exact fun h => h
    | part hp _ ih => exact fun h => ih (h3 _ h _ hp)
  exact key t x hx h1
/-- What is still to be gone through gets shorter. -/
theorem rest_shrinks {x : List UInt8} {l : List (List UInt8)} {i : Nat} (hx : l[i]? = some x) (hr : right x = true) : ((l ++ ofL x).drop (i + 1)).flatten.length < (l.drop i).flatten.length := by
  have hil : i < l.length := (List.getElem?_eq_some_iff.1 hx).1
  have e1 : l.drop i = x :: l.drop (i + 1) := by
    rw [List.drop_eq_getElem_cons hil]
    congr 1
    exact (List.getElem?_eq_some_iff.1 hx).2
  have e2 : (l ++ ofL x).drop (i + 1) = l.drop (i + 1) ++ ofL x := List.drop_append_of_le_length (by omega)
  have h1 := (ofL_ok hr).1
  have h2 := (begin_some (right_begin hr)).1
  have h3 := right_begin hr
  have h4 := (right_ne_nil hr).2
  rw [e1, e2, List.flatten_append, List.flatten_cons, List.length_append, List.length_append, h1, List.length_drop]
  omega

/-- By bytes, each once. -/
def strict (a b : List UInt8) : Prop := less a b = true
theorem strict_unique {xs ys : List (List UInt8)} (h1 : xs.Pairwise strict) (h2 : ys.Pairwise strict) (h : ∀ x, x ∈ xs ↔ x ∈ ys) : xs = ys := by
  have irr : ∀ a : List UInt8, ¬ strict a a := fun a ha => by
    have := less_asymm a a ha
    unfold strict at ha
    rw [ha] at this
    cases this
  induction xs generalizing ys with
  | nil =>
    cases ys with
    | nil => rfl
    | cons y ys => exact absurd ((h y).2 (by simp)) (by simp)
  | cons x xs ih =>
    cases ys with
    | nil => exact absurd ((h x).1 (by simp)) (by simp)
    | cons y ys =>
      cases h1 with
      | cons a1 a2 =>
      cases h2 with
      | cons b1 b2 =>
      have hxy : x = y := by
        rcases List.mem_cons.1 ((h x).1 (by simp)) with e | e
        · exact e
        · rcases List.mem_cons.1 ((h y).2 (by simp)) with e2 | e2
          · exact e2.symm
          · have c1 := b1 x e
            have c2 := a1 y e2
            have := less_asymm _ _ c1
            unfold strict at c2
            rw [c2] at this
            cases this
      subst hxy
      congr 1
      refine ih a2 b2 (fun z => ?_)
      constructor
      · intro hz
        rcases List.mem_cons.1 ((h z).1 (List.mem_cons_of_mem _ hz)) with e | e
        · subst e; exact absurd (a1 z hz) (irr z)
        · exact e
      · intro hz
        rcases List.mem_cons.1 ((h z).2 (List.mem_cons_of_mem _ hz)) with e | e
        · subst e; exact absurd (b1 z hz) (irr z)
        · exact e

end Go.Proofs.Ytkalmfhebffklaa.Tm
