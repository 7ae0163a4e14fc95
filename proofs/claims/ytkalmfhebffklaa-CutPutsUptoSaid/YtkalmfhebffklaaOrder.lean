/- The order of texts by bytes: it is total, so a row in order is fixed by what stands in it. -/
import Derived.Test.YtkalmfhebffklaaMakes
namespace Go.Proofs.Ytkalmfhebffklaa.Tm

theorem less_cons (x y : UInt8) (a b : List UInt8) : less (x :: a) (y :: b) = true ↔ x < y ∨ (x = y ∧ less a b = true) := by
  simp only [less, Op.bytesLess, Bool.or_eq_true, decide_eq_true_eq, Bool.and_eq_true, beq_iff_eq]
theorem less_antisymm : ∀ a b : List UInt8, less a b = false → less b a = false → a = b := by
  intro a
  induction a with
  | nil => intro b h1 _; cases b <;> simp_all [less, Op.bytesLess]
  | cons x a ih =>
    intro b h1 h2
    cases b with
    | nil => simp [less, Op.bytesLess] at h2
    | cons y b =>
      have h1' : ¬ (x < y ∨ (x = y ∧ less a b = true)) := fun h => by rw [(less_cons x y a b).2 h] at h1; cases h1
      have h2' : ¬ (y < x ∨ (y = x ∧ less b a = true)) := fun h => by rw [(less_cons y x b a).2 h] at h2; cases h2
      have hxy : x = y := by
        apply UInt8.toNat_inj.1
        have a1 : ¬ x < y := fun h => h1' (.inl h)
        have a2 : ¬ y < x := fun h => h2' (.inl h)
        rw [UInt8.lt_iff_toNat_lt] at a1 a2
        omega
      subst hxy
      congr 1
      refine ih b ?_ ?_
      · cases h : less a b with
        | false => rfl
        | true => exact absurd (.inr ⟨rfl, h⟩) h1'
      · cases h : less b a with
        | false => rfl
        | true => exact absurd (.inr ⟨rfl, h⟩) h2'
theorem less_trans : ∀ a b c : List UInt8, less a b = true → less b c = true → less a c = true := by
  intro a
  induction a with
  | nil =>
    intro b c h1 h2
    cases c with
    | nil => cases b <;> simp [less, Op.bytesLess] at h2
    | cons z c => simp [less, Op.bytesLess]
  | cons x a ih =>
    intro b c h1 h2
    cases b with
    | nil => simp [less, Op.bytesLess] at h1
    | cons y b =>
      cases c with
      | nil => simp [less, Op.bytesLess] at h2
      | cons z c =>
        rw [less_cons] at h1 h2 ⊢
        rcases h1 with h1 | ⟨rfl, h1⟩
        · rcases h2 with h2 | ⟨rfl, h2⟩
          · left; rw [UInt8.lt_iff_toNat_lt] at h1 h2 ⊢; omega
          · exact .inl h1
        · rcases h2 with h2 | ⟨rfl, h2⟩
          · exact .inl h2
          · exact .inr ⟨rfl, ih b c h1 h2⟩
def leq (a b : List UInt8) : Prop := less b a = false
theorem leq_trans {a b c : List UInt8} (h1 : leq a b) (h2 : leq b c) : leq a c := by
  unfold leq at *
  cases h : less c a with
  | false => rfl
  | true =>
    exfalso
    cases hab : less a b with
    | true =>
      have := less_trans c a b h hab
      rw [this] at h2; cases h2
    | false =>
      have := less_antisymm a b hab h1
      subst this
      rw [h] at h2; cases h2
theorem leq_nil (a : List UInt8) : leq [] a := by cases a <;> simp [leq, less, Op.bytesLess]
theorem chain_pairwise : ∀ (xs : List (List UInt8)) (ah : List UInt8), chain ah xs → xs.Pairwise leq ∧ ∀ x ∈ xs, leq ah x := by
  intro xs
  induction xs with
  | nil => intro ah _; exact ⟨List.Pairwise.nil, fun x hx => by cases hx⟩
  | cons p ps ih =>
    intro ah h
    obtain ⟨i1, i2⟩ := ih p h.2
    refine ⟨List.Pairwise.cons i2 i1, fun x hx => ?_⟩
    rcases List.mem_cons.1 hx with rfl | hx
    · exact h.1
    · exact leq_trans h.1 (i2 x hx)
/-- A row in order is fixed by what stands in it. -/
theorem chain_unique {xs ys : List (List UInt8)} (h1 : chain [] xs) (h2 : chain [] ys) (hp : xs.Perm ys) : xs = ys :=
  List.Perm.eq_of_pairwise (le := leq) (fun a b _ _ h h' => less_antisymm a b h' h) (chain_pairwise xs [] h1).1 (chain_pairwise ys [] h2).1 hp
theorem ins_perm (xs : List (List UInt8)) (i : Nat) (t : List UInt8) : (ins xs i t).Perm (xs ++ [t]) := by
  unfold ins
  have h1 : (xs.take i ++ t :: xs.drop i).Perm (t :: (xs.take i ++ xs.drop i)) := List.perm_middle
  rw [List.take_append_drop] at h1
  exact h1.trans (List.perm_append_comm (l₁ := [t]) (l₂ := xs))

end Go.Proofs.Ytkalmfhebffklaa.Tm
