/- Pure: where two paths meet. -/
import Derived.Test.YtlpabhgfmkilnaaGreatDoorPlPaP
namespace Go.Proofs.YtlpabhgfmkilnaaGreatDoor.L14
open Go.Proofs.YtlpabhgfmkilnaaGreatDoor.L13

/-- Two paths, from behind: alike as far as n, and apart then. -/
structure Meet (A B : List (List UInt8)) (n : Nat) : Prop where
  leA : n ≤ A.length
  leB : n ≤ B.length
  alike : ∀ k, k < n → ∃ x, A[A.length - 1 - k]? = some x ∧ B[B.length - 1 - k]? = some x
  apart : ∀ i j x y, i + n < A.length → j + n < B.length → A[i]? = some x → B[j]? = some y → x ≠ y
  ends : (n = A.length ∧ n = B.length) ∨ (n < A.length ∧ n < B.length ∧ ∃ x y, A[A.length - 1 - n]? = some x ∧ B[B.length - 1 - n]? = some y ∧ besideL x = y ∧ x.length ≤ 7)
theorem meet_same (A : List (List UInt8)) : Meet A A A.length :=
  ⟨Nat.le_refl _, Nat.le_refl _, fun k hk => ⟨A[A.length - 1 - k], List.getElem?_eq_getElem (by omega), List.getElem?_eq_getElem (by omega)⟩, fun i j x y h => by omega, .inl ⟨rfl, rfl⟩⟩
theorem path_meet {t : Tr} (h : t.ok) {p q : Nat} (hp : p ∈ t.procs) (hq : q ∈ t.procs) : ∃ n, Meet ((t.up p).map (fun s => s.1)) ((t.up q).map (fun s => s.1)) n := by
  by_cases hne : p = q
  · subst hne; exact ⟨_, meet_same _⟩
  obtain ⟨C, A, B, y, b, c, eA, eB, hbc, hA, hB, preA, preB⟩ := chain_meet [] hp hq hne
  have uA : (t.up p).map (fun s => s.1) = ((C.map (fun s => s.1)) ++ (A.map (fun s => s.1))).reverse := by rw [h.up_chain hp, eA, List.map_reverse, List.map_append]
  have uB : (t.up q).map (fun s => s.1) = ((C.map (fun s => s.1)) ++ (B.map (fun s => s.1))).reverse := by rw [h.up_chain hq, eB, List.map_reverse, List.map_append]
  have small : ∀ x ∈ A.map (fun s => s.1), x.length ≤ 7 := by
    intro x hx
    have : x ∈ (t.up p).map (fun s => s.1) := by rw [uA]; simp only [List.mem_reverse, List.mem_append]; exact .inr hx
    obtain ⟨⟨x', u⟩, hm, rfl⟩ := List.mem_map.1 this
    have := at_len ((t.up_at p x' u).1 hm).1
    have := h.deep8
    dsimp only
    omega
  rw [uA, uB]
  have preA' : ∀ x ∈ A.map (fun s => s.1), ∃ z, x = y ++ b :: z := fun x hx => by obtain ⟨s, hs, rfl⟩ := List.mem_map.1 hx; exact preA s hs
  have preB' : ∀ x ∈ B.map (fun s => s.1), ∃ z, x = y ++ c :: z := fun x hx => by obtain ⟨s, hs, rfl⟩ := List.mem_map.1 hx; exact preB s hs
  have hA' : (A.map (fun s => s.1))[0]? = some (y ++ [b]) := by cases A with | nil => simp at hA | cons a A => simpa using hA
  have hB' : (B.map (fun s => s.1))[0]? = some (y ++ [c]) := by cases B with | nil => simp at hB | cons a B => simpa using hB
  generalize C.map (fun s => s.1) = C' at *
  generalize A.map (fun s => s.1) = A' at *
  generalize B.map (fun s => s.1) = B' at *
  have lA : 0 < A'.length := (List.getElem?_eq_some_iff.1 hA').1
  have lB : 0 < B'.length := (List.getElem?_eq_some_iff.1 hB').1
  have get : ∀ (D : List (List UInt8)) k, k < (C' ++ D).length → ((C' ++ D).reverse)[(C' ++ D).reverse.length - 1 - k]? = (C' ++ D)[k]? := by
    intro D k hk
    rw [List.getElem?_reverse (by rw [List.length_reverse]; omega), List.length_reverse]
    congr 1
    omega
  refine ⟨C'.length, by simp, by simp, fun k hk => ?_, fun i j x z hi hj hx hz e => ?_, .inr ⟨by simp; omega, by simp; omega, y ++ [b], y ++ [c], ?_, ?_, ?_, small _ (List.mem_of_getElem? hA')⟩⟩
  · refine ⟨C'[k], ?_, ?_⟩
    · rw [get A' k (by simp; omega), List.getElem?_append_left hk]; exact List.getElem?_eq_getElem hk
    · rw [get B' k (by simp; omega), List.getElem?_append_left hk]; exact List.getElem?_eq_getElem hk
  · simp only [List.length_reverse, List.length_append] at hi hj
    rw [List.getElem?_reverse (by simp; omega), List.getElem?_append_right (by simp; omega)] at hx
    rw [List.getElem?_reverse (by simp; omega), List.getElem?_append_right (by simp; omega)] at hz
    obtain ⟨u, hu⟩ := preA' x (List.mem_of_getElem? hx)
    obtain ⟨v, hv⟩ := preB' z (List.mem_of_getElem? hz)
    rw [e, hv] at hu
    have := List.append_cancel_left hu
    have hcb : c = b := (List.cons.inj this).1
    rcases hbc with ⟨rfl, rfl⟩ | ⟨rfl, rfl⟩ <;> simp at hcb
  · rw [get A' C'.length (by simp; omega), List.getElem?_append_right (Nat.le_refl _), Nat.sub_self]; exact hA'
  · rw [get B' C'.length (by simp; omega), List.getElem?_append_right (Nat.le_refl _), Nat.sub_self]; exact hB'
  · rw [besideL_snoc]
    rcases hbc with ⟨rfl, rfl⟩ | ⟨rfl, rfl⟩ <;> rfl
end Go.Proofs.YtlpabhgfmkilnaaGreatDoor.L14
