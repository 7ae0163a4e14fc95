/- Contract of the document's own Of (gemotref2), for every text. -/
import Derived.Test.YtkalmfhebffklaaRef2
namespace Go.Proofs.Ytkalmfhebffklaa
open Go.ChangeShapes Go.WideShapes Go.ChangeAt Go.RowKit

namespace Tm
theorem leaf_parts {t : List UInt8} (h : right t = true) (h1 : ¬ t.getD 0 0 = 107) (h2 : ¬ t.getD 0 0 = 104) (h3 : ¬ t.getD 0 0 = 112) (h4 : ¬ t.getD 0 0 = 115) (h5 : ¬ t.getD 0 0 = 120) (h6 : ¬ t.getD 0 0 = 101) : ofL t = [] := by
  have hb := bytesIn_ofL h
  unfold bytesIn at hb
  rw [if_neg h6, if_neg (by rintro (h | h | h | h | h); exact h1 h; exact h3 h; exact h2 h; exact h4 h; exact h5 h)] at hb
  by_cases hne : ofL t = []
  · exact hne
  · exfalso
    obtain ⟨x, xs, hx⟩ := List.exists_cons_of_ne_nil hne
    have hm := (ofL_ok h).2.1 x (by rw [hx]; simp)
    have hl := (right_ne_nil ((right_iff x).2 hm.1)).2
    have := congrArg List.length hb
    rw [hx, List.flatten_cons, List.length_append] at this
    simp at this
    omega
end Tm

set_option maxRecDepth 100000 in
set_option maxHeartbeats 2000000 in
theorem ROf_nil (s : ByteArray) (hs : s.size ≤ 9223372036854775807) (h1 : ¬ Tm.kindOf s.data.toList = 107) (h2 : ¬ Tm.kindOf s.data.toList = 104) (h3 : ¬ Tm.kindOf s.data.toList = 112) (h4 : ¬ Tm.kindOf s.data.toList = 115) (h5 : ¬ Tm.kindOf s.data.toList = 120) (h6 : ¬ Tm.kindOf s.data.toList = 101) (w : World) :
    Calls Try.prog 75 #[.string s] w (ROfOut w []) := by
  have HK := Lib.hid (fun W => RKind_calls s hs W)
  have g1 : (((Tm.kindOf s.data.toList).toNat : Int) == 107) = false := u8_no (n := 107) (by omega) h1
  have g2 : (((Tm.kindOf s.data.toList).toNat : Int) == 104) = false := u8_no (n := 104) (by omega) h2
  have g3 : (((Tm.kindOf s.data.toList).toNat : Int) == 112) = false := u8_no (n := 112) (by omega) h3
  have g4 : (((Tm.kindOf s.data.toList).toNat : Int) == 115) = false := u8_no (n := 115) (by omega) h4
  have g5 : (((Tm.kindOf s.data.toList).toNat : Int) == 120) = false := u8_no (n := 120) (by omega) h5
  have g6 : (((Tm.kindOf s.data.toList).toNat : Int) == 101) = false := u8_no (n := 101) (by omega) h6
  generalize Tm.kindOf s.data.toList = c at *
  clear h1 h2 h3 h4 h5 h6
  go_enter Try.func75, Try.ntmps75
  go_wp2_with fail
  refine (HK.out _).mono ?_
  rintro e' w' ⟨rfl, md, rfl⟩
  go_wp2
  go_ret
  exact ⟨_, rfl, World.ownsRow_nil _ _ _ _, below_drewN (Below.refl _ _) _⟩

theorem ROf_calls (s : ByteArray) (hs : s.size ≤ 9223372036854775807) (w : World) : Calls Try.prog 75 #[.string s] w (ROfOut w (Tm.partsOfT s.data.toList)) := by
  unfold Tm.partsOfT
  cases hr : Tm.right s.data.toList with
  | false =>
    have hk : Tm.kindOf s.data.toList = 0 := by unfold Tm.kindOf; rw [hr]; rfl
    exact ROf_nil s hs (by rw [hk]; decide) (by rw [hk]; decide) (by rw [hk]; decide) (by rw [hk]; decide) (by rw [hk]; decide) (by rw [hk]; decide) w
  | true =>
    rw [if_pos rfl]
    have hk : Tm.kindOf s.data.toList = s.data.toList.getD 0 0 := by unfold Tm.kindOf; rw [if_pos hr]
    obtain ⟨o1, o2, o3, o4, o5, o6⟩ := Tm.ofL_ok hr
    rw [len_bytes] at o6
    have hlen : (Tm.ofL s.data.toList).length ≤ 32 := by rw [o3]; exact (Tm.begin_le _).2
    have hbl : (Tm.begin_ s.data.toList).1 ≤ s.size := by have := (Tm.begin_le s.data.toList).1; rwa [len_bytes] at this
    have hgood : ∀ x ∈ Tm.ofL s.data.toList, Tm.Good 400 20000 x := fun x hx => ⟨(o2 x hx).1, Tm.depthOf_le x, by have := (o2 x hx).2.2; rw [len_bytes] at this; omega⟩
    have hb := Tm.head_of_right hr
    have hne := (Tm.right_ne_nil hr).1
    have hh := Tm.headOf_ne hne
    rw [hb.1] at o1 hbl
    have go : ∀ a, (Tm.headOf s.data.toList).1 = a → KindOfNode (Tm.kindOf s.data.toList) a → Calls Try.prog 75 #[.string s] w (ROfOut w (Tm.ofL s.data.toList)) := by
      intro a h1 h2
      exact ROf_node s o6 _ a hlen hgood (by rw [← h1]; exact o1.symm) (by rw [← h1]; exact hbl) h2 w
    rw [hk] at go
    have hnil := fun a b c d e f => ROf_nil s hs (by rw [hk]; exact a) (by rw [hk]; exact b) (by rw [hk]; exact c) (by rw [hk]; exact d) (by rw [hk]; exact e) (by rw [hk]; exact f) w
    have hlp := Tm.leaf_parts hr
    generalize s.data.toList.getD 0 0 = c at *
    by_cases c1 : c = 107
    · subst c1; exact go 1 (by rw [hh]; rfl) (.inl ⟨rfl, rfl⟩)
    by_cases c2 : c = 104
    · subst c2; exact go 1 (by rw [hh]; rfl) (.inr (.inl ⟨rfl, rfl, rfl⟩))
    by_cases c3 : c = 112
    · subst c3; exact go 1 (by rw [hh]; rfl) (.inr (.inr (.inl ⟨rfl, rfl, rfl, rfl⟩)))
    by_cases c4 : c = 115
    · subst c4; exact go 1 (by rw [hh]; rfl) (.inr (.inr (.inr (.inl ⟨rfl, rfl, rfl, rfl, rfl⟩))))
    by_cases c5 : c = 120
    · subst c5; exact go 1 (by rw [hh]; rfl) (.inr (.inr (.inr (.inr (.inl ⟨rfl, rfl, rfl, rfl, rfl, rfl⟩)))))
    by_cases c6 : c = 101
    · subst c6
      refine go 2 ?_ (.inr (.inr (.inr (.inr (.inr ⟨rfl, rfl, rfl, rfl, rfl, rfl, rfl⟩)))))
      have h0 := hb.2
      rw [hh] at h0 ⊢
      simp only [show ¬ ((101 : UInt8) = 103) from by decide, show ¬ ((101 : UInt8) = 110 ∨ (101 : UInt8) = 117) from by decide, show ¬ ((101 : UInt8) = 116) from by decide, show ¬ ((101 : UInt8) = 105) from by decide, if_false, if_true] at h0 ⊢
      split at h0
      · rename_i h; rw [if_pos h]
      · exact absurd rfl h0
    · rw [hlp c1 c2 c3 c4 c5 c6]
      exact hnil c1 c2 c3 c4 c5 c6

/-- A row of texts that is not empty, as a slice with its texts. -/
theorem text_slice {w : World} {B : Nat} {v : Value} {ps : List (List UInt8)} (h : w.ownsRow B 9 1 v ps.length (strs ps)) (hne : ps ≠ []) :
    ∃ g cap, v = .slice (some ⟨g, 0, none⟩) ps.length cap ∧ Texts w g ps ∧ g < w.heap.size := by
  rcases h.2 with ⟨_, h0⟩ | ⟨g, cap, cur, rfl, _⟩
  · exact absurd (List.length_eq_zero_iff.1 h0) hne
  · exact ⟨g, cap, rfl, texts_of_row h, lt_of_row h⟩

end Go.Proofs.Ytkalmfhebffklaa
