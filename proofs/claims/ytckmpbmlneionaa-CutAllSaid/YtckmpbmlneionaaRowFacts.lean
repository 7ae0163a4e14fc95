/- Rows that are put are taken, and what is taken was put: without memory. -/
import Derived.Test.YtckmpbmlneionaaLTake
namespace Go.Proofs.Ytckmpbmlneionaa
open Go.ChangeShapes Go.WideShapes Go.ChangeAt Go.RowKit

namespace Tm
theorem num0_depth : depthOf num0 = 1 := by
  have h := good_number 0
  have h1 : depthOf num0 ≠ 0 := h.1
  have h2 : depthOf num0 ≤ 1 := h.2.1
  omega
theorem num0_right : right num0 = true := (right_iff _).2 (by rw [num0_depth]; decide)
theorem num0_kind : num0.getD 0 0 = 117 := rfl
theorem good_of {z : List UInt8} (h : depthOf z ≠ 0) : Good 400 20000 z := ⟨h, depthOf_le z, depthOf_short h⟩
/-- The parts of a pair are the ones of which it was put together. -/
theorem pair_inv {a b : List UInt8} (ha : depthOf a ≠ 0) (h : right (112 :: (a ++ b)) = true) : ofL (112 :: (a ++ b)) = [a, b] ∧ right b = true ∧ depthOf (112 :: (a ++ b)) = max (depthOf a) (depthOf b) + 1 := by
  obtain ⟨x, y, hof, he, hgx, hry, _⟩ := pair_two h rfl
  have e : a ++ b = x ++ y := by simpa using he
  have t1 := take_good (good_of ha) b
  have t2 := take_good hgx y
  rw [e, t2] at t1
  simp at t1
  obtain ⟨rfl, rfl⟩ := t1
  refine ⟨hof, hry, ?_⟩
  have := (ofL_ok h).2.2.2.2.1
  rw [hof] at this
  rw [this]
  simp [maxD]
theorem pair_make {a b : List UInt8} (ha : depthOf a ≠ 0) (hb : depthOf b ≠ 0) (hl : (112 :: (a ++ b)).length ≤ 20000) (hd : max (depthOf a) (depthOf b) + 1 ≤ 400) : right (112 :: (a ++ b)) = true ∧ depthOf (112 :: (a ++ b)) = max (depthOf a) (depthOf b) + 1 := by
  have hp : put [112] [a, b] = (112 :: (a ++ b), 0) := by
    unfold put
    have h1 : ¬ (([a, b] : List (List UInt8)).any (fun p => depthOf p == 0) = true) := by simp [ha, hb]
    have h2 : ¬ (20000 < ([112] : List UInt8).length + ([a, b] : List (List UInt8)).flatten.length) := by simp at hl ⊢; omega
    have h3 : ¬ (400 < maxDepth [a, b] + 1) := by simp [maxDepth] at hd ⊢; omega
    rw [if_neg h1, if_neg h2, if_neg h3]
    simp
  obtain ⟨_, h2, h3⟩ := good_pair hp (depthOf_le a) (depthOf_le b)
  exact ⟨(right_iff _).2 h3.1, h2⟩
theorem deepR_cons (zs : List (List UInt8)) {z : List UInt8} (hz : depthOf z ≠ 0) : deepR (z :: zs) = max (depthOf z) (deepR zs) + 1 := by
  suffices ∀ n (l : List (List UInt8)), l.length = n → deepR (z :: l) = max (depthOf z) (deepR l) + 1 from this _ zs rfl
  intro n
  induction n with
  | zero =>
    intro l hl
    rw [List.length_eq_zero_iff.1 hl]
    show deepR ([] ++ [z]) = _
    rw [deepR_snoc, deepR_nil]
    simp
    omega
  | succ n ih =>
    intro l hl
    have hne : l ≠ [] := fun e => by rw [e] at hl; cases hl
    have e : l = l.dropLast ++ [l.getLast hne] := (List.dropLast_concat_getLast hne).symm
    have h1 : l.dropLast.length = n := by rw [List.length_dropLast]; omega
    have h2 := ih _ h1
    generalize l.dropLast = d at *
    generalize l.getLast hne = y at *
    subst e
    rw [show z :: (d ++ [y]) = (z :: d) ++ [y] from rfl, deepR_snoc, h2, deepR_snoc, List.length_cons]
    omega
theorem wrongIn_cons {z : List UInt8} {zs : List (List UInt8)} (h : wrongIn (z :: zs) = false) : depthOf z ≠ 0 ∧ wrongIn zs = false := by
  unfold wrongIn at h ⊢
  simp at h ⊢
  exact h
theorem row_deep (zs : List (List UInt8)) (hw : wrongIn zs = false) (h : right (rowL zs) = true) : depthOf (rowL zs) = deepR zs := by
  induction zs with
  | nil => exact num0_depth
  | cons z zs ih =>
    obtain ⟨h1, h2⟩ := wrongIn_cons hw
    rw [rowL_cons] at h ⊢
    obtain ⟨_, k2, k3⟩ := pair_inv h1 h
    rw [k3, ih h2 k2, deepR_cons zs h1]
theorem row_right (zs : List (List UInt8)) (hw : wrongIn zs = false) (hl : (rowL zs).length ≤ 20000) (hd : deepR zs ≤ 400) : right (rowL zs) = true := by
  induction zs with
  | nil => exact num0_right
  | cons z zs ih =>
    obtain ⟨h1, h2⟩ := wrongIn_cons hw
    rw [deepR_cons zs h1] at hd
    rw [rowL_cons] at hl ⊢
    have h3 := ih h2 (by simp at hl; omega) (by omega)
    have h4 := row_deep zs h2 h3
    exact (pair_make h1 ((right_iff _).1 h3) hl (by rw [h4]; exact hd)).1
theorem right_row_iff (zs : List (List UInt8)) (hw : wrongIn zs = false) (hl : (rowL zs).length ≤ 20000) : right (rowL zs) = true ↔ deepR zs ≤ 400 :=
  ⟨fun h => by rw [← row_deep zs hw h]; exact depthOf_le _, row_right zs hw hl⟩
theorem unrow_row (zs : List (List UInt8)) (hw : wrongIn zs = false) (h : right (rowL zs) = true) {k : Nat} (hk : zs.length < k) : unrow k (rowL zs) = some zs := by
  induction zs generalizing k with
  | nil =>
    obtain ⟨k, rfl⟩ : ∃ j, k = j + 1 := ⟨k - 1, by omega⟩
    show (if _ then _ else _) = _
    rw [if_neg (by rw [show rowL [] = num0 from rfl, num0_kind]; decide), if_pos (show rowL [] = num0 from rfl)]
  | cons z zs ih =>
    obtain ⟨k, rfl⟩ : ∃ j, k = j + 1 := ⟨k - 1, by omega⟩
    obtain ⟨h1, h2⟩ := wrongIn_cons hw
    rw [rowL_cons] at h ⊢
    obtain ⟨k1, k2, _⟩ := pair_inv h1 h
    show (if _ then _ else _) = _
    rw [if_pos (show (112 :: (z ++ rowL zs)).getD 0 0 = 112 from rfl), k1]
    show (unrow k (rowL zs)).map _ = _
    rw [ih h2 k2 (by simp at hk; omega)]
    rfl
theorem unrow_back {k : Nat} : ∀ {t : List UInt8} {zs : List (List UInt8)}, right t = true → unrow k t = some zs → t = rowL zs ∧ zs.length < k ∧ wrongIn zs = false := by
  induction k with
  | zero => intro t zs _ h; cases h
  | succ k ih =>
    intro t zs hr h
    have h' : (if t.getD 0 0 = 112 then (match ofL t with | [x, y] => (unrow k y).map (x :: ·) | _ => none) else if t = num0 then some [] else none) = some zs := h
    by_cases hp : t.getD 0 0 = 112
    · obtain ⟨x, y, hof, he, hgx, hry, _⟩ := pair_two hr hp
      rw [if_pos hp, hof] at h'
      obtain ⟨ys, e1, e2⟩ := Option.map_eq_some_iff.1 h'
      obtain ⟨a1, a2, a3⟩ := ih hry e1
      subst e2
      refine ⟨by rw [he, rowL_cons, ← a1], by simp; omega, ?_⟩
      unfold wrongIn at a3 ⊢
      simp at a3 ⊢
      exact ⟨hgx.1, a3⟩
    · rw [if_neg hp] at h'
      by_cases hz : t = num0
      · rw [if_pos hz] at h'
        cases h'
        exact ⟨hz, by simp, rfl⟩
      · rw [if_neg hz] at h'; cases h'
/-- Put is told without an error just if .. -/
theorem putRow_ok {zs : List (List UInt8)} {t : List UInt8} (h : putRow zs = (t, 0)) : t = rowL zs ∧ zs.length ≤ 150 ∧ wrongIn zs = false ∧ (rowL zs).length ≤ 20000 ∧ deepR zs ≤ 400 := by
  unfold putRow measureL at h
  by_cases h1 : 150 < zs.length ∨ wrongIn zs = true
  · rw [if_pos h1] at h; simp at h
  · rw [if_neg h1] at h
    by_cases h2 : 20000 < (rowL zs).length
    · rw [if_pos h2] at h; simp at h
    · rw [if_neg h2] at h
      by_cases h3 : 400 < deepR zs
      · rw [if_pos h3] at h; simp at h
      · rw [if_neg h3] at h
        simp at h
        obtain ⟨a1, a2⟩ := not_or.1 h1
        exact ⟨h.symm, by omega, by simpa using a2, by omega, by omega⟩
theorem putRow_mk {zs : List (List UInt8)} (h1 : zs.length ≤ 150) (h2 : wrongIn zs = false) (h3 : (rowL zs).length ≤ 20000) (h4 : deepR zs ≤ 400) : putRow zs = (rowL zs, 0) := by
  have e : measureL zs = ((rowL zs).length, 0) := by
    unfold measureL
    rw [if_neg (by rw [h2]; simp; omega), if_neg (by omega), if_neg (by omega)]
  unfold putRow
  rw [e, if_pos rfl]
theorem take_put {zs : List (List UInt8)} {t : List UInt8} (h : putRow zs = (t, 0)) : right t = true ∧ takeRow t = (zs, 0) := by
  obtain ⟨rfl, h1, h2, h3, h4⟩ := putRow_ok h
  have hr := row_right zs h2 h3 h4
  refine ⟨hr, ?_⟩
  unfold takeRow
  rw [if_pos hr, unrow_row zs h2 hr (by omega)]
theorem put_take {zs : List (List UInt8)} {t : List UInt8} (h : takeRow t = (zs, 0)) : putRow zs = (t, 0) := by
  unfold takeRow at h
  by_cases hr : right t = true
  · rw [if_pos hr] at h
    cases hu : unrow 151 t with
    | none => rw [hu] at h; simp at h
    | some ys =>
      rw [hu] at h
      simp at h
      subst h
      obtain ⟨a1, a2, a3⟩ := unrow_back hr hu
      subst a1
      have hl := (ofL_ok hr).2.2.2.2.2
      exact putRow_mk (by omega) a3 hl ((right_row_iff ys a3 hl).1 hr)
  · rw [if_neg hr] at h; simp at h
theorem takeRow_two (t : List UInt8) : (takeRow t).2 = 0 ∨ takeRow t = ([], 2) := by
  unfold takeRow
  split
  · split
    · exact .inl rfl
    · exact .inr rfl
  · exact .inr rfl
end Tm

end Go.Proofs.Ytckmpbmlneionaa
