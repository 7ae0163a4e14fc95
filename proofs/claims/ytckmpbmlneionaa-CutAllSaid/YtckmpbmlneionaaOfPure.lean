/- The terms that stand in a right term, one behind the other; what stands in one that was put together. -/
import Derived.Test.YtckmpbmlneionaaFine
namespace Go.Proofs.Ytckmpbmlneionaa.Tm

/-- The terms that stand in a right one, next to it. -/
def ofL (l : List UInt8) : List (List UInt8) := exps (begin_ l).2 (l.drop (begin_ l).1)
/-- The bytes of all terms in a right one. -/
def bytesIn (l : List UInt8) : List UInt8 :=
  if l.getD 0 0 = 101 then l.drop 2
  else if l.getD 0 0 = 107 ∨ l.getD 0 0 = 112 ∨ l.getD 0 0 = 104 ∨ l.getD 0 0 = 115 ∨ l.getD 0 0 = 120 then l.drop 1
  else []
def kindOf (l : List UInt8) : UInt8 := if right l = true then l.getD 0 0 else 0
def partsOfT (l : List UInt8) : List (List UInt8) := if right l = true then ofL l else []

theorem depth_le_maxD : ∀ (qs : List (List UInt8)) q, q ∈ qs → depthOf q ≤ maxD qs := by
  intro qs
  induction qs with
  | nil => intro q hq; simp at hq
  | cons a qs ih =>
    intro q hq
    simp only [maxD]
    rcases List.mem_cons.1 hq with rfl | hq
    · omega
    · have := ih q hq; omega
theorem length_le_flatten : ∀ (qs : List (List UInt8)) q, q ∈ qs → q.length ≤ qs.flatten.length := by
  intro qs
  induction qs with
  | nil => intro q hq; simp at hq
  | cons a qs ih =>
    intro q hq
    simp only [List.flatten_cons, List.length_append]
    rcases List.mem_cons.1 hq with rfl | hq
    · omega
    · have := ih q hq; omega

theorem ofL_ok {l : List UInt8} (h : right l = true) : (ofL l).flatten = l.drop (begin_ l).1 ∧ (∀ x ∈ ofL l, depthOf x ≠ 0 ∧ depthOf x + 1 ≤ depthOf l ∧ x.length < l.length) ∧ (ofL l).length = (begin_ l).2 ∧
    (l.getD 0 0 = 101 → chain [] (ofL l)) ∧ depthOf l = maxD (ofL l) + 1 ∧ l.length ≤ 20000 := by
  obtain ⟨hp, hl⟩ := right_parse ((right_iff l).1 h)
  obtain ⟨b0, b1, m, e, b2, b3, b4⟩ := parse_ok hp
  obtain ⟨c1, c2⟩ := begin_some b0
  have hal : (begin_ l).1 ≤ l.length := by rw [c1]; exact c2
  obtain ⟨i1, i2, i3, i4⟩ := parts_inv (by omega) (l.getD 0 0) _ _ _ _ _ b2 (by rw [List.length_drop]; omega)
  have hf : (ofL l).flatten = l.drop (begin_ l).1 := by
    unfold ofL
    rw [i1]
    exact List.take_of_length_le (by rw [List.length_drop]; omega)
  refine ⟨hf, ?_, exps_length _ _, i3, by rw [b4, i4]; rfl, hl⟩
  intro x hx
  refine ⟨(i2 x hx).2, ?_, ?_⟩
  · have := depth_le_maxD _ x hx
    have e4 : e = maxD (ofL l) := i4
    omega
  · have := length_le_flatten _ x hx
    rw [hf, List.length_drop] at this
    omega

theorem right_ne_nil {l : List UInt8} (h : right l = true) : l ≠ [] ∧ 0 < l.length := by
  obtain ⟨hp, _⟩ := right_parse ((right_iff l).1 h)
  have hb := (parse_bounds 400 l).2
  rw [hp] at hb
  have := (hb rfl).1
  simp only at this
  exact ⟨fun e => by rw [e] at this; simp at this, by omega⟩

theorem head_of_right {l : List UInt8} (h : right l = true) : begin_ l = headOf l ∧ (headOf l).1 ≠ 0 := by
  have b0 := right_begin h
  obtain ⟨c1, _⟩ := begin_some b0
  exact ⟨c1, by rw [← c1]; exact b0⟩

theorem bytesIn_ofL {l : List UInt8} (h : right l = true) : bytesIn l = (ofL l).flatten := by
  obtain ⟨hf, _⟩ := ofL_ok h
  obtain ⟨hb, h0⟩ := head_of_right h
  have hne := (right_ne_nil h).1
  have key : ∀ c d : Nat, headOf l = (c, d) → (ofL l).flatten = if d = 0 then [] else l.drop c := by
    intro c d hcd
    split
    · rename_i hd
      unfold ofL
      rw [hb, hcd, hd]
      rfl
    · rw [hf, hb, hcd]
  unfold headOf at h0 key
  rw [if_neg hne] at h0 key
  unfold bytesIn
  by_cases c1 : l.getD 0 0 = 103
  · rw [key 1 0 (by rw [if_pos c1]), c1]; simp
  rw [if_neg c1] at h0 key
  by_cases c2 : l.getD 0 0 = 110 ∨ l.getD 0 0 = 117
  · rw [key 9 0 (by rw [if_pos c2])]
    rcases c2 with c2 | c2 <;> rw [c2] <;> simp
  rw [if_neg c2] at h0 key
  by_cases c3 : l.getD 0 0 = 116
  · rw [key (textHead l) 0 (by rw [if_pos c3]), c3]; simp
  rw [if_neg c3] at h0 key
  by_cases c4 : l.getD 0 0 = 105
  · rw [if_pos c4] at h0 key
    by_cases c5 : 2 ≤ l.length ∧ 1 ≤ (l.getD 1 0).toNat ∧ (l.getD 1 0).toNat ≤ 8
    · rw [key 2 0 (by rw [if_pos c5]), c4]; simp
    · rw [if_neg c5] at h0; exact absurd rfl h0
  rw [if_neg c4] at h0 key
  by_cases c5 : l.getD 0 0 = 101
  · rw [if_pos c5] at h0 key
    by_cases c6 : 2 ≤ l.length ∧ 1 ≤ (l.getD 1 0).toNat ∧ (l.getD 1 0).toNat ≤ 32
    · rw [key 2 _ (by rw [if_pos c6]), if_pos c5, if_neg (by omega)]
    · rw [if_neg c6] at h0; exact absurd rfl h0
  rw [if_neg c5] at h0 key ⊢
  by_cases c6 : l.getD 0 0 = 107 ∨ l.getD 0 0 = 104
  · rw [key 1 1 (by rw [if_pos c6]), if_pos (by rcases c6 with c | c <;> simp only [c, true_or, or_true])]; rfl
  rw [if_neg c6] at h0 key
  by_cases c7 : l.getD 0 0 = 112 ∨ l.getD 0 0 = 120
  · rw [key 1 2 (by rw [if_pos c7]), if_pos (by rcases c7 with c | c <;> simp only [c, true_or, or_true])]; rfl
  rw [if_neg c7] at h0 key
  by_cases c8 : l.getD 0 0 = 115
  · rw [key 1 3 (by rw [if_pos c8]), if_pos (by simp only [c8, true_or, or_true])]; rfl
  rw [if_neg c8] at h0
  exact absurd rfl h0

theorem exps_flat : ∀ (ps : List (List UInt8)) (y : List UInt8), (∀ p ∈ ps, depthOf p ≠ 0) → exps ps.length (ps.flatten ++ y) = ps := by
  intro ps
  induction ps with
  | nil => intro y _; rfl
  | cons p ps ih =>
    intro y hp
    obtain ⟨h1, _⟩ := right_parse (hp p (by simp))
    have hs := parse_stable 400 p p.length _ h1 (ps.flatten ++ y)
    rw [List.take_length] at hs
    have e : (p :: ps).flatten ++ y = p ++ (ps.flatten ++ y) := by rw [List.flatten_cons, List.append_assoc]
    rw [e, List.length_cons, exps, read_parse, hs]
    simp only
    rw [List.take_left, List.drop_left, ih y (fun q hq => hp q (by simp [hq]))]

/-- What stands in a term that was put together. -/
theorem ofL_node {hd : List UInt8} {ps : List (List UInt8)} (hb : begin_ (hd ++ ps.flatten) = (hd.length, ps.length)) (hp : ∀ p ∈ ps, depthOf p ≠ 0) : ofL (hd ++ ps.flatten) = ps := by
  unfold ofL
  rw [hb]
  simp only
  rw [List.drop_left]
  have := exps_flat ps [] hp
  rwa [List.append_nil] at this

theorem begin_pair (a b : List UInt8) : begin_ (112 :: (a ++ b)) = (1, 2) := by simp [begin_, headOf]
theorem begin_sign (a b : List UInt8) : begin_ (120 :: (a ++ b)) = (1, 2) := by simp [begin_, headOf]
theorem begin_hash (a : List UInt8) : begin_ (104 :: a) = (1, 1) := by simp [begin_, headOf]
theorem begin_three (a b c : List UInt8) : begin_ (115 :: (a ++ (b ++ c))) = (1, 3) := by simp [begin_, headOf]
theorem ofL_pair {a b : List UInt8} (ha : depthOf a ≠ 0) (hb : depthOf b ≠ 0) : ofL (112 :: (a ++ b)) = [a, b] := by
  have := ofL_node (hd := [112]) (ps := [a, b]) (by simpa using begin_pair a b) (by intro p hp; simp at hp; rcases hp with rfl | rfl <;> assumption)
  simpa using this
theorem ofL_sign {a b : List UInt8} (ha : depthOf a ≠ 0) (hb : depthOf b ≠ 0) : ofL (120 :: (a ++ b)) = [a, b] := by
  have := ofL_node (hd := [120]) (ps := [a, b]) (by simpa using begin_sign a b) (by intro p hp; simp at hp; rcases hp with rfl | rfl <;> assumption)
  simpa using this
theorem ofL_hash {a : List UInt8} (ha : depthOf a ≠ 0) : ofL (104 :: a) = [a] := by
  have := ofL_node (hd := [104]) (ps := [a]) (by simpa using begin_hash a) (by intro p hp; simp at hp; subst hp; assumption)
  simpa using this
theorem ofL_three {a b c : List UInt8} (ha : depthOf a ≠ 0) (hb : depthOf b ≠ 0) (hc : depthOf c ≠ 0) : ofL (115 :: (a ++ (b ++ c))) = [a, b, c] := by
  have := ofL_node (hd := [115]) (ps := [a, b, c]) (by simpa using begin_three a b c) (by intro p hp; simp at hp; rcases hp with rfl | rfl | rfl <;> assumption)
  simpa using this

end Go.Proofs.Ytckmpbmlneionaa.Tm
