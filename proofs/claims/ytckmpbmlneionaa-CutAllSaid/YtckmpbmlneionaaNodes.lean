/- Leaves are terms of depth one; a head and parts that are terms, in order where they are exponents, are a term one deeper. -/
import Derived.Test.YtckmpbmlneionaaTerms
import Derived.Test.YtckmpbmlneionaaPower
namespace Go.Proofs.Ytckmpbmlneionaa.Tm

theorem right_parse {p : List UInt8} (h : depthOf p ≠ 0) : parse 400 p = (p.length, depthOf p, 0) ∧ p.length ≤ 20000 := by
  have hl := right_length p h
  refine ⟨?_, hl⟩
  unfold depthOf at h ⊢
  rw [if_neg (by omega)] at h ⊢
  by_cases hc : (read p).2.2 ≠ 0 ∨ (read p).1 ≠ p.length
  · rw [if_pos hc] at h
    exact absurd rfl h
  · rw [if_neg hc, ← read_parse]
    simp only [ne_eq, not_or, Decidable.not_not] at hc
    obtain ⟨c1, c2⟩ := hc
    generalize read p = r at *
    obtain ⟨n, d, e⟩ := r
    simp only at c1 c2 ⊢
    rw [c1, c2]
theorem depth_of_parse {p : List UInt8} {d : Nat} (h : parse 400 p = (p.length, d, 0)) (hl : p.length ≤ 20000) : depthOf p = d ∧ d ≠ 0 := by
  have hb := (parse_bounds 400 p).2
  rw [h] at hb
  have hb2 := hb rfl
  refine ⟨?_, by simp only at hb2; omega⟩
  unfold depthOf
  rw [if_neg (by omega), read_parse, h]
  simp
theorem right_of_parse {p : List UInt8} {d : Nat} (h : parse 400 p = (p.length, d, 0)) (hl : p.length ≤ 20000) : right p = true := by
  obtain ⟨h1, h2⟩ := depth_of_parse h hl
  unfold right
  rw [h1]
  simpa using Nat.pos_of_ne_zero h2
theorem right_iff (p : List UInt8) : right p = true ↔ depthOf p ≠ 0 := by
  unfold right
  simp [Nat.pos_iff_ne_zero]

/-- A leaf: nothing stands in it. -/
theorem leaf_parse {l : List UInt8} (h : begin_ l = (l.length, 0)) (hne : l ≠ []) : parse 400 l = (l.length, 1, 0) := by
  have hl : l.length ≠ 0 := fun e => hne (List.length_eq_zero_iff.1 e)
  have hb : (begin_ l).1 ≠ 0 := by rw [h]; exact hl
  have hk : ¬ (l.getD 0 0 = 107 ∧ element (l.drop (begin_ l).1) = false) := by
    rintro ⟨h1, _⟩
    have := begin_key h1 hb
    rw [h] at this
    simp at this
  have h2 : partsOf (parse 399) (l.getD 0 0) (begin_ l).2 (l.drop (begin_ l).1) [] = (0, 0, 0) := by rw [h]; rfl
  have := parse_mk (f := 399) hb hk h2
  rw [h] at this
  exact this

theorem be8_length (n : Nat) : (be8 n).length = 8 := rfl
theorem name_parse (n : Nat) : parse 400 (110 :: be8 n) = (9, 1, 0) := leaf_parse (l := 110 :: be8 n) (by simp [begin_, headOf, be8]) (by simp)
theorem number_parse (n : Nat) : parse 400 (117 :: be8 n) = (9, 1, 0) := leaf_parse (l := 117 :: be8 n) (by simp [begin_, headOf, be8]) (by simp)
theorem gen_parse : parse 400 [103] = (1, 1, 0) := leaf_parse (l := [103]) (by simp [begin_, headOf]) (by simp)
theorem text_parse (s : List UInt8) (h : s.length ≤ 100) : parse 400 (116 :: 0 :: UInt8.ofNat s.length :: s) = (s.length + 3, 1, 0) := by
  refine leaf_parse (l := 116 :: 0 :: UInt8.ofNat s.length :: s) ?_ (by simp)
  have ht : textHead (116 :: 0 :: UInt8.ofNat s.length :: s) = s.length + 3 := by
    unfold textHead
    have e : (UInt8.ofNat s.length).toNat = s.length := by rw [UInt8.toNat_ofNat']; omega
    rw [if_neg (by simp)]
    have e1 : ((116 :: 0 :: UInt8.ofNat s.length :: s).getD 1 0).toNat = 0 := rfl
    have e2 : ((116 :: 0 :: UInt8.ofNat s.length :: s).getD 2 0).toNat = s.length := e
    rw [e1, e2, if_neg (by omega)]
    omega
  unfold begin_ headOf
  simp [ht]
theorem private_parse (p : Nat) (h1 : 1 ≤ p) (h8 : p ≤ 8) : parse 400 [105, UInt8.ofNat p] = (2, 1, 0) := by
  refine leaf_parse (l := [105, UInt8.ofNat p]) ?_ (by simp)
  have e : (UInt8.ofNat p).toNat = p := by rw [UInt8.toNat_ofNat']; omega
  unfold begin_ headOf
  simp [e, h1, h8]

/-- Terms one behind the other, none less than the one ahead of it. -/
def chain : List UInt8 → List (List UInt8) → Prop
  | _, [] => True
  | ah, p :: ps => less p ah = false ∧ chain p ps

def maxD : List (List UInt8) → Nat
  | [] => 0
  | p :: ps => max (depthOf p) (maxD ps)
theorem maxDepth_eq (ps : List (List UInt8)) : maxDepth ps = maxD ps := by
  have h : ∀ (l : List (List UInt8)) (m : Nat), l.foldl (fun m p => max m (depthOf p)) m = max m (maxD l) := by
    intro l
    induction l with
    | nil => intro m; simp [maxD]
    | cons p l ih =>
      intro m
      simp only [List.foldl_cons, maxD]
      rw [ih, Nat.max_assoc]
  unfold maxDepth
  rw [h ps 0]
  simp

theorem parts_flat (f : Nat) (kind : UInt8) : ∀ (ps : List (List UInt8)) (ah y : List UInt8), (∀ p ∈ ps, parse f p = (p.length, depthOf p, 0)) → (kind = 101 → chain ah ps) →
    partsOf (parse f) kind ps.length (ps.flatten ++ y) ah = (ps.flatten.length, maxD ps, 0) := by
  intro ps
  induction ps with
  | nil => intro ah y _ _; rfl
  | cons p ps ih =>
    intro ah y hp hc
    have h1 : parse f ((p :: ps).flatten ++ y) = (p.length, depthOf p, 0) := by
      have := parse_stable f p p.length (depthOf p) (hp p (by simp)) (ps.flatten ++ y)
      rw [List.take_length] at this
      rw [List.flatten_cons, List.append_assoc]
      exact this
    have ht : ((p :: ps).flatten ++ y).take p.length = p := by
      rw [List.flatten_cons, List.append_assoc, List.take_left]
    have hd : ((p :: ps).flatten ++ y).drop p.length = ps.flatten ++ y := by
      rw [List.flatten_cons, List.append_assoc, List.drop_left]
    have := parts_mk (kind := kind) (k := ps.length) (ah := ah) (n2 := ps.flatten.length) (e2 := maxD ps) h1 (by
      rw [ht]
      rintro ⟨k1, k2⟩
      have := (hc k1).1
      rw [this] at k2
      cases k2) (by
      rw [ht, hd]
      exact ih p y (fun q hq => hp q (by simp [hq])) (fun h => (hc h).2))
    rw [List.length_cons, this]
    simp [maxD]

/-- A head and parts that are terms. -/
theorem node_parse {hd : List UInt8} {ps : List (List UInt8)} (hb : begin_ (hd ++ ps.flatten) = (hd.length, ps.length)) (hne : hd ≠ []) (hp : ∀ p ∈ ps, depthOf p ≠ 0) (hm : maxDepth ps + 1 ≤ 400)
    (hk : (hd ++ ps.flatten).getD 0 0 = 107 → element ps.flatten = true) (hc : (hd ++ ps.flatten).getD 0 0 = 101 → chain [] ps) :
    parse 400 (hd ++ ps.flatten) = ((hd ++ ps.flatten).length, maxDepth ps + 1, 0) := by
  rw [maxDepth_eq] at hm ⊢
  have hle : ∀ (qs : List (List UInt8)) q, q ∈ qs → depthOf q ≤ maxD qs := by
    intro qs
    induction qs with
    | nil => intro q hq; simp at hq
    | cons a qs ih =>
      intro q hq
      simp only [maxD]
      rcases List.mem_cons.1 hq with rfl | hq
      · omega
      · have := ih q hq; omega
  have hp2 : ∀ p ∈ ps, parse 399 p = (p.length, depthOf p, 0) := fun p hpm =>
    parse_fuel 400 399 p p.length (depthOf p) (right_parse (hp p hpm)).1 (by have := hle ps p hpm; omega)
  have hl : hd.length ≠ 0 := fun e => hne (List.length_eq_zero_iff.1 e)
  have hdr : (hd ++ ps.flatten).drop hd.length = ps.flatten := List.drop_left
  have h1 : partsOf (parse 399) ((hd ++ ps.flatten).getD 0 0) ps.length ps.flatten [] = (ps.flatten.length, maxD ps, 0) := by
    have := parts_flat 399 ((hd ++ ps.flatten).getD 0 0) ps [] [] hp2 hc
    rwa [List.append_nil] at this
  have := parse_mk (f := 399) (m := ps.flatten.length) (e := maxD ps) (l := hd ++ ps.flatten) (by rw [hb]; exact hl) (by
    rw [hb]
    simp only [hdr]
    rintro ⟨k1, k2⟩
    rw [hk k1] at k2
    cases k2) (by
    rw [hb]
    simp only [hdr]
    exact h1)
  rw [hb] at this
  simp only at this
  rw [this, List.length_append]

/-- What put makes is a term. -/
theorem put_term {hd : List UInt8} {ps : List (List UInt8)} {l : List UInt8} (hput : put hd ps = (l, 0)) (hb : begin_ (hd ++ ps.flatten) = (hd.length, ps.length)) (hne : hd ≠ [])
    (hk : (hd ++ ps.flatten).getD 0 0 = 107 → element ps.flatten = true) (hc : (hd ++ ps.flatten).getD 0 0 = 101 → chain [] ps) :
    l = hd ++ ps.flatten ∧ (∀ p ∈ ps, depthOf p ≠ 0) ∧ parse 400 l = (l.length, maxDepth ps + 1, 0) ∧ l.length ≤ 20000 := by
  unfold put at hput
  by_cases h1 : ps.any (fun p => depthOf p == 0) = true
  · rw [if_pos h1] at hput; simp at hput
  rw [if_neg h1] at hput
  by_cases h2 : 20000 < hd.length + ps.flatten.length
  · rw [if_pos h2] at hput; simp at hput
  rw [if_neg h2] at hput
  by_cases h3 : 400 < maxDepth ps + 1
  · rw [if_pos h3] at hput; simp at hput
  rw [if_neg h3] at hput
  simp only [Prod.mk.injEq, and_true] at hput
  have hp : ∀ p ∈ ps, depthOf p ≠ 0 := by
    intro p hp h0
    exact h1 (List.any_eq_true.2 ⟨p, hp, by simp [h0]⟩)
  subst hput
  exact ⟨rfl, hp, node_parse hb hne hp (by omega) hk hc, by rw [List.length_append]; omega⟩

end Go.Proofs.Ytckmpbmlneionaa.Tm
