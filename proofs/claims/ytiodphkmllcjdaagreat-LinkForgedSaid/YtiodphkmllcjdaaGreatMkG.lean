/- Leaves are terms of depth one; a head and parts that are terms, in order where they are exponents, are a term one deeper. Names, the generator and two powers as the chapter's example has them. How a law's contract closes its row: the result is a bool, the arguments read as they did, only new memory has been written. Which place a raw number speaks of; right terms of bounded depth and length; the leaves among them. What the makers make of right terms is right, and at most one deeper; the exponents of a right power are right terms in order. Contracts of the makers at right terms: what they return without an error is a right term, at most one deeper. The makers at small right terms make what they should; what is read of a right term with anything behind. -/
import Derived.Test.YtiodphkmllcjdaaGreatTerms
import Derived.Test.YtiodphkmllcjdaaGreatOfG
import Derived.ChangeSame
import Derived.ChangeMaps5
section
namespace Go.Proofs.YtiodphkmllcjdaaGreat.Tm

theorem right_parse {p : List UInt8} (h : depthOf p ≠ 0) : parse 400 p = (p.length, depthOf p, 0) ∧ p.length ≤ 20000 := by
  have hl := right_length p h
  refine ⟨?_, hl⟩
  unfold depthOf at h ⊢
  rw [if_neg (by omega)] at h ⊢
  by_cases hc : (read p).2.2 ≠ 0 ∨ (read p).1 ≠ p.length
  · rw [if_pos hc] at h
    exact absurd rfl h
  · rw [if_neg hc, ← read_parse]
    simp only [ne_eq, not_or, Decidable.not_not] at hc
    obtain ⟨c1, c2⟩ := hc
    generalize read p = r at *
    obtain ⟨n, d, e⟩ := r
    simp only at c1 c2 ⊢
    rw [c1, c2]
theorem depth_of_parse {p : List UInt8} {d : Nat} (h : parse 400 p = (p.length, d, 0)) (hl : p.length ≤ 20000) : depthOf p = d ∧ d ≠ 0 := by
  have hb := (parse_bounds 400 p).2
  rw [h] at hb
  have hb2 := hb rfl
  refine ⟨?_, by simp only at hb2; omega⟩
  unfold depthOf
  rw [if_neg (by omega), read_parse, h]
  simp
theorem right_of_parse {p : List UInt8} {d : Nat} (h : parse 400 p = (p.length, d, 0)) (hl : p.length ≤ 20000) : right p = true := by
  obtain ⟨h1, h2⟩ := depth_of_parse h hl
  unfold right
  rw [h1]
  simpa using Nat.pos_of_ne_zero h2
theorem right_iff (p : List UInt8) : right p = true ↔ depthOf p ≠ 0 := by
  unfold right
  simp [Nat.pos_iff_ne_zero]

/-- A leaf: nothing stands in it. -/
theorem leaf_parse {l : List UInt8} (h : begin_ l = (l.length, 0)) (hne : l ≠ []) : parse 400 l = (l.length, 1, 0) := by
  have hl : l.length ≠ 0 := fun e => hne (List.length_eq_zero_iff.1 e)
  have hb : (begin_ l).1 ≠ 0 := by rw [h]; exact hl
  have hk : ¬ (l.getD 0 0 = 107 ∧ element (l.drop (begin_ l).1) = false) := by
    rintro ⟨h1, _⟩
    have := begin_key h1 hb
    rw [h] at this
    simp at this
  have h2 : partsOf (parse 399) (l.getD 0 0) (begin_ l).2 (l.drop (begin_ l).1) [] = (0, 0, 0) := by rw [h]; rfl
  have := parse_mk (f := 399) hb hk h2
  rw [h] at this
  exact this

theorem be8_length (n : Nat) : (be8 n).length = 8 := rfl
theorem name_parse (n : Nat) : parse 400 (110 :: be8 n) = (9, 1, 0) := leaf_parse (l := 110 :: be8 n) (by simp [begin_, headOf, be8]) (by simp)
theorem number_parse (n : Nat) : parse 400 (117 :: be8 n) = (9, 1, 0) := leaf_parse (l := 117 :: be8 n) (by simp [begin_, headOf, be8]) (by simp)
theorem gen_parse : parse 400 [103] = (1, 1, 0) := leaf_parse (l := [103]) (by simp [begin_, headOf]) (by simp)
theorem text_parse (s : List UInt8) (h : s.length ≤ 100) : parse 400 (116 :: 0 :: UInt8.ofNat s.length :: s) = (s.length + 3, 1, 0) := by
  refine leaf_parse (l := 116 :: 0 :: UInt8.ofNat s.length :: s) ?_ (by simp)
  have ht : textHead (116 :: 0 :: UInt8.ofNat s.length :: s) = s.length + 3 := by
    unfold textHead
    have e : (UInt8.ofNat s.length).toNat = s.length := by rw [UInt8.toNat_ofNat']; omega
    rw [if_neg (by simp)]
    have e1 : ((116 :: 0 :: UInt8.ofNat s.length :: s).getD 1 0).toNat = 0 := rfl
    have e2 : ((116 :: 0 :: UInt8.ofNat s.length :: s).getD 2 0).toNat = s.length := e
    rw [e1, e2, if_neg (by omega)]
    omega
  unfold begin_ headOf
  simp [ht]
theorem private_parse (p : Nat) (h1 : 1 ≤ p) (h8 : p ≤ 8) : parse 400 [105, UInt8.ofNat p] = (2, 1, 0) := by
  refine leaf_parse (l := [105, UInt8.ofNat p]) ?_ (by simp)
  have e : (UInt8.ofNat p).toNat = p := by rw [UInt8.toNat_ofNat']; omega
  unfold begin_ headOf
  simp [e, h1, h8]

/-- Terms one behind the other, none less than the one ahead of it. -/
def chain : List UInt8 → List (List UInt8) → Prop
  | _, [] => True
  | ah, p :: ps => less p ah = false ∧ chain p ps

def maxD : List (List UInt8) → Nat
  | [] => 0
  | p :: ps => max (depthOf p) (maxD ps)
theorem maxDepth_eq (ps : List (List UInt8)) : maxDepth ps = maxD ps := by
  have h : ∀ (l : List (List UInt8)) (m : Nat), l.foldl (fun m p => max m (depthOf p)) m = max m (maxD l) := by
    intro l
    induction l with
    | nil => intro m; simp [maxD]
    | cons p l ih =>
      intro m
      simp only [List.foldl_cons, maxD]
      rw [ih, Nat.max_assoc]
  unfold maxDepth
  rw [h ps 0]
  simp

theorem parts_flat (f : Nat) (kind : UInt8) : ∀ (ps : List (List UInt8)) (ah y : List UInt8), (∀ p ∈ ps, parse f p = (p.length, depthOf p, 0)) → (kind = 101 → chain ah ps) →
    partsOf (parse f) kind ps.length (ps.flatten ++ y) ah = (ps.flatten.length, maxD ps, 0) := by
  intro ps
  induction ps with
  | nil => intro ah y _ _; rfl
  | cons p ps ih =>
    intro ah y hp hc
    have h1 : parse f ((p :: ps).flatten ++ y) = (p.length, depthOf p, 0) := by
      have := parse_stable f p p.length (depthOf p) (hp p (by simp)) (ps.flatten ++ y)
      rw [List.take_length] at this
      rw [List.flatten_cons, List.append_assoc]
      exact this
    have ht : ((p :: ps).flatten ++ y).take p.length = p := by
      rw [List.flatten_cons, List.append_assoc, List.take_left]
    have hd : ((p :: ps).flatten ++ y).drop p.length = ps.flatten ++ y := by
      rw [List.flatten_cons, List.append_assoc, List.drop_left]
    have := parts_mk (kind := kind) (k := ps.length) (ah := ah) (n2 := ps.flatten.length) (e2 := maxD ps) h1 (by
      rw [ht]
      rintro ⟨k1, k2⟩
      have := (hc k1).1
      rw [this] at k2
      cases k2) (by
      rw [ht, hd]
      exact ih p y (fun q hq => hp q (by simp [hq])) (fun h => (hc h).2))
    rw [List.length_cons, this]
    simp [maxD]

/-- A head and parts that are terms. -/
theorem node_parse {hd : List UInt8} {ps : List (List UInt8)} (hb : begin_ (hd ++ ps.flatten) = (hd.length, ps.length)) (hne : hd ≠ []) (hp : ∀ p ∈ ps, depthOf p ≠ 0) (hm : maxDepth ps + 1 ≤ 400)
    (hk : (hd ++ ps.flatten).getD 0 0 = 107 → element ps.flatten = true) (hc : (hd ++ ps.flatten).getD 0 0 = 101 → chain [] ps) :
    parse 400 (hd ++ ps.flatten) = ((hd ++ ps.flatten).length, maxDepth ps + 1, 0) := by
  rw [maxDepth_eq] at hm ⊢
  have hle : ∀ (qs : List (List UInt8)) q, q ∈ qs → depthOf q ≤ maxD qs := by
    intro qs
    induction qs with
    | nil => intro q hq; simp at hq
    | cons a qs ih =>
      intro q hq
      simp only [maxD]
      rcases List.mem_cons.1 hq with rfl | hq
      · omega
      · have := ih q hq; omega
  have hp2 : ∀ p ∈ ps, parse 399 p = (p.length, depthOf p, 0) := fun p hpm =>
    parse_fuel 400 399 p p.length (depthOf p) (right_parse (hp p hpm)).1 (by have := hle ps p hpm; omega)
  have hl : hd.length ≠ 0 := fun e => hne (List.length_eq_zero_iff.1 e)
  have hdr : (hd ++ ps.flatten).drop hd.length = ps.flatten := List.drop_left
  have h1 : partsOf (parse 399) ((hd ++ ps.flatten).getD 0 0) ps.length ps.flatten [] = (ps.flatten.length, maxD ps, 0) := by
    have := parts_flat 399 ((hd ++ ps.flatten).getD 0 0) ps [] [] hp2 hc
    rwa [List.append_nil] at this
  have := parse_mk (f := 399) (m := ps.flatten.length) (e := maxD ps) (l := hd ++ ps.flatten) (by rw [hb]; exact hl) (by
    rw [hb]
    simp only [hdr]
    rintro ⟨k1, k2⟩
    rw [hk k1] at k2
    cases k2) (by
    rw [hb]
    simp only [hdr]
    exact h1)
  rw [hb] at this
  simp only at this
  rw [this, List.length_append]

/-- What put makes is a term. -/
theorem put_term {hd : List UInt8} {ps : List (List UInt8)} {l : List UInt8} (hput : put hd ps = (l, 0)) (hb : begin_ (hd ++ ps.flatten) = (hd.length, ps.length)) (hne : hd ≠ [])
    (hk : (hd ++ ps.flatten).getD 0 0 = 107 → element ps.flatten = true) (hc : (hd ++ ps.flatten).getD 0 0 = 101 → chain [] ps) :
    l = hd ++ ps.flatten ∧ (∀ p ∈ ps, depthOf p ≠ 0) ∧ parse 400 l = (l.length, maxDepth ps + 1, 0) ∧ l.length ≤ 20000 := by
  unfold put at hput
  by_cases h1 : ps.any (fun p => depthOf p == 0) = true
  · rw [if_pos h1] at hput; simp at hput
  rw [if_neg h1] at hput
  by_cases h2 : 20000 < hd.length + ps.flatten.length
  · rw [if_pos h2] at hput; simp at hput
  rw [if_neg h2] at hput
  by_cases h3 : 400 < maxDepth ps + 1
  · rw [if_pos h3] at hput; simp at hput
  rw [if_neg h3] at hput
  simp only [Prod.mk.injEq, and_true] at hput
  have hp : ∀ p ∈ ps, depthOf p ≠ 0 := by
    intro p hp h0
    exact h1 (List.any_eq_true.2 ⟨p, hp, by simp [h0]⟩)
  subst hput
  exact ⟨rfl, hp, node_parse hb hne hp (by omega) hk hc, by rw [List.length_append]; omega⟩

end Go.Proofs.YtiodphkmllcjdaaGreat.Tm
end

section
namespace Go.Proofs.YtiodphkmllcjdaaGreat
open Go.ChangeShapes Go.WideShapes Go.ChangeAt Go.RowKit

namespace Tm
def nm (n : Nat) : List UInt8 := 110 :: be8 n
theorem nm_depth (n : Nat) : depthOf (nm n) = 1 := (depth_of_parse (p := nm n) (d := 1) (name_parse n) (by simp [nm, be8_length])).1
theorem nm_right (n : Nat) : right (nm n) = true := (right_iff _).2 (by rw [nm_depth]; omega)
theorem gen_depth : depthOf [103] = 1 := (depth_of_parse (p := [103]) (d := 1) gen_parse (by simp)).1
theorem gen_right : right [103] = true := (right_iff _).2 (by rw [gen_depth]; omega)
theorem begin_pow (k : Nat) (h1 : 1 ≤ k) (h2 : k ≤ 32) (r : List UInt8) : begin_ ([101, UInt8.ofNat k] ++ r) = (2, k) := by
  have e : (UInt8.ofNat k).toNat = k := by rw [UInt8.toNat_ofNat']; omega
  unfold begin_ headOf
  simp [e, h1, h2]
theorem put_one : put [101, UInt8.ofNat (0 + 1)] [nm 2] = (101 :: 1 :: nm 2, 0) := by
  rw [put_ok (by intro p hp; rw [List.mem_singleton.1 hp, nm_depth]; omega) (by simp [total, nm, be8_length]) (by simp [maxDepth, nm_depth])]
  simp
theorem one_parse : parse 400 (101 :: 1 :: nm 2) = (11, 2, 0) := by
  have h := put_term put_one (begin_pow 1 (by omega) (by omega) _) (by simp) (by simp) (fun _ => ⟨by decide, trivial⟩)
  have h2 := h.2.2.1
  have e1 : maxDepth [nm 2] + 1 = 2 := by simp [maxDepth, nm_depth]
  have e2 : (101 :: 1 :: nm 2).length = 11 := rfl
  rw [e1, e2] at h2
  exact h2
theorem one_right : right (101 :: 1 :: nm 2) = true := right_of_parse (d := 2) (p := 101 :: 1 :: nm 2) one_parse (by simp [nm, be8_length])
theorem one_exps : expsOf (101 :: 1 :: nm 2) = [nm 2] := by
  have hr : read (nm 2) = (9, 1, 0) := by rw [read_parse]; exact name_parse 2
  unfold expsOf
  rw [if_neg (by simp)]
  show exps 1 (nm 2) = _
  simp only [exps, hr]
  rfl
theorem put_both : put [101, UInt8.ofNat (1 + 1)] [nm 1, nm 2] = (101 :: 2 :: (nm 1 ++ nm 2), 0) := by
  rw [put_ok (by
    intro p hp
    simp only [List.mem_cons, List.not_mem_nil, or_false] at hp
    rcases hp with rfl | rfl <;> rw [nm_depth] <;> omega) (by simp [total, nm, be8_length]) (by simp [maxDepth, nm_depth])]
  simp
theorem found_zero {i : Nat} (h : Found [nm 2] (nm 1) i) : i = 0 := by
  rcases Nat.eq_zero_or_pos i with h0 | h0
  · exact h0
  · have h1 := h.1
    simp at h1
    have : i = 1 := by omega
    subst this
    have := h.2.1 (by omega)
    exact absurd this (by decide)
theorem both_bytes : 101 :: 2 :: (nm 1 ++ nm 2) = [101, 2, 110, 0, 0, 0, 0, 0, 0, 0, 1, 110, 0, 0, 0, 0, 0, 0, 0, 2] := by decide
end Tm

end Go.Proofs.YtiodphkmllcjdaaGreat
end

section
namespace Go.Proofs.YtiodphkmllcjdaaGreat
open Go.ChangeShapes Go.WideShapes Go.ChangeAt Go.RowKit

theorem own : ownKnob Tryz.prog.godebug = none := by kernel_rfl

theorem post_law {H : Type} {enc : TypeId × Value → H} {P : Program} {f : Func} {s : ChangeSpec} {W W' : World} {args : Array Value} {v : Value} {ds gs : List (DataW H)} {before pa pv : List MemPlace}
    (hW : DataW.Whole enc P f.params.toList s.vars false W args.toList ds gs before)
    (hres : DataW.TrodAll enc P W' W.heap.size (fun _ => false) false f.resultTypes.toList (v.resultList f.resultTypes.size) (s.fn H (ds ++ gs)).results [])
    (hargs : ∀ sp : Nat → Bool, (∀ p ∈ before, sp p.block = true) → DataW.TrodAll enc P W' 0 sp true f.params.toList args.toList (s.fn H (ds ++ gs)).args pa)
    (hvars : ∀ sp : Nat → Bool, (∀ p ∈ before, sp p.block = true) → DataW.TrodVars enc P W' sp s.vars (s.fn H (ds ++ gs)).vars pv)
    (hps : before = pa ++ pv) (hb : Below W.heap.size W W') : s.post enc P f false true false false W args v W' := by
  have hold : ∀ p ∈ before, (fun b => decide (b < W.heap.size)) p.block = true := fun p hp => by simpa using hW.lt p hp
  have hin : ∀ p ∈ before, p ∈ before ∧ (p ∈ ([] : List MemPlace) ∨ p ∈ pa ∨ p ∈ pv) := by
    intro p hp
    refine ⟨hp, .inr ?_⟩
    rw [hps] at hp
    exact List.mem_append.1 hp
  exact ⟨ds, gs, before, [], pa, pv, hW, hres, hargs _ hold, hvars _ hold, World.keptBut_mono hin (hb.frame (· ∈ before)), fun h => by cases h⟩

theorem u64_of_wf {a : Int} (h : (Lit.int .u64 a).wf = true) : ∃ n : Nat, a = n ∧ n < 18446744073709551616 := by
  have hx : 0 ≤ a ∧ a ≤ 18446744073709551615 := by simpa [Lit.wf, IntKind.min, IntKind.max, IntKind.signed, IntKind.bits] using h
  exact ⟨a.toNat, by omega, by omega⟩
theorem i64_of_wf {a : Int} (h : (Lit.int .i64 a).wf = true) : -9223372036854775808 ≤ a ∧ a ≤ 9223372036854775807 := by
  simpa [Lit.wf, IntKind.min, IntKind.max, IntKind.signed, IntKind.bits] using h

end Go.Proofs.YtiodphkmllcjdaaGreat
end

section
namespace Go.Proofs.YtiodphkmllcjdaaGreat

namespace Tm
def pickN (c : Int) (n : Nat) : Nat := (if c < 0 then -(c + 1) else c).toNat % n
theorem pickN_lt (c : Int) (n : Nat) (h : 0 < n) : pickN c n < n := Nat.mod_lt _ h
/-- A right term: its depth is at most k, its length at most m. -/
def Good (k m : Nat) (l : List UInt8) : Prop := depthOf l ≠ 0 ∧ depthOf l ≤ k ∧ l.length ≤ m
theorem Good.mono {k k' m m' : Nat} {l : List UInt8} (h : Good k m l) (hk : k ≤ k') (hm : m ≤ m') : Good k' m' l := ⟨h.1, Nat.le_trans h.2.1 hk, Nat.le_trans h.2.2 hm⟩
theorem good_name (n : Nat) : Good 1 12 (110 :: be8 n) := by
  have h := (depth_of_parse (p := 110 :: be8 n) (d := 1) (name_parse n) (by simp [be8_length]))
  exact ⟨by rw [h.1]; omega, by rw [h.1]; omega, by simp [be8_length]⟩
theorem good_number (n : Nat) : Good 1 12 (117 :: be8 n) := by
  have h := (depth_of_parse (p := 117 :: be8 n) (d := 1) (number_parse n) (by simp [be8_length]))
  exact ⟨by rw [h.1]; omega, by rw [h.1]; omega, by simp [be8_length]⟩
theorem good_gen : Good 1 12 [103] := by
  have h := (depth_of_parse (p := [103]) (d := 1) gen_parse (by simp))
  exact ⟨by rw [h.1]; omega, by rw [h.1]; omega, by simp⟩
theorem good_private (p : Nat) (h1 : 1 ≤ p) (h8 : p ≤ 8) : Good 1 12 [105, UInt8.ofNat p] := by
  have h := (depth_of_parse (p := [105, UInt8.ofNat p]) (d := 1) (private_parse p h1 h8) (by simp))
  exact ⟨by rw [h.1]; omega, by rw [h.1]; omega, by simp⟩
theorem good_text (s : List UInt8) (h : s.length ≤ 2) : Good 1 12 (116 :: 0 :: UInt8.ofNat s.length :: s) := by
  have h1 := text_parse s (by omega)
  have h2 := (depth_of_parse (p := 116 :: 0 :: UInt8.ofNat s.length :: s) (d := 1) (by simpa using h1) (by simp; omega))
  exact ⟨by rw [h2.1]; omega, by rw [h2.1]; omega, by simp; omega⟩
end Tm

end Go.Proofs.YtiodphkmllcjdaaGreat
end

section
namespace Go.Proofs.YtiodphkmllcjdaaGreat.Tm

theorem less_asymm : ∀ a b : List UInt8, less a b = true → less b a = false := by
  intro a
  induction a with
  | nil => intro b h; cases b <;> simp_all [less, Op.bytesLess]
  | cons x a ih =>
    intro b h
    cases b with
    | nil => simp [less, Op.bytesLess] at h
    | cons y b =>
      simp only [less, Op.bytesLess, Bool.or_eq_true, decide_eq_true_eq, Bool.and_eq_true, beq_iff_eq] at h ih
      simp only [less, Op.bytesLess, Bool.or_eq_false_iff, decide_eq_false_iff_not, Bool.and_eq_false_iff]
      rcases h with h | ⟨rfl, h⟩
      · refine ⟨fun h2 => ?_, .inl ?_⟩
        · rw [UInt8.lt_iff_toNat_lt] at h h2; omega
        · simp only [beq_eq_false_iff_ne, ne_eq]
          rintro rfl
          rw [UInt8.lt_iff_toNat_lt] at h; omega
      · refine ⟨fun h2 => ?_, .inr (ih b h)⟩
        rw [UInt8.lt_iff_toNat_lt] at h2; omega

/-- What is read as parts is what exps lists. -/
theorem parts_inv {f : Nat} (hf : f ≤ 400) (kind : UInt8) (k : Nat) : ∀ l ah n e, partsOf (parse f) kind k l ah = (n, e, 0) → l.length ≤ 20000 →
    (exps k l).flatten = l.take n ∧ (∀ x ∈ exps k l, parse f x = (x.length, depthOf x, 0) ∧ depthOf x ≠ 0) ∧ (kind = 101 → chain ah (exps k l)) ∧ e = maxD (exps k l) := by
  induction k with
  | zero =>
    intro l ah n e h _
    simp only [partsOf, Prod.mk.injEq, and_true] at h
    obtain ⟨rfl, rfl⟩ := h
    simp [exps, chain, maxD]
  | succ k ih =>
    intro l ah n e h hl
    obtain ⟨n1, d1, n2, e2, a1, a2, a3, rfl, rfl⟩ := parts_ok h
    have hb := parse_bounds f l
    rw [a1] at hb
    have hb2 := hb.2 rfl
    simp only at hb hb2
    have hr : read l = (n1, d1, 0) := by
      rw [read_parse]
      exact parse_fuel f 400 l n1 d1 a1 (by omega)
    have hx : exps (k + 1) l = l.take n1 :: exps k (l.drop n1) := by simp only [exps, hr]
    have hlen : (l.take n1).length = n1 := by simp; omega
    have hs := parse_stable f l n1 d1 a1 []
    rw [List.append_nil] at hs
    have hd := depth_of_parse (p := l.take n1) (d := d1) (by
      rw [hlen]
      exact parse_fuel f 400 (l.take n1) n1 d1 hs (by omega)) (by rw [hlen]; omega)
    obtain ⟨i1, i2, i3, i4⟩ := ih (l.drop n1) (l.take n1) n2 e2 a3 (by rw [List.length_drop]; omega)
    rw [hx]
    refine ⟨?_, ?_, ?_, ?_⟩
    · rw [List.flatten_cons, i1, List.take_add]
    · intro x hxm
      rcases List.mem_cons.1 hxm with rfl | hxm
      · exact ⟨by rw [hlen, hd.1]; exact hs, by rw [hd.1]; exact hd.2⟩
      · exact i2 x hxm
    · intro h1
      refine ⟨?_, i3 h1⟩
      cases hl2 : less (l.take n1) ah with
      | false => rfl
      | true => exact absurd ⟨h1, hl2⟩ a2
    · simp only [maxD, hd.1, i4]

theorem expsOf_ok {l : List UInt8} (h : right l = true) (he : element l = true) :
    chain [] (expsOf l) ∧ (∀ x ∈ expsOf l, depthOf x ≠ 0 ∧ depthOf x + 1 ≤ depthOf l) ∧ (expsOf l).length ≤ 32 ∧ (expsOf l).flatten.length ≤ l.length := by
  by_cases h0 : l.getD 0 0 = 103
  · have : expsOf l = [] := by unfold expsOf; rw [if_pos h0]
    rw [this]
    simp [chain]
  · have h1 : l.getD 0 0 = 101 := by
      cases l with
      | nil => simp [element] at he
      | cons c r =>
        simp [element] at he h0 ⊢
        rcases he with he | he
        · exact absurd he h0
        · exact he
    obtain ⟨p1, p2, p3⟩ := right_power h h1
    have hx : expsOf l = exps (l.getD 1 0).toNat (l.drop 2) := by unfold expsOf; rw [if_neg h0]
    obtain ⟨hp, hl⟩ := right_parse ((right_iff l).1 h)
    obtain ⟨b0, b1, m, e, b2, b3, b4⟩ := parse_ok hp
    have hh : headOf l = (2, (l.getD 1 0).toNat) := by
      have hne : l ≠ [] := by rintro rfl; simp at p1
      have hh0 : headOf l = if 2 ≤ l.length ∧ 1 ≤ (l.getD 1 0).toNat ∧ (l.getD 1 0).toNat ≤ 32 then (2, (l.getD 1 0).toNat) else (0, 0) := by
        unfold headOf
        rw [if_neg hne, h1]
        simp
      rw [hh0, if_pos ⟨p1, p2, p3⟩]
    have hbg : begin_ l = (2, (l.getD 1 0).toNat) := by rw [(begin_some b0).1, hh]
    rw [hbg, h1] at b2
    simp only at b2
    obtain ⟨i1, i2, i3, i4⟩ := parts_inv (by omega) 101 _ _ _ _ _ b2 (by rw [List.length_drop]; omega)
    rw [hx]
    refine ⟨i3 rfl, ?_, by rw [exps_length]; exact p3, ?_⟩
    · intro x hxm
      refine ⟨(i2 x hxm).2, ?_⟩
      have hle : ∀ (qs : List (List UInt8)) q, q ∈ qs → depthOf q ≤ maxD qs := by
        intro qs
        induction qs with
        | nil => intro q hq; simp at hq
        | cons a qs ih =>
          intro q hq
          simp only [maxD]
          rcases List.mem_cons.1 hq with rfl | hq
          · omega
          · have := ih q hq; omega
      have := hle _ x hxm
      omega
    · rw [i1]
      simp
      omega

theorem chain_insert {t : List UInt8} : ∀ (xs : List (List UInt8)) (ah : List UInt8) (i : Nat), chain ah xs → Found xs t i → (i = 0 → less t ah = false) → chain ah (ins xs i t) := by
  intro xs
  induction xs with
  | nil =>
    intro ah i _ hf h0
    have : i = 0 := by have := hf.1; simp at this; exact this
    subst this
    exact ⟨h0 rfl, trivial⟩
  | cons x xs ih =>
    intro ah i hc hf h0
    cases i with
    | zero =>
      refine ⟨h0 rfl, ?_, hc.2⟩
      have := hf.2.2 (by simp)
      simpa using this
    | succ i =>
      have hf' : Found xs t i := by
        refine ⟨by have := hf.1; simp at this; exact this, fun hp => ?_, fun hl => ?_⟩
        · have := hf.2.1 (by omega)
          have e : (x :: xs).getD (i + 1 - 1) [] = xs.getD (i - 1) [] := by
            cases i with
            | zero => omega
            | succ i => simp
          rw [e] at this
          exact this
        · have := hf.2.2 (by simpa using hl)
          simpa using this
      refine ⟨hc.1, ?_⟩
      refine ih x i hc.2 hf' (fun hi => ?_)
      subst hi
      have := hf.2.1 (by omega)
      exact less_asymm _ _ (by simpa using this)

theorem maxDepth_bound {k : Nat} {ps : List (List UInt8)} (h : ∀ p ∈ ps, depthOf p ≤ k) : maxDepth ps ≤ k := by
  rw [maxDepth_eq]
  induction ps with
  | nil => simp [maxD]
  | cons p ps ih =>
    simp only [maxD]
    have h1 := h p (by simp)
    have h2 := ih (fun q hq => h q (by simp [hq]))
    omega

theorem good_put {hd : List UInt8} {ps : List (List UInt8)} {l : List UInt8} {k : Nat} (hput : put hd ps = (l, 0)) (hb : begin_ (hd ++ ps.flatten) = (hd.length, ps.length)) (hne : hd ≠ [])
    (hk : (hd ++ ps.flatten).getD 0 0 = 107 → element ps.flatten = true) (hc : (hd ++ ps.flatten).getD 0 0 = 101 → chain [] ps) (hg : ∀ p ∈ ps, depthOf p ≤ k) : l = hd ++ ps.flatten ∧ depthOf l = maxDepth ps + 1 ∧ Good (k + 1) 20000 l := by
  obtain ⟨h1, h2, h3, h4⟩ := put_term hput hb hne hk hc
  have hd := depth_of_parse h3 h4
  have := maxDepth_bound hg
  exact ⟨h1, hd.1, by rw [hd.1]; omega, by rw [hd.1]; omega, h4⟩

theorem good_pair {a b l : List UInt8} {k : Nat} (h : put [112] [a, b] = (l, 0)) (ha : depthOf a ≤ k) (hb : depthOf b ≤ k) : l = 112 :: (a ++ b) ∧ depthOf l = max (depthOf a) (depthOf b) + 1 ∧ Good (k + 1) 20000 l := by
  have := good_put (k := k) h (by simp [begin_, headOf]) (by simp) (by simp) (by simp) (by intro p hp; simp at hp; rcases hp with rfl | rfl <;> assumption)
  refine ⟨by simpa using this.1, ?_, this.2.2⟩
  rw [this.2.1]
  simp [maxDepth]
theorem good_sign {a b l : List UInt8} {k : Nat} (h : put [120] [a, b] = (l, 0)) (ha : depthOf a ≤ k) (hb : depthOf b ≤ k) : l = 120 :: (a ++ b) ∧ depthOf l = max (depthOf a) (depthOf b) + 1 ∧ Good (k + 1) 20000 l := by
  have := good_put (k := k) h (by simp [begin_, headOf]) (by simp) (by simp) (by simp) (by intro p hp; simp at hp; rcases hp with rfl | rfl <;> assumption)
  refine ⟨by simpa using this.1, ?_, this.2.2⟩
  rw [this.2.1]
  simp [maxDepth]
theorem good_hash {a l : List UInt8} {k : Nat} (h : put [104] [a] = (l, 0)) (ha : depthOf a ≤ k) : l = 104 :: a ∧ depthOf l = depthOf a + 1 ∧ Good (k + 1) 20000 l := by
  have := good_put (k := k) h (by simp [begin_, headOf]) (by simp) (by simp) (by simp) (by intro p hp; simp at hp; subst hp; assumption)
  refine ⟨by simpa using this.1, ?_, this.2.2⟩
  rw [this.2.1]
  simp [maxDepth]
theorem good_key {a l : List UInt8} {k : Nat} (h : put [107] [a] = (l, 0)) (he : element a = true) (ha : depthOf a ≤ k) : l = 107 :: a ∧ depthOf l = depthOf a + 1 ∧ Good (k + 1) 20000 l := by
  have := good_put (k := k) h (by simp [begin_, headOf]) (by simp) (by intro _; simpa using he) (by simp) (by intro p hp; simp at hp; subst hp; assumption)
  refine ⟨by simpa using this.1, ?_, this.2.2⟩
  rw [this.2.1]
  simp [maxDepth]
theorem good_seal3 {a b c l : List UInt8} {k : Nat} (h : put [115] [a, b, c] = (l, 0)) (ha : depthOf a ≤ k) (hb : depthOf b ≤ k) (hc : depthOf c ≤ k) : l = 115 :: (a ++ (b ++ c)) ∧ Good (k + 1) 20000 l := by
  have := good_put (k := k) h (by simp [begin_, headOf]) (by simp) (by simp) (by simp) (by intro p hp; simp at hp; rcases hp with rfl | rfl | rfl <;> assumption)
  exact ⟨by simpa using this.1, this.2.2⟩
theorem good_power {a b l : List UInt8} {k i : Nat} (ha : right a = true) (hel : element a = true) (hf : Found (expsOf a) b i) (hn : (expsOf a).length ≠ 32)
    (h : put [101, UInt8.ofNat ((expsOf a).length + 1)] (ins (expsOf a) i b) = (l, 0)) (hka : depthOf a ≤ k) (hkb : depthOf b ≤ k) : Good (k + 1) 20000 l := by
  obtain ⟨x1, x2, x3, x4⟩ := expsOf_ok ha hel
  have hil := ins_length (expsOf a) i b hf.1
  refine (good_put (k := k) h ?_ (by simp) ?_ ?_ ?_).2.2
  · rw [hil]
    exact begin_pow _ (by omega) (by omega) _
  · simp
  · intro _
    refine chain_insert _ _ _ x1 hf (fun _ => ?_)
    cases b <;> simp [less, Op.bytesLess]
  · intro p hp
    simp only [ins, List.mem_append, List.mem_cons] at hp
    rcases hp with hp | rfl | hp
    · have := (x2 p (List.mem_of_mem_take hp)).2; omega
    · exact hkb
    · have := (x2 p (List.mem_of_mem_drop hp)).2; omega

end Go.Proofs.YtiodphkmllcjdaaGreat.Tm
end

section
namespace Go.Proofs.YtiodphkmllcjdaaGreat
open Go.ChangeShapes Go.WideShapes Go.ChangeAt Go.RowKit

def MkOut (W : World) (k : Nat) (e : Ending) (w' : World) : Prop :=
  ∃ (l : List UInt8) (en : Nat), e = .returned (.tuple #[.string ⟨l.toArray⟩, .int .i64 en]) ∧ (en = 0 → Tm.Good k 20000 l) ∧ Below W.heap.size W w'

theorem size_list (l : List UInt8) : (⟨l.toArray⟩ : ByteArray).size = l.length := by simp [ByteArray.size]
theorem good_size {k : Nat} {l : List UInt8} (h : Tm.Good k 600 l) : (⟨l.toArray⟩ : ByteArray).size ≤ maxLen := by
  rw [size_list]
  have := h.2.2
  unfold maxLen
  omega
theorem mk_of_pair2 {W : World} {k : Nat} {r : List UInt8 × Nat} (h : ∀ l, r = (l, 0) → Tm.Good k 20000 l) {e : Ending} {w' : World} (hp : Pair2 W r e w') : MkOut W k e w' := by
  obtain ⟨l, en⟩ := r
  obtain ⟨he, hb⟩ := hp
  exact ⟨l, en, he, fun h0 => h l (by rw [h0]), hb⟩

theorem mk_sign {k : Nat} {a b : List UInt8} (ha : Tm.Good k 600 a) (hb : Tm.Good k 600 b) (W : World) : Calls Tryz.prog 14 #[.string ⟨a.toArray⟩, .string ⟨b.toArray⟩] W (MkOut W (k + 1)) :=
  (Sign_calls ⟨a.toArray⟩ ⟨b.toArray⟩ (good_size ha) (good_size hb) W).mono fun _ _ hp => mk_of_pair2 (fun l h => (Tm.good_sign (by simpa using h) ha.2.1 hb.2.1).2.2) hp
end Go.Proofs.YtiodphkmllcjdaaGreat
end

section
namespace Go.Proofs.YtiodphkmllcjdaaGreat
open Go.ChangeShapes Go.WideShapes Go.ChangeAt Go.RowKit

namespace Tm
theorem put_fine {hd : List UInt8} {ps : List (List UInt8)} (h1 : hd.length ≤ 2) (h2 : ps.length ≤ 20) (hg : ∀ p ∈ ps, Good 41 600 p) : put hd ps = (hd ++ ps.flatten, 0) := by
  have hf : ps.flatten.length ≤ ps.length * 600 := by
    clear h2
    induction ps with
    | nil => simp
    | cons p ps ih =>
      have a1 := (hg p (by simp)).2.2
      have a2 := ih (fun q hq => hg q (by simp [hq]))
      simp only [List.flatten_cons, List.length_append, List.length_cons]
      omega
  have hm : maxDepth ps ≤ 41 := maxDepth_bound (fun p hp => (hg p hp).2.1)
  exact put_ok (fun p hp => (hg p hp).1) (by unfold total; omega) (by omega)
end Tm

theorem exact_out {W : World} {r : List UInt8 × Nat} {l : List UInt8} (h : r = (l, 0)) {e : Ending} {w' : World} (hp : Pair2 W r e w') : One W (.tuple #[.string ⟨l.toArray⟩, .int .i64 0]) e w' := by
  subst h
  exact hp

theorem sign_fine {a b : List UInt8} (ha : Tm.Good 41 600 a) (hb : Tm.Good 41 600 b) (W : World) :
    Calls Tryz.prog 14 #[.string ⟨a.toArray⟩, .string ⟨b.toArray⟩] W (One W (.tuple #[.string ⟨(120 :: (a ++ b)).toArray⟩, .int .i64 0])) :=
  (Sign_calls ⟨a.toArray⟩ ⟨b.toArray⟩ (good_size ha) (good_size hb) W).mono fun _ _ hp => exact_out (by
    have := Tm.put_fine (hd := [120]) (ps := [a, b]) (by simp) (by simp) (by intro p hp; simp at hp; rcases hp with rfl | rfl <;> assumption)
    simpa using this) hp
theorem cat3 (k : UInt8) (a b : List UInt8) : (⟨#[k]⟩ ++ ⟨a.toArray⟩ ++ ⟨b.toArray⟩ : ByteArray).toList = k :: (a ++ b) := by
  rw [cat_head, ByteArray.mk_append_mk, ByteArray.toList_mk]
  rfl
where cat_head : (⟨#[k]⟩ ++ ⟨a.toArray⟩ : ByteArray) = ⟨(k :: a).toArray⟩ := ByteArray.mk_append_mk [k] a
theorem cat2 (k : UInt8) (a : List UInt8) : (⟨#[k]⟩ ++ ⟨a.toArray⟩ : ByteArray).toList = k :: a := by
  have : (⟨#[k]⟩ ++ ⟨a.toArray⟩ : ByteArray) = ⟨(k :: a).toArray⟩ := ByteArray.mk_append_mk [k] a
  rw [this, ByteArray.toList_mk]

theorem depth_at (l : List UInt8) (h : l.length ≤ 20000) (W : World) : Calls Tryz.prog 49 #[.string ⟨l.toArray⟩] W (One W (.int .i64 (Tm.depthOf l))) := by
  have := Depth_calls ⟨l.toArray⟩ (by rw [size_list]; unfold maxLen; omega) W
  simpa using this

namespace Tm
theorem take_good {k : Nat} {t : List UInt8} (h : Good k 20000 t) (y : List UInt8) : take (t ++ y) = (t, y, 0) := by
  obtain ⟨hp, hl⟩ := right_parse h.1
  have hs := parse_stable 400 t t.length (depthOf t) hp y
  rw [List.take_length] at hs
  have hr : read (t ++ y) = (t.length, depthOf t, 0) := by rw [read_parse]; exact hs
  unfold take
  rw [hr]
  simp only [ne_eq, not_true_eq_false, if_false]
  rw [if_neg (by omega), List.take_left, List.drop_left]
theorem flat_le {ts : List (List UInt8)} (h : ∀ t ∈ ts, t.length ≤ 600) : ts.flatten.length ≤ ts.length * 600 := by
  induction ts with
  | nil => simp
  | cons p ps ih =>
    have a1 := h p (by simp)
    have a2 := ih (fun q hq => h q (by simp [hq]))
    simp only [List.flatten_cons, List.length_append, List.length_cons]
    omega
end Tm

theorem take_at {k : Nat} {t : List UInt8} (h : Tm.Good k 20000 t) (y : List UInt8) (hy : y.length ≤ 1000000) (W : World) :
    Calls Tryz.prog 76 #[.string ⟨(t ++ y).toArray⟩] W (One W (.tuple #[.string ⟨t.toArray⟩, .string ⟨y.toArray⟩, .int .i64 0])) := by
  have hl := h.2.2
  have := Take_calls ⟨(t ++ y).toArray⟩ (by rw [size_list, List.length_append]; unfold maxLen; omega) W
  have e : (⟨(t ++ y).toArray⟩ : ByteArray).data.toList = t ++ y := by simp
  rw [e, Tm.take_good h y] at this
  exact this

end Go.Proofs.YtiodphkmllcjdaaGreat
end
