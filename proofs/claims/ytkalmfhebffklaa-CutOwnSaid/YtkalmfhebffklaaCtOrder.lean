/- Contracts of view.Less (once more, to the block), cmp.Compare and cut.order: parts by their keys. -/
import Derived.Test.YtkalmfhebffklaaCtBase
import Derived.Sort.Grow
import Derived.Sort.Statements
import Derived.Lib.Small
namespace Go.Proofs.Ytkalmfhebffklaa.L11
open Go.ChangeShapes Go.WideShapes Go.ChangeAt Go.RowKit Go.Deep Go.Sort

def lessB (a b c d : Int) : Bool := decide (a < c) || (decide (a = c) && decide (b < d))
theorem lessB_iff (a b c d : Int) : lessB a b c d = true ↔ a < c ∨ a = c ∧ b < d := by simp [lessB]
theorem lessB_no (a b c d : Int) : lessB a b c d = false ↔ ¬ (a < c ∨ a = c ∧ b < d) := by
  rw [← lessB_iff]; cases lessB a b c d <;> simp
/-- A call that returned one value, and laid some blocks. -/
def Grown (w : World) (v : Value) (e : Ending) (w' : World) : Prop := e = .returned v ∧ ∃ os, w' = grow w os
theorem below_grow (w : World) (os : Array Obj) : Below w.heap.size w (grow w os) := by
  refine ⟨rfl, rfl, rfl, by simp [grow], fun k hk => ?_⟩
  simp only [grow]
  rw [Array.getElem?_append_left hk]
theorem Grown.below {w w' : World} {v : Value} {e : Ending} (h : Grown w v e w') : e = .returned v ∧ Below w.heap.size w w' := by
  obtain ⟨h1, os, rfl⟩ := h
  exact ⟨h1, below_grow w os⟩
theorem two_grown (w : World) (o p : Obj) : (w.alloc o).alloc p = grow w (#[o] ++ #[p]) := by rw [alloc_eq_grow, alloc_eq_grow, grow_grow]

set_option maxHeartbeats 1000000 in
theorem less_calls (a b c d : Int) (w : World) : Calls Try.prog 66 #[.agg #[.int .i64 a, .int .i64 b], .agg #[.int .i64 c, .int .i64 d]] w (Grown w (.bool (lessB a b c d))) := by
  by_cases h1 : a < c
  · have e : lessB a b c d = true := (lessB_iff _ _ _ _).2 (.inl h1)
    rw [e]
    clear e
    go_enter Try.func66, Try.ntmps66
    go_wp2
    go_ret
    exact ⟨rfl, _, two_grown _ _ _⟩
  · by_cases h2 : a = c
    · subst h2
      have h3 : ¬ a < a := by omega
      have e : lessB a b a d = decide (b < d) := by simp [lessB]
      rw [e]
      clear e h1
      go_enter Try.func66, Try.ntmps66
      go_wp2
      go_ret
      exact ⟨rfl, _, two_grown _ _ _⟩
    · have e : lessB a b c d = false := by simp [lessB, h1, h2]
      rw [e]
      clear e
      go_enter Try.func66, Try.ntmps66
      go_wp2
      go_ret
      exact ⟨rfl, _, two_grown _ _ _⟩
theorem nan_calls (a : Int) (w : World) : Calls Try.prog 80 #[.int .i64 a] w fun e w' => e = .returned (.bool false) ∧ w' = w := by
  go_enter Try.func80, Try.ntmps80
  go_wp2
  go_ret
  exact ⟨by simp, rfl⟩
set_option maxHeartbeats 1000000 in
theorem compare_calls (a b : Int) (w : World) : Calls Try.prog 67 #[.int .i64 a, .int .i64 b] w fun e w' => e = .returned (.int .i64 (Lib.compareInt a b)) ∧ w' = w := by
  have HN := Lib.hid (fun x => nan_calls x w)
  unfold Lib.compareInt
  by_cases h1 : a < b
  · rw [if_pos h1]
    go_enter Try.func67, Try.ntmps67
    go_wp2_with (go_at_call 80; refine (HN.out _).mono ?_; rintro e w' ⟨rfl, rfl⟩)
    go_ret
    exact ⟨rfl, rfl⟩
  · rw [if_neg h1]
    by_cases h2 : b < a
    · have h3 : a > b := h2
      rw [if_pos h3]
      go_enter Try.func67, Try.ntmps67
      go_wp2_with (go_at_call 80; refine (HN.out _).mono ?_; rintro e w' ⟨rfl, rfl⟩)
      go_ret
      exact ⟨rfl, rfl⟩
    · have h3 : ¬ a > b := h2
      rw [if_neg h3]
      go_enter Try.func67, Try.ntmps67
      go_wp2_with (go_at_call 80; refine (HN.out _).mono ?_; rintro e w' ⟨rfl, rfl⟩)
      go_ret
      exact ⟨rfl, rfl⟩
def keyP (p : Pt) : Int × Int × Int := (p.ep, p.co, p.se)
def aheadP (x y : Pt) : Bool := lessB x.ep x.co y.ep y.co || (decide (x.ep = y.ep ∧ x.co = y.co) && decide (x.se < y.se))
def cfP (x y : Pt) : Int := if lessB x.ep x.co y.ep y.co = true then -1 else if lessB y.ep y.co x.ep x.co = true then 1 else Lib.compareInt x.se y.se
theorem aheadP_iff (x y : Pt) : aheadP x y = true ↔ x.ep < y.ep ∨ x.ep = y.ep ∧ (x.co < y.co ∨ x.co = y.co ∧ x.se < y.se) := by
  simp only [aheadP, Bool.or_eq_true, lessB_iff, Bool.and_eq_true, decide_eq_true_eq]
  omega
theorem cfP_ahead (x y : Pt) : (cfP x y < 0) ↔ aheadP x y = true := by
  rw [aheadP_iff]
  unfold cfP Lib.compareInt
  by_cases h1 : lessB x.ep x.co y.ep y.co = true
  · rw [if_pos h1]
    have := (lessB_iff _ _ _ _).1 h1
    constructor
    · intro _; omega
    · intro _; decide
  · rw [if_neg h1]
    rw [lessB_iff] at h1
    by_cases h2 : lessB y.ep y.co x.ep x.co = true
    · rw [if_pos h2]
      rw [lessB_iff] at h2
      constructor
      · intro h; omega
      · intro h; omega
    · rw [if_neg h2]
      rw [lessB_iff] at h2
      split
      · constructor
        · intro _; omega
        · intro _; decide
      · split
        · constructor
          · intro h; omega
          · intro h; omega
        · constructor
          · intro h; omega
          · intro h; omega

/-- Two boxes, one behind the other, and what lies behind them. -/
theorem boxes_at (w : World) (xs ys : Array Value) (t u : TypeId) (os : Array Obj) : ∀ j, (grow ((w.alloc (.cells xs t)).alloc (.cells ys u)) os).cell? ⟨w.heap.size, j, none⟩ = xs[j]? ∧ (grow ((w.alloc (.cells xs t)).alloc (.cells ys u)) os).cell? ⟨w.heap.size + 1, j, none⟩ = ys[j]? := by
  intro j
  have e : grow ((w.alloc (.cells xs t)).alloc (.cells ys u)) os = grow w (#[.cells xs t (0, 0), .cells ys u (0, 0)] ++ os) := by
    rw [two_grown, grow_grow]; rfl
  rw [e]
  constructor
  · simp only [World.cell?, grow]
    rw [Array.getElem?_append_right (Nat.le_refl _), Nat.sub_self, Array.getElem?_append_left (by simp)]
    rfl
  · simp only [World.cell?, grow]
    rw [Array.getElem?_append_right (by omega), show w.heap.size + 1 - w.heap.size = 1 by omega, Array.getElem?_append_left (by simp)]
    rfl

set_option maxHeartbeats 2000000 in
theorem order_calls (x y : Pt) (w : World) : Calls Try.prog 48 #[.agg x.cells.toArray, .agg y.cells.toArray] w (Grown w (.int .i64 (cfP x y))) := by
  have HL := Lib.hid (fun a b c d W => less_calls a b c d W)
  have HC := Lib.hid (fun a b W => compare_calls a b W)
  obtain ⟨e1, c1, s1, i1⟩ := x
  obtain ⟨e2, c2, s2, i2⟩ := y
  simp only [Pt.cells, cfP]
  generalize i1.v = v1
  generalize i2.v = v2
  have HX := Lib.hid (boxes_at w #[.int .i64 e1, .int .i64 c1, .int .i64 s1, v1] #[.int .i64 e2, .int .i64 c2, .int .i64 s2, v2] 60 60)
  by_cases h1 : lessB e1 c1 e2 c2 = true
  · rw [if_pos h1]
    have HL1 := Lib.hid (HL.out e1 c1 e2 c2)
    rw [h1] at HL1
    clear h1 HL
    go_enter Try.func48, Try.ntmps48
    go_wp2_with fail
    refine (HL1.out _).mono ?_
    rintro e w' ⟨rfl, os, rfl⟩
    go_wp2
    go_ret
    exact ⟨rfl, _, by rw [alloc_eq_grow, alloc_eq_grow, grow_grow, grow_grow]⟩
  · have h1' : lessB e1 c1 e2 c2 = false := by simpa using h1
    rw [if_neg h1]
    have HL1 := Lib.hid (HL.out e1 c1 e2 c2)
    rw [h1'] at HL1
    by_cases h2 : lessB e2 c2 e1 c1 = true
    · rw [if_pos h2]
      have HL2 := Lib.hid (HL.out e2 c2 e1 c1)
      rw [h2] at HL2
      clear h1 h1' h2 HL
      go_enter Try.func48, Try.ntmps48
      go_wp2_with fail
      refine (HL1.out _).mono ?_
      rintro e w' ⟨rfl, os, hw'⟩
      have a0 : w'.cell? ⟨w.heap.size, 0, none⟩ = some (.int .i64 e1) := by rw [hw']; exact (HX.out os 0).1
      have a1 : w'.cell? ⟨w.heap.size, 1, none⟩ = some (.int .i64 c1) := by rw [hw']; exact (HX.out os 1).1
      have b0 : w'.cell? ⟨w.heap.size + 1, 0, none⟩ = some (.int .i64 e2) := by rw [hw']; exact (HX.out os 0).2
      have b1 : w'.cell? ⟨w.heap.size + 1, 1, none⟩ = some (.int .i64 c2) := by rw [hw']; exact (HX.out os 1).2
      have HF : Hid (∃ os, w' = grow w os) := ⟨_, by rw [hw', two_grown, grow_grow]⟩
      clear hw' HX HL1
      go_wp2_with fail
      refine (HL2.out _).mono ?_
      rintro e w2 ⟨rfl, os2, hw2⟩
      have HF2 : Hid (∃ os, w2 = grow w os) := by
        obtain ⟨os3, e3⟩ := HF.out
        exact ⟨_, by rw [hw2, e3, grow_grow]⟩
      clear hw2
      go_wp2
      go_ret
      exact ⟨rfl, HF2.out⟩
    · have h2' : lessB e2 c2 e1 c1 = false := by simpa using h2
      rw [if_neg h2]
      have HL2 := Lib.hid (HL.out e2 c2 e1 c1)
      rw [h2'] at HL2
      have HC1 := Lib.hid (HC.out s1 s2)
      generalize Lib.compareInt s1 s2 = r at *
      clear h1 h1' h2 h2' HL HC
      go_enter Try.func48, Try.ntmps48
      go_wp2_with fail
      refine (HL1.out _).mono ?_
      rintro e w' ⟨rfl, os, hw'⟩
      have a0 : w'.cell? ⟨w.heap.size, 0, none⟩ = some (.int .i64 e1) := by rw [hw']; exact (HX.out os 0).1
      have a1 : w'.cell? ⟨w.heap.size, 1, none⟩ = some (.int .i64 c1) := by rw [hw']; exact (HX.out os 1).1
      have b0 : w'.cell? ⟨w.heap.size + 1, 0, none⟩ = some (.int .i64 e2) := by rw [hw']; exact (HX.out os 0).2
      have b1 : w'.cell? ⟨w.heap.size + 1, 1, none⟩ = some (.int .i64 c2) := by rw [hw']; exact (HX.out os 1).2
      have HF : Hid (∃ os, w' = grow ((w.alloc (.cells #[.int .i64 e1, .int .i64 c1, .int .i64 s1, v1] 60)).alloc (.cells #[.int .i64 e2, .int .i64 c2, .int .i64 s2, v2] 60)) os) := ⟨_, hw'⟩
      clear hw' HL1
      go_wp2_with fail
      refine (HL2.out _).mono ?_
      rintro e w2 ⟨rfl, os2, hw2⟩
      have HF2 : Hid (∃ os, w2 = grow ((w.alloc (.cells #[.int .i64 e1, .int .i64 c1, .int .i64 s1, v1] 60)).alloc (.cells #[.int .i64 e2, .int .i64 c2, .int .i64 s2, v2] 60)) os) := by
        obtain ⟨os3, e3⟩ := HF.out
        exact ⟨_, by rw [hw2, e3, grow_grow]⟩
      have a2 : w2.cell? ⟨w.heap.size, 2, none⟩ = some (.int .i64 s1) := by
        obtain ⟨os3, e3⟩ := HF2.out
        rw [e3]; exact (HX.out os3 2).1
      have b2 : w2.cell? ⟨w.heap.size + 1, 2, none⟩ = some (.int .i64 s2) := by
        obtain ⟨os3, e3⟩ := HF2.out
        rw [e3]; exact (HX.out os3 2).2
      clear hw2 HX HL2 HF a0 a1 b0 b1
      go_wp2_with fail
      refine (HC1.out _).mono ?_
      rintro e w3 ⟨rfl, rfl⟩
      go_wp2
      go_ret
      obtain ⟨os3, e3⟩ := HF2.out
      exact ⟨rfl, _, by rw [e3, two_grown, grow_grow]⟩
end Go.Proofs.Ytkalmfhebffklaa.L11
