/- Contract of cut.Begins. -/
import Derived.Test.YtkalmfhebffklaaCtClone
namespace Go.Proofs.Ytkalmfhebffklaa.L11
open Go.ChangeShapes Go.WideShapes Go.ChangeAt Go.RowKit Go.Deep

def beginsL (xs ys : List Bytes) : Bool := decide (xs.length ≤ ys.length) && decide (xs = ys.take xs.length)
theorem ItAt.take {w : World} {A : Option Addr} {c : Nat} {l : List Bytes} (h : ItAt w ⟨A, c, l⟩) {n : Nat} (hn : n ≤ l.length) : ItAt w ⟨A, c, l.take n⟩ := by
  have hl : (l.take n).length = n := by rw [List.length_take]; omega
  refine ⟨by have := h.le; simp only at this ⊢; omega, h.few, h.nil, fun z hz => h.short z (List.mem_of_mem_take hz), fun j z hz => ?_⟩
  rw [List.getElem?_take] at hz
  split at hz
  · exact h.reads j z hz
  · cases hz
set_option maxHeartbeats 1000000 in
theorem begins_calls (x y : It) (w : World) (hx : ItAt w x) (hy : ItAt w y) : Calls Try.prog 26 #[x.v, y.v] w (One w (.bool (beginsL x.l y.l))) := by
  obtain ⟨A, c, xs⟩ := x
  obtain ⟨A2, c2, ys⟩ := y
  have f1 := Nat.le_trans hx.le hx.few
  have f2 := Nat.le_trans hy.le hy.few
  have hle := hy.le
  have hnil := hy.nil
  have hfew := hy.few
  simp only at f1 f2 hle hnil hfew
  unfold maxLen at f1 f2 hfew
  by_cases hn : xs.length ≤ ys.length
  · have hE := equal_calls ⟨A, c, xs⟩ ⟨A2, c2, ys.take xs.length⟩ w hx (hy.take hn)
    have hl : (ys.take xs.length).length = xs.length := by rw [List.length_take]; omega
    simp only [It.v, hl] at hE ⊢
    have e : beginsL xs ys = decide (xs = ys.take xs.length) := by simp [beginsL, hn]
    rw [e]
    generalize decide (xs = ys.take xs.length) = b at *
    have HE := Lib.hid hE
    have j1 : (xs.length : Int) ≤ (ys.length : Int) := by omega
    have j2 : (0 : Int) ≤ (xs.length : Int) := by omega
    have j3 : (xs.length : Int) ≤ (c2 : Int) := by omega
    clear hx hy hE hl e hn
    generalize xs.length = n at *
    generalize ys.length = m at *
    go_enter Try.func26, Try.ntmps26
    go_wp2_with fail
    refine HE.out.mono ?_
    rintro e w1 ⟨rfl, b1⟩
    have HB := Lib.hid b1
    clear b1 HE
    go_wp2
    go_ret
    exact ⟨rfl, HB.out⟩
  · have e : beginsL xs ys = false := by simp [beginsL, hn]
    rw [e]
    simp only [It.v]
    have j1 : ¬ (xs.length : Int) ≤ (ys.length : Int) := by omega
    clear hx hy e hn hnil
    generalize xs.length = n at *
    generalize ys.length = m at *
    go_enter Try.func26, Try.ntmps26
    go_wp2
    go_ret
    exact ⟨rfl, Below.refl _ _⟩
end Go.Proofs.Ytkalmfhebffklaa.L11
