/- What read, Depth, Right, Take come to, as plain functions on lists of bytes, and their bounds. -/
import Derived.Test.YtckmpbmlneionaaPure
namespace Go.Proofs.Ytckmpbmlneionaa.Tm

theorem run_bounds (l : List UInt8) (up : Bool) (st : List Fr) (at_ depth : Nat) (h : at_ ≤ l.length) (hs : st.length ≤ 400) (hd : depth ≤ 400) :
    (run l up st at_ depth).1 ≤ l.length ∧ (run l up st at_ depth).2.1 ≤ 400 ∧ ((run l up st at_ depth).2.2 = 0 ∨ (run l up st at_ depth).2.2 = 2 ∨ (run l up st at_ depth).2.2 = 4) ∧
      ((run l up st at_ depth).2.2 ≠ 0 → (run l up st at_ depth).1 = 0 ∧ (run l up st at_ depth).2.1 = 0) ∧ ((run l up st at_ depth).2.2 = 0 → depth ≤ (run l up st at_ depth).2.1) := by
  induction up, st, at_, depth using run.induct l with
  | case1 st at_ depth h1 => rw [run, if_pos h1]; simp
  | case2 st at_ depth h1 h2 => rw [run, if_neg h1, if_pos h2]; simp
  | case3 st at_ depth h1 h2 h3 => rw [run, if_neg h1, if_neg h2, dif_pos h3]; simp
  | case4 st at_ depth h1 h2 h3 h4 ih =>
    rw [run, if_neg h1, if_neg h2, dif_neg h3, if_pos h4]
    have hb := (begin_le (l.drop at_)).1
    simp only [List.length_drop] at hb
    obtain ⟨i1, i2, i3, i4, i5⟩ := ih (by omega) (by simp; omega) (by omega)
    exact ⟨i1, i2, i3, i4, fun h => by have := i5 h; omega⟩
  | case5 st at_ depth h1 h2 h3 h4 ih =>
    rw [run, if_neg h1, if_neg h2, dif_neg h3, if_neg h4]
    have hb := (begin_le (l.drop at_)).1
    simp only [List.length_drop] at hb
    obtain ⟨i1, i2, i3, i4, i5⟩ := ih (by omega) (by omega) (by omega)
    exact ⟨i1, i2, i3, i4, fun h => by have := i5 h; omega⟩
  | case6 at_ depth => rw [run]; exact ⟨h, hd, by simp, by simp, by simp⟩
  | case7 f st at_ depth h1 => rw [run, if_pos h1]; simp
  | case8 f st at_ depth h1 h2 ih =>
    have e := run_more (l := l) (st := st) (depth := depth) h1 h2
    rw [e]
    exact ih h (by simpa using hs) hd
  | case9 f st at_ depth h1 h2 ih =>
    have e := run_pop (l := l) (st := st) (depth := depth) h1 h2
    rw [e]
    exact ih h (by simp at hs; omega) hd

theorem read_bounds (l : List UInt8) : (read l).1 ≤ l.length ∧ (read l).2.1 ≤ 400 ∧ ((read l).2.2 = 0 ∨ (read l).2.2 = 2 ∨ (read l).2.2 = 4) := by
  have h := run_bounds l false [] 0 0 (Nat.zero_le _) (by simp) (Nat.zero_le _)
  exact ⟨h.1, h.2.1, h.2.2.1⟩

def depthOf (l : List UInt8) : Nat := if 20000 < l.length then 0 else if (read l).2.2 ≠ 0 ∨ (read l).1 ≠ l.length then 0 else (read l).2.1
def right (l : List UInt8) : Bool := decide (0 < depthOf l)
theorem depthOf_le (l : List UInt8) : depthOf l ≤ 400 := by
  unfold depthOf
  have := (read_bounds l).2.1
  split
  · omega
  · split <;> omega

/-- Take: the term, what is behind it, the error. -/
def take (l : List UInt8) : List UInt8 × List UInt8 × Nat :=
  if (read l).2.2 ≠ 0 then ([], [], (read l).2.2) else if 20000 < (read l).1 then ([], [], 3) else (l.take (read l).1, l.drop (read l).1, 0)

end Go.Proofs.Ytckmpbmlneionaa.Tm
