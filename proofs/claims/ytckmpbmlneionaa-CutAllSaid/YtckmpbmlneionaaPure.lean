/- The grammar of terms as plain functions on lists of bytes: what a term begins with, and the machine that reads one; no Go program is named here. -/
import Derived.Below
import Derived.Laws.Strings
namespace Go.Proofs.Ytckmpbmlneionaa.Tm

def element : List UInt8 → Bool
  | [] => false
  | c :: _ => c == 103 || c == 101

def textHead (l : List UInt8) : Nat :=
  if l.length < 3 then 0
  else if 100 < (l.getD 1 0).toNat * 256 + (l.getD 2 0).toNat then 0
  else 3 + ((l.getD 1 0).toNat * 256 + (l.getD 2 0).toNat)

/-- How many bytes stand ahead of a term's parts, and how many parts. -/
def headOf (l : List UInt8) : Nat × Nat :=
  if l = [] then (0, 0)
  else if l.getD 0 0 = 103 then (1, 0)
  else if l.getD 0 0 = 110 ∨ l.getD 0 0 = 117 then (9, 0)
  else if l.getD 0 0 = 116 then (textHead l, 0)
  else if l.getD 0 0 = 105 then (if 2 ≤ l.length ∧ 1 ≤ (l.getD 1 0).toNat ∧ (l.getD 1 0).toNat ≤ 8 then (2, 0) else (0, 0))
  else if l.getD 0 0 = 101 then (if 2 ≤ l.length ∧ 1 ≤ (l.getD 1 0).toNat ∧ (l.getD 1 0).toNat ≤ 32 then (2, (l.getD 1 0).toNat) else (0, 0))
  else if l.getD 0 0 = 107 ∨ l.getD 0 0 = 104 then (1, 1)
  else if l.getD 0 0 = 112 ∨ l.getD 0 0 = 120 then (1, 2)
  else if l.getD 0 0 = 115 then (1, 3)
  else (0, 0)

def begin_ (l : List UInt8) : Nat × Nat := if l.length < (headOf l).1 then (0, 0) else headOf l

theorem textHead_le (l : List UInt8) : textHead l ≤ 103 := by
  unfold textHead; split <;> (try split) <;> omega

theorem headOf_le (l : List UInt8) : (headOf l).1 ≤ 103 ∧ (headOf l).2 ≤ 32 := by
  unfold headOf
  have h := textHead_le l
  repeat' split
  all_goals simp_all

theorem begin_le (l : List UInt8) : (begin_ l).1 ≤ l.length ∧ (begin_ l).2 ≤ 32 := by
  unfold begin_
  have h := headOf_le l
  split
  · simp
  · exact ⟨by omega, h.2⟩

/-- A term that has begun: its kind, how many parts are still to come, where the part that is read begins, the part ahead of it. -/
structure Fr where
  kind : UInt8
  left : Nat
  frm : Nat
  ahead : List UInt8

def less (a b : List UInt8) : Bool := Op.bytesLess a b

def inKey : List Fr → Bool
  | [] => false
  | f :: _ => f.kind == 107

/-- The machine: the terms that are open, the innermost first; `up` : a part has just ended. -/
def run (l : List UInt8) : Bool → List Fr → Nat → Nat → Nat × Nat × Nat
  | false, st, at_, depth =>
    if inKey st = true ∧ element (l.drop at_) = false then (0, 0, 2)
    else if st.length = 400 then (0, 0, 4)
    else if h : (begin_ (l.drop at_)).1 = 0 then (0, 0, 2)
    else if 0 < (begin_ (l.drop at_)).2 then
      run l false (⟨l.getD at_ 0, (begin_ (l.drop at_)).2, at_ + (begin_ (l.drop at_)).1, []⟩ :: st) (at_ + (begin_ (l.drop at_)).1) (max depth (st.length + 1))
    else run l true st (at_ + (begin_ (l.drop at_)).1) (max depth (st.length + 1))
  | true, [], at_, depth => (at_, depth, 0)
  | true, f :: st, at_, depth =>
    if f.kind = 101 ∧ less ((l.drop f.frm).take (at_ - f.frm)) f.ahead = true then (0, 0, 2)
    else if 0 < f.left - 1 then run l false (⟨f.kind, f.left - 1, at_, (l.drop f.frm).take (at_ - f.frm)⟩ :: st) at_ depth
    else run l true st at_ depth
termination_by up st at_ _ => (l.length - at_, if up then st.length + 1 else 0)
decreasing_by
  · have h1 := (begin_le (l.drop at_)).1
    simp only [List.length_drop] at h1
    apply Prod.Lex.left; omega
  · have h1 := (begin_le (l.drop at_)).1
    simp only [List.length_drop] at h1
    apply Prod.Lex.left; omega
  · apply Prod.Lex.right; simp
  · apply Prod.Lex.right; simp

theorem run_key {l : List UInt8} {st : List Fr} {at_ depth : Nat} (h1 : inKey st = true) (h2 : element (l.drop at_) = false) : run l false st at_ depth = (0, 0, 2) := by
  conv => lhs; rw [run]
  rw [if_pos ⟨h1, h2⟩]
theorem run_deep {l : List UInt8} {st : List Fr} {at_ depth : Nat} (h : ¬ (inKey st = true ∧ element (l.drop at_) = false)) (h2 : st.length = 400) : run l false st at_ depth = (0, 0, 4) := by
  conv => lhs; rw [run]
  rw [if_neg h, if_pos h2]
theorem run_none {l : List UInt8} {st : List Fr} {at_ depth : Nat} (h : ¬ (inKey st = true ∧ element (l.drop at_) = false)) (h2 : ¬ st.length = 400) (h3 : (begin_ (l.drop at_)).1 = 0) : run l false st at_ depth = (0, 0, 2) := by
  conv => lhs; rw [run]
  rw [if_neg h, if_neg h2, dif_pos h3]
theorem run_push {l : List UInt8} {st : List Fr} {at_ depth a b : Nat} (h : ¬ (inKey st = true ∧ element (l.drop at_) = false)) (h2 : ¬ st.length = 400) (hb : begin_ (l.drop at_) = (a, b)) (h3 : ¬ a = 0) (h4 : 0 < b) :
    run l false st at_ depth = run l false (⟨l.getD at_ 0, b, at_ + a, []⟩ :: st) (at_ + a) (max depth (st.length + 1)) := by
  conv => lhs; rw [run]
  rw [if_neg h, if_neg h2]
  simp only [hb, dif_neg h3, if_pos h4]
theorem run_leaf {l : List UInt8} {st : List Fr} {at_ depth a b : Nat} (h : ¬ (inKey st = true ∧ element (l.drop at_) = false)) (h2 : ¬ st.length = 400) (hb : begin_ (l.drop at_) = (a, b)) (h3 : ¬ a = 0) (h4 : ¬ 0 < b) :
    run l false st at_ depth = run l true st (at_ + a) (max depth (st.length + 1)) := by
  conv => lhs; rw [run]
  rw [if_neg h, if_neg h2]
  simp only [hb, dif_neg h3, if_neg h4]
theorem run_end {l : List UInt8} {at_ depth : Nat} : run l true [] at_ depth = (at_, depth, 0) := by rw [run]
theorem run_less {l : List UInt8} {f : Fr} {st : List Fr} {at_ depth : Nat} (h : f.kind = 101 ∧ less ((l.drop f.frm).take (at_ - f.frm)) f.ahead = true) : run l true (f :: st) at_ depth = (0, 0, 2) := by
  conv => lhs; rw [run]
  rw [if_pos h]
theorem run_more {l : List UInt8} {f : Fr} {st : List Fr} {at_ depth : Nat} (h : ¬ (f.kind = 101 ∧ less ((l.drop f.frm).take (at_ - f.frm)) f.ahead = true)) (h2 : 0 < f.left - 1) :
    run l true (f :: st) at_ depth = run l false (⟨f.kind, f.left - 1, at_, (l.drop f.frm).take (at_ - f.frm)⟩ :: st) at_ depth := by
  conv => lhs; rw [run]
  rw [if_neg h, if_pos h2]
theorem run_pop {l : List UInt8} {f : Fr} {st : List Fr} {at_ depth : Nat} (h : ¬ (f.kind = 101 ∧ less ((l.drop f.frm).take (at_ - f.frm)) f.ahead = true)) (h2 : ¬ 0 < f.left - 1) :
    run l true (f :: st) at_ depth = run l true st at_ depth := by
  conv => lhs; rw [run]
  rw [if_neg h, if_neg h2]

def read (l : List UInt8) : Nat × Nat × Nat := run l false [] 0 0

end Go.Proofs.Ytckmpbmlneionaa.Tm
