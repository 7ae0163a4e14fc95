/- Contract of Power: the power of the exponents that the element had and the new one at a place that fits, or the error that the chapter names first. -/
import Derived.Test.YtfmjjickgjkcbaaInsert
namespace Go.Proofs.Ytfmjjickgjkcbaa
open Go.ChangeShapes Go.WideShapes Go.ChangeAt Go.RowKit

namespace Tm
def expsOf (l : List UInt8) : List (List UInt8) := if l.getD 0 0 = 103 then [] else exps (l.getD 1 0).toNat (l.drop 2)
def ins (xs : List (List UInt8)) (i : Nat) (t : List UInt8) : List (List UInt8) := xs.take i ++ t :: xs.drop i
theorem ins_length (xs : List (List UInt8)) (i : Nat) (t : List UInt8) (h : i ≤ xs.length) : (ins xs i t).length = xs.length + 1 := by
  simp [ins]; omega
theorem right_begin {l : List UInt8} (h : right l = true) : (begin_ l).1 ≠ 0 := by
  intro h0
  have hr : read l = (0, 0, 2) := by
    unfold read
    rw [run_none (l := l) (st := []) (at_ := 0) (depth := 0) (by simp [inKey]) (by simp) (by simpa using h0)]
  unfold right depthOf at h
  rw [hr] at h
  split at h <;> simp at h
theorem right_power {l : List UInt8} (h : right l = true) (h1 : l.getD 0 0 = 101) : 2 ≤ l.length ∧ 1 ≤ (l.getD 1 0).toNat ∧ (l.getD 1 0).toNat ≤ 32 := by
  have hb := right_begin h
  have hne : l ≠ [] := by intro e; rw [e] at h1; simp at h1
  have hh : headOf l = if 2 ≤ l.length ∧ 1 ≤ (l.getD 1 0).toNat ∧ (l.getD 1 0).toNat ≤ 32 then (2, (l.getD 1 0).toNat) else (0, 0) := by
    unfold headOf
    rw [if_neg hne, h1]
    simp
  unfold begin_ at hb
  rw [hh] at hb
  by_cases hc : 2 ≤ l.length ∧ 1 ≤ (l.getD 1 0).toNat ∧ (l.getD 1 0).toNat ≤ 32
  · exact hc
  · rw [if_neg hc] at hb
    split at hb <;> simp at hb
end Tm

def PowerOut (w : World) (base by_ : List UInt8) (e : Ending) (w' : World) : Prop :=
  ∃ i, Found (Tm.expsOf base) by_ i ∧ Pair2 w (Tm.put [101, UInt8.ofNat ((Tm.expsOf base).length + 1)] (Tm.ins (Tm.expsOf base) i by_)) e w'

/-- What is behind the search and the insertion: put, at the row that they left. -/
theorem put_row (ys : List (List UInt8)) (n g cap : Nat) (w0 w : World) (hb : Below w0.heap.size w0 w) (hT : Texts w g ys) (hg : g < w.heap.size) (hn : ys.length = n + 1) (hn2 : n < 32) (hp : ∀ p ∈ ys, p.length ≤ maxLen) :
    Calls Try.prog 47 #[.slice (some ⟨w.heap.size, 0, none⟩) 2 2, .slice (some ⟨g, 0, none⟩) (n + 1) cap] (w.alloc (.cells #[.int .u8 101, .int .u8 ((n : Int) + 1)] 5)) (Pair2 w0 (Tm.put [101, UInt8.ofNat (n + 1)] ys)) := by
  have e : (Lib.byteCells [101, UInt8.ofNat (n + 1)]).toArray = #[.int .u8 101, .int .u8 ((n : Int) + 1)] := by
    have e1 : ((UInt8.ofNat (n + 1)).toNat : Int) = (n : Int) + 1 := by rw [UInt8.toNat_ofNat']; omega
    have e2 : (Lib.byteCells [101, UInt8.ofNat (n + 1)]).toArray = #[.int .u8 101, .int .u8 ((UInt8.ofNat (n + 1)).toNat : Int)] := rfl
    rw [e2, e1]
  generalize UInt8.ofNat (n + 1) = u at *
  rw [← e, ← hn]
  have hb1 : Below w.heap.size w (w.alloc (.cells (Lib.byteCells [101, u]).toArray 5)) := (Below.refl _ _).alloc (Nat.le_refl _) _
  refine (put_calls [101, u] ys w.heap.size 2 g cap _ (by simp) (by simp; omega) (hT.below hb1 hg) (head_cells (heap_alloc_new w _)) (by omega) (by simp) (by simp) hp).mono ?_
  rintro e' w' ⟨rfl, hbw⟩
  exact ⟨rfl, (hb.trans (hb1.mono hb.size)).trans (hbw.mono (by have := hb.size; simp; omega))⟩

theorem read_take_le (r : List UInt8) (k : Nat) : (r.take k).length ≤ r.length := by simp; omega
theorem exps_mem_le (n : Nat) (r p : List UInt8) (h : p ∈ Tm.exps n r) : p.length ≤ r.length := by
  induction n generalizing r with
  | zero => simp [Tm.exps] at h
  | succ n ih =>
    simp only [Tm.exps, List.mem_cons] at h
    rcases h with rfl | h
    · exact read_take_le _ _
    · have := ih _ h
      rw [List.length_drop] at this
      omega

end Go.Proofs.Ytfmjjickgjkcbaa
