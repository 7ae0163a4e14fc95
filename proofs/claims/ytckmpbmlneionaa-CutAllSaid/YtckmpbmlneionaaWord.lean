/- Contracts of word, Name and Number: a kind and eight bytes, the highest first, for every number. -/
import Derived.Test.YtckmpbmlneionaaMake
namespace Go.Proofs.Ytckmpbmlneionaa
open Go.ChangeShapes Go.WideShapes Go.ChangeAt Go.RowKit

namespace Tm
/-- A number as eight bytes, the highest first. -/
def be8 (n : Nat) : List UInt8 := [UInt8.ofNat (n / 256 ^ 7), UInt8.ofNat (n / 256 ^ 6), UInt8.ofNat (n / 256 ^ 5), UInt8.ofNat (n / 256 ^ 4), UInt8.ofNat (n / 256 ^ 3), UInt8.ofNat (n / 256 ^ 2), UInt8.ofNat (n / 256 ^ 1), UInt8.ofNat (n / 256 ^ 0)]
end Tm

def shiftedTo (n m : Nat) : Nat := n / 256 ^ (8 - m)
theorem shiftedTo_next (n m : Nat) (h0 : 0 < m) (h8 : m ≤ 8) : shiftedTo n (m - 1) = shiftedTo n m / 256 := by
  unfold shiftedTo
  rw [Nat.div_div_eq_div_mul, ← Nat.pow_succ]
  congr 2
  omega
def byteAt (n m q : Nat) : Value := .int .u8 ((if m < q then n / 256 ^ (8 - q) % 256 else 0 : Nat) : Int)
def wordCells (k : UInt8) (n m : Nat) : Array Value := #[.int .u8 k.toNat, byteAt n m 1, byteAt n m 2, byteAt n m 3, byteAt n m 4, byteAt n m 5, byteAt n m 6, byteAt n m 7, byteAt n m 8]
theorem wordCells_start (k : UInt8) (n : Nat) : wordCells k n 8 = #[.int .u8 k.toNat, .int .u8 0, .int .u8 0, .int .u8 0, .int .u8 0, .int .u8 0, .int .u8 0, .int .u8 0, .int .u8 0] := by
  simp [wordCells, byteAt]
theorem wordCells_set (k : UInt8) (n m : Nat) (h0 : 0 < m) (h8 : m ≤ 8) :
    (wordCells k n m).setIfInBounds m (.int .u8 ((shiftedTo n m % 256 : Nat) : Int)) = wordCells k n (m - 1) := by
  match m, h0, h8 with
  | 1, _, _ => rfl
  | 2, _, _ => rfl
  | 3, _, _ => rfl
  | 4, _, _ => rfl
  | 5, _, _ => rfl
  | 6, _, _ => rfl
  | 7, _, _ => rfl
  | 8, _, _ => rfl
theorem wordCells_end (k : UInt8) (n : Nat) : wordCells k n 0 = ((k :: Tm.be8 n).map fun b => Value.int .u8 (b.toNat : Int)).toArray := by
  simp only [wordCells, byteAt, Tm.be8, List.map_cons, List.map_nil, UInt8.toNat_ofNat']
  rfl
theorem wordCells_get (k : UInt8) (n m : Nat) (h8 : m ≤ 8) : ∃ u, (wordCells k n m)[m]? = some u :=
  ⟨_, Array.getElem?_eq_getElem (by simp [wordCells]; omega)⟩

def Spelling (w : World) (k : UInt8) (n g : Nat) (v1 v6 : Value) (wr : World) : Prop :=
  g ≤ 8 ∧ v6 = .int .i64 g ∧ v1 = .int .u64 (shiftedTo n g) ∧ wr.heap[w.heap.size]? = some (.cells (wordCells k n g) 127 (0, 0)) ∧ Below w.heap.size w wr

set_option maxRecDepth 100000 in
set_option maxHeartbeats 1000000 in
theorem word_calls (k : UInt8) (n : Nat) (hn : n < 18446744073709551616) (w : World) :
    Calls Try.prog 52 #[.int .u8 k.toNat, .int .u64 n] w (One w (.string ⟨(k :: Tm.be8 n).toArray⟩)) := by
  have hN : ∀ m, shiftedTo n m < 18446744073709551616 := fun m => Nat.lt_of_le_of_lt (Nat.div_le_self _ _) hn
  have HN := Lib.hid hN
  have h8 : shiftedTo n 8 = n := by simp [shiftedTo]
  have H8 := Lib.hid h8
  have HW := Lib.hid (wordCells_start k n)
  clear hN hn h8
  go_enter Try.func52, Try.ntmps52
  go_wp2
  go_loopg [1, 6] 8 (fun g v1 v6 wr => Spelling w k n g v1 v6 wr)
  case atStart => exact ⟨Nat.le_refl _, rfl, by rw [H8.out], by rw [HW.out]; exact heap_alloc_new w _, (Below.refl _ _).alloc (Nat.le_refl _) _⟩
  case round =>
    obtain ⟨hg, rfl, rfl, hrow, hbel⟩ := hrel
    have hq : (0 : Int) ≤ (shiftedTo n gk : Int) := by omega
    cases gk with
    | zero =>
      have hl : (wordCells k n 0) = ((k :: Tm.be8 n).map fun b => Value.int .u8 (b.toNat : Int)).toArray := wordCells_end k n
      rw [hl] at hrow
      have hcv : (convert 129 31 (.slice (some ⟨w.heap.size, 0, none⟩) 9 9)).run Try.prog wr = .ok (.string ⟨(k :: Tm.be8 n).toArray⟩) wr := by
        refine run_convert_bytes_back wr _ _ 5 _ 9 (k :: Tm.be8 n) Try.underlying129 Try.underlying5 Try.underlying31 ?_
        intro j hj
        refine World.news_of_block hrow j _ ?_
        show ((k :: Tm.be8 n).map fun b => Value.int .u8 (b.toNat : Int))[j]? = _
        rw [List.getElem?_map, List.getElem?_eq_getElem hj]
        rfl
      clear hl hrow hq
      generalize (k :: Tm.be8 n).toArray = z at *
      simp only [Int.natCast_zero] at *
      go_wp2
      go_ret
      exact ⟨rfl, hbel⟩
    | succ m =>
      obtain ⟨u, hu⟩ := wordCells_get k n (m + 1) hg
      have hc : wr.cell? ⟨w.heap.size, m + 1, none⟩ = some u := (cell_of_row wr _ _ _ _ _ hrow).trans hu
      have hf : wr.frozen? ⟨w.heap.size, m + 1, none⟩ = false := frozen_of_row wr _ _ _ _ hrow
      have HR := Lib.hid hrow
      clear hrow hu
      have i1 : (0 : Int) ≤ (m : Int) + 1 := by omega
      have i2 : (m : Int) + 1 < 9 := by omega
      have i3 : (0 : Int) < (m : Int) + 1 := by omega
      go_wp2
      go_roundg m
      case measure => omega
      case rel =>
        refine ⟨by omega, rfl, ?_, ?_, hbel.setCell (Nat.le_refl _) _⟩
        · have := shiftedTo_next n (m + 1) (by omega) hg
          rw [Nat.add_sub_cancel] at this
          rw [this]
          rfl
        · have h1 := heap_setCell_same wr w.heap.size (m + 1) _ _ (.int .u8 ((shiftedTo n (m + 1) : Int) % 256)) HR.out
          have h2 := wordCells_set k n (m + 1) (by omega) hg
          rw [Nat.add_sub_cancel] at h2
          rw [← h2]
          exact h1

set_option maxHeartbeats 400000 in
theorem Name_calls (n : Nat) (hn : n < 18446744073709551616) (w : World) :
    Calls Try.prog 36 #[.int .u64 n] w (One w (.string ⟨(110 :: Tm.be8 n).toArray⟩)) := by
  have HC := Lib.hid (word_calls 110 n hn)
  generalize (110 :: Tm.be8 n).toArray = z at *
  clear hn
  go_enter Try.func36, Try.ntmps36
  go_wp2_with (go_at_call 52; refine (HC.out _).mono ?_; rintro e' w' ⟨rfl, hbw⟩)
  go_ret
  exact ⟨rfl, hbw⟩

set_option maxHeartbeats 400000 in
theorem Number_calls (n : Nat) (hn : n < 18446744073709551616) (w : World) :
    Calls Try.prog 35 #[.int .u64 n] w (One w (.string ⟨(117 :: Tm.be8 n).toArray⟩)) := by
  have HC := Lib.hid (word_calls 117 n hn)
  generalize (117 :: Tm.be8 n).toArray = z at *
  clear hn
  go_enter Try.func35, Try.ntmps35
  go_wp2_with (go_at_call 52; refine (HC.out _).mono ?_; rintro e' w' ⟨rfl, hbw⟩)
  go_ret
  exact ⟨rfl, hbw⟩

end Go.Proofs.Ytckmpbmlneionaa
