/- Contracts of the document's own Number (gemotref1). -/
import Derived.Test.YtkalmfhebffklaaLaw
namespace Go.Proofs.Ytkalmfhebffklaa
open Go.ChangeShapes Go.WideShapes Go.ChangeAt Go.RowKit

theorem cat_one (c : UInt8) (l : List UInt8) : (⟨#[c]⟩ ++ ⟨l.toArray⟩ : ByteArray) = ⟨(c :: l).toArray⟩ := ByteArray.mk_append_mk [c] l
def eightAt (n i q : Nat) : Value := .int .u8 ((if 7 < q + i then n / 256 ^ (7 - q) % 256 else 0 : Nat) : Int)
def eightCells (n i : Nat) : Array Value := #[eightAt n i 0, eightAt n i 1, eightAt n i 2, eightAt n i 3, eightAt n i 4, eightAt n i 5, eightAt n i 6, eightAt n i 7]
theorem eightCells_start (n : Nat) : eightCells n 0 = #[.int .u8 0, .int .u8 0, .int .u8 0, .int .u8 0, .int .u8 0, .int .u8 0, .int .u8 0, .int .u8 0] := by
  simp [eightCells, eightAt]
theorem eightCells_set (n i : Nat) (h : i < 8) : (eightCells n i).setIfInBounds (7 - i) (.int .u8 ((n / 256 ^ i % 256 : Nat) : Int)) = eightCells n (i + 1) := by
  match i, h with
  | 0, _ => rfl
  | 1, _ => rfl
  | 2, _ => rfl
  | 3, _ => rfl
  | 4, _ => rfl
  | 5, _ => rfl
  | 6, _ => rfl
  | 7, _ => rfl
theorem eightCells_end (n : Nat) : eightCells n 8 = ((Tm.be8 n).map fun b => Value.int .u8 (b.toNat : Int)).toArray := by
  simp only [eightCells, eightAt, Tm.be8, List.map_cons, List.map_nil, UInt8.toNat_ofNat']
  rfl
theorem eightCells_get (n i j : Nat) (h : j < 8) : ∃ u, (eightCells n i)[j]? = some u := ⟨_, Array.getElem?_eq_getElem (by simp [eightCells]; omega)⟩

def Eighting (w : World) (n k : Nat) (v4 : Value) (wr : World) : Prop :=
  ∃ i, k + i = 8 ∧ v4 = .int .i64 i ∧ wr.heap[w.heap.size]? = some (.cells (eightCells n i) 5 (0, 0)) ∧ Below w.heap.size w wr

theorem shift_eight (n i : Nat) : (n : Int) / 2 ^ (8 * i) = ((n / 256 ^ i : Nat) : Int) := by
  have : (256 : Nat) ^ i = 2 ^ (8 * i) := by rw [Nat.pow_mul]
  rw [this]
  simp

set_option maxRecDepth 100000 in
set_option maxHeartbeats 1000000 in
theorem eight_calls (n : Nat) (hn : n < 18446744073709551616) (w : World) :
    Calls Try.prog 70 #[.int .u64 n] w (One w (.string ⟨(Tm.be8 n).toArray⟩)) := by
  have HN := Lib.hid hn
  have hi8 : (Try.prog.info? 5).map (fun i => (i.zero, i.size, i.bytes)) = some (some (.int .u8 0), 1, 1) := by kernel_rfl
  obtain ⟨i0, hi, hz0, hz1, hz2⟩ := info_parts hi8
  have hmk0 := run_make (P := Try.prog) w 129 5 i0 (.int .u8 0) Try.underlying129 hi hz0 .i64 .i64 8 8 (by omega) (by omega) (by rw [hz2]; omega) (by omega)
  have hmc : madeCells (Value.int .u8 0).cells (8 * 1) = eightCells n 0 := by
    rw [eightCells_start]
    apply Array.toList_inj.1
    show (madeCells #[Value.int .u8 0] 8).toList = _
    rw [toList_madeCells_one]
    rfl
  have hmk : (Instr.makeSlice 129 (.int .i64 8) (.int .i64 8)).run Try.prog w = .ok (.slice (some ⟨w.heap.size, 0, none⟩) 8 8) (w.alloc (.cells (eightCells n 0) 5)) := by
    rw [hmk0, ← hmc, hz1]
    rfl
  have HI : Hid (Eighting w n 8 (.int .i64 0) (w.alloc (.cells (eightCells n 0) 5))) := ⟨0, rfl, rfl, heap_alloc_new w _, (Below.refl _ _).alloc (Nat.le_refl _) _⟩
  clear hn hmk0 hmc hi8 hz0 hz1 hz2 hi
  generalize w.alloc (.cells (eightCells n 0) 5) = w1 at *
  go_enter Try.func70, Try.ntmps70
  go_wp2
  clear hmk
  go_loopg [4] 8 (fun k v4 wr => Eighting w n k v4 wr)
  case atStart => exact HI.out
  case round =>
    clear HI
    obtain ⟨i, hk, rfl, hrow, hbel⟩ := hrel
    by_cases hlt : i < 8
    · obtain ⟨u, hu⟩ := eightCells_get n i (7 - i) (by omega)
      have hc : wr.cell? ⟨w.heap.size, 7 - i, none⟩ = some u := (cell_of_row wr _ _ _ _ _ hrow).trans hu
      have hf : wr.frozen? ⟨w.heap.size, 7 - i, none⟩ = false := frozen_of_row wr _ _ _ _ hrow
      have HR := Lib.hid hrow
      clear hrow hu
      have j1 : (i : Int) < 8 := by omega
      have j2 : (0 : Int) ≤ 7 - (i : Int) := by omega
      have j3 : 7 - (i : Int) < 8 := by omega
      have j4 : (7 - (i : Int)).toNat = 7 - i := by omega
      have j5 : (0 : Int) ≤ 8 * (i : Int) := by omega
      have j6 : 8 * (i : Int) ≤ 64 := by omega
      have j7 : (8 * (i : Int)).toNat = 8 * i := by omega
      have hsh := shift_eight n i
      go_wp2
      go_roundg (gk - 1)
      case measure => omega
      case rel =>
        refine ⟨i + 1, by omega, rfl, ?_, hbel.setCell (Nat.le_refl _) _⟩
        have e : ((n : Int) / 256 ^ i % 256) = ((n / 256 ^ i % 256 : Nat) : Int) := by simp
        rw [e, ← eightCells_set n i hlt]
        exact heap_setCell_same wr w.heap.size (7 - i) _ _ _ HR.out
    · have hi8 : i = 8 := by omega
      subst hi8
      rw [eightCells_end] at hrow
      have hcv : (convert 129 9 (.slice (some ⟨w.heap.size, 0, none⟩) 8 8)).run Try.prog wr = .ok (.string ⟨(Tm.be8 n).toArray⟩) wr := by
        refine run_convert_bytes_back wr _ _ 5 _ 8 (Tm.be8 n) Try.underlying129 Try.underlying5 Try.underlying9 ?_
        intro j hj
        refine World.news_of_block hrow j _ ?_
        show ((Tm.be8 n).map fun b => Value.int .u8 (b.toNat : Int))[j]? = _
        rw [List.getElem?_map, List.getElem?_eq_getElem hj]
        rfl
      clear hrow
      generalize (Tm.be8 n).toArray = z at *
      have j1 : ¬ ((8 : Int) < 8) := by omega
      go_wp2
      go_ret
      exact ⟨rfl, hbel⟩


set_option maxRecDepth 100000 in
set_option maxHeartbeats 400000 in
theorem refNumber_calls (n : Nat) (hn : n < 18446744073709551616) (w : World) :
    Calls Try.prog 55 #[.int .u64 n] w (One w (.string ⟨(117 :: Tm.be8 n).toArray⟩)) := by
  have HC := Lib.hid (eight_calls n hn)
  have hl : (Tm.be8 n).length = 8 := rfl
  have HD := Lib.hid (cat_one 117 (Tm.be8 n))
  obtain ⟨z, hz⟩ : ∃ z, Tm.be8 n = z := ⟨_, rfl⟩
  rw [hz] at HC HD hl ⊢
  have hsz : (z.length : Int) ≤ 100 := by omega
  clear hn hz hl
  go_enter Try.func55, Try.ntmps55
  go_wp2_with fail
  refine (HC.out _).mono ?_
  rintro e' w' ⟨rfl, hbw⟩
  go_wp2
  all_goals first | omega | (go_ret; exact ⟨by rw [← HD.out]; rfl, hbw⟩)

end Go.Proofs.Ytkalmfhebffklaa
