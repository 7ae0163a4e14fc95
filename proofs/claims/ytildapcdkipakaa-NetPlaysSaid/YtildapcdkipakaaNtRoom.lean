/- NetRoom: no more lie in a net than there is room for; what is refused for that was heard all the same; taken out there is room for one. -/
import Derived.Test.YtildapcdkipakaaNtInts
import Derived.Deep.RegionHeld3
namespace Go.Proofs.Ytildapcdkipakaa.L8
open Go.ChangeShapes Go.WideShapes Go.ChangeAt Go.RowKit Go.Deep

theorem be8_inj8 {a b : Nat} (ha : a < 18446744073709551616) (hb : b < 18446744073709551616) (h : Tm.be8 a = Tm.be8 b) : a = b := by
  simp only [Tm.be8, List.cons.injEq, and_true] at h
  obtain ⟨h7, h6, h5, h4, h3, h2, h1, h0⟩ := h
  have k : ∀ x y : Nat, UInt8.ofNat x = UInt8.ofNat y → x % 256 = y % 256 := by
    intro x y h
    have := congrArg UInt8.toNat h
    rwa [UInt8.toNat_ofNat', UInt8.toNat_ofNat'] at this
  have k7 := k _ _ h7
  have k6 := k _ _ h6
  have k5 := k _ _ h5
  have k4 := k _ _ h4
  have k3 := k _ _ h3
  have k2 := k _ _ h2
  have k1 := k _ _ h1
  have k0 := k _ _ h0
  clear h7 h6 h5 h4 h3 h2 h1 h0 k
  simp only [Nat.pow_zero, Nat.div_one] at k0
  omega
theorem numB_inj {a b : Nat} (ha : a < 18446744073709551616) (hb : b < 18446744073709551616) (h : numB a = numB b) : a = b := be8_inj8 ha hb (by simpa [numB] using h)
def dgR (i : Nat) : Dg := ⟨1 + ((i % 8 : Nat) : Int), 1, numB i⟩
theorem dgR_ok (i : Nat) : (dgR i).ok := ⟨⟨by show (1 : Int) ≤ 1 + _; omega, by show 1 + ((i % 8 : Nat) : Int) ≤ 8; omega⟩, ⟨by show (1 : Int) ≤ 1; omega, by show (1 : Int) ≤ 8; omega⟩, numB_right _⟩
theorem put_next {i : Nat} (hi : i < 1000) : putH ((List.range i).map numB) (numB i) = (List.range (i + 1)).map numB := by
  unfold putH
  rw [if_neg, List.range_succ]
  · simp
  · intro hm
    obtain ⟨j, hj, he⟩ := List.mem_map.1 hm
    rw [List.mem_range] at hj
    have := numB_inj (by omega) (by omega) he
    omega
def Room8 (w : World) (B h : Nat) (K k : Nat) (vi : Value) (wr : World) : Prop :=
  ∃ (i : Nat) (v : Value), k + i = K ∧ vi = .int .i64 i ∧ NtAt wr B h ((List.range (min i 400)).map dgR) v B i ((List.range i).map numB) ∧ Below w.heap.size w wr ∧ B ≤ wr.heap.size

end Go.Proofs.Ytildapcdkipakaa.L8
