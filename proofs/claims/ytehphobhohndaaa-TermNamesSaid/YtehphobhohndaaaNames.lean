/- The statement TermNames: for every two numbers and every two texts the law returns true. -/
import Derived.Test.YtehphobhohndaaaShown
namespace Go.Proofs.Ytehphobhohndaaa
open Go.ChangeShapes Go.WideShapes Go.ChangeAt Go.RowKit

namespace Tm
def nu (n : Nat) : List UInt8 := 117 :: be8 n
def tx (s : List UInt8) : List UInt8 := 116 :: 0 :: UInt8.ofNat s.length :: s
theorem be8_inj {a b : Nat} (ha : a < 18446744073709551616) (hb : b < 18446744073709551616) (h : be8 a = be8 b) : a = b := by
  simp only [be8, List.cons.injEq, and_true] at h
  obtain ⟨h7, h6, h5, h4, h3, h2, h1, h0⟩ := h
  have k : ∀ x y : Nat, UInt8.ofNat x = UInt8.ofNat y → x % 256 = y % 256 := by
    intro x y h
    have := congrArg UInt8.toNat h
    rwa [UInt8.toNat_ofNat', UInt8.toNat_ofNat'] at this
  have k7 := k _ _ h7
  have k6 := k _ _ h6
  have k5 := k _ _ h5
  have k4 := k _ _ h4
  have k3 := k _ _ h3
  have k2 := k _ _ h2
  have k1 := k _ _ h1
  have k0 := k _ _ h0
  clear h7 h6 h5 h4 h3 h2 h1 h0 k
  simp only [Nat.pow_zero, Nat.div_one] at k0
  omega
theorem tx_inj {s t : List UInt8} (h : tx s = tx t) : s = t := by
  simp only [tx, List.cons.injEq, true_and] at h
  exact h.2
theorem tx_depth (s : List UInt8) (h : s.length ≤ 100) : depthOf (tx s) = 1 := by
  have h1 := text_parse s h
  have h2 : (tx s).length = s.length + 3 := by simp [tx]
  exact (depth_of_parse (p := tx s) (d := 1) (by rw [h2]; exact h1) (by omega)).1
theorem tx_right (s : List UInt8) (h : s.length ≤ 100) : right (tx s) = true := (right_iff _).2 (by rw [tx_depth s h]; omega)
end Tm

/-- All that the law asks, as Bools of lists. -/
structure NamesFacts (a b : Nat) (s t : ByteArray) (xs xt na nb ua ub : List UInt8) (p q : Bool) : Prop where
  e1 : (xs == xt) = p
  e2 : (s.toList == t.toList) = p
  e3 : (na == nb) = q
  e4 : ((a : Int) == (b : Int)) = q
  e5 : (ua == ub) = q
  e6 : (na == ub) = false
  e7 : (xs == na) = false
  e8 : (xs == [103]) = false

theorem names_facts (a b : Nat) (ha : a < 18446744073709551616) (hb : b < 18446744073709551616) (s t : ByteArray) :
    NamesFacts a b s t (Tm.tx s.data.toList) (Tm.tx t.data.toList) (Tm.nm a) (Tm.nm b) (Tm.nu a) (Tm.nu b) (s.data.toList == t.data.toList) (decide (a = b)) where
  e1 := by
    rw [Bool.eq_iff_iff]
    simp only [beq_iff_eq]
    exact ⟨Tm.tx_inj, fun h => by rw [h]⟩
  e2 := by rw [ByteArray.toList_eq, ByteArray.toList_eq]
  e3 := by
    rw [Bool.eq_iff_iff]
    simp only [beq_iff_eq, decide_eq_true_eq]
    exact ⟨fun h => Tm.be8_inj ha hb (by simpa [Tm.nm] using h), fun h => by rw [h]⟩
  e4 := by
    rw [Bool.eq_iff_iff]
    simp only [beq_iff_eq, decide_eq_true_eq]
    omega
  e5 := by
    rw [Bool.eq_iff_iff]
    simp only [beq_iff_eq, decide_eq_true_eq]
    exact ⟨fun h => Tm.be8_inj ha hb (by simpa [Tm.nu] using h), fun h => by rw [h]⟩
  e6 := by simp [Tm.nm, Tm.nu]
  e7 := by simp [Tm.tx, Tm.nm]
  e8 := by simp [Tm.tx]

set_option maxRecDepth 100000 in
set_option maxHeartbeats 8000000 in
theorem names_walk (a b : Nat) (s t : ByteArray) (xs xt na nb ua ub : List UInt8) (p q : Bool) (F : NamesFacts a b s t xs xt na nb ua ub p q) (w : World) (i1 : (s.size : Int) ≤ 100) (i2 : (t.size : Int) ≤ 100)
    (cT1 : ∀ W, Calls Try.prog 13 #[.string s] W (One W (.tuple #[.string ⟨xs.toArray⟩, .int .i64 0])))
    (cT2 : ∀ W, Calls Try.prog 13 #[.string t] W (One W (.tuple #[.string ⟨xt.toArray⟩, .int .i64 0])))
    (cNa : ∀ W, Calls Try.prog 17 #[.int .u64 a] W (One W (.string ⟨na.toArray⟩)))
    (cNb : ∀ W, Calls Try.prog 17 #[.int .u64 b] W (One W (.string ⟨nb.toArray⟩)))
    (cUa : ∀ W, Calls Try.prog 19 #[.int .u64 a] W (One W (.string ⟨ua.toArray⟩)))
    (cUb : ∀ W, Calls Try.prog 19 #[.int .u64 b] W (One W (.string ⟨ub.toArray⟩)))
    (cR1 : ∀ W, Calls Try.prog 33 #[.string ⟨xs.toArray⟩] W (One W (.bool true)))
    (cR2 : ∀ W, Calls Try.prog 33 #[.string ⟨na.toArray⟩] W (One W (.bool true)))
    (cD : ∀ W, Calls Try.prog 34 #[.string ⟨xs.toArray⟩] W (One W (.int .i64 1))) :
    Calls Try.prog 8 #[.int .u64 a, .int .u64 b, .string s, .string t] w (One w (.bool true)) := by
  obtain ⟨e1, e2, e3, e4, e5, e6, e7, e8⟩ := F
  have HS := Lib.hid shown_calls
  have HT1 := Lib.hid cT1
  have HT2 := Lib.hid cT2
  have HNa := Lib.hid cNa
  have HNb := Lib.hid cNb
  have HUa := Lib.hid cUa
  have HUb := Lib.hid cUb
  have HR1 := Lib.hid cR1
  have HR2 := Lib.hid cR2
  have HD := Lib.hid cD
  clear cT1 cT2 cNa cNb cUa cUb cR1 cR2 cD
  have d1 : decide ((100 : Int) < (s.size : Int)) = false := by simp; omega
  have d2 : decide ((100 : Int) < (t.size : Int)) = false := by simp; omega
  have d3 : ((1 : Int) == 1) = true := rfl
  rcases p with _ | _ <;> rcases q with _ | _
  all_goals
    go_enter Try.func8, Try.ntmps8
    go_wp2_with fail
    refine (HS.out _).mono ?_
    rintro e' w0 ⟨rfl, B⟩
    go_wp2_with fail
    refine (HT1.out _).mono ?_
    rintro e' w1 ⟨rfl, hb1⟩
    replace B := B.trans (hb1.mono B.size)
    clear hb1
    go_wp2_with fail
    refine (HT2.out _).mono ?_
    rintro e' w2 ⟨rfl, hb2⟩
    replace B := B.trans (hb2.mono B.size)
    clear hb2
    go_wp2_with fail
    refine (HNa.out _).mono ?_
    rintro e' w3 ⟨rfl, hb3⟩
    replace B := B.trans (hb3.mono B.size)
    clear hb3
    go_wp2_with fail
    refine (HNb.out _).mono ?_
    rintro e' w4 ⟨rfl, hb4⟩
    replace B := B.trans (hb4.mono B.size)
    clear hb4
    go_wp2_with fail
    refine (HUa.out _).mono ?_
    rintro e' w5 ⟨rfl, hb5⟩
    replace B := B.trans (hb5.mono B.size)
    clear hb5
    go_wp2_with fail
    refine (HUb.out _).mono ?_
    rintro e' w6 ⟨rfl, hb6⟩
    replace B := B.trans (hb6.mono B.size)
    clear hb6
    go_wp2_with fail
    refine (HNa.out _).mono ?_
    rintro e' w7 ⟨rfl, hb7⟩
    replace B := B.trans (hb7.mono B.size)
    clear hb7
    go_wp2_with fail
    refine (HUb.out _).mono ?_
    rintro e' w8 ⟨rfl, hb8⟩
    replace B := B.trans (hb8.mono B.size)
    clear hb8
    go_wp2_with fail
    refine (HNa.out _).mono ?_
    rintro e' w9 ⟨rfl, hb9⟩
    replace B := B.trans (hb9.mono B.size)
    clear hb9
    go_wp2_with fail
    refine (Gen_calls _).mono ?_
    rintro e' w10 ⟨rfl, hb10⟩
    replace B := B.trans (hb10.mono B.size)
    clear hb10
    go_wp2_with fail
    refine (HR1.out _).mono ?_
    rintro e' w11 ⟨rfl, hb11⟩
    replace B := B.trans (hb11.mono B.size)
    clear hb11
    go_wp2_with fail
    refine (HNa.out _).mono ?_
    rintro e' w12 ⟨rfl, hb12⟩
    replace B := B.trans (hb12.mono B.size)
    clear hb12
    go_wp2_with fail
    refine (HR2.out _).mono ?_
    rintro e' w13 ⟨rfl, hb13⟩
    replace B := B.trans (hb13.mono B.size)
    clear hb13
    go_wp2_with fail
    refine (HD.out _).mono ?_
    rintro e' w14 ⟨rfl, hb14⟩
    replace B := B.trans (hb14.mono B.size)
    clear hb14
    go_wp2
    go_ret
    exact ⟨rfl, B⟩

end Go.Proofs.Ytehphobhohndaaa
