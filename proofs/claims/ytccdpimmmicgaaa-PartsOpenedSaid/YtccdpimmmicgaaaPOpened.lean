/- The law PartsOpened: for all texts, keys and processes it returns true. -/
import Derived.Test.YtccdpimmmicgaaaRef2b
import Derived.Test.YtccdpimmmicgaaaPartsLaw
namespace Go.Proofs.Ytccdpimmmicgaaa.L2
open Go.ChangeShapes Go.WideShapes Go.ChangeAt Go.RowKit

set_option maxRecDepth 100000 in
set_option maxHeartbeats 4000000 in
theorem opened_all (s k : ByteArray) (p : Int) (w : World) (hs : s.size ≤ 1500) (hk : k.size ≤ 1500) :
    Calls Try.prog 7 #[.string s, .string k, .int .i64 p] w (One w (.bool true)) := by
  have HS := Lib.hid shown_calls
  have cA := fun W => Open_calls s k (by unfold maxLen; omega) W
  have cB := fun W => ROpen_calls s k (by omega) W
  have cC := fun W => Check_calls s p (by unfold maxLen; omega) W
  have cD := fun W => RCheck_calls s p (by omega) W
  generalize Tm.openT s.data.toList k.data.toList = r at *
  generalize Tm.checkT s.data.toList p = q at *
  obtain ⟨r1, r2, r3⟩ := r
  obtain ⟨q1, q2⟩ := q
  simp only at cA cB cC cD
  have HA := Lib.hid cA
  have HB := Lib.hid cB
  have HC := Lib.hid cC
  have HD := Lib.hid cD
  have d1 : decide ((1500 : Int) < (s.size : Int)) = false := by simp; omega
  have d2 : decide ((1500 : Int) < (k.size : Int)) = false := by simp; omega
  have i1 : (s.size : Int) ≤ 1500 := by omega
  have i2 : (k.size : Int) ≤ 1500 := by omega
  clear cA cB cC cD
  go_enter Try.func7, Try.ntmps7
  go_wp2_with fail
  refine (HS.out _).mono ?_
  rintro e' w0 ⟨rfl, B⟩
  go_wp2_with fail
  refine (HA.out _).mono ?_
  rintro e' w1 ⟨rfl, b1⟩
  replace B := B.trans (b1.mono B.size)
  clear b1
  go_wp2_with fail
  refine (HB.out _).mono ?_
  rintro e' w2 ⟨rfl, b2⟩
  replace B := B.trans (b2.mono B.size)
  clear b2
  go_wp2_with fail
  refine (HC.out _).mono ?_
  rintro e' w3 ⟨rfl, b3⟩
  replace B := B.trans (b3.mono B.size)
  clear b3
  go_wp2_with fail
  refine (HD.out _).mono ?_
  rintro e' w4 ⟨rfl, b4⟩
  replace B := B.trans (b4.mono B.size)
  clear b4
  go_wp2
  go_ret
  exact ⟨by simp, B⟩

set_option maxRecDepth 100000 in
set_option maxHeartbeats 400000 in
theorem opened_long (s k : ByteArray) (p : Int) (w : World) (hsm : s.size ≤ maxLen) (hkm : k.size ≤ maxLen) (h : 1500 < s.size ∨ 1500 < k.size) :
    Calls Try.prog 7 #[.string s, .string k, .int .i64 p] w (One w (.bool true)) := by
  unfold maxLen at hsm hkm
  have HS := Lib.hid shown_calls
  by_cases h1 : 1500 < s.size
  · have d1 : decide ((1500 : Int) < (s.size : Int)) = true := by simp; omega
    have i1 : (1500 : Int) < (s.size : Int) := by omega
    clear h h1
    go_enter Try.func7, Try.ntmps7
    go_wp2_with fail
    refine (HS.out _).mono ?_
    rintro e' w1 ⟨rfl, hb1⟩
    go_wp2
    go_ret
    exact ⟨rfl, hb1⟩
  · have d1 : decide ((1500 : Int) < (s.size : Int)) = false := by simp; omega
    have i1 : (s.size : Int) ≤ 1500 := by omega
    have d2 : decide ((1500 : Int) < (k.size : Int)) = true := by simp; omega
    have i2 : (1500 : Int) < (k.size : Int) := by omega
    clear h h1
    go_enter Try.func7, Try.ntmps7
    go_wp2_with fail
    refine (HS.out _).mono ?_
    rintro e' w1 ⟨rfl, hb1⟩
    go_wp2
    go_ret
    exact ⟨rfl, hb1⟩

theorem opened_every (s k : ByteArray) (p : Int) (w : World) (hsm : s.size ≤ maxLen) (hkm : k.size ≤ maxLen) :
    Calls Try.prog 7 #[.string s, .string k, .int .i64 p] w (One w (.bool true)) := by
  by_cases h : s.size ≤ 1500 ∧ k.size ≤ 1500
  · exact opened_all s k p w h.1 h.2
  · exact opened_long s k p w hsm hkm (by omega)

end Go.Proofs.Ytccdpimmmicgaaa.L2
