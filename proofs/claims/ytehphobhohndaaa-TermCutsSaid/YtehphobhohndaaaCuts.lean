/- The law TermCuts: for all steps, places and texts behind it returns true. -/
import Derived.Test.YtehphobhohndaaaTakes
import Derived.Test.YtehphobhohndaaaCutPure
namespace Go.Proofs.Ytehphobhohndaaa
open Go.ChangeShapes Go.WideShapes Go.ChangeAt Go.RowKit

theorem cut_read {k : Nat} {t : List UInt8} (h : Tm.Good k 600 t) {m : Nat} (hm : m < t.length) : Tm.read (t.take m) = (0, 0, 2) := by
  rw [Tm.read_parse]
  exact Tm.parse_cut 400 t t.length _ m (Tm.right_parse h.1).1 hm
theorem cut_take {k : Nat} {t : List UInt8} (h : Tm.Good k 600 t) {m : Nat} (hm : m < t.length) (W : World) :
    Calls Try.prog 32 #[.string ((⟨t.toArray⟩ : ByteArray).extract 0 m)] W (One W (.tuple #[.string ⟨#[]⟩, .string ⟨#[]⟩, .int .i64 2])) := by
  have e : ((⟨t.toArray⟩ : ByteArray).extract 0 m).data.toList = t.take m := by rw [toList_extract]; simp
  have hl := h.2.2
  have hsz : ((⟨t.toArray⟩ : ByteArray).extract 0 m).size ≤ maxLen := by rw [← len_bytes, e]; simp [maxLen]; omega
  have := Take_calls _ hsz W
  rw [e] at this
  have ht : Tm.take (t.take m) = ([], [], 2) := by unfold Tm.take; rw [cut_read h hm]; rfl
  rw [ht] at this
  exact this
theorem cut_right {k : Nat} {t : List UInt8} (h : Tm.Good k 600 t) {m : Nat} (hm : m < t.length) (W : World) :
    Calls Try.prog 33 #[.string ((⟨t.toArray⟩ : ByteArray).extract 0 m)] W (One W (.bool false)) := by
  have e : ((⟨t.toArray⟩ : ByteArray).extract 0 m).data.toList = t.take m := by rw [toList_extract]; simp
  have hl := h.2.2
  have hsz : ((⟨t.toArray⟩ : ByteArray).extract 0 m).size ≤ maxLen := by rw [← len_bytes, e]; simp [maxLen]; omega
  have := Right_calls _ hsz W
  rw [e] at this
  have ht : Tm.right (t.take m) = false := by
    unfold Tm.right Tm.depthOf
    rw [cut_read h hm]
    simp
  rw [ht] at this
  exact this

set_option maxRecDepth 100000 in
set_option maxHeartbeats 40000000 in
theorem cuts_all (A : Option Addr) (n c : Nat) (i at_ : Int) (s : ByteArray) (w : World) (hS : Steps w A n) (hnc : n ≤ maxLen) (ri : isInt i) (ra : isInt at_) (hs : s.size ≤ 300) :
    Calls Try.prog 9 #[.slice A n c, .int .i64 i, .int .i64 at_, .string s] w (One w (.bool true)) := by
  have HS := Lib.hid shown_calls
  have HSt := Lib.hid hS
  have HNC := Lib.hid hnc
  have HR := Lib.hid (And.intro ri ra)
  have d1 : decide ((300 : Int) < (s.size : Int)) = false := by simp; omega
  have i1 : (s.size : Int) ≤ 300 := by omega
  clear hS hnc ri ra
  go_enter Try.func9, Try.ntmps9
  go_wp2_with fail
  refine (HS.out _).mono ?_
  rintro e' w0 ⟨rfl, B0⟩
  have HM := Lib.hid (made_calls A n c w0 (steps_below HSt.out B0) HNC.out)
  go_wp2_with fail
  refine HM.out.mono ?_
  rintro e' w1 ⟨g, cap, ts, rfl, hrow, hlen, hgood, hb1⟩
  have B := B0.trans (hb1.mono B0.size)
  have h42 : ts.length ≤ 42 := by omega
  have h22 : 2 ≤ ts.length := by omega
  obtain ⟨pa, t, cPa, la, ca, Ga⟩ := pick_at hrow h22 h42 hgood HR.out.1
  have HPa := Lib.hid cPa
  have ja : (0 : Int) ≤ (pa : Int) := by omega
  have htl : t.length ≤ 600 := Ga.2.2
  have htp : 0 < t.length := by
    rcases Nat.eq_zero_or_pos t.length with h | h
    · have hz := (Tm.right_parse Ga.1).1
      have hb := (Tm.parse_bounds 400 t).2
      rw [hz] at hb
      have := (hb rfl).1
      simp only at this
      omega
    · exact h
  have hml := Tm.pickN_lt at_ t.length htp
  have cPm := fun W => pick_calls at_ t.length HR.out.2.1 HR.out.2.2 htp (by omega) W
  obtain ⟨m, hm⟩ : ∃ m, Tm.pickN at_ t.length = m := ⟨_, rfl⟩
  rw [hm] at hml cPm
  have HPm := Lib.hid cPm
  have HT1 := Lib.hid (fun W => cut_take Ga hml W)
  have HR1 := Lib.hid (fun W => cut_right Ga hml W)
  have cT2 := fun W => take_at (k := 41) (t := t) (Ga.mono (Nat.le_refl _) (by omega)) s.data.toList (by rw [len_bytes]; omega) W
  have hcat : (⟨t.toArray⟩ ++ s : ByteArray) = ⟨(t ++ s.data.toList).toArray⟩ := by
    conv => lhs; rw [of_bytes s]
    exact ByteArray.mk_append_mk t s.data.toList
  rw [← hcat, ← of_bytes s] at cT2
  have HT2 := Lib.hid cT2
  have k1 : (0 : Int) ≤ (m : Int) := by omega
  have k2 : (m : Int) ≤ (t.length : Int) := by omega
  have k3 : (t.length : Int) ≤ 600 := by omega
  have k4 : (t.length : Int) + (s.size : Int) ≤ 1000 := by omega
  have k5 : t.length + s.size ≤ 1000 := by omega
  clear hrow hgood hlen hb1 cPa cPm cT2 hcat HM HSt B0 Ga hm
  go_wp2_with fail
  refine HPa.out.mono ?_
  rintro e' w' ⟨rfl, rfl⟩
  go_wp2_with fail
  refine (HPm.out _).mono ?_
  rintro e' w' ⟨rfl, rfl⟩
  go_wp2_with fail
  refine (HT1.out _).mono ?_
  rintro e' w2 ⟨rfl, b2⟩
  replace B := B.trans (b2.mono B.size)
  clear b2
  go_wp2_with fail
  refine (HT2.out _).mono ?_
  rintro e' w3 ⟨rfl, b3⟩
  replace B := B.trans (b3.mono B.size)
  clear b3
  go_wp2_with fail
  refine (HR1.out _).mono ?_
  rintro e' w4 ⟨rfl, b4⟩
  replace B := B.trans (b4.mono B.size)
  clear b4
  go_wp2
  go_ret
  exact ⟨rfl, B⟩

set_option maxRecDepth 100000 in
set_option maxHeartbeats 400000 in
theorem cuts_long (A : Option Addr) (n c : Nat) (i j : Int) (s : ByteArray) (w : World) (hsm : s.size ≤ maxLen) (h : 300 < s.size) :
    Calls Try.prog 9 #[.slice A n c, .int .i64 i, .int .i64 j, .string s] w (One w (.bool true)) := by
  unfold maxLen at hsm
  have HS := Lib.hid shown_calls
  have d1 : decide ((300 : Int) < (s.size : Int)) = true := by simp; omega
  have i1 : (300 : Int) < (s.size : Int) := by omega
  clear h
  go_enter Try.func9, Try.ntmps9
  go_wp2_with fail
  refine (HS.out _).mono ?_
  rintro e' w1 ⟨rfl, hb1⟩
  go_wp2
  go_ret
  exact ⟨rfl, hb1⟩

theorem cuts_every (A : Option Addr) (n c : Nat) (i j : Int) (s : ByteArray) (w : World) (hS : Steps w A n) (hnc : n ≤ maxLen) (ri : isInt i) (rj : isInt j) (hsm : s.size ≤ maxLen) :
    Calls Try.prog 9 #[.slice A n c, .int .i64 i, .int .i64 j, .string s] w (One w (.bool true)) := by
  by_cases h : s.size ≤ 300
  · exact cuts_all A n c i j s w hS hnc ri rj h
  · exact cuts_long A n c i j s w hsm (by omega)

end Go.Proofs.Ytehphobhohndaaa
