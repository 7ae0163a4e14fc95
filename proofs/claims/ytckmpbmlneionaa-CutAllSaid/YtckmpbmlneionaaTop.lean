/- Contracts of Depth, Right and Take: what the grammar says, for every text. -/
import Derived.Test.YtckmpbmlneionaaRead
import Derived.Test.YtckmpbmlneionaaPure2
namespace Go.Proofs.Ytckmpbmlneionaa
open Go.ChangeShapes Go.WideShapes Go.ChangeAt Go.RowKit

def One (w : World) (v : Value) (e : Ending) (w' : World) : Prop := e = .returned v ∧ Below w.heap.size w w'

set_option maxHeartbeats 400000 in
theorem Depth_calls (s : ByteArray) (hs : s.size ≤ maxLen) (w : World) :
    Calls Try.prog 81 #[.string s] w (One w (.int .i64 (Tm.depthOf s.data.toList))) := by
  obtain ⟨r, hr⟩ : ∃ r, Tm.depthOf s.data.toList = r := ⟨_, rfl⟩
  rw [hr]
  unfold Tm.depthOf at hr
  rw [len_bytes] at hr
  have hc := read_calls s hs
  have hb := Tm.read_bounds s.data.toList
  rw [len_bytes] at hb
  generalize Tm.read s.data.toList = x at *
  obtain ⟨n, d, er⟩ := x
  simp only at hr hb
  have HC := Lib.hid hc
  clear hc
  unfold maxLen at hs
  by_cases h1 : 20000 < s.size
  · rw [if_pos h1] at hr
    subst hr
    have h1' : (20000 : Int) < (s.size : Int) := by omega
    go_enter Try.func81, Try.ntmps81
    go_wp2
    all_goals first | omega | (go_ret; exact ⟨rfl, Below.refl _ _⟩)
  rw [if_neg h1] at hr
  have h1' : (s.size : Int) ≤ 20000 := by omega
  by_cases h2 : er = 0
  · subst h2
    by_cases h3 : n = s.size
    · rw [if_neg (by simp [h3])] at hr
      subst hr
      have h3' : ((n : Int) == (s.size : Int)) = true := by simp [h3]
      have h3'' : ((n : Int) != (s.size : Int)) = false := by simp [h3]
      clear h3
      go_enter Try.func81, Try.ntmps81
      go_wp2_with (go_at_call 85; refine (HC.out _).mono ?_; rintro e' w' ⟨rfl, hbw⟩)
      all_goals first | omega | (go_ret; exact ⟨rfl, hbw⟩)
    · rw [if_pos (by simp [h3])] at hr
      subst hr
      have h3' : ((n : Int) == (s.size : Int)) = false := by simp; omega
      have h3'' : ((n : Int) != (s.size : Int)) = true := by simp; omega
      go_enter Try.func81, Try.ntmps81
      go_wp2_with (go_at_call 85; refine (HC.out _).mono ?_; rintro e' w' ⟨rfl, hbw⟩)
      all_goals first | omega | (go_ret; exact ⟨rfl, hbw⟩)
  · rw [if_pos (.inl h2)] at hr
    subst hr
    have h2' : ((er : Int) == 0) = false := by simp; omega
    have h2'' : ((er : Int) != 0) = true := by simp; omega
    go_enter Try.func81, Try.ntmps81
    go_wp2_with (go_at_call 85; refine (HC.out _).mono ?_; rintro e' w' ⟨rfl, hbw⟩)
    all_goals first | omega | (go_ret; exact ⟨rfl, hbw⟩)

set_option maxHeartbeats 400000 in
theorem Right_calls (s : ByteArray) (hs : s.size ≤ maxLen) (w : World) :
    Calls Try.prog 72 #[.string s] w (One w (.bool (Tm.right s.data.toList))) := by
  have HC := Lib.hid (Depth_calls s hs)
  unfold Tm.right
  generalize Tm.depthOf s.data.toList = d at *
  go_enter Try.func72, Try.ntmps72
  go_wp2_with (go_at_call 81; refine (HC.out _).mono ?_; rintro e' w' ⟨rfl, hbw⟩)
  go_ret
  exact ⟨by simp, hbw⟩

theorem extract_take (s : ByteArray) (b : Nat) : s.extract 0 b = ⟨(s.data.toList.take b).toArray⟩ := by
  rw [extract_eq]; simp

set_option maxHeartbeats 400000 in
theorem Take_calls (s : ByteArray) (hs : s.size ≤ maxLen) (w : World) :
    Calls Try.prog 73 #[.string s] w (One w (.tuple #[.string ⟨(Tm.take s.data.toList).1.toArray⟩, .string ⟨(Tm.take s.data.toList).2.1.toArray⟩, .int .i64 (Tm.take s.data.toList).2.2])) := by
  obtain ⟨r, hr⟩ : ∃ r, Tm.take s.data.toList = r := ⟨_, rfl⟩
  rw [hr]
  unfold Tm.take at hr
  have hc := read_calls s hs
  have hb := Tm.read_bounds s.data.toList
  rw [len_bytes] at hb
  generalize Tm.read s.data.toList = x at *
  obtain ⟨n, d, er⟩ := x
  simp only at hr hb
  have HC := Lib.hid hc
  clear hc
  unfold maxLen at hs
  by_cases h2 : er = 0
  · subst h2
    rw [if_neg (by simp)] at hr
    have i1 : (0 : Int) ≤ (n : Int) := by omega
    have i2 : (n : Int) ≤ (s.size : Int) := by omega
    by_cases h3 : 20000 < n
    · rw [if_pos h3] at hr
      subst hr
      have h3' : (20000 : Int) < (n : Int) := by omega
      go_enter Try.func73, Try.ntmps73
      go_wp2_with (go_at_call 85; refine (HC.out _).mono ?_; rintro e' w' ⟨rfl, hbw⟩)
      all_goals first | omega | (go_ret3; exact ⟨rfl, hbw⟩)
    · rw [if_neg h3] at hr
      subst hr
      have h3' : (n : Int) ≤ 20000 := by omega
      have e1 := extract_take s n
      have e2 := extract_eq s n s.size
      rw [List.take_of_length_le (by simp)] at e2
      have E1 := Lib.hid e1
      have E2 := Lib.hid e2
      clear e1 e2
      go_enter Try.func73, Try.ntmps73
      go_wp2_with (go_at_call 85; refine (HC.out _).mono ?_; rintro e' w' ⟨rfl, hbw⟩)
      go_quiet (fail)
      go_wp2
      all_goals first | omega | (go_ret3; exact ⟨by rw [E1.out, E2.out]; rfl, below_drewN hbw _⟩)
  · rw [if_pos h2] at hr
    subst hr
    have h2' : ((er : Int) == 0) = false := by simp; omega
    have h2'' : ((er : Int) != 0) = true := by simp; omega
    go_enter Try.func73, Try.ntmps73
    go_wp2_with (go_at_call 85; refine (HC.out _).mono ?_; rintro e' w' ⟨rfl, hbw⟩)
    all_goals first | omega | (go_ret3; exact ⟨rfl, hbw⟩)

end Go.Proofs.Ytckmpbmlneionaa
