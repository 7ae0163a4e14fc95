/- Contracts of the document's own Take and Right (gemotref1): as the program's. -/
import Derived.Test.YtkalmfhebffklaaEndAll
namespace Go.Proofs.Ytkalmfhebffklaa
open Go.ChangeShapes Go.WideShapes Go.ChangeAt Go.RowKit

namespace Tm
theorem right_take (l : List UInt8) : right l = ((take l).2.2 == 0 && ((take l).2.1 == [] && !((take l).1 == []))) := by
  obtain ⟨⟨n, d, e⟩, hr⟩ : ∃ r, read l = r := ⟨_, rfl⟩
  have hb := parse_bounds 400 l
  rw [← read_parse, hr] at hb
  simp only at hb
  unfold right depthOf take
  rw [hr]
  simp only
  by_cases he : e = 0
  · subst he
    have h1 := hb.2 rfl
    simp only [ne_eq, not_true_eq_false, if_false, false_or]
    by_cases hn : 20000 < n
    · rw [if_pos hn]
      by_cases hl : 20000 < l.length
      · rw [if_pos hl]; rfl
      · omega
    · rw [if_neg hn]
      simp only
      by_cases hnl : n = l.length
      · subst hnl
        rw [if_neg (by omega), if_neg (by simp)]
        have hne : (l == ([] : List UInt8)) = false := by
          cases l with
          | nil => simp at h1
          | cons c r => rfl
        rw [List.take_length, List.drop_length, hne]
        simp
        omega
      · have hd : l.drop n ≠ [] := fun e => by
          have := congrArg List.length e
          simp at this
          omega
        have h2 : (if 20000 < l.length then 0 else if ¬ n = l.length then 0 else d) = 0 := by
          by_cases hl : 20000 < l.length
          · rw [if_pos hl]
          · rw [if_neg hl, if_pos hnl]
        rw [h2]
        simp [hd]
  · simp [he]
end Tm

set_option maxRecDepth 100000 in
set_option maxHeartbeats 4000000 in
theorem RTake_calls (s : ByteArray) (hs : s.size ≤ 9223372036854775807) (w : World) :
    Calls Try.prog 84 #[.string s] w (Drew w (.tuple #[.string ⟨(Tm.take s.data.toList).1.toArray⟩, .string ⟨(Tm.take s.data.toList).2.1.toArray⟩, .int .i64 (Tm.take s.data.toList).2.2])) := by
  have cE : ∀ W, Calls Try.prog 86 #[.string s, .int .i64 0, .int .i64 400] W (Drew W (.tuple #[.int .i64 (Tm.endI 0 (Tm.parse 400 (s.data.toList.drop 0))), .int .i64 (Tm.depI (Tm.parse 400 (s.data.toList.drop 0)))])) := fun W => End_calls s hs 400 (by omega) 0 (by omega) W
  rw [List.drop_zero, ← Tm.read_parse] at cE
  obtain ⟨r, hr⟩ : ∃ r, Tm.take s.data.toList = r := ⟨_, rfl⟩
  rw [hr]
  unfold Tm.take at hr
  have hb := Tm.read_bounds s.data.toList
  rw [len_bytes] at hb
  generalize Tm.read s.data.toList = x at *
  obtain ⟨n, d, er⟩ := x
  simp only at hr hb
  rcases hb.2.2 with rfl | rfl | rfl
  · have eI : Tm.endI 0 (n, d, 0) = (n : Int) := by simp [Tm.endI]
    rw [eI] at cE
    generalize Tm.depI (n, d, 0) = dd at *
    have HC := Lib.hid cE
    rw [if_neg (by simp)] at hr
    have i1 : (0 : Int) ≤ (n : Int) := by omega
    have i2 : (n : Int) ≤ (s.size : Int) := by omega
    have i3 : ((n : Int) == -1) = false := by rw [beq_eq_false_iff_ne]; omega
    have i4 : ((n : Int) == -2) = false := by rw [beq_eq_false_iff_ne]; omega
    clear cE eI
    by_cases h3 : 20000 < n
    · rw [if_pos h3] at hr
      subst hr
      have h3' : (20000 : Int) < (n : Int) := by omega
      go_enter Try.func84, Try.ntmps84
      go_wp2_with fail
      refine (HC.out _).mono ?_
      rintro e' w' ⟨rfl, md, rfl⟩
      go_wp2
      go_ret3
      exact ⟨rfl, _, rfl⟩
    · rw [if_neg h3] at hr
      subst hr
      have h3' : (n : Int) ≤ 20000 := by omega
      have e1 := extract_take s n
      have e2 := extract_eq s n s.size
      rw [List.take_of_length_le (by simp)] at e2
      have E1 := Lib.hid e1
      have E2 := Lib.hid e2
      clear e1 e2
      go_enter Try.func84, Try.ntmps84
      go_wp2_with fail
      refine (HC.out _).mono ?_
      rintro e' w' ⟨rfl, md, rfl⟩
      go_wp2
      go_quiet (fail)
      go_wp2
      go_ret3
      exact ⟨by rw [E1.out, E2.out]; rfl, _, World.drewN_drewN _ _ _⟩
  · have eI : Tm.endI 0 (n, d, 2) = -1 := by simp [Tm.endI]
    rw [eI] at cE
    generalize Tm.depI (n, d, 2) = dd at *
    have HC := Lib.hid cE
    rw [if_pos (by simp)] at hr
    subst hr
    clear cE eI
    go_enter Try.func84, Try.ntmps84
    go_wp2_with fail
    refine (HC.out _).mono ?_
    rintro e' w' ⟨rfl, md, rfl⟩
    go_wp2
    go_ret3
    exact ⟨rfl, _, rfl⟩
  · have eI : Tm.endI 0 (n, d, 4) = -2 := by simp [Tm.endI]
    rw [eI] at cE
    generalize Tm.depI (n, d, 4) = dd at *
    have HC := Lib.hid cE
    rw [if_pos (by simp)] at hr
    subst hr
    clear cE eI
    go_enter Try.func84, Try.ntmps84
    go_wp2_with fail
    refine (HC.out _).mono ?_
    rintro e' w' ⟨rfl, md, rfl⟩
    go_wp2
    go_ret3
    exact ⟨rfl, _, rfl⟩

set_option maxRecDepth 100000 in
set_option maxHeartbeats 4000000 in
theorem RRight_calls (s : ByteArray) (hs : s.size ≤ 9223372036854775807) (w : World) :
    Calls Try.prog 71 #[.string s] w (Drew w (.bool (Tm.right s.data.toList))) := by
  have HC := Lib.hid (fun W => RTake_calls s hs W)
  rw [Tm.right_take]
  generalize Tm.take s.data.toList = r at *
  obtain ⟨a, b, e⟩ := r
  simp only at *
  by_cases he : e = 0
  · subst he
    by_cases hb : b = []
    · subst hb
      by_cases ha : a = []
      · subst ha
        go_enter Try.func71, Try.ntmps71
        go_wp2_with fail
        refine (HC.out _).mono ?_
        rintro e' w' ⟨rfl, md, rfl⟩
        go_wp2
        go_ret
        exact ⟨rfl, _, rfl⟩
      · have q1 : (a == ([] : List UInt8)) = false := by simpa using ha
        rw [q1]
        clear ha
        go_enter Try.func71, Try.ntmps71
        go_wp2_with fail
        refine (HC.out _).mono ?_
        rintro e' w' ⟨rfl, md, rfl⟩
        go_wp2
        go_ret
        exact ⟨rfl, _, rfl⟩
    · have q1 : (b == ([] : List UInt8)) = false := by simpa using hb
      rw [q1]
      clear hb
      go_enter Try.func71, Try.ntmps71
      go_wp2_with fail
      refine (HC.out _).mono ?_
      rintro e' w' ⟨rfl, md, rfl⟩
      go_wp2
      go_ret
      exact ⟨rfl, _, rfl⟩
  · have q1 : (e == 0) = false := by simpa using he
    rw [q1]
    have q2 : ((e : Int) == 0) = false := by rw [beq_eq_false_iff_ne]; omega
    clear he q1
    go_enter Try.func71, Try.ntmps71
    go_wp2_with fail
    refine (HC.out _).mono ?_
    rintro e' w' ⟨rfl, md, rfl⟩
    go_wp2
    go_ret
    exact ⟨rfl, _, rfl⟩

end Go.Proofs.Ytkalmfhebffklaa
