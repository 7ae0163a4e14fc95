/- Contracts of headOf and begin: what a term begins with, for every text. -/
import Derived.Test.YtckmpbmlneionaaLeaf
namespace Go.Proofs.Ytckmpbmlneionaa
open Go.ChangeShapes Go.WideShapes Go.ChangeAt Go.RowKit

theorem headOf_at (s : ByteArray) (h : 0 < s.size) : s.data.toList.getD 0 0 = s[0] ∧ ¬ s.data.toList = [] :=
  ⟨getD_bytes s 0 h, fun e => by rw [nil_bytes] at e; omega⟩

def Two (w : World) (a b : Nat) (e : Ending) (w' : World) : Prop := e = .returned (.tuple #[.int .i64 a, .int .i64 b]) ∧ ∃ n, w' = w.drewN n

set_option maxHeartbeats 1000000 in
theorem headOf_calls (s : ByteArray) (hs : s.size ≤ maxLen) (w : World) :
    Calls Try.prog 109 #[.string s] w (Two w (Tm.headOf s.data.toList).1 (Tm.headOf s.data.toList).2) := by
  have hs' := hs
  unfold maxLen at hs
  by_cases h0 : s.size = 0
  · have hf : Tm.headOf s.data.toList = (0, 0) := by rw [(nil_bytes s).2 h0]; rfl
    rw [hf]
    have he : s.toList = [] := by rw [ByteArray.toList_eq, (nil_bytes s).2 h0]
    go_enter Try.func109, Try.ntmps109
    go_wp2
    go_ret2
    exact ⟨rfl, 0, rfl⟩
  · have h1 : 0 < s.size := by omega
    have h1' : (0 : Int) < (s.size : Int) := by omega
    obtain ⟨hg, hne⟩ := headOf_at s h1
    have he : (s.toList == ([] : List UInt8)) = false := isEmpty_no s h1
    have he' : ¬ s.toList = [] := by simpa using he
    have he2 : (s.toList.isEmpty) = false := by simpa using he
    have hf : ∃ r, Tm.headOf s.data.toList = r := ⟨_, rfl⟩
    obtain ⟨r, hf⟩ := hf
    rw [hf]
    unfold Tm.headOf at hf
    rw [if_neg hne, hg, len_bytes] at hf
    by_cases e : s[0] = 103
    · rw [if_pos e] at hf
      subst hf
      clear hg hne
      go_enter Try.func109, Try.ntmps109
      go_wp2
      go_ret2
      exact ⟨rfl, 0, rfl⟩
    rw [if_neg e] at hf
    have g103 : ((s[0].toNat : Int) == 103) = false := u8_no (n := 103) (by omega) e
    clear e
    by_cases e : s[0] = 110 ∨ s[0] = 117
    · rw [if_pos e] at hf
      subst hf
      clear hg hne
      rcases e with e | e
      · clear g103
        go_enter Try.func109, Try.ntmps109
        go_wp2
        go_ret2
        exact ⟨rfl, 0, rfl⟩
      · clear g103
        go_enter Try.func109, Try.ntmps109
        go_wp2
        go_ret2
        exact ⟨rfl, 0, rfl⟩
    rw [if_neg e] at hf
    have g110 : ((s[0].toNat : Int) == 110) = false := u8_no (n := 110) (by omega) (fun h => e (.inl h))
    have g117 : ((s[0].toNat : Int) == 117) = false := u8_no (n := 117) (by omega) (fun h => e (.inr h))
    clear e
    by_cases e : s[0] = 116
    · rw [if_pos e] at hf
      subst hf
      clear hg hne g103 g110 g117
      go_enter Try.func109, Try.ntmps109
      go_wp2_with (go_at_call 111; refine (textHead_calls s hs' _).mono ?_; rintro e' w' ⟨rfl, nq, rfl⟩)
      go_ret2
      exact ⟨rfl, _, rfl⟩
    rw [if_neg e] at hf
    have g116 : ((s[0].toNat : Int) == 116) = false := u8_no (n := 116) (by omega) e
    clear e
    by_cases e : s[0] = 105
    · rw [if_pos e] at hf
      clear hg hne g103 g110 g117 g116
      by_cases h2 : 2 ≤ s.size
      · rw [getD_bytes s 1 (by omega)] at hf
        have h2' : (2 : Int) ≤ (s.size : Int) := by omega
        have h3' : (1 : Int) < (s.size : Int) := by omega
        have h3 : 1 < s.size := by omega
        by_cases hx : 1 ≤ s[1].toNat
        · by_cases hy : s[1].toNat ≤ 8
          · rw [if_pos ⟨h2, hx, hy⟩] at hf
            subst hf
            have hx' : (1 : Int) ≤ (s[1].toNat : Int) := by omega
            have hy' : (s[1].toNat : Int) ≤ 8 := by omega
            go_enter Try.func109, Try.ntmps109
            go_wp2
            all_goals first | omega | (go_ret2; exact ⟨rfl, 0, rfl⟩)
          · rw [if_neg (by omega)] at hf
            subst hf
            have hx' : (1 : Int) ≤ (s[1].toNat : Int) := by omega
            have hy' : ¬ (s[1].toNat : Int) ≤ 8 := by omega
            go_enter Try.func109, Try.ntmps109
            go_wp2
            all_goals first | omega | (go_ret2; exact ⟨rfl, 0, rfl⟩)
        · rw [if_neg (by omega)] at hf
          subst hf
          have hx' : ¬ (1 : Int) ≤ (s[1].toNat : Int) := by omega
          go_enter Try.func109, Try.ntmps109
          go_wp2
          all_goals first | omega | (go_ret2; exact ⟨rfl, 0, rfl⟩)
      · rw [if_neg (by omega)] at hf
        subst hf
        have h2' : ¬ (2 : Int) ≤ (s.size : Int) := by omega
        go_enter Try.func109, Try.ntmps109
        go_wp2
        all_goals first | omega | (go_ret2; exact ⟨rfl, 0, rfl⟩)
    rw [if_neg e] at hf
    have g105 : ((s[0].toNat : Int) == 105) = false := u8_no (n := 105) (by omega) e
    clear e
    by_cases e : s[0] = 101
    · rw [if_pos e] at hf
      clear hg hne g103 g110 g117 g116 g105
      by_cases h2 : 2 ≤ s.size
      · rw [getD_bytes s 1 (by omega)] at hf
        have h2' : (2 : Int) ≤ (s.size : Int) := by omega
        have h3' : (1 : Int) < (s.size : Int) := by omega
        have h3 : 1 < s.size := by omega
        by_cases hx : 1 ≤ s[1].toNat
        · by_cases hy : s[1].toNat ≤ 32
          · rw [if_pos ⟨h2, hx, hy⟩] at hf
            subst hf
            have hx' : (1 : Int) ≤ (s[1].toNat : Int) := by omega
            have hy' : (s[1].toNat : Int) ≤ 32 := by omega
            go_enter Try.func109, Try.ntmps109
            go_wp2
            go_quiet (fail)
            go_wp2
            all_goals first | omega | (go_ret2; exact ⟨rfl, _, rfl⟩)
          · rw [if_neg (by omega)] at hf
            subst hf
            have hx' : (1 : Int) ≤ (s[1].toNat : Int) := by omega
            have hy' : ¬ (s[1].toNat : Int) ≤ 32 := by omega
            go_enter Try.func109, Try.ntmps109
            go_wp2
            all_goals first | omega | (go_ret2; exact ⟨rfl, 0, rfl⟩)
        · rw [if_neg (by omega)] at hf
          subst hf
          have hx' : ¬ (1 : Int) ≤ (s[1].toNat : Int) := by omega
          go_enter Try.func109, Try.ntmps109
          go_wp2
          all_goals first | omega | (go_ret2; exact ⟨rfl, 0, rfl⟩)
      · rw [if_neg (by omega)] at hf
        subst hf
        have h2' : ¬ (2 : Int) ≤ (s.size : Int) := by omega
        go_enter Try.func109, Try.ntmps109
        go_wp2
        all_goals first | omega | (go_ret2; exact ⟨rfl, 0, rfl⟩)
    rw [if_neg e] at hf
    have g101 : ((s[0].toNat : Int) == 101) = false := u8_no (n := 101) (by omega) e
    clear e
    by_cases e : s[0] = 107 ∨ s[0] = 104
    · rw [if_pos e] at hf
      subst hf
      clear hg hne g103 g110 g117 g116 g105 g101
      rcases e with e | e
      · go_enter Try.func109, Try.ntmps109
        go_wp2
        go_ret2
        exact ⟨rfl, 0, rfl⟩
      · go_enter Try.func109, Try.ntmps109
        go_wp2
        go_ret2
        exact ⟨rfl, 0, rfl⟩
    rw [if_neg e] at hf
    have g107 : ((s[0].toNat : Int) == 107) = false := u8_no (n := 107) (by omega) (fun h => e (.inl h))
    have g104 : ((s[0].toNat : Int) == 104) = false := u8_no (n := 104) (by omega) (fun h => e (.inr h))
    clear e
    by_cases e : s[0] = 112 ∨ s[0] = 120
    · rw [if_pos e] at hf
      subst hf
      clear hg hne g103 g110 g117 g116 g105 g101 g107 g104
      rcases e with e | e
      · go_enter Try.func109, Try.ntmps109
        go_wp2
        go_ret2
        exact ⟨rfl, 0, rfl⟩
      · go_enter Try.func109, Try.ntmps109
        go_wp2
        go_ret2
        exact ⟨rfl, 0, rfl⟩
    rw [if_neg e] at hf
    have g112 : ((s[0].toNat : Int) == 112) = false := u8_no (n := 112) (by omega) (fun h => e (.inl h))
    have g120 : ((s[0].toNat : Int) == 120) = false := u8_no (n := 120) (by omega) (fun h => e (.inr h))
    clear e
    by_cases e : s[0] = 115
    · rw [if_pos e] at hf
      subst hf
      clear hg hne g103 g110 g117 g116 g105 g101 g107 g104 g112 g120
      go_enter Try.func109, Try.ntmps109
      go_wp2
      go_ret2
      exact ⟨rfl, 0, rfl⟩
    rw [if_neg e] at hf
    have g115 : ((s[0].toNat : Int) == 115) = false := u8_no (n := 115) (by omega) e
    clear e
    subst hf
    clear hg hne
    go_enter Try.func109, Try.ntmps109
    go_wp2
    go_ret2
    exact ⟨rfl, 0, rfl⟩

set_option maxHeartbeats 400000 in
theorem begin_calls (s : ByteArray) (hs : s.size ≤ maxLen) (w : World) :
    Calls Try.prog 100 #[.string s] w (Two w (Tm.begin_ s.data.toList).1 (Tm.begin_ s.data.toList).2) := by
  have hh := Tm.headOf_le s.data.toList
  obtain ⟨r, hr⟩ : ∃ r, Tm.begin_ s.data.toList = r := ⟨_, rfl⟩
  rw [hr]
  unfold Tm.begin_ at hr
  rw [len_bytes] at hr
  have hc := headOf_calls s hs
  generalize Tm.headOf s.data.toList = h at *
  obtain ⟨a, b⟩ := h
  simp only at hr hh hc
  have HC := Lib.hid hc
  clear hc
  unfold maxLen at hs
  by_cases hlt : s.size < a
  · rw [if_pos hlt] at hr
    subst hr
    have hlt' : (s.size : Int) < (a : Int) := by omega
    go_enter Try.func100, Try.ntmps100
    go_wp2_with (go_at_call 109; refine (HC.out _).mono ?_; rintro e' w' ⟨rfl, nq, rfl⟩)
    all_goals first | omega | (go_ret2; exact ⟨rfl, _, rfl⟩)
  · rw [if_neg hlt] at hr
    subst hr
    have hlt' : (a : Int) ≤ (s.size : Int) := by omega
    go_enter Try.func100, Try.ntmps100
    go_wp2_with (go_at_call 109; refine (HC.out _).mono ?_; rintro e' w' ⟨rfl, nq, rfl⟩)
    all_goals first | omega | (go_ret2; exact ⟨rfl, _, rfl⟩)

end Go.Proofs.Ytckmpbmlneionaa
