/- Contracts of the document's own leaf and parts (gemotref1): how long a leaf is, how many parts stand in a node. -/
import Derived.Test.YtkalmfhebffklaaFine
namespace Go.Proofs.Ytkalmfhebffklaa
open Go.ChangeShapes Go.WideShapes Go.ChangeAt Go.RowKit

namespace Tm
/-- How many bytes a leaf has that a text begins with; below 0: it begins with none. -/
def leafN (l : List UInt8) : Int := if (begin_ l).1 ≠ 0 ∧ (begin_ l).2 = 0 then ((begin_ l).1 : Int) else -1
/-- How many parts stand in a node that is no power, by its first byte. -/
def partsN (c : UInt8) : Int := if c = 107 ∨ c = 104 then 1 else if c = 112 ∨ c = 120 then 2 else if c = 115 then 3 else -1
theorem headOf_ne {x : List UInt8} (hx : ¬ x = []) : headOf x =
      if x.getD 0 0 = 103 then (1, 0)
      else if x.getD 0 0 = 110 ∨ x.getD 0 0 = 117 then (9, 0)
      else if x.getD 0 0 = 116 then (textHead x, 0)
      else if x.getD 0 0 = 105 then (if 2 ≤ x.length ∧ 1 ≤ (x.getD 1 0).toNat ∧ (x.getD 1 0).toNat ≤ 8 then (2, 0) else (0, 0))
      else if x.getD 0 0 = 101 then (if 2 ≤ x.length ∧ 1 ≤ (x.getD 1 0).toNat ∧ (x.getD 1 0).toNat ≤ 32 then (2, (x.getD 1 0).toNat) else (0, 0))
      else if x.getD 0 0 = 107 ∨ x.getD 0 0 = 104 then (1, 1)
      else if x.getD 0 0 = 112 ∨ x.getD 0 0 = 120 then (1, 2)
      else if x.getD 0 0 = 115 then (1, 3)
      else (0, 0) := by unfold headOf; rw [if_neg hx]
theorem leafN_head {l : List UInt8} {a : Nat} (h : headOf l = (a, 0)) (ha : a ≠ 0) : leafN l = if l.length < a then -1 else (a : Int) := by
  unfold leafN begin_
  rw [h]
  by_cases hl : l.length < a
  · simp [hl]
  · simp [hl, ha]
theorem leafN_zero {l : List UInt8} (h : (headOf l).1 = 0) : leafN l = -1 := by
  unfold leafN begin_
  rw [h]
  simp [h]
theorem leafN_node {l : List UInt8} (h : (headOf l).2 ≠ 0) : leafN l = -1 := by
  unfold leafN begin_
  by_cases hl : l.length < (headOf l).1
  · simp [hl]
  · simp [hl, h]
end Tm

def Drew (w : World) (v : Value) (e : Ending) (w' : World) : Prop := e = .returned v ∧ ∃ m, w' = w.drewN m

set_option maxRecDepth 100000 in
set_option maxHeartbeats 2000000 in
theorem parts_calls (c : UInt8) (w : World) : Calls Try.prog 103 #[.int .u8 c.toNat] w fun e w' => e = .returned (.int .i64 (Tm.partsN c)) ∧ w = w' := by
  obtain ⟨r, hr⟩ : ∃ r, Tm.partsN c = r := ⟨_, rfl⟩
  rw [hr]
  unfold Tm.partsN at hr
  by_cases c1 : c = 107
  · subst c1; rw [if_pos (.inl rfl)] at hr; subst hr
    go_enter Try.func103, Try.ntmps103
    go_wp2
    go_ret
    exact ⟨rfl, rfl⟩
  by_cases c2 : c = 104
  · subst c2; rw [if_pos (.inr rfl)] at hr; subst hr
    go_enter Try.func103, Try.ntmps103
    go_wp2
    go_ret
    exact ⟨rfl, rfl⟩
  rw [if_neg (fun h => h.elim c1 c2)] at hr
  by_cases c3 : c = 112
  · subst c3; rw [if_pos (.inl rfl)] at hr; subst hr
    go_enter Try.func103, Try.ntmps103
    go_wp2
    go_ret
    exact ⟨rfl, rfl⟩
  by_cases c4 : c = 120
  · subst c4; rw [if_pos (.inr rfl)] at hr; subst hr
    go_enter Try.func103, Try.ntmps103
    go_wp2
    go_ret
    exact ⟨rfl, rfl⟩
  rw [if_neg (fun h => h.elim c3 c4)] at hr
  by_cases c5 : c = 115
  · subst c5; rw [if_pos rfl] at hr; subst hr
    go_enter Try.func103, Try.ntmps103
    go_wp2
    go_ret
    exact ⟨rfl, rfl⟩
  rw [if_neg c5] at hr
  subst hr
  have g1 : ((c.toNat : Int) == 107) = false := u8_no (n := 107) (by omega) c1
  have g2 : ((c.toNat : Int) == 104) = false := u8_no (n := 104) (by omega) c2
  have g3 : ((c.toNat : Int) == 112) = false := u8_no (n := 112) (by omega) c3
  have g4 : ((c.toNat : Int) == 120) = false := u8_no (n := 120) (by omega) c4
  have g5 : ((c.toNat : Int) == 115) = false := u8_no (n := 115) (by omega) c5
  clear c1 c2 c3 c4 c5
  go_enter Try.func103, Try.ntmps103
  go_wp2
  go_ret
  exact ⟨rfl, rfl⟩

set_option maxRecDepth 100000 in
set_option maxHeartbeats 4000000 in
theorem leaf_calls (s : ByteArray) (hs : s.size ≤ 9223372036854775807) (hp : 0 < s.size) (w : World) : Calls Try.prog 102 #[.string s] w (Drew w (.int .i64 (Tm.leafN s.data.toList))) := by
  obtain ⟨r, hr⟩ : ∃ r, Tm.leafN s.data.toList = r := ⟨_, rfl⟩
  rw [hr]
  have hne : ¬ s.data.toList = [] := fun h => by rw [nil_bytes] at h; omega
  have hc := getD_bytes s 0 hp
  have i1 : (0 : Int) < (s.size : Int) := by omega
  have i2 : (s.size : Int) ≤ 9223372036854775807 := by omega
  have hh := Tm.headOf_ne hne
  rw [hc] at hh
  obtain ⟨c, hcc⟩ : ∃ c, s[0] = c := ⟨_, rfl⟩
  rw [hcc] at hh hc
  have t : ∀ n : Nat, n < 256 → c = UInt8.ofNat n → ((s[0].toNat : Int) == (n : Int)) = true := fun n hn h => u8_yes hn (by rw [hcc]; exact h)
  have f : ∀ n : Nat, n < 256 → ¬ c = UInt8.ofNat n → ((s[0].toNat : Int) == (n : Int)) = false := fun n hn h => u8_no hn (by rw [hcc]; exact h)
  by_cases c1 : c = 103
  · rw [if_pos c1] at hh
    rw [Tm.leafN_head hh (by omega), len_bytes, if_neg (by omega)] at hr
    subst hr
    have g1 : ((s[0].toNat : Int) == 110) = false := f 110 (by omega) (by rw [c1]; decide)
    have g2 : ((s[0].toNat : Int) == 117) = false := f 117 (by omega) (by rw [c1]; decide)
    have g3 : ((s[0].toNat : Int) == 103) = true := t 103 (by omega) c1
    have k1 : ¬ (s.size : Int) < 1 := by omega
    have k2 : (1 : Int) ≤ (s.size : Int) := by omega
    clear t f hh hcc c1 hc
    go_enter Try.func102, Try.ntmps102
    go_wp2
    go_ret
    exact ⟨rfl, 0, rfl⟩
  rw [if_neg c1] at hh
  have g3 : ((s[0].toNat : Int) == 103) = false := f 103 (by omega) c1
  by_cases c2 : c = 110 ∨ c = 117
  · rw [if_pos c2] at hh
    rw [Tm.leafN_head hh (by omega), len_bytes] at hr
    have g : ((s[0].toNat : Int) == 110) = true ∨ (((s[0].toNat : Int) == 110) = false ∧ ((s[0].toNat : Int) == 117) = true) := by
      rcases c2 with h | h
      · exact .inl (t 110 (by omega) h)
      · exact .inr ⟨f 110 (by omega) (by rw [h]; decide), t 117 (by omega) h⟩
    clear t f hh hcc c1 c2 hc g3
    by_cases hl : s.size < 9
    · rw [if_pos hl] at hr
      subst hr
      have k1 : (s.size : Int) < 9 := by omega
      rcases g with g1 | ⟨g1, g2⟩
      all_goals
        go_enter Try.func102, Try.ntmps102
        go_wp2
        go_ret
        exact ⟨rfl, 0, rfl⟩
    · rw [if_neg hl] at hr
      subst hr
      have k1 : (9 : Int) ≤ (s.size : Int) := by omega
      rcases g with g1 | ⟨g1, g2⟩
      all_goals
        go_enter Try.func102, Try.ntmps102
        go_wp2
        go_ret
        exact ⟨rfl, 0, rfl⟩
  rw [if_neg c2] at hh
  have g1 : ((s[0].toNat : Int) == 110) = false := f 110 (by omega) (fun h => c2 (.inl h))
  have g2 : ((s[0].toNat : Int) == 117) = false := f 117 (by omega) (fun h => c2 (.inr h))
  by_cases c3 : c = 116
  · rw [if_pos c3] at hh
    have g4 : ((s[0].toNat : Int) == 116) = true := t 116 (by omega) c3
    have g5 : ((s[0].toNat : Int) == 105) = false := f 105 (by omega) (by rw [c3]; decide)
    clear t f hcc c1 c2 c3 hc
    by_cases hl : s.size < 3
    · have hz : Tm.textHead s.data.toList = 0 := by unfold Tm.textHead; rw [len_bytes, if_pos hl]
      rw [Tm.leafN_zero (by rw [hh]; exact hz)] at hr
      subst hr
      have k1 : (s.size : Int) < 3 := by omega
      have k2 : ¬ (s.size : Int) < -1 := by omega
      clear hh hz
      go_enter Try.func102, Try.ntmps102
      go_wp2
      go_ret
      exact ⟨rfl, 0, rfl⟩
    · have hz : Tm.textHead s.data.toList = if 100 < s[1].toNat * 256 + s[2].toNat then 0 else 3 + (s[1].toNat * 256 + s[2].toNat) := by
        unfold Tm.textHead; rw [len_bytes, if_neg hl, getD_bytes s 1 (by omega), getD_bytes s 2 (by omega)]
      have l1 : 1 < s.size := by omega
      have l2 : 2 < s.size := by omega
      have k0 : (3 : Int) ≤ (s.size : Int) := by omega
      have b1 := s[1].toNat_lt
      have b2 := s[2].toNat_lt
      have k3 : (1 : Int) < (s.size : Int) := by omega
      have k4 : (2 : Int) < (s.size : Int) := by omega
      by_cases hb : 100 < s[1].toNat * 256 + s[2].toNat
      · rw [if_pos hb] at hz
        rw [Tm.leafN_zero (by rw [hh]; exact hz)] at hr
        subst hr
        have k1 : (103 : Int) < 3 + 256 * (s[1].toNat : Int) + (s[2].toNat : Int) := by omega
        have k2 : ¬ (s.size : Int) < -1 := by omega
        clear hh hz hb
        go_enter Try.func102, Try.ntmps102
        go_wp2
        go_quiet (fail)
        go_wp2
        go_ret
        exact ⟨rfl, _, rfl⟩
      · rw [if_neg hb] at hz
        rw [hz] at hh
        rw [Tm.leafN_head hh (by omega), len_bytes] at hr
        have k1 : 3 + 256 * (s[1].toNat : Int) + (s[2].toNat : Int) ≤ 103 := by omega
        by_cases hl2 : s.size < 3 + (s[1].toNat * 256 + s[2].toNat)
        · rw [if_pos hl2] at hr
          subst hr
          have k2 : (s.size : Int) < 3 + 256 * (s[1].toNat : Int) + (s[2].toNat : Int) := by omega
          clear hh hz hb
          go_enter Try.func102, Try.ntmps102
          go_wp2
          go_quiet (fail)
          go_wp2
          go_ret
          exact ⟨rfl, _, rfl⟩
        · rw [if_neg hl2] at hr
          have k2 : 3 + 256 * (s[1].toNat : Int) + (s[2].toNat : Int) ≤ (s.size : Int) := by omega
          have hrr : r = 3 + 256 * (s[1].toNat : Int) + (s[2].toNat : Int) := by rw [← hr]; omega
          have HRR := Lib.hid hrr
          clear hh hz hb hr hrr
          go_enter Try.func102, Try.ntmps102
          go_wp2
          go_quiet (fail)
          go_wp2
          go_ret
          exact ⟨by rw [HRR.out]; rfl, _, rfl⟩
  rw [if_neg c3] at hh
  have g4 : ((s[0].toNat : Int) == 116) = false := f 116 (by omega) c3
  by_cases c4 : c = 105
  · rw [if_pos c4] at hh
    have g5 : ((s[0].toNat : Int) == 105) = true := t 105 (by omega) c4
    clear t f hcc c1 c2 c3 c4 hc
    by_cases hl : s.size < 2
    · rw [if_neg (by rw [len_bytes]; omega)] at hh
      rw [Tm.leafN_zero (by rw [hh])] at hr
      subst hr
      have k1 : (s.size : Int) < 2 := by omega
      have k2 : decide ((1 : Int) < (s.size : Int)) = false := by simp; omega
      clear hh
      go_enter Try.func102, Try.ntmps102
      go_wp2
      go_ret
      exact ⟨rfl, 0, rfl⟩
    · have l1 : 1 < s.size := by omega
      have k1 : (1 : Int) < (s.size : Int) := by omega
      have k4 : (2 : Int) ≤ (s.size : Int) := by omega
      have b1 := s[1].toNat_lt
      rw [getD_bytes s 1 l1] at hh
      by_cases h1 : s[1].toNat < 1
      · rw [if_neg (by omega)] at hh
        rw [Tm.leafN_zero (by rw [hh])] at hr
        subst hr
        have k2 : (s[1].toNat : Int) < 1 := by omega
        have k3 : ¬ (s.size : Int) < -1 := by omega
        clear hh
        go_enter Try.func102, Try.ntmps102
        go_wp2
        go_ret
        exact ⟨rfl, 0, rfl⟩
      · have k2 : decide ((s[1].toNat : Int) < 1) = false := by simp; omega
        by_cases h8 : 8 < s[1].toNat
        · rw [if_neg (by omega)] at hh
          rw [Tm.leafN_zero (by rw [hh])] at hr
          subst hr
          have k3 : (8 : Int) < (s[1].toNat : Int) := by omega
          have k5 : ¬ (s.size : Int) < -1 := by omega
          clear hh
          go_enter Try.func102, Try.ntmps102
          go_wp2
          go_ret
          exact ⟨rfl, 0, rfl⟩
        · rw [if_pos (by rw [len_bytes]; omega)] at hh
          rw [Tm.leafN_head hh (by omega), len_bytes, if_neg hl] at hr
          subst hr
          have k3 : (s[1].toNat : Int) ≤ 8 := by omega
          clear hh
          go_enter Try.func102, Try.ntmps102
          go_wp2
          go_ret
          exact ⟨rfl, 0, rfl⟩
  rw [if_neg c4] at hh
  have g5 : ((s[0].toNat : Int) == 105) = false := f 105 (by omega) c4
  have hrr : r = -1 := by
    rw [← hr]
    by_cases c5 : c = 101
    · rw [if_pos c5] at hh
      by_cases c6 : 2 ≤ s.data.toList.length ∧ 1 ≤ (s.data.toList.getD 1 0).toNat ∧ (s.data.toList.getD 1 0).toNat ≤ 32
      · rw [if_pos c6] at hh
        exact Tm.leafN_node (by rw [hh]; simp only; omega)
      · rw [if_neg c6] at hh
        exact Tm.leafN_zero (by rw [hh])
    rw [if_neg c5] at hh
    by_cases c6 : c = 107 ∨ c = 104
    · rw [if_pos c6] at hh; exact Tm.leafN_node (by rw [hh]; simp)
    rw [if_neg c6] at hh
    by_cases c7 : c = 112 ∨ c = 120
    · rw [if_pos c7] at hh; exact Tm.leafN_node (by rw [hh]; simp)
    rw [if_neg c7] at hh
    by_cases c8 : c = 115
    · rw [if_pos c8] at hh; exact Tm.leafN_node (by rw [hh]; simp)
    rw [if_neg c8] at hh
    exact Tm.leafN_zero (by rw [hh])
  subst hrr
  have k1 : ¬ (s.size : Int) < -1 := by omega
  clear t f hcc c1 c2 c3 c4 hc hh hr
  go_enter Try.func102, Try.ntmps102
  go_wp2
  go_ret
  exact ⟨rfl, 0, rfl⟩

end Go.Proofs.Ytkalmfhebffklaa
