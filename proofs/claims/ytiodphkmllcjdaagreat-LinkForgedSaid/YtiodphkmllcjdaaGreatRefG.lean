/- Contracts of the document's own leaf and parts (gemotref1): how long a leaf is, how many parts stand in a node. Contract of the document's own reader (gemotref1.End): it is the recursive reading, for every text and place. The document's own reader, for every text, place and depth. Contracts of the document's own Take and Right (gemotref1): as the program's. Contracts of the document's own Kind, Of, Open and Check (gemotref2): as the program's. Contract of term.Power at any two right terms, in terms of what stands in them. The order of texts by bytes: it is total, so a row in order is fixed by what stands in it. Contracts of the document's own element, made, Key, Of and Exponents (gemotref1). Contracts of the document's own Number (gemotref1). Contract of the document's own private keys (gemotref1.Private). -/
import Derived.Test.YtiodphkmllcjdaaGreatMkG
import Derived.Test.YtiodphkmllcjdaaGreatOfPure
import Derived.Test.YtiodphkmllcjdaaGreatInG
section
namespace Go.Proofs.YtiodphkmllcjdaaGreat
open Go.ChangeShapes Go.WideShapes Go.ChangeAt Go.RowKit

namespace Tm
/-- How many bytes a leaf has that a text begins with; below 0: it begins with none. -/
def leafN (l : List UInt8) : Int := if (begin_ l).1 ≠ 0 ∧ (begin_ l).2 = 0 then ((begin_ l).1 : Int) else -1
/-- How many parts stand in a node that is no power, by its first byte. -/
def partsN (c : UInt8) : Int := if c = 107 ∨ c = 104 then 1 else if c = 112 ∨ c = 120 then 2 else if c = 115 then 3 else -1
theorem headOf_ne {x : List UInt8} (hx : ¬ x = []) : headOf x =
      if x.getD 0 0 = 103 then (1, 0)
      else if x.getD 0 0 = 110 ∨ x.getD 0 0 = 117 then (9, 0)
      else if x.getD 0 0 = 116 then (textHead x, 0)
      else if x.getD 0 0 = 105 then (if 2 ≤ x.length ∧ 1 ≤ (x.getD 1 0).toNat ∧ (x.getD 1 0).toNat ≤ 8 then (2, 0) else (0, 0))
      else if x.getD 0 0 = 101 then (if 2 ≤ x.length ∧ 1 ≤ (x.getD 1 0).toNat ∧ (x.getD 1 0).toNat ≤ 32 then (2, (x.getD 1 0).toNat) else (0, 0))
      else if x.getD 0 0 = 107 ∨ x.getD 0 0 = 104 then (1, 1)
      else if x.getD 0 0 = 112 ∨ x.getD 0 0 = 120 then (1, 2)
      else if x.getD 0 0 = 115 then (1, 3)
      else (0, 0) := by unfold headOf; rw [if_neg hx]
theorem leafN_head {l : List UInt8} {a : Nat} (h : headOf l = (a, 0)) (ha : a ≠ 0) : leafN l = if l.length < a then -1 else (a : Int) := by
  unfold leafN begin_
  rw [h]
  by_cases hl : l.length < a
  · simp [hl]
  · simp [hl, ha]
theorem leafN_zero {l : List UInt8} (h : (headOf l).1 = 0) : leafN l = -1 := by
  unfold leafN begin_
  rw [h]
  simp [h]
theorem leafN_node {l : List UInt8} (h : (headOf l).2 ≠ 0) : leafN l = -1 := by
  unfold leafN begin_
  by_cases hl : l.length < (headOf l).1
  · simp [hl]
  · simp [hl, h]
end Tm

def Drew (w : World) (v : Value) (e : Ending) (w' : World) : Prop := e = .returned v ∧ ∃ m, w' = w.drewN m

set_option maxRecDepth 100000 in
set_option maxHeartbeats 2000000 in
theorem parts_calls (c : UInt8) (w : World) : Calls Tryz.prog 101 #[.int .u8 c.toNat] w fun e w' => e = .returned (.int .i64 (Tm.partsN c)) ∧ w = w' := by
  obtain ⟨r, hr⟩ : ∃ r, Tm.partsN c = r := ⟨_, rfl⟩
  rw [hr]
  unfold Tm.partsN at hr
  by_cases c1 : c = 107
  · subst c1; rw [if_pos (.inl rfl)] at hr; subst hr
    go_enter Tryz.func101, Tryz.ntmps101
    go_wp2
    go_ret
    exact ⟨rfl, rfl⟩
  by_cases c2 : c = 104
  · subst c2; rw [if_pos (.inr rfl)] at hr; subst hr
    go_enter Tryz.func101, Tryz.ntmps101
    go_wp2
    go_ret
    exact ⟨rfl, rfl⟩
  rw [if_neg (fun h => h.elim c1 c2)] at hr
  by_cases c3 : c = 112
  · subst c3; rw [if_pos (.inl rfl)] at hr; subst hr
    go_enter Tryz.func101, Tryz.ntmps101
    go_wp2
    go_ret
    exact ⟨rfl, rfl⟩
  by_cases c4 : c = 120
  · subst c4; rw [if_pos (.inr rfl)] at hr; subst hr
    go_enter Tryz.func101, Tryz.ntmps101
    go_wp2
    go_ret
    exact ⟨rfl, rfl⟩
  rw [if_neg (fun h => h.elim c3 c4)] at hr
  by_cases c5 : c = 115
  · subst c5; rw [if_pos rfl] at hr; subst hr
    go_enter Tryz.func101, Tryz.ntmps101
    go_wp2
    go_ret
    exact ⟨rfl, rfl⟩
  rw [if_neg c5] at hr
  subst hr
  have g1 : ((c.toNat : Int) == 107) = false := u8_no (n := 107) (by omega) c1
  have g2 : ((c.toNat : Int) == 104) = false := u8_no (n := 104) (by omega) c2
  have g3 : ((c.toNat : Int) == 112) = false := u8_no (n := 112) (by omega) c3
  have g4 : ((c.toNat : Int) == 120) = false := u8_no (n := 120) (by omega) c4
  have g5 : ((c.toNat : Int) == 115) = false := u8_no (n := 115) (by omega) c5
  clear c1 c2 c3 c4 c5
  go_enter Tryz.func101, Tryz.ntmps101
  go_wp2
  go_ret
  exact ⟨rfl, rfl⟩

set_option maxRecDepth 100000 in
set_option maxHeartbeats 4000000 in
theorem leaf_calls (s : ByteArray) (hs : s.size ≤ 9223372036854775807) (hp : 0 < s.size) (w : World) : Calls Tryz.prog 100 #[.string s] w (Drew w (.int .i64 (Tm.leafN s.data.toList))) := by
  obtain ⟨r, hr⟩ : ∃ r, Tm.leafN s.data.toList = r := ⟨_, rfl⟩
  rw [hr]
  have hne : ¬ s.data.toList = [] := fun h => by rw [nil_bytes] at h; omega
  have hc := getD_bytes s 0 hp
  have i1 : (0 : Int) < (s.size : Int) := by omega
  have i2 : (s.size : Int) ≤ 9223372036854775807 := by omega
  have hh := Tm.headOf_ne hne
  rw [hc] at hh
  obtain ⟨c, hcc⟩ : ∃ c, s[0] = c := ⟨_, rfl⟩
  rw [hcc] at hh hc
  have t : ∀ n : Nat, n < 256 → c = UInt8.ofNat n → ((s[0].toNat : Int) == (n : Int)) = true := fun n hn h => u8_yes hn (by rw [hcc]; exact h)
  have f : ∀ n : Nat, n < 256 → ¬ c = UInt8.ofNat n → ((s[0].toNat : Int) == (n : Int)) = false := fun n hn h => u8_no hn (by rw [hcc]; exact h)
  by_cases c1 : c = 103
  · rw [if_pos c1] at hh
    rw [Tm.leafN_head hh (by omega), len_bytes, if_neg (by omega)] at hr
    subst hr
    have g1 : ((s[0].toNat : Int) == 110) = false := f 110 (by omega) (by rw [c1]; decide)
    have g2 : ((s[0].toNat : Int) == 117) = false := f 117 (by omega) (by rw [c1]; decide)
    have g3 : ((s[0].toNat : Int) == 103) = true := t 103 (by omega) c1
    have k1 : ¬ (s.size : Int) < 1 := by omega
    have k2 : (1 : Int) ≤ (s.size : Int) := by omega
    clear t f hh hcc c1 hc
    go_enter Tryz.func100, Tryz.ntmps100
    go_wp2
    go_ret
    exact ⟨rfl, 0, rfl⟩
  rw [if_neg c1] at hh
  have g3 : ((s[0].toNat : Int) == 103) = false := f 103 (by omega) c1
  by_cases c2 : c = 110 ∨ c = 117
  · rw [if_pos c2] at hh
    rw [Tm.leafN_head hh (by omega), len_bytes] at hr
    have g : ((s[0].toNat : Int) == 110) = true ∨ (((s[0].toNat : Int) == 110) = false ∧ ((s[0].toNat : Int) == 117) = true) := by
      rcases c2 with h | h
      · exact .inl (t 110 (by omega) h)
      · exact .inr ⟨f 110 (by omega) (by rw [h]; decide), t 117 (by omega) h⟩
    clear t f hh hcc c1 c2 hc g3
    by_cases hl : s.size < 9
    · rw [if_pos hl] at hr
      subst hr
      have k1 : (s.size : Int) < 9 := by omega
      rcases g with g1 | ⟨g1, g2⟩
      all_goals
        go_enter Tryz.func100, Tryz.ntmps100
        go_wp2
        go_ret
        exact ⟨rfl, 0, rfl⟩
    · rw [if_neg hl] at hr
      subst hr
      have k1 : (9 : Int) ≤ (s.size : Int) := by omega
      rcases g with g1 | ⟨g1, g2⟩
      all_goals
        go_enter Tryz.func100, Tryz.ntmps100
        go_wp2
        go_ret
        exact ⟨rfl, 0, rfl⟩
  rw [if_neg c2] at hh
  have g1 : ((s[0].toNat : Int) == 110) = false := f 110 (by omega) (fun h => c2 (.inl h))
  have g2 : ((s[0].toNat : Int) == 117) = false := f 117 (by omega) (fun h => c2 (.inr h))
  by_cases c3 : c = 116
  · rw [if_pos c3] at hh
    have g4 : ((s[0].toNat : Int) == 116) = true := t 116 (by omega) c3
    have g5 : ((s[0].toNat : Int) == 105) = false := f 105 (by omega) (by rw [c3]; decide)
    clear t f hcc c1 c2 c3 hc
    by_cases hl : s.size < 3
    · have hz : Tm.textHead s.data.toList = 0 := by unfold Tm.textHead; rw [len_bytes, if_pos hl]
      rw [Tm.leafN_zero (by rw [hh]; exact hz)] at hr
      subst hr
      have k1 : (s.size : Int) < 3 := by omega
      have k2 : ¬ (s.size : Int) < -1 := by omega
      clear hh hz
      go_enter Tryz.func100, Tryz.ntmps100
      go_wp2
      go_ret
      exact ⟨rfl, 0, rfl⟩
    · have hz : Tm.textHead s.data.toList = if 100 < s[1].toNat * 256 + s[2].toNat then 0 else 3 + (s[1].toNat * 256 + s[2].toNat) := by
        unfold Tm.textHead; rw [len_bytes, if_neg hl, getD_bytes s 1 (by omega), getD_bytes s 2 (by omega)]
      have l1 : 1 < s.size := by omega
      have l2 : 2 < s.size := by omega
      have k0 : (3 : Int) ≤ (s.size : Int) := by omega
      have b1 := s[1].toNat_lt
      have b2 := s[2].toNat_lt
      have k3 : (1 : Int) < (s.size : Int) := by omega
      have k4 : (2 : Int) < (s.size : Int) := by omega
      by_cases hb : 100 < s[1].toNat * 256 + s[2].toNat
      · rw [if_pos hb] at hz
        rw [Tm.leafN_zero (by rw [hh]; exact hz)] at hr
        subst hr
        have k1 : (103 : Int) < 3 + 256 * (s[1].toNat : Int) + (s[2].toNat : Int) := by omega
        have k2 : ¬ (s.size : Int) < -1 := by omega
        clear hh hz hb
        go_enter Tryz.func100, Tryz.ntmps100
        go_wp2
        go_quiet (fail)
        go_wp2
        go_ret
        exact ⟨rfl, _, rfl⟩
      · rw [if_neg hb] at hz
        rw [hz] at hh
        rw [Tm.leafN_head hh (by omega), len_bytes] at hr
        have k1 : 3 + 256 * (s[1].toNat : Int) + (s[2].toNat : Int) ≤ 103 := by omega
        by_cases hl2 : s.size < 3 + (s[1].toNat * 256 + s[2].toNat)
        · rw [if_pos hl2] at hr
          subst hr
          have k2 : (s.size : Int) < 3 + 256 * (s[1].toNat : Int) + (s[2].toNat : Int) := by omega
          clear hh hz hb
          go_enter Tryz.func100, Tryz.ntmps100
          go_wp2
          go_quiet (fail)
          go_wp2
          go_ret
          exact ⟨rfl, _, rfl⟩
        · rw [if_neg hl2] at hr
          have k2 : 3 + 256 * (s[1].toNat : Int) + (s[2].toNat : Int) ≤ (s.size : Int) := by omega
          have hrr : r = 3 + 256 * (s[1].toNat : Int) + (s[2].toNat : Int) := by rw [← hr]; omega
          have HRR := Lib.hid hrr
          clear hh hz hb hr hrr
          go_enter Tryz.func100, Tryz.ntmps100
          go_wp2
          go_quiet (fail)
          go_wp2
          go_ret
          exact ⟨by rw [HRR.out]; rfl, _, rfl⟩
  rw [if_neg c3] at hh
  have g4 : ((s[0].toNat : Int) == 116) = false := f 116 (by omega) c3
  by_cases c4 : c = 105
  · rw [if_pos c4] at hh
    have g5 : ((s[0].toNat : Int) == 105) = true := t 105 (by omega) c4
    clear t f hcc c1 c2 c3 c4 hc
    by_cases hl : s.size < 2
    · rw [if_neg (by rw [len_bytes]; omega)] at hh
      rw [Tm.leafN_zero (by rw [hh])] at hr
      subst hr
      have k1 : (s.size : Int) < 2 := by omega
      have k2 : decide ((1 : Int) < (s.size : Int)) = false := by simp; omega
      clear hh
      go_enter Tryz.func100, Tryz.ntmps100
      go_wp2
      go_ret
      exact ⟨rfl, 0, rfl⟩
    · have l1 : 1 < s.size := by omega
      have k1 : (1 : Int) < (s.size : Int) := by omega
      have k4 : (2 : Int) ≤ (s.size : Int) := by omega
      have b1 := s[1].toNat_lt
      rw [getD_bytes s 1 l1] at hh
      by_cases h1 : s[1].toNat < 1
      · rw [if_neg (by omega)] at hh
        rw [Tm.leafN_zero (by rw [hh])] at hr
        subst hr
        have k2 : (s[1].toNat : Int) < 1 := by omega
        have k3 : ¬ (s.size : Int) < -1 := by omega
        clear hh
        go_enter Tryz.func100, Tryz.ntmps100
        go_wp2
        go_ret
        exact ⟨rfl, 0, rfl⟩
      · have k2 : decide ((s[1].toNat : Int) < 1) = false := by simp; omega
        by_cases h8 : 8 < s[1].toNat
        · rw [if_neg (by omega)] at hh
          rw [Tm.leafN_zero (by rw [hh])] at hr
          subst hr
          have k3 : (8 : Int) < (s[1].toNat : Int) := by omega
          have k5 : ¬ (s.size : Int) < -1 := by omega
          clear hh
          go_enter Tryz.func100, Tryz.ntmps100
          go_wp2
          go_ret
          exact ⟨rfl, 0, rfl⟩
        · rw [if_pos (by rw [len_bytes]; omega)] at hh
          rw [Tm.leafN_head hh (by omega), len_bytes, if_neg hl] at hr
          subst hr
          have k3 : (s[1].toNat : Int) ≤ 8 := by omega
          clear hh
          go_enter Tryz.func100, Tryz.ntmps100
          go_wp2
          go_ret
          exact ⟨rfl, 0, rfl⟩
  rw [if_neg c4] at hh
  have g5 : ((s[0].toNat : Int) == 105) = false := f 105 (by omega) c4
  have hrr : r = -1 := by
    rw [← hr]
    by_cases c5 : c = 101
    · rw [if_pos c5] at hh
      by_cases c6 : 2 ≤ s.data.toList.length ∧ 1 ≤ (s.data.toList.getD 1 0).toNat ∧ (s.data.toList.getD 1 0).toNat ≤ 32
      · rw [if_pos c6] at hh
        exact Tm.leafN_node (by rw [hh]; simp only; omega)
      · rw [if_neg c6] at hh
        exact Tm.leafN_zero (by rw [hh])
    rw [if_neg c5] at hh
    by_cases c6 : c = 107 ∨ c = 104
    · rw [if_pos c6] at hh; exact Tm.leafN_node (by rw [hh]; simp)
    rw [if_neg c6] at hh
    by_cases c7 : c = 112 ∨ c = 120
    · rw [if_pos c7] at hh; exact Tm.leafN_node (by rw [hh]; simp)
    rw [if_neg c7] at hh
    by_cases c8 : c = 115
    · rw [if_pos c8] at hh; exact Tm.leafN_node (by rw [hh]; simp)
    rw [if_neg c8] at hh
    exact Tm.leafN_zero (by rw [hh])
  subst hrr
  have k1 : ¬ (s.size : Int) < -1 := by omega
  clear t f hcc c1 c2 c3 c4 hc hh hr
  go_enter Tryz.func100, Tryz.ntmps100
  go_wp2
  go_ret
  exact ⟨rfl, 0, rfl⟩

end Go.Proofs.YtiodphkmllcjdaaGreat
end

section
namespace Go.Proofs.YtiodphkmllcjdaaGreat
open Go.ChangeShapes Go.WideShapes Go.ChangeAt Go.RowKit

namespace Tm
def comb (c d : Nat) (r : Nat × Nat × Nat) : Nat × Nat × Nat := if r.2.2 ≠ 0 then (0, 0, r.2.2) else (c + r.1, max d r.2.1, 0)
def endI (at_ : Nat) (r : Nat × Nat × Nat) : Int := if r.2.2 = 0 then ((at_ + r.1 : Nat) : Int) else if r.2.2 = 4 then -2 else -1
def depI (r : Nat × Nat × Nat) : Nat := if r.2.2 = 0 then r.2.1 else 0
theorem parse_err (f : Nat) : ∀ l, (parse f l).2.2 = 0 ∨ (parse f l).2.2 = 2 ∨ (parse f l).2.2 = 4 := by
  induction f with
  | zero => intro l; simp [parse]
  | succ f ih =>
    have hp : ∀ kind k l ah, (partsOf (parse f) kind k l ah).2.2 = 0 ∨ (partsOf (parse f) kind k l ah).2.2 = 2 ∨ (partsOf (parse f) kind k l ah).2.2 = 4 := by
      intro kind k
      induction k with
      | zero => intro l ah; simp [partsOf]
      | succ k ihk =>
        intro l ah
        rw [partsOf]
        split
        · exact ih l
        · split
          · simp
          · split
            · exact ihk _ _
            · simp
    intro l
    rw [parse]
    split
    · simp
    · split
      · simp
      · split
        · exact hp _ _ _ _
        · simp
theorem parse_leaf {f : Nat} {l : List UInt8} (h0 : (begin_ l).1 ≠ 0) (h : (begin_ l).2 = 0) : parse (f + 1) l = ((begin_ l).1, 1, 0) := by
  have hk : ¬ (l.getD 0 0 = 107 ∧ element (l.drop (begin_ l).1) = false) := by
    rintro ⟨h1, _⟩
    have := begin_key h1 h0
    rw [this] at h
    simp at h
  exact parse_mk (f := f) (m := 0) (e := 0) h0 hk (by rw [h]; rfl)
theorem parse_node {f : Nat} {l : List UInt8} (h0 : (begin_ l).1 ≠ 0) (hk : ¬ (l.getD 0 0 = 107 ∧ element (l.drop (begin_ l).1) = false)) :
    parse (f + 1) l = if (partsOf (parse f) (l.getD 0 0) (begin_ l).2 (l.drop (begin_ l).1) []).2.2 ≠ 0 then (0, 0, (partsOf (parse f) (l.getD 0 0) (begin_ l).2 (l.drop (begin_ l).1) []).2.2)
      else ((begin_ l).1 + (partsOf (parse f) (l.getD 0 0) (begin_ l).2 (l.drop (begin_ l).1) []).1, (partsOf (parse f) (l.getD 0 0) (begin_ l).2 (l.drop (begin_ l).1) []).2.1 + 1, 0) := by
  rw [parse, if_neg h0, if_neg hk]
theorem parse_nokey {f : Nat} {l : List UInt8} (hk : l.getD 0 0 = 107 ∧ element (l.drop (begin_ l).1) = false) : parse (f + 1) l = (0, 0, 2) := by
  rw [parse]
  by_cases h : (begin_ l).1 = 0
  · rw [if_pos h]
  · rw [if_neg h, if_pos hk]
/-- One part more. -/
theorem comb_step {p : List UInt8 → Nat × Nat × Nat} {kind : UInt8} {k c d n1 d1 : Nat} {l ah : List UInt8} (h1 : p l = (n1, d1, 0)) (h2 : ¬ (kind = 101 ∧ less (l.take n1) ah = true)) :
    comb c d (partsOf p kind (k + 1) l ah) = comb (c + n1) (max d d1) (partsOf p kind k (l.drop n1) (l.take n1)) := by
  rw [partsOf, h1]
  simp only [ne_eq, not_true_eq_false, if_false, if_neg h2]
  generalize partsOf p kind k (l.drop n1) (l.take n1) = r
  obtain ⟨n2, d2, e2⟩ := r
  by_cases he : e2 = 0
  · subst he
    simp only [comb, ne_eq, not_true_eq_false, if_false, Prod.mk.injEq, and_true]
    exact ⟨by omega, by omega⟩
  · simp [comb, he]
theorem comb_self (r : Nat × Nat × Nat) (h : r.2.2 ≠ 0 → r.1 = 0 ∧ r.2.1 = 0) : comb 0 0 r = r := by
  obtain ⟨n, d, e⟩ := r
  simp only at h
  unfold comb
  by_cases he : e = 0
  · simp [he]
  · obtain ⟨rfl, rfl⟩ := h he
    simp [he]
theorem partsOf_err (p : List UInt8 → Nat × Nat × Nat) (kind : UInt8) (k : Nat) (l ah : List UInt8) : (partsOf p kind k l ah).2.2 ≠ 0 → (partsOf p kind k l ah).1 = 0 ∧ (partsOf p kind k l ah).2.1 = 0 := by
  cases k with
  | zero => simp [partsOf]
  | succ k =>
    rw [partsOf]
    split
    · simp
    · split
      · simp
      · split <;> simp
theorem comb_err {p : List UInt8 → Nat × Nat × Nat} {kind : UInt8} {k c d : Nat} {l ah : List UInt8} (h1 : (p l).2.2 ≠ 0) : comb c d (partsOf p kind (k + 1) l ah) = (0, 0, (p l).2.2) := by
  rw [partsOf, if_pos h1]
  simp [comb, h1]
theorem comb_less {p : List UInt8 → Nat × Nat × Nat} {kind : UInt8} {k c d n1 d1 : Nat} {l ah : List UInt8} (h1 : p l = (n1, d1, 0)) (h2 : kind = 101 ∧ less (l.take n1) ah = true) :
    comb c d (partsOf p kind (k + 1) l ah) = (0, 0, 2) := by
  rw [partsOf, h1]
  simp only [ne_eq, not_true_eq_false, if_false, if_pos h2]
  simp [comb]
end Tm

def Ends (l : List UInt8) (f : Nat) (kind : UInt8) (many k0 : Nat) (w : World) (K : Nat) (v10 v11 v12 v13 : Value) (wr : World) : Prop :=
  ∃ (i k d : Nat) (last : List UInt8), K + i = many ∧ v13 = .int .i64 i ∧ v10 = .int .i64 k ∧ v11 = .int .i64 d ∧ v12 = .string ⟨last.toArray⟩ ∧ k0 ≤ k ∧ k ≤ l.length ∧ d ≤ 400 ∧
    Tm.comb (k - k0) d (Tm.partsOf (Tm.parse f) kind K (l.drop k) last) = Tm.partsOf (Tm.parse f) kind many (l.drop k0) [] ∧ ∃ m, wr = w.drewN m

/-- How the reader may go on to a node's parts. -/
def Entry (s : ByteArray) (at_ m k0 : Nat) (pn : Int) (h : at_ < s.size) : Prop :=
  (((s[at_].toNat : Int) == 101) = true ∧ ((s[at_].toNat : Int) == 107) = false ∧ k0 = at_ + 2 ∧ ∃ h1 : at_ + 1 < s.size, s[at_ + 1].toNat = m ∧ 1 ≤ m ∧ m ≤ 32 ∧ pn = -1) ∨
  (((s[at_].toNat : Int) == 101) = false ∧ ((s[at_].toNat : Int) == 107) = true ∧ k0 = at_ + 1 ∧ pn = m ∧ 1 ≤ m ∧ m ≤ 32 ∧ ∃ h1 : at_ + 1 < s.size, ((s[at_ + 1].toNat : Int) != 103) = false) ∨
  (((s[at_].toNat : Int) == 101) = false ∧ ((s[at_].toNat : Int) == 107) = true ∧ k0 = at_ + 1 ∧ pn = m ∧ 1 ≤ m ∧ m ≤ 32 ∧ ∃ h1 : at_ + 1 < s.size, ((s[at_ + 1].toNat : Int) != 103) = true ∧ ((s[at_ + 1].toNat : Int) != 101) = false) ∨
  (((s[at_].toNat : Int) == 101) = false ∧ ((s[at_].toNat : Int) == 107) = false ∧ k0 = at_ + 1 ∧ pn = m ∧ 1 ≤ m ∧ m ≤ 32)

set_option maxRecDepth 100000 in
set_option maxHeartbeats 40000000 in
/-- The walk through a node's parts. -/
theorem End_node (s : ByteArray) (hs : s.size ≤ 9223372036854775807) (f : Nat) (hf : f + 1 ≤ 400)
    (ih : ∀ (k : Nat), k ≤ s.size → ∀ w, Calls Tryz.prog 84 #[.string s, .int .i64 k, .int .i64 f] w (Drew w (.tuple #[.int .i64 (Tm.endI k (Tm.parse f (s.data.toList.drop k))), .int .i64 (Tm.depI (Tm.parse f (s.data.toList.drop k)))])))
    (at_ m k0 : Nat) (hat : at_ < s.size) (hE : Entry s at_ m k0 (Tm.partsN s[at_]) hat) (hk0 : k0 ≤ s.size) (hleaf : Tm.leafN (s.data.toList.drop at_) = -1) (w : World)
    (hP : Tm.parse (f + 1) (s.data.toList.drop at_) = if (Tm.partsOf (Tm.parse f) s[at_] m (s.data.toList.drop k0) []).2.2 ≠ 0 then (0, 0, (Tm.partsOf (Tm.parse f) s[at_] m (s.data.toList.drop k0) []).2.2)
      else (k0 - at_ + (Tm.partsOf (Tm.parse f) s[at_] m (s.data.toList.drop k0) []).1, (Tm.partsOf (Tm.parse f) s[at_] m (s.data.toList.drop k0) []).2.1 + 1, 0)) (hka : at_ ≤ k0) :
    Calls Tryz.prog 84 #[.string s, .int .i64 at_, .int .i64 ((f + 1 : Nat) : Int)] w (Drew w (.tuple #[.int .i64 (Tm.endI at_ (Tm.parse (f + 1) (s.data.toList.drop at_))), .int .i64 (Tm.depI (Tm.parse (f + 1) (s.data.toList.drop at_)))])) := by
  obtain ⟨R, hR⟩ : ∃ R, Tm.parse (f + 1) (s.data.toList.drop at_) = R := ⟨_, rfl⟩
  rw [hR] at hP ⊢
  have cL := fun W => leaf_calls (s.extract at_ s.size) (by simp; omega) (by simp; omega) W
  rw [extract_drop, hleaf] at cL
  have cP := fun W => parts_calls s[at_] W
  generalize Tm.partsN s[at_] = pn at *
  have HL := Lib.hid cL
  have HP := Lib.hid cP
  have HI := Lib.hid ih
  have HR := Lib.hid hP
  have HF : Hid ((m : Int) ≤ 32 ∧ k0 ≤ s.size ∧ at_ ≤ k0) := ⟨by rcases hE with h | h | h | h <;> omega, hk0, hka⟩
  have len : s.data.toList.length = s.size := len_bytes s
  have j0 : (0 : Int) ≤ (at_ : Int) := by omega
  have j1 : (at_ : Int) < (s.size : Int) := by omega
  have j2 : (at_ : Int) ≤ (s.size : Int) := by omega
  have j3 : (s.size : Int) ≤ 9223372036854775807 := by omega
  have j4 : (f : Int) ≤ 399 := by omega
  have j5 : ¬ ((f : Int) + 1 = 0) := by omega
  have j6 : (((f : Int) + 1) == 0) = false := by rw [beq_eq_false_iff_ne]; exact j5
  obtain ⟨kind, hkind⟩ : ∃ kind, s[at_] = kind := ⟨_, rfl⟩
  have HK := Lib.hid hkind
  have HLen := Lib.hid len
  clear cL cP ih hP hR hleaf len hkind hk0 hka
  have HKi : Hid (((s[at_].toNat : Int) == 101) = true ↔ s[at_] = 101) := by
    show _ ↔ _
    rw [beq_iff_eq]
    exact u8_iff s[at_] 101 (by omega)
  rcases hE with ⟨g1, g2, rfl, h1, hm, m1, m2, rfl⟩ | hE
  · have n1 : (1 : Int) ≤ (m : Int) := by omega
    have n2 : (m : Int) ≤ 32 := by omega
    have n3 : (0 : Int) ≤ (m : Int) := by omega
    have n4 : (at_ : Int) + 1 < (s.size : Int) := by omega
    have n5 : (0 : Int) ≤ (at_ : Int) + 1 := by omega
    have HK1 : Hid (s[at_] = 101) := HKi.out.1 g1
    have hk0 := HF.out.2.1
    clear HK
    go_enter Tryz.func84, Tryz.ntmps84
    go_wp2_with fail
    refine (HL.out _).mono ?_
    rintro e' w' ⟨rfl, md, rfl⟩
    go_wp2_with fail
    refine (HP.out _).mono ?_
    rintro e' w' ⟨rfl, rfl⟩
    go_wp2_with fail
    go_loopg [10, 11, 12, 13] m (fun K v10 v11 v12 v13 wr => Ends s.data.toList f s[at_] m (at_ + 2) w K v10 v11 v12 v13 wr)
    case atStart => exact ⟨0, at_ + 2, 0, [], by omega, rfl, by simp <;> omega, rfl, rfl, by omega, by rw [HLen.out]; omega, by omega, by rw [Nat.sub_self]; exact Tm.comb_self _ (Tm.partsOf_err _ _ _ _ _), _, rfl⟩
    case round =>
      obtain ⟨i, k, d, last, hK, rfl, rfl, rfl, rfl, q1, q2, q3, hcomb, md2, rfl⟩ := hrel
      rw [HLen.out] at q2
      cases gk with
      | zero =>
        obtain rfl : i = m := by omega
        have l1 : ¬ ((i : Int) < (i : Int)) := by omega
        have hz : Tm.comb (k - (at_ + 2)) d (Tm.partsOf (Tm.parse f) s[at_] 0 (s.data.toList.drop k) last) = (k - (at_ + 2), d, 0) := by simp [Tm.partsOf, Tm.comb]
        rw [hz] at hcomb
        have HRr : Hid (R = (k - at_, d + 1, 0)) := by
          show R = _
          rw [HR.out, ← hcomb]
          simp only [ne_eq, not_true_eq_false, if_false, Prod.mk.injEq, and_true]
          omega
        have hend : Tm.endI at_ (k - at_, d + 1, 0) = (k : Int) := by simp only [Tm.endI, if_true]; omega
        have HEnd := Lib.hid hend
        clear hcomb hz hend
        go_wp2
        go_ret2
        exact ⟨by rw [HRr.out, HEnd.out]; rfl, _, rfl⟩
      | succ K =>
        have l1 : (i : Int) < (m : Int) := by omega
        have l2 : (0 : Int) ≤ (k : Int) := by omega
        have l3 : (k : Int) ≤ (s.size : Int) := by omega
        have cC := fun W => HI.out k q2 W
        have hb := Tm.parse_bounds f (s.data.toList.drop k)
        have he := Tm.parse_err f (s.data.toList.drop k)
        rw [List.length_drop, HLen.out] at hb
        obtain ⟨r, hr⟩ : ∃ r, Tm.parse f (s.data.toList.drop k) = r := ⟨_, rfl⟩
        rw [hr] at cC hb he
        obtain ⟨n1, d1, e1⟩ := r
        simp only at hb he
        rcases he with rfl | he
        · have eI : Tm.endI k (n1, d1, 0) = ((k + n1 : Nat) : Int) := by simp [Tm.endI]
          have eD : Tm.depI (n1, d1, 0) = d1 := by simp [Tm.depI]
          rw [eI, eD] at cC
          have hd1 := (hb.2 rfl).2.2
          obtain ⟨x, hx⟩ : ∃ x, (s.data.toList.drop k).take n1 = x := ⟨_, rfl⟩
          have hex : s.extract k (k + n1) = ⟨x.toArray⟩ := by rw [extract_eq, ← hx, Nat.add_sub_cancel_left]
          have hdr : s.data.toList.drop (k + n1) = (s.data.toList.drop k).drop n1 := by rw [List.drop_drop]
          have hcs := hx
          obtain ⟨en, hen⟩ : ∃ en, k + n1 = en := ⟨_, rfl⟩
          rw [hen] at cC hex hdr
          have HEn : Hid ((s.data.toList.drop en) = (s.data.toList.drop k).drop n1) := hdr
          have HC := Lib.hid cC
          have p1 : (k : Int) ≤ (en : Int) := by omega
          have p2 : (en : Int) ≤ (s.size : Int) := by omega
          have p3 : ¬ (en : Int) < 0 := by omega
          have p4 : (0 : Int) ≤ (en : Int) := by omega
          rw [← hx] at hex
          rw [hx] at hex
          clear cC hcs hdr eI eD
          have hxx : (s.data.toList.drop k).take n1 = x := hx
          by_cases hls : Tm.less x last = true
          · have hb1 : Op.bytesLess x last = true := hls
            have hfin := Tm.comb_less (c := k - (at_ + 2)) (d := d) (k := K) hr (show s[at_] = 101 ∧ Tm.less ((s.data.toList.drop k).take n1) last = true from ⟨HK1.out, by rw [hxx]; exact hls⟩)
            rw [hcomb] at hfin
            have HRr : Hid (R = (0, 0, 2)) := by
              show R = _
              rw [HR.out, hfin]; rfl
            clear hcomb hfin hls hr
            go_wp2_with fail
            refine (HC.out _).mono ?_
            rintro e' w' ⟨rfl, md3, rfl⟩
            go_wp2
            go_ret2
            exact ⟨by rw [HRr.out]; rfl, _, rfl⟩
          · have hb1 : Op.bytesLess x last = false := by
              cases h : Op.bytesLess x last with
              | false => rfl
              | true => exact absurd h hls
            have hstep := Tm.comb_step (c := k - (at_ + 2)) (d := d) (k := K) hr (fun h : s[at_] = 101 ∧ Tm.less ((s.data.toList.drop k).take n1) last = true => hls (by rw [← hxx]; exact h.2))
            rw [hcomb, hxx] at hstep
            have HSt := Lib.hid hstep
            clear hcomb hstep hls hr
            go_wp2_with fail
            refine (HC.out _).mono ?_
            rintro e' w' ⟨rfl, md3, rfl⟩
            go_wp2
            go_roundg K
            case measure => omega
            case rel => exact ⟨i + 1, en, max d d1, x, by omega, rfl, rfl, by simp only [Value.int.injEq, true_and]; omega, rfl, by omega, by rw [HLen.out]; omega, by omega, by rw [HSt.out, HEn.out]; congr 1; omega, _, rfl⟩
        · have hne : (Tm.parse f (s.data.toList.drop k)).2.2 ≠ 0 := by rw [hr]; rcases he with h | h <;> simp [h]
          have hfin := Tm.comb_err (c := k - (at_ + 2)) (d := d) (kind := s[at_]) (k := K) (ah := last) hne
          rw [hr] at hfin
          rw [hcomb] at hfin
          have HRr : Hid (R = (0, 0, e1)) := by
            show R = _
            rw [HR.out, hfin]
            rcases he with rfl | rfl <;> rfl
          rcases he with rfl | rfl
          · have eI : Tm.endI k (n1, d1, 2) = -1 := by simp [Tm.endI]
            rw [eI] at cC
            have HC := Lib.hid cC
            clear cC hcomb hfin hne hr eI
            go_wp2_with fail
            refine (HC.out _).mono ?_
            rintro e' w' ⟨rfl, md3, rfl⟩
            go_wp2
            go_ret2
            exact ⟨by rw [HRr.out]; rfl, _, rfl⟩
          · have eI : Tm.endI k (n1, d1, 4) = -2 := by simp [Tm.endI]
            rw [eI] at cC
            have HC := Lib.hid cC
            clear cC hcomb hfin hne hr eI
            go_wp2_with fail
            refine (HC.out _).mono ?_
            rintro e' w' ⟨rfl, md3, rfl⟩
            go_wp2
            go_ret2
            exact ⟨by rw [HRr.out]; rfl, _, rfl⟩
  rcases hE with ⟨g1, g2, rfl, rfl, m1, m2, h1, g3⟩ | ⟨g1, g2, rfl, rfl, m1, m2, h1, g3, g4⟩ | ⟨g1, g2, rfl, rfl, m1, m2⟩
  all_goals
    have n1 : (1 : Int) ≤ (m : Int) := by omega
    have n2 : (m : Int) ≤ 32 := by omega
    have n3 : (0 : Int) ≤ (m : Int) := by omega
    try have n4 : (at_ : Int) + 1 < (s.size : Int) := by omega
    have n5 : (0 : Int) ≤ (at_ : Int) + 1 := by omega
    have HK1 : Hid (¬ s[at_] = 101) := fun h => by have := HKi.out.2 h; rw [g1] at this; cases this
    have hk0 := HF.out.2.1
    clear HK
    go_enter Tryz.func84, Tryz.ntmps84
    go_wp2_with fail
    refine (HL.out _).mono ?_
    rintro e' w' ⟨rfl, md, rfl⟩
    go_wp2_with fail
    refine (HP.out _).mono ?_
    rintro e' w' ⟨rfl, rfl⟩
    go_wp2_with fail
    go_loopg [10, 11, 12, 13] m (fun K v10 v11 v12 v13 wr => Ends s.data.toList f s[at_] m (at_ + 1) w K v10 v11 v12 v13 wr)
    case atStart => exact ⟨0, at_ + 1, 0, [], by omega, rfl, by simp <;> omega, rfl, rfl, by omega, by rw [HLen.out]; omega, by omega, by rw [Nat.sub_self]; exact Tm.comb_self _ (Tm.partsOf_err _ _ _ _ _), _, rfl⟩
    case round =>
      obtain ⟨i, k, d, last, hK, rfl, rfl, rfl, rfl, q1, q2, q3, hcomb, md2, rfl⟩ := hrel
      rw [HLen.out] at q2
      cases gk with
      | zero =>
        obtain rfl : i = m := by omega
        have l1 : ¬ ((i : Int) < (i : Int)) := by omega
        have hz : Tm.comb (k - (at_ + 1)) d (Tm.partsOf (Tm.parse f) s[at_] 0 (s.data.toList.drop k) last) = (k - (at_ + 1), d, 0) := by simp [Tm.partsOf, Tm.comb]
        rw [hz] at hcomb
        have HRr : Hid (R = (k - at_, d + 1, 0)) := by
          show R = _
          rw [HR.out, ← hcomb]
          simp only [ne_eq, not_true_eq_false, if_false, Prod.mk.injEq, and_true]
          omega
        have hend : Tm.endI at_ (k - at_, d + 1, 0) = (k : Int) := by simp only [Tm.endI, if_true]; omega
        have HEnd := Lib.hid hend
        clear hcomb hz hend
        go_wp2
        go_ret2
        exact ⟨by rw [HRr.out, HEnd.out]; rfl, _, rfl⟩
      | succ K =>
        have l1 : (i : Int) < (m : Int) := by omega
        have l2 : (0 : Int) ≤ (k : Int) := by omega
        have l3 : (k : Int) ≤ (s.size : Int) := by omega
        have cC := fun W => HI.out k q2 W
        have hb := Tm.parse_bounds f (s.data.toList.drop k)
        have he := Tm.parse_err f (s.data.toList.drop k)
        rw [List.length_drop, HLen.out] at hb
        obtain ⟨r, hr⟩ : ∃ r, Tm.parse f (s.data.toList.drop k) = r := ⟨_, rfl⟩
        rw [hr] at cC hb he
        obtain ⟨n1, d1, e1⟩ := r
        simp only at hb he
        rcases he with rfl | he
        · have eI : Tm.endI k (n1, d1, 0) = ((k + n1 : Nat) : Int) := by simp [Tm.endI]
          have eD : Tm.depI (n1, d1, 0) = d1 := by simp [Tm.depI]
          rw [eI, eD] at cC
          have hd1 := (hb.2 rfl).2.2
          obtain ⟨x, hx⟩ : ∃ x, (s.data.toList.drop k).take n1 = x := ⟨_, rfl⟩
          have hex : s.extract k (k + n1) = ⟨x.toArray⟩ := by rw [extract_eq, ← hx, Nat.add_sub_cancel_left]
          have hdr : s.data.toList.drop (k + n1) = (s.data.toList.drop k).drop n1 := by rw [List.drop_drop]
          have hcs := hx
          obtain ⟨en, hen⟩ : ∃ en, k + n1 = en := ⟨_, rfl⟩
          rw [hen] at cC hex hdr
          have HEn : Hid ((s.data.toList.drop en) = (s.data.toList.drop k).drop n1) := hdr
          have HC := Lib.hid cC
          have p1 : (k : Int) ≤ (en : Int) := by omega
          have p2 : (en : Int) ≤ (s.size : Int) := by omega
          have p3 : ¬ (en : Int) < 0 := by omega
          have p4 : (0 : Int) ≤ (en : Int) := by omega
          rw [← hx] at hex
          rw [hx] at hex
          clear cC hcs hdr eI eD
          have hxx : (s.data.toList.drop k).take n1 = x := hx
          have hstep := Tm.comb_step (c := k - (at_ + 1)) (d := d) (k := K) hr (fun h : s[at_] = 101 ∧ Tm.less ((s.data.toList.drop k).take n1) last = true => HK1.out h.1)
          rw [hcomb, hxx] at hstep
          have HSt := Lib.hid hstep
          clear hcomb hstep hr
          go_wp2_with fail
          refine (HC.out _).mono ?_
          rintro e' w' ⟨rfl, md3, rfl⟩
          go_wp2
          go_roundg K
          case measure => omega
          case rel => exact ⟨i + 1, en, max d d1, x, by omega, rfl, rfl, by simp only [Value.int.injEq, true_and]; omega, rfl, by omega, by rw [HLen.out]; omega, by omega, by rw [HSt.out, HEn.out]; congr 1; omega, _, rfl⟩
        · have hne : (Tm.parse f (s.data.toList.drop k)).2.2 ≠ 0 := by rw [hr]; rcases he with h | h <;> simp [h]
          have hfin := Tm.comb_err (c := k - (at_ + 1)) (d := d) (kind := s[at_]) (k := K) (ah := last) hne
          rw [hr] at hfin
          rw [hcomb] at hfin
          have HRr : Hid (R = (0, 0, e1)) := by
            show R = _
            rw [HR.out, hfin]
            rcases he with rfl | rfl <;> rfl
          rcases he with rfl | rfl
          · have eI : Tm.endI k (n1, d1, 2) = -1 := by simp [Tm.endI]
            rw [eI] at cC
            have HC := Lib.hid cC
            clear cC hcomb hfin hne hr eI
            go_wp2_with fail
            refine (HC.out _).mono ?_
            rintro e' w' ⟨rfl, md3, rfl⟩
            go_wp2
            go_ret2
            exact ⟨by rw [HRr.out]; rfl, _, rfl⟩
          · have eI : Tm.endI k (n1, d1, 4) = -2 := by simp [Tm.endI]
            rw [eI] at cC
            have HC := Lib.hid cC
            clear cC hcomb hfin hne hr eI
            go_wp2_with fail
            refine (HC.out _).mono ?_
            rintro e' w' ⟨rfl, md3, rfl⟩
            go_wp2
            go_ret2
            exact ⟨by rw [HRr.out]; rfl, _, rfl⟩

end Go.Proofs.YtiodphkmllcjdaaGreat
end

section
namespace Go.Proofs.YtiodphkmllcjdaaGreat
open Go.ChangeShapes Go.WideShapes Go.ChangeAt Go.RowKit

theorem getD_drop_bytes (s : ByteArray) (a i : Nat) (h : a + i < s.size) : (s.data.toList.drop a).getD i 0 = s[a + i] := by
  rw [← getD_bytes s (a + i) h]
  simp [List.getD]

theorem Tm.element_of {l : List UInt8} (h : l ≠ []) : Tm.element l = true ↔ (l.getD 0 0 = 103 ∨ l.getD 0 0 = 101) := by
  cases l with
  | nil => exact absurd rfl h
  | cons c r => simp [Tm.element]

/-- What is to be shown of the reader, one deeper. -/
def EndAt (s : ByteArray) (f at_ : Nat) : Prop :=
  ∀ w, Calls Tryz.prog 84 #[.string s, .int .i64 at_, .int .i64 f] w (Drew w (.tuple #[.int .i64 (Tm.endI at_ (Tm.parse f (s.data.toList.drop at_))), .int .i64 (Tm.depI (Tm.parse f (s.data.toList.drop at_)))]))

set_option maxRecDepth 100000 in
set_option maxHeartbeats 4000000 in
theorem End_leaf (s : ByteArray) (hs : s.size ≤ 9223372036854775807) (f : Nat) (hf : f + 1 ≤ 400) (at_ a : Nat) (hat : at_ < s.size) (hl : Tm.leafN (s.data.toList.drop at_) = a) (ha : 0 < a) (ha2 : a ≤ 200)
    (hP : Tm.parse (f + 1) (s.data.toList.drop at_) = (a, 1, 0)) : EndAt s (f + 1) at_ := by
  intro w
  have cL := fun W => leaf_calls (s.extract at_ s.size) (by simp; omega) (by simp; omega) W
  rw [extract_drop, hl] at cL
  rw [hP]
  have hE : Tm.endI at_ (a, 1, 0) = (at_ : Int) + (a : Int) := by simp [Tm.endI]
  rw [hE]
  have hD : Tm.depI (a, 1, 0) = 1 := rfl
  rw [hD]
  have HL := Lib.hid cL
  have j0 : (0 : Int) ≤ (at_ : Int) := by omega
  have j1 : (at_ : Int) < (s.size : Int) := by omega
  have j2 : (at_ : Int) ≤ (s.size : Int) := by omega
  have j3 : (s.size : Int) ≤ 9223372036854775807 := by omega
  have j4 : (f : Int) ≤ 399 := by omega
  have j5 : ¬ ((f : Int) + 1 = 0) := by omega
  have j6 : (((f : Int) + 1) == 0) = false := by rw [beq_eq_false_iff_ne]; exact j5
  have j7 : (0 : Int) < (a : Int) := by omega
  have j8 : (a : Int) ≤ 200 := by omega
  have j9 : (at_ : Int) + (a : Int) ≤ (s.size : Int) := by
    have h1 := (Tm.begin_le (s.data.toList.drop at_)).1
    rw [List.length_drop, len_bytes] at h1
    unfold Tm.leafN at hl
    split at hl
    · omega
    · omega
  clear cL hP hl hE hD
  go_enter Tryz.func84, Tryz.ntmps84
  go_wp2_with fail
  refine (HL.out _).mono ?_
  rintro e' w' ⟨rfl, md, rfl⟩
  go_wp2
  go_ret2
  exact ⟨rfl, _, rfl⟩

/-- The ways in which nothing begins at a place, or a key has no element. -/
def NoEntry (s : ByteArray) (at_ : Nat) (pn : Int) (h : at_ < s.size) : Prop :=
  (((s[at_].toNat : Int) == 101) = true ∧ s.size ≤ at_ + 1) ∨
  (((s[at_].toNat : Int) == 101) = true ∧ ∃ h1 : at_ + 1 < s.size, s[at_ + 1].toNat < 1) ∨
  (((s[at_].toNat : Int) == 101) = true ∧ ∃ h1 : at_ + 1 < s.size, 1 ≤ s[at_ + 1].toNat ∧ 32 < s[at_ + 1].toNat) ∨
  (((s[at_].toNat : Int) == 101) = false ∧ pn = -1) ∨
  (((s[at_].toNat : Int) == 101) = false ∧ ((s[at_].toNat : Int) == 107) = true ∧ pn = 1 ∧ s.size ≤ at_ + 1) ∨
  (((s[at_].toNat : Int) == 101) = false ∧ ((s[at_].toNat : Int) == 107) = true ∧ pn = 1 ∧ ∃ h1 : at_ + 1 < s.size, ((s[at_ + 1].toNat : Int) != 103) = true ∧ ((s[at_ + 1].toNat : Int) != 101) = true)

set_option maxRecDepth 100000 in
set_option maxHeartbeats 4000000 in
theorem End_none (s : ByteArray) (hs : s.size ≤ 9223372036854775807) (f : Nat) (hf : f + 1 ≤ 400) (at_ : Nat) (hat : at_ < s.size) (hl : Tm.leafN (s.data.toList.drop at_) = -1) (hE : NoEntry s at_ (Tm.partsN s[at_]) hat)
    (hP : Tm.parse (f + 1) (s.data.toList.drop at_) = (0, 0, 2)) : EndAt s (f + 1) at_ := by
  intro w
  have cL := fun W => leaf_calls (s.extract at_ s.size) (by simp; omega) (by simp; omega) W
  rw [extract_drop, hl] at cL
  have cP := fun W => parts_calls s[at_] W
  generalize Tm.partsN s[at_] = pn at *
  rw [hP]
  have hE2 : Tm.endI at_ (0, 0, 2) = -1 := by simp [Tm.endI]
  rw [hE2]
  have hD : Tm.depI (0, 0, 2) = 0 := rfl
  rw [hD]
  have HL := Lib.hid cL
  have HP := Lib.hid cP
  have j0 : (0 : Int) ≤ (at_ : Int) := by omega
  have j1 : (at_ : Int) < (s.size : Int) := by omega
  have j2 : (at_ : Int) ≤ (s.size : Int) := by omega
  have j3 : (s.size : Int) ≤ 9223372036854775807 := by omega
  have j4 : (f : Int) ≤ 399 := by omega
  have j5 : ¬ ((f : Int) + 1 = 0) := by omega
  have j6 : (((f : Int) + 1) == 0) = false := by rw [beq_eq_false_iff_ne]; exact j5
  have j7 : (0 : Int) ≤ (at_ : Int) + 1 := by omega
  clear cL cP hP hl hE2 hD
  rcases hE with ⟨g1, h1⟩ | ⟨g1, h1, h2⟩ | ⟨g1, h1, h2, h3⟩ | ⟨g1, rfl⟩ | ⟨g1, g2, rfl, h1⟩ | ⟨g1, g2, rfl, h1, g3, g4⟩
  · have k1 : decide ((s.size : Int) ≤ (at_ : Int) + 1) = true := by simp; omega
    have k2 : (s.size : Int) ≤ (at_ : Int) + 1 := by omega
    clear h1
    go_enter Tryz.func84, Tryz.ntmps84
    go_wp2_with fail
    refine (HL.out _).mono ?_
    rintro e' w' ⟨rfl, md, rfl⟩
    go_wp2_with fail
    refine (HP.out _).mono ?_
    rintro e' w' ⟨rfl, rfl⟩
    go_wp2
    go_ret2
    exact ⟨rfl, _, rfl⟩
  · have k2 : (at_ : Int) + 1 < (s.size : Int) := by omega
    have k3 : (s[at_ + 1].toNat : Int) < 1 := by omega
    clear h2
    go_enter Tryz.func84, Tryz.ntmps84
    go_wp2_with fail
    refine (HL.out _).mono ?_
    rintro e' w' ⟨rfl, md, rfl⟩
    go_wp2_with fail
    refine (HP.out _).mono ?_
    rintro e' w' ⟨rfl, rfl⟩
    go_wp2
    go_ret2
    exact ⟨rfl, _, rfl⟩
  · have k2 : (at_ : Int) + 1 < (s.size : Int) := by omega
    have k3 : (1 : Int) ≤ (s[at_ + 1].toNat : Int) := by omega
    have k4 : (32 : Int) < (s[at_ + 1].toNat : Int) := by omega
    clear h2 h3
    go_enter Tryz.func84, Tryz.ntmps84
    go_wp2_with fail
    refine (HL.out _).mono ?_
    rintro e' w' ⟨rfl, md, rfl⟩
    go_wp2_with fail
    refine (HP.out _).mono ?_
    rintro e' w' ⟨rfl, rfl⟩
    go_wp2
    go_ret2
    exact ⟨rfl, _, rfl⟩
  · go_enter Tryz.func84, Tryz.ntmps84
    go_wp2_with fail
    refine (HL.out _).mono ?_
    rintro e' w' ⟨rfl, md, rfl⟩
    go_wp2_with fail
    refine (HP.out _).mono ?_
    rintro e' w' ⟨rfl, rfl⟩
    go_wp2
    go_ret2
    exact ⟨rfl, _, rfl⟩
  · have k1 : decide ((s.size : Int) ≤ (at_ : Int) + 1) = true := by simp; omega
    have k2 : (s.size : Int) ≤ (at_ : Int) + 1 := by omega
    clear h1
    go_enter Tryz.func84, Tryz.ntmps84
    go_wp2_with fail
    refine (HL.out _).mono ?_
    rintro e' w' ⟨rfl, md, rfl⟩
    go_wp2_with fail
    refine (HP.out _).mono ?_
    rintro e' w' ⟨rfl, rfl⟩
    go_wp2
    go_ret2
    exact ⟨rfl, _, rfl⟩
  · have k2 : (at_ : Int) + 1 < (s.size : Int) := by omega
    have k1 : decide ((s.size : Int) ≤ (at_ : Int) + 1) = false := by simp; omega
    go_enter Tryz.func84, Tryz.ntmps84
    go_wp2_with fail
    refine (HL.out _).mono ?_
    rintro e' w' ⟨rfl, md, rfl⟩
    go_wp2_with fail
    refine (HP.out _).mono ?_
    rintro e' w' ⟨rfl, rfl⟩
    go_wp2
    go_ret2
    exact ⟨rfl, _, rfl⟩

set_option maxRecDepth 100000 in
set_option maxHeartbeats 4000000 in
theorem End_out (s : ByteArray) (hs : s.size ≤ 9223372036854775807) (f : Nat) (hf : f + 1 ≤ 400) : EndAt s (f + 1) s.size := by
  intro w
  have hP : Tm.parse (f + 1) (s.data.toList.drop s.size) = (0, 0, 2) := by
    rw [List.drop_of_length_le (by simp)]
    rw [Tm.parse, if_pos (by simp [Tm.begin_, Tm.headOf])]
  rw [hP]
  have hE2 : Tm.endI s.size (0, 0, 2) = -1 := by simp [Tm.endI]
  rw [hE2]
  have hD : Tm.depI (0, 0, 2) = 0 := rfl
  rw [hD]
  have j3 : (s.size : Int) ≤ 9223372036854775807 := by omega
  have j4 : (f : Int) ≤ 399 := by omega
  have j5 : ¬ ((f : Int) + 1 = 0) := by omega
  have j6 : (((f : Int) + 1) == 0) = false := by rw [beq_eq_false_iff_ne]; exact j5
  clear hP hE2 hD
  go_enter Tryz.func84, Tryz.ntmps84
  go_wp2
  go_ret2
  exact ⟨rfl, 0, rfl⟩

set_option maxRecDepth 100000 in
set_option maxHeartbeats 4000000 in
theorem End_zero (s : ByteArray) (at_ : Nat) : EndAt s 0 at_ := by
  intro w
  have hP : Tm.parse 0 (s.data.toList.drop at_) = (0, 0, 4) := rfl
  rw [hP]
  have hE2 : Tm.endI at_ (0, 0, 4) = -2 := by simp [Tm.endI]
  rw [hE2]
  have hD : Tm.depI (0, 0, 4) = 0 := rfl
  rw [hD]
  clear hP hE2 hD
  go_enter Tryz.func84, Tryz.ntmps84
  go_wp2
  go_ret2
  exact ⟨rfl, 0, rfl⟩

theorem u8_bne {c : UInt8} {n : Nat} (hn : n < 256) (h : ¬ c = UInt8.ofNat n) : ((c.toNat : Int) != (n : Int)) = true := by
  have := u8_no hn h
  simp only [bne, this, Bool.not_false]
theorem u8_beq {c : UInt8} {n : Nat} (hn : n < 256) (h : c = UInt8.ofNat n) : ((c.toNat : Int) != (n : Int)) = false := by
  have := u8_yes hn h
  simp only [bne, this, Bool.not_true]

theorem End_calls (s : ByteArray) (hs : s.size ≤ 9223372036854775807) : ∀ (f : Nat), f ≤ 400 → ∀ (at_ : Nat), at_ ≤ s.size → EndAt s f at_ := by
  intro f
  induction f with
  | zero => intro _ at_ _; exact End_zero s at_
  | succ f ih =>
    intro hf at_ hat0
    by_cases hat1 : at_ = s.size
    · subst hat1; exact End_out s hs f hf
    have hat : at_ < s.size := by omega
    have hlen : (s.data.toList.drop at_).length = s.size - at_ := by rw [List.length_drop, len_bytes]
    have hne : ¬ s.data.toList.drop at_ = [] := fun e => by rw [e] at hlen; simp at hlen; omega
    have hc : (s.data.toList.drop at_).getD 0 0 = s[at_] := by have := getD_drop_bytes s at_ 0 (by omega); simpa using this
    have hh := Tm.headOf_ne hne
    rw [hc] at hh
    have hbl : (Tm.begin_ (s.data.toList.drop at_)).1 ≤ 103 := by
      unfold Tm.begin_
      split
      · simp
      · exact (Tm.headOf_le _).1
    have hfail : (Tm.begin_ (s.data.toList.drop at_)).1 = 0 → Tm.parse (f + 1) (s.data.toList.drop at_) = (0, 0, 2) := fun h => by rw [Tm.parse, if_pos h]
    by_cases hleaf : (Tm.begin_ (s.data.toList.drop at_)).1 ≠ 0 ∧ (Tm.begin_ (s.data.toList.drop at_)).2 = 0
    · refine End_leaf s hs f hf at_ (Tm.begin_ (s.data.toList.drop at_)).1 hat ?_ (by omega) (by omega) (Tm.parse_leaf hleaf.1 hleaf.2)
      unfold Tm.leafN
      rw [if_pos hleaf]
    have hl : Tm.leafN (s.data.toList.drop at_) = -1 := by unfold Tm.leafN; rw [if_neg hleaf]
    have node : ∀ m a : Nat, Tm.begin_ (s.data.toList.drop at_) = (a, m) → a ≠ 0 → at_ + a ≤ s.size → ¬ (s[at_] = 107 ∧ Tm.element (s.data.toList.drop (at_ + a)) = false) → Entry s at_ m (at_ + a) (Tm.partsN s[at_]) hat → EndAt s (f + 1) at_ := by
      intro m a hb ha hk hkey hE w
      refine End_node s hs f hf (ih (by omega)) at_ m (at_ + a) hat hE hk hl w ?_ (by omega)
      have := Tm.parse_node (f := f) (l := s.data.toList.drop at_) (by rw [hb]; exact ha) (by rw [hc, hb, List.drop_drop]; exact hkey)
      rw [hc, hb] at this
      simp only [List.drop_drop] at this
      rw [this, Nat.add_sub_cancel_left]
    have hbg : ∀ a m, Tm.headOf (s.data.toList.drop at_) = (a, m) → a ≤ s.size - at_ → Tm.begin_ (s.data.toList.drop at_) = (a, m) := fun a m h h2 => by
      unfold Tm.begin_; rw [h, if_neg (by rw [hlen]; simp only; omega)]
    by_cases c5 : s[at_] = 101
    · have g1 : ((s[at_].toNat : Int) == 101) = true := u8_yes (n := 101) (by omega) c5
      rw [if_neg (by rw [c5]; decide), if_neg (by rw [c5]; decide), if_neg (by rw [c5]; decide), if_neg (by rw [c5]; decide), if_pos c5] at hh
      by_cases h1 : at_ + 1 < s.size
      · have hg := getD_drop_bytes s at_ 1 h1
        rw [hg, hlen] at hh
        by_cases h2 : s[at_ + 1].toNat < 1
        · rw [if_neg (by omega)] at hh
          exact End_none s hs f hf at_ hat hl (.inr (.inl ⟨g1, h1, h2⟩)) (hfail (by unfold Tm.begin_; rw [hh]; simp))
        · by_cases h3 : 32 < s[at_ + 1].toNat
          · rw [if_neg (by omega)] at hh
            exact End_none s hs f hf at_ hat hl (.inr (.inr (.inl ⟨g1, h1, by omega, h3⟩))) (hfail (by unfold Tm.begin_; rw [hh]; simp))
          · rw [if_pos (by omega)] at hh
            exact node _ 2 (hbg _ _ hh (by omega)) (by omega) (by omega) (fun h => by rw [c5] at h; exact absurd h.1 (by decide)) (.inl ⟨g1, u8_no (n := 107) (by omega) (by rw [c5]; decide), rfl, h1, rfl, by omega, by omega, by rw [c5]; decide⟩)
      · rw [if_neg (by rw [hlen]; omega)] at hh
        exact End_none s hs f hf at_ hat hl (.inl ⟨g1, by omega⟩) (hfail (by unfold Tm.begin_; rw [hh]; simp))
    · have g1 : ((s[at_].toNat : Int) == 101) = false := u8_no (n := 101) (by omega) c5
      by_cases c6 : s[at_] = 107
      · have g2 : ((s[at_].toNat : Int) == 107) = true := u8_yes (n := 107) (by omega) c6
        have hp : Tm.partsN s[at_] = 1 := by rw [c6]; decide
        rw [if_neg (by rw [c6]; decide), if_neg (by rw [c6]; decide), if_neg (by rw [c6]; decide), if_neg (by rw [c6]; decide), if_neg c5, if_pos (.inl c6)] at hh
        have hb := hbg _ _ hh (by omega)
        have hkeyf : Tm.element (s.data.toList.drop (at_ + 1)) = false → Tm.parse (f + 1) (s.data.toList.drop at_) = (0, 0, 2) := fun h =>
          Tm.parse_nokey (by rw [hc, hb]; simp only [List.drop_drop]; exact ⟨c6, h⟩)
        by_cases h1 : at_ + 1 < s.size
        · have hd0 : s.data.toList.drop (at_ + 1) ≠ [] := fun e => by
            have := congrArg List.length e
            rw [List.length_drop, len_bytes] at this
            simp at this
            omega
          have hd1 : (s.data.toList.drop (at_ + 1)).getD 0 0 = s[at_ + 1] := by have := getD_drop_bytes s (at_ + 1) 0 (by omega); simpa using this
          have hel := Tm.element_of hd0
          rw [hd1] at hel
          by_cases h2 : s[at_ + 1] = 103
          · exact node 1 1 hb (by omega) (by omega) (fun h => by rw [hel.2 (.inl h2)] at h; cases h.2) (.inr (.inl ⟨g1, g2, rfl, hp, by omega, by omega, h1, u8_beq (n := 103) (by omega) h2⟩))
          · by_cases h3 : s[at_ + 1] = 101
            · exact node 1 1 hb (by omega) (by omega) (fun h => by rw [hel.2 (.inr h3)] at h; cases h.2) (.inr (.inr (.inl ⟨g1, g2, rfl, hp, by omega, by omega, h1, u8_bne (n := 103) (by omega) h2, u8_beq (n := 101) (by omega) h3⟩)))
            · refine End_none s hs f hf at_ hat hl (.inr (.inr (.inr (.inr (.inr ⟨g1, g2, hp, h1, u8_bne (n := 103) (by omega) h2, u8_bne (n := 101) (by omega) h3⟩))))) (hkeyf ?_)
              cases h : Tm.element (s.data.toList.drop (at_ + 1)) with
              | false => rfl
              | true => exact absurd (hel.1 h) (fun h => h.elim h2 h3)
        · refine End_none s hs f hf at_ hat hl (.inr (.inr (.inr (.inr (.inl ⟨g1, g2, hp, by omega⟩))))) (hkeyf ?_)
          rw [List.drop_of_length_le (by rw [len_bytes]; omega)]
          rfl
      · have g2 : ((s[at_].toNat : Int) == 107) = false := u8_no (n := 107) (by omega) c6
        have nk : ¬ (s[at_] = 107 ∧ Tm.element (s.data.toList.drop (at_ + 1)) = false) := fun h => c6 h.1
        by_cases c7 : s[at_] = 104
        · rw [if_neg (by rw [c7]; decide), if_neg (by rw [c7]; decide), if_neg (by rw [c7]; decide), if_neg (by rw [c7]; decide), if_neg c5, if_pos (.inr c7)] at hh
          exact node 1 1 (hbg _ _ hh (by omega)) (by omega) (by omega) nk (.inr (.inr (.inr ⟨g1, g2, rfl, by rw [c7]; decide, by omega, by omega⟩)))
        by_cases c8 : s[at_] = 112 ∨ s[at_] = 120
        · have e1 : s[at_] ≠ 103 := by rcases c8 with h | h <;> rw [h] <;> decide
          have e2 : ¬ (s[at_] = 110 ∨ s[at_] = 117) := by rcases c8 with h | h <;> rw [h] <;> decide
          have e3 : s[at_] ≠ 116 := by rcases c8 with h | h <;> rw [h] <;> decide
          have e4 : s[at_] ≠ 105 := by rcases c8 with h | h <;> rw [h] <;> decide
          rw [if_neg e1, if_neg e2, if_neg e3, if_neg e4, if_neg c5, if_neg (fun h => h.elim c6 c7), if_pos c8] at hh
          exact node 2 1 (hbg _ _ hh (by omega)) (by omega) (by omega) nk (.inr (.inr (.inr ⟨g1, g2, rfl, by rcases c8 with h | h <;> rw [h] <;> decide, by omega, by omega⟩)))
        by_cases c9 : s[at_] = 115
        · rw [if_neg (by rw [c9]; decide), if_neg (by rw [c9]; decide), if_neg (by rw [c9]; decide), if_neg (by rw [c9]; decide), if_neg c5, if_neg (fun h => h.elim c6 c7), if_neg c8, if_pos c9] at hh
          exact node 3 1 (hbg _ _ hh (by omega)) (by omega) (by omega) nk (.inr (.inr (.inr ⟨g1, g2, rfl, by rw [c9]; decide, by omega, by omega⟩)))
        have hp : Tm.partsN s[at_] = -1 := by
          unfold Tm.partsN
          rw [if_neg (fun h => h.elim c6 c7), if_neg c8, if_neg c9]
        refine End_none s hs f hf at_ hat hl (.inr (.inr (.inr (.inl ⟨g1, hp⟩)))) (hfail ?_)
        -- what is left is no node: its beginning is that of a leaf, or none
        by_cases h0 : (Tm.begin_ (s.data.toList.drop at_)).1 = 0
        · exact h0
        exfalso
        apply hleaf
        refine ⟨h0, ?_⟩
        rw [(Tm.begin_some h0).1, hh]
        simp only [if_neg c5, if_neg (show ¬ (s[at_] = 107 ∨ s[at_] = 104) from fun h => h.elim c6 c7), if_neg c8, if_neg c9]
        repeat' split
        all_goals rfl

end Go.Proofs.YtiodphkmllcjdaaGreat
end

section
namespace Go.Proofs.YtiodphkmllcjdaaGreat
open Go.ChangeShapes Go.WideShapes Go.ChangeAt Go.RowKit

namespace Tm
theorem right_take (l : List UInt8) : right l = ((take l).2.2 == 0 && ((take l).2.1 == [] && !((take l).1 == []))) := by
  obtain ⟨⟨n, d, e⟩, hr⟩ : ∃ r, read l = r := ⟨_, rfl⟩
  have hb := parse_bounds 400 l
  rw [← read_parse, hr] at hb
  simp only at hb
  unfold right depthOf take
  rw [hr]
  simp only
  by_cases he : e = 0
  · subst he
    have h1 := hb.2 rfl
    simp only [ne_eq, not_true_eq_false, if_false, false_or]
    by_cases hn : 20000 < n
    · rw [if_pos hn]
      by_cases hl : 20000 < l.length
      · rw [if_pos hl]; rfl
      · omega
    · rw [if_neg hn]
      simp only
      by_cases hnl : n = l.length
      · subst hnl
        rw [if_neg (by omega), if_neg (by simp)]
        have hne : (l == ([] : List UInt8)) = false := by
          cases l with
          | nil => simp at h1
          | cons c r => rfl
        rw [List.take_length, List.drop_length, hne]
        simp
        omega
      · have hd : l.drop n ≠ [] := fun e => by
          have := congrArg List.length e
          simp at this
          omega
        have h2 : (if 20000 < l.length then 0 else if ¬ n = l.length then 0 else d) = 0 := by
          by_cases hl : 20000 < l.length
          · rw [if_pos hl]
          · rw [if_neg hl, if_pos hnl]
        rw [h2]
        simp [hd]
  · simp [he]
end Tm

set_option maxRecDepth 100000 in
set_option maxHeartbeats 4000000 in
theorem RTake_calls (s : ByteArray) (hs : s.size ≤ 9223372036854775807) (w : World) :
    Calls Tryz.prog 64 #[.string s] w (Drew w (.tuple #[.string ⟨(Tm.take s.data.toList).1.toArray⟩, .string ⟨(Tm.take s.data.toList).2.1.toArray⟩, .int .i64 (Tm.take s.data.toList).2.2])) := by
  have cE : ∀ W, Calls Tryz.prog 84 #[.string s, .int .i64 0, .int .i64 400] W (Drew W (.tuple #[.int .i64 (Tm.endI 0 (Tm.parse 400 (s.data.toList.drop 0))), .int .i64 (Tm.depI (Tm.parse 400 (s.data.toList.drop 0)))])) := fun W => End_calls s hs 400 (by omega) 0 (by omega) W
  rw [List.drop_zero, ← Tm.read_parse] at cE
  obtain ⟨r, hr⟩ : ∃ r, Tm.take s.data.toList = r := ⟨_, rfl⟩
  rw [hr]
  unfold Tm.take at hr
  have hb := Tm.read_bounds s.data.toList
  rw [len_bytes] at hb
  generalize Tm.read s.data.toList = x at *
  obtain ⟨n, d, er⟩ := x
  simp only at hr hb
  rcases hb.2.2 with rfl | rfl | rfl
  · have eI : Tm.endI 0 (n, d, 0) = (n : Int) := by simp [Tm.endI]
    rw [eI] at cE
    generalize Tm.depI (n, d, 0) = dd at *
    have HC := Lib.hid cE
    rw [if_neg (by simp)] at hr
    have i1 : (0 : Int) ≤ (n : Int) := by omega
    have i2 : (n : Int) ≤ (s.size : Int) := by omega
    have i3 : ((n : Int) == -1) = false := by rw [beq_eq_false_iff_ne]; omega
    have i4 : ((n : Int) == -2) = false := by rw [beq_eq_false_iff_ne]; omega
    clear cE eI
    by_cases h3 : 20000 < n
    · rw [if_pos h3] at hr
      subst hr
      have h3' : (20000 : Int) < (n : Int) := by omega
      go_enter Tryz.func64, Tryz.ntmps64
      go_wp2_with fail
      refine (HC.out _).mono ?_
      rintro e' w' ⟨rfl, md, rfl⟩
      go_wp2
      go_ret3
      exact ⟨rfl, _, rfl⟩
    · rw [if_neg h3] at hr
      subst hr
      have h3' : (n : Int) ≤ 20000 := by omega
      have e1 := extract_take s n
      have e2 := extract_eq s n s.size
      rw [List.take_of_length_le (by simp)] at e2
      have E1 := Lib.hid e1
      have E2 := Lib.hid e2
      clear e1 e2
      go_enter Tryz.func64, Tryz.ntmps64
      go_wp2_with fail
      refine (HC.out _).mono ?_
      rintro e' w' ⟨rfl, md, rfl⟩
      go_wp2
      go_quiet (fail)
      go_wp2
      go_ret3
      exact ⟨by rw [E1.out, E2.out]; rfl, _, World.drewN_drewN _ _ _⟩
  · have eI : Tm.endI 0 (n, d, 2) = -1 := by simp [Tm.endI]
    rw [eI] at cE
    generalize Tm.depI (n, d, 2) = dd at *
    have HC := Lib.hid cE
    rw [if_pos (by simp)] at hr
    subst hr
    clear cE eI
    go_enter Tryz.func64, Tryz.ntmps64
    go_wp2_with fail
    refine (HC.out _).mono ?_
    rintro e' w' ⟨rfl, md, rfl⟩
    go_wp2
    go_ret3
    exact ⟨rfl, _, rfl⟩
  · have eI : Tm.endI 0 (n, d, 4) = -2 := by simp [Tm.endI]
    rw [eI] at cE
    generalize Tm.depI (n, d, 4) = dd at *
    have HC := Lib.hid cE
    rw [if_pos (by simp)] at hr
    subst hr
    clear cE eI
    go_enter Tryz.func64, Tryz.ntmps64
    go_wp2_with fail
    refine (HC.out _).mono ?_
    rintro e' w' ⟨rfl, md, rfl⟩
    go_wp2
    go_ret3
    exact ⟨rfl, _, rfl⟩

set_option maxRecDepth 100000 in
set_option maxHeartbeats 4000000 in
theorem RRight_calls (s : ByteArray) (hs : s.size ≤ 9223372036854775807) (w : World) :
    Calls Tryz.prog 42 #[.string s] w (Drew w (.bool (Tm.right s.data.toList))) := by
  have HC := Lib.hid (fun W => RTake_calls s hs W)
  rw [Tm.right_take]
  generalize Tm.take s.data.toList = r at *
  obtain ⟨a, b, e⟩ := r
  simp only at *
  by_cases he : e = 0
  · subst he
    by_cases hb : b = []
    · subst hb
      by_cases ha : a = []
      · subst ha
        go_enter Tryz.func42, Tryz.ntmps42
        go_wp2_with fail
        refine (HC.out _).mono ?_
        rintro e' w' ⟨rfl, md, rfl⟩
        go_wp2
        go_ret
        exact ⟨rfl, _, rfl⟩
      · have q1 : (a == ([] : List UInt8)) = false := by simpa using ha
        rw [q1]
        clear ha
        go_enter Tryz.func42, Tryz.ntmps42
        go_wp2_with fail
        refine (HC.out _).mono ?_
        rintro e' w' ⟨rfl, md, rfl⟩
        go_wp2
        go_ret
        exact ⟨rfl, _, rfl⟩
    · have q1 : (b == ([] : List UInt8)) = false := by simpa using hb
      rw [q1]
      clear hb
      go_enter Tryz.func42, Tryz.ntmps42
      go_wp2_with fail
      refine (HC.out _).mono ?_
      rintro e' w' ⟨rfl, md, rfl⟩
      go_wp2
      go_ret
      exact ⟨rfl, _, rfl⟩
  · have q1 : (e == 0) = false := by simpa using he
    rw [q1]
    have q2 : ((e : Int) == 0) = false := by rw [beq_eq_false_iff_ne]; omega
    clear he q1
    go_enter Tryz.func42, Tryz.ntmps42
    go_wp2_with fail
    refine (HC.out _).mono ?_
    rintro e' w' ⟨rfl, md, rfl⟩
    go_wp2
    go_ret
    exact ⟨rfl, _, rfl⟩

end Go.Proofs.YtiodphkmllcjdaaGreat
end

section
namespace Go.Proofs.YtiodphkmllcjdaaGreat
open Go.ChangeShapes Go.WideShapes Go.ChangeAt Go.RowKit

theorem info_text : (Tryz.prog.info? 9).map (fun i => (i.zero, i.size, i.bytes)) = some (some (.string ⟨#[]⟩), 1, 16) := by kernel_rfl

set_option maxHeartbeats 400000 in
theorem RKind_calls (s : ByteArray) (hs : s.size ≤ 9223372036854775807) (w : World) :
    Calls Tryz.prog 86 #[.string s] w (Drew w (.int .u8 (Tm.kindOf s.data.toList).toNat)) := by
  have cR := fun W => RRight_calls s hs W
  unfold Tm.kindOf
  cases hr : Tm.right s.data.toList with
  | false =>
    rw [hr] at cR
    have HR := Lib.hid cR
    clear cR hr
    go_enter Tryz.func86, Tryz.ntmps86
    go_wp2_with fail
    refine (HR.out _).mono ?_
    rintro e' w' ⟨rfl, md, rfl⟩
    go_wp2
    go_ret
    exact ⟨rfl, _, rfl⟩
  | true =>
    rw [hr] at cR
    have hp := (Tm.right_ne_nil hr).2
    rw [len_bytes] at hp
    have hg := getD_bytes s 0 hp
    rw [if_pos rfl, hg]
    have HR := Lib.hid cR
    have i1 : (0 : Int) < (s.size : Int) := by omega
    clear cR hr hg
    go_enter Tryz.func86, Tryz.ntmps86
    go_wp2_with fail
    refine (HR.out _).mono ?_
    rintro e' w' ⟨rfl, md, rfl⟩
    go_wp2
    go_ret
    exact ⟨rfl, _, rfl⟩

def ROfOut (w : World) (ps : List (List UInt8)) (e : Ending) (w' : World) : Prop :=
  ∃ v, e = .returned v ∧ w'.ownsRow w.heap.size 9 1 v ps.length (strs ps) ∧ Below w.heap.size w w'

def RTelling (l : List UInt8) (ps : List (List UInt8)) (w : World) (K : Nat) (v3 v4 : Value) (wr : World) : Prop :=
  ∃ (pre rest : List (List UInt8)) (at_ : Nat), K = rest.length ∧ ps = pre ++ rest ∧ v4 = .int .i64 at_ ∧ l.drop at_ = rest.flatten ∧ at_ ≤ l.length ∧ wr.ownsRow w.heap.size 9 1 v3 pre.length (strs pre) ∧ Below w.heap.size w wr

/-- Which of the kinds that have parts it is. -/
def KindOfNode (c : UInt8) (a : Nat) : Prop :=
  (((c.toNat : Int) == 107) = true ∧ a = 1) ∨ (((c.toNat : Int) == 107) = false ∧ ((c.toNat : Int) == 104) = true ∧ a = 1) ∨
  (((c.toNat : Int) == 107) = false ∧ ((c.toNat : Int) == 104) = false ∧ ((c.toNat : Int) == 112) = true ∧ a = 1) ∨
  (((c.toNat : Int) == 107) = false ∧ ((c.toNat : Int) == 104) = false ∧ ((c.toNat : Int) == 112) = false ∧ ((c.toNat : Int) == 115) = true ∧ a = 1) ∨
  (((c.toNat : Int) == 107) = false ∧ ((c.toNat : Int) == 104) = false ∧ ((c.toNat : Int) == 112) = false ∧ ((c.toNat : Int) == 115) = false ∧ ((c.toNat : Int) == 120) = true ∧ a = 1) ∨
  (((c.toNat : Int) == 107) = false ∧ ((c.toNat : Int) == 104) = false ∧ ((c.toNat : Int) == 112) = false ∧ ((c.toNat : Int) == 115) = false ∧ ((c.toNat : Int) == 120) = false ∧ ((c.toNat : Int) == 101) = true ∧ a = 2)

set_option maxRecDepth 100000 in
set_option maxHeartbeats 8000000 in
theorem ROf_node (s : ByteArray) (hs : s.size ≤ 20000) (ps : List (List UInt8)) (a : Nat) (hps : ps.length ≤ 32) (hg : ∀ p ∈ ps, Tm.Good 400 20000 p) (hd : s.data.toList.drop a = ps.flatten) (ha : a ≤ s.size)
    (hk : KindOfNode (Tm.kindOf s.data.toList) a) (w : World) : Calls Tryz.prog 87 #[.string s] w (ROfOut w ps) := by
  have HK := Lib.hid (fun W => RKind_calls s (by omega) W)
  have HE := Lib.hid (End_calls s (by omega) 400 (by omega))
  have HG := Lib.hid hg
  obtain ⟨i0, hi, hz0, hz1, hz2⟩ := info_parts info_text
  have HI : ∀ (md : Nat), Hid (RTelling s.data.toList ps w ps.length (.slice none 0 0) (.int .i64 a) (w.drewN md)) := fun md =>
    ⟨[], ps, a, rfl, rfl, rfl, hd, by rw [len_bytes]; exact ha, World.ownsRow_nil _ _ _ _, below_drewN (Below.refl _ _) _⟩
  have hsI : (s.size : Int) ≤ 20000 := by omega
  have HLen := Lib.hid (len_bytes s)
  generalize Tm.kindOf s.data.toList = c at *
  clear hg hd ha
  rcases hk with ⟨g1, rfl⟩ | ⟨g1, g2, rfl⟩ | ⟨g1, g2, g3, rfl⟩ | ⟨g1, g2, g3, g4, rfl⟩ | ⟨g1, g2, g3, g4, g5, rfl⟩ | ⟨g1, g2, g3, g4, g5, g6, rfl⟩
  all_goals
    go_enter Tryz.func87, Tryz.ntmps87
    go_wp2_with fail
    refine (HK.out _).mono ?_
    rintro e' w' ⟨rfl, md, rfl⟩
    go_wp2
    go_loopg [3, 4] ps.length (fun K v3 v4 wr => RTelling s.data.toList ps w K v3 v4 wr)
    case atStart => exact (HI md).out
    case round =>
      clear HI
      obtain ⟨pre, rest, at_, hK, hx, rfl, hdr, hat, hrow, hbel⟩ := hrel
      have HX := Lib.hid hx
      have HDr := Lib.hid hdr
      have HRw := Lib.hid hrow
      have hpl : pre.length + rest.length = ps.length := by rw [hx]; simp
      rw [HLen.out] at hat
      have hsz := hbel.size
      cases rest with
      | nil =>
        have hend : at_ = s.size := by
          have := congrArg List.length hdr
          rw [List.length_drop, HLen.out] at this
          simp at this
          omega
        have j1 : ¬ ((at_ : Int) < (s.size : Int)) := by omega
        have hpp : Hid (ps = pre) := by show _ = _; rw [hx]; simp
        clear hx hdr hrow hend hK
        go_wp2
        go_ret
        exact ⟨_, rfl, by rw [hpp.out]; exact HRw.out, hbel⟩
      | cons x rest =>
        have hGx := HG.out x (by rw [hx]; simp)
        obtain ⟨hpp, _⟩ := Tm.right_parse hGx.1
        have hst := Tm.parse_stable 400 x x.length _ hpp rest.flatten
        rw [List.take_length, ← List.flatten_cons, ← hdr] at hst
        have hxl := (Tm.right_ne_nil ((Tm.right_iff x).2 hGx.1)).2
        have hlen2 : x.length + rest.flatten.length = s.size - at_ := by
          have := congrArg List.length hdr
          rw [List.length_drop, HLen.out, List.flatten_cons, List.length_append] at this
          omega
        have cE : ∀ W, Calls Tryz.prog 84 #[.string s, .int .i64 at_, .int .i64 400] W (Drew W (.tuple #[.int .i64 (Tm.endI at_ (Tm.parse 400 (s.data.toList.drop at_))), .int .i64 (Tm.depI (Tm.parse 400 (s.data.toList.drop at_)))])) := fun W => HE.out at_ hat W
        rw [hst] at cE
        have eI : Tm.endI at_ (x.length, Tm.depthOf x, 0) = ((at_ + x.length : Nat) : Int) := by simp [Tm.endI]
        rw [eI] at cE
        generalize Tm.depI (x.length, Tm.depthOf x, 0) = dd at *
        have hex : s.extract at_ (at_ + x.length) = ⟨x.toArray⟩ := by
          rw [extract_eq, hdr, Nat.add_sub_cancel_left, List.flatten_cons, List.take_left]
        have hdr2 : s.data.toList.drop (at_ + x.length) = rest.flatten := by
          rw [← List.drop_drop, hdr, List.flatten_cons, List.drop_left]
        obtain ⟨en, hen⟩ : ∃ en, at_ + x.length = en := ⟨_, rfl⟩
        rw [hen] at cE hex hdr2
        have HC := Lib.hid cE
        have HD2 := Lib.hid hdr2
        have j1 : (at_ : Int) < (s.size : Int) := by omega
        have j2 : (0 : Int) ≤ (at_ : Int) := by omega
        have j3 : (at_ : Int) ≤ (en : Int) := by omega
        have j4 : (en : Int) ≤ (s.size : Int) := by omega
        have j5 : en ≤ s.size := by omega
        clear cE eI hst hpp hdr hrow hx hdr2 hGx hen hxl hlen2
        go_wp2_with (first
          | (go_at_call 84; refine (HC.out _).mono ?_; rintro e' w' ⟨rfl, md3, rfl⟩)
          | (at_builtin
             refine wpList_append_own _ rfl _ _ 48 rfl w.heap.size 9 i0 (.string ⟨#[]⟩) 1 16 Tryz.underlying48 hi hz0 hz1 hz2 rfl (by decide) _ pre.length (strs pre) rfl (World.ownsRow.alloc (w := wr.drewN md3) HRw.out _) ⟨wr.heap.size, 0, none⟩ 1 1 [.string ⟨x.toArray⟩] rfl rfl (cell_one_new _ _ _) (fun y hy => by simp at hy; subst hy; rfl) (by unfold maxLen; simp at hpl; omega) (by simp at hpl; omega) (by simp; omega) ?_
             intro v' w3 hown3 hgrow3 hnil3
             have X : Hid (w3.ownsRow w.heap.size 9 1 v' (pre.length + 1) (strs pre ++ [.string ⟨x.toArray⟩]) ∧ Below w.heap.size w w3) :=
               ⟨hown3, Below.grown ((below_drewN hbel md3).alloc (by simp; omega) _) hgrow3 (by simp; omega) (fun j hj => by have := (World.ownsRow.lt HRw.out _ hj).1; omega)⟩
             clear hown3 hgrow3 hnil3))
        go_roundg rest.length
        case measure => rw [hK]; simp
        case rel =>
          refine ⟨pre ++ [x], rest, en, rfl, by rw [HX.out]; simp, rfl, HD2.out, by rw [HLen.out]; exact j5, ?_, X.out.2⟩
          have e9 : strs (pre ++ [x]) = strs pre ++ [.string ⟨x.toArray⟩] := by simp [strs]
          rw [e9, List.length_append, List.length_singleton]
          exact X.out.1

end Go.Proofs.YtiodphkmllcjdaaGreat
end

section
namespace Go.Proofs.YtiodphkmllcjdaaGreat
open Go.ChangeShapes Go.WideShapes Go.ChangeAt Go.RowKit

namespace Tm
theorem element_iff {l : List UInt8} (h : l ≠ []) : element l = true ↔ (l.getD 0 0 = 103 ∨ l.getD 0 0 = 101) := by
  cases l with
  | nil => exact absurd rfl h
  | cons c r => simp [element]
theorem ofL_exps {a : List UInt8} (h : right a = true) (he : element a = true) : ofL a = expsOf a := by
  have hne := (right_ne_nil h).1
  obtain ⟨hb, h0⟩ := head_of_right h
  unfold ofL expsOf
  rw [hb]
  rcases (element_iff hne).1 he with hk | hk
  · have hh : headOf a = (1, 0) := by unfold headOf; rw [if_neg hne, if_pos hk]
    rw [if_pos hk, hh]; rfl
  · obtain ⟨p1, p2, p3⟩ := right_power h hk
    have hh : headOf a = (2, (a.getD 1 0).toNat) := by
      have e : headOf a = if 2 ≤ a.length ∧ 1 ≤ (a.getD 1 0).toNat ∧ (a.getD 1 0).toNat ≤ 32 then (2, (a.getD 1 0).toNat) else (0, 0) := by
        unfold headOf; rw [if_neg hne, hk]; simp
      rw [e, if_pos ⟨p1, p2, p3⟩]
    rw [if_neg (by rw [hk]; decide), hh]
/-- What Power makes of an element and an exponent, where it makes one. -/
def PowFact (a b l : List UInt8) : Prop :=
  ∃ i, i ≤ (ofL a).length ∧ ofL l = ins (ofL a) i b ∧ chain [] (ofL l) ∧ right l = true ∧ l = 101 :: UInt8.ofNat ((ofL a).length + 1) :: (ins (ofL a) i b).flatten
theorem pow_fact {a b l : List UInt8} {i : Nat} (ha : right a = true) (hel : element a = true) (hb : right b = true) (hf : Found (expsOf a) b i) (hn : (expsOf a).length ≠ 32)
    (h : put [101, UInt8.ofNat ((expsOf a).length + 1)] (ins (expsOf a) i b) = (l, 0)) : PowFact a b l := by
  obtain ⟨x1, x2, x3, x4⟩ := expsOf_ok ha hel
  have hil := ins_length (expsOf a) i b hf.1
  have hbg : begin_ ([101, UInt8.ofNat ((expsOf a).length + 1)] ++ (ins (expsOf a) i b).flatten) = ([101, UInt8.ofNat ((expsOf a).length + 1)].length, (ins (expsOf a) i b).length) := by
    rw [hil]; exact begin_pow _ (by omega) (by omega) _
  have hch : chain [] (ins (expsOf a) i b) := by
    refine chain_insert _ _ _ x1 hf (fun _ => ?_)
    cases b <;> simp [less, Op.bytesLess]
  obtain ⟨h1, h2, h3, h4⟩ := put_term h hbg (by simp) (by simp) (fun _ => hch)
  have ho := ofL_node hbg h2
  rw [← h1] at ho
  unfold PowFact
  rw [ofL_exps ha hel]
  exact ⟨i, hf.1, ho, by rw [ho]; exact hch, right_of_parse h3 h4, by rw [h1]; rfl⟩
end Tm

def PowOut (W : World) (a b : List UInt8) (e : Ending) (w' : World) : Prop :=
  ∃ (l : List UInt8) (en : Nat), e = .returned (.tuple #[.string ⟨l.toArray⟩, .int .i64 en]) ∧ Below W.heap.size W w' ∧
    ((Tm.element a = false ∧ en = 1 ∧ l = []) ∨ (Tm.element a = true ∧ (en = 3 ∨ en = 4) ∧ l = []) ∨ (Tm.element a = true ∧ en = 0 ∧ Tm.PowFact a b l))

theorem pow_put {W : World} {a b : List UInt8} {i : Nat} (ra : Tm.right a = true) (rb : Tm.right b = true) (hel : Tm.element a = true) (hf : Found (Tm.expsOf a) b i) (hn : (Tm.expsOf a).length ≠ 32) {e : Ending} {w' : World}
    (hp : Pair2 W (Tm.put [101, UInt8.ofNat ((Tm.expsOf a).length + 1)] (Tm.ins (Tm.expsOf a) i b)) e w') : PowOut W a b e w' := by
  obtain ⟨he, hb⟩ := hp
  obtain ⟨r, hr⟩ : ∃ r, Tm.put [101, UInt8.ofNat ((Tm.expsOf a).length + 1)] (Tm.ins (Tm.expsOf a) i b) = r := ⟨_, rfl⟩
  rw [hr] at he
  obtain ⟨l, en⟩ := r
  refine ⟨l, en, he, hb, ?_⟩
  have hall : ∀ p ∈ Tm.ins (Tm.expsOf a) i b, Tm.depthOf p ≠ 0 := by
    intro p hp
    obtain ⟨_, x2, _⟩ := Tm.expsOf_ok ra hel
    simp only [Tm.ins, List.mem_append, List.mem_cons] at hp
    rcases hp with hp | rfl | hp
    · exact (x2 p (List.mem_of_mem_take hp)).1
    · exact (Tm.right_iff _).1 rb
    · exact (x2 p (List.mem_of_mem_drop hp)).1
  by_cases c2 : 20000 < Tm.total [101, UInt8.ofNat ((Tm.expsOf a).length + 1)] (Tm.ins (Tm.expsOf a) i b)
  · rw [Tm.put_long hall c2] at hr
    simp only [Prod.mk.injEq] at hr
    exact .inr (.inl ⟨hel, .inl hr.2.symm, hr.1.symm⟩)
  by_cases c3 : 400 < Tm.maxDepth (Tm.ins (Tm.expsOf a) i b) + 1
  · rw [Tm.put_deep hall c2 c3] at hr
    simp only [Prod.mk.injEq] at hr
    exact .inr (.inl ⟨hel, .inr hr.2.symm, hr.1.symm⟩)
  have hok := Tm.put_ok hall c2 c3
  rw [hr] at hok
  simp only [Prod.mk.injEq] at hok
  obtain ⟨_, h0⟩ := hok
  subst h0
  exact .inr (.inr ⟨hel, rfl, Tm.pow_fact ra hel rb hf hn hr⟩)

end Go.Proofs.YtiodphkmllcjdaaGreat
end

section
namespace Go.Proofs.YtiodphkmllcjdaaGreat.Tm

theorem less_cons (x y : UInt8) (a b : List UInt8) : less (x :: a) (y :: b) = true ↔ x < y ∨ (x = y ∧ less a b = true) := by
  simp only [less, Op.bytesLess, Bool.or_eq_true, decide_eq_true_eq, Bool.and_eq_true, beq_iff_eq]
theorem less_antisymm : ∀ a b : List UInt8, less a b = false → less b a = false → a = b := by
  intro a
  induction a with
  | nil => intro b h1 _; cases b <;> simp_all [less, Op.bytesLess]
  | cons x a ih =>
    intro b h1 h2
    cases b with
    | nil => simp [less, Op.bytesLess] at h2
    | cons y b =>
      have h1' : ¬ (x < y ∨ (x = y ∧ less a b = true)) := fun h => by rw [(less_cons x y a b).2 h] at h1; cases h1
      have h2' : ¬ (y < x ∨ (y = x ∧ less b a = true)) := fun h => by rw [(less_cons y x b a).2 h] at h2; cases h2
      have hxy : x = y := by
        apply UInt8.toNat_inj.1
        have a1 : ¬ x < y := fun h => h1' (.inl h)
        have a2 : ¬ y < x := fun h => h2' (.inl h)
        rw [UInt8.lt_iff_toNat_lt] at a1 a2
        omega
      subst hxy
      congr 1
      refine ih b ?_ ?_
      · cases h : less a b with
        | false => rfl
        | true => exact absurd (.inr ⟨rfl, h⟩) h1'
      · cases h : less b a with
        | false => rfl
        | true => exact absurd (.inr ⟨rfl, h⟩) h2'
theorem less_trans : ∀ a b c : List UInt8, less a b = true → less b c = true → less a c = true := by
  intro a
  induction a with
  | nil =>
    intro b c h1 h2
    cases c with
    | nil => cases b <;> simp [less, Op.bytesLess] at h2
    | cons z c => simp [less, Op.bytesLess]
  | cons x a ih =>
    intro b c h1 h2
    cases b with
    | nil => simp [less, Op.bytesLess] at h1
    | cons y b =>
      cases c with
      | nil => simp [less, Op.bytesLess] at h2
      | cons z c =>
        rw [less_cons] at h1 h2 ⊢
        rcases h1 with h1 | ⟨rfl, h1⟩
        · rcases h2 with h2 | ⟨rfl, h2⟩
          · left; rw [UInt8.lt_iff_toNat_lt] at h1 h2 ⊢; omega
          · exact .inl h1
        · rcases h2 with h2 | ⟨rfl, h2⟩
          · exact .inl h2
          · exact .inr ⟨rfl, ih b c h1 h2⟩
def leq (a b : List UInt8) : Prop := less b a = false
theorem leq_trans {a b c : List UInt8} (h1 : leq a b) (h2 : leq b c) : leq a c := by
  unfold leq at *
  cases h : less c a with
  | false => rfl
  | true =>
    exfalso
    cases hab : less a b with
    | true =>
      have := less_trans c a b h hab
      rw [this] at h2; cases h2
    | false =>
      have := less_antisymm a b hab h1
      subst this
      rw [h] at h2; cases h2
theorem leq_nil (a : List UInt8) : leq [] a := by cases a <;> simp [leq, less, Op.bytesLess]
theorem chain_pairwise : ∀ (xs : List (List UInt8)) (ah : List UInt8), chain ah xs → xs.Pairwise leq ∧ ∀ x ∈ xs, leq ah x := by
  intro xs
  induction xs with
  | nil => intro ah _; exact ⟨List.Pairwise.nil, fun x hx => by cases hx⟩
  | cons p ps ih =>
    intro ah h
    obtain ⟨i1, i2⟩ := ih p h.2
    refine ⟨List.Pairwise.cons i2 i1, fun x hx => ?_⟩
    rcases List.mem_cons.1 hx with rfl | hx
    · exact h.1
    · exact leq_trans h.1 (i2 x hx)
/-- A row in order is fixed by what stands in it. -/
theorem chain_unique {xs ys : List (List UInt8)} (h1 : chain [] xs) (h2 : chain [] ys) (hp : xs.Perm ys) : xs = ys :=
  List.Perm.eq_of_pairwise (le := leq) (fun a b _ _ h h' => less_antisymm a b h' h) (chain_pairwise xs [] h1).1 (chain_pairwise ys [] h2).1 hp
theorem ins_perm (xs : List (List UInt8)) (i : Nat) (t : List UInt8) : (ins xs i t).Perm (xs ++ [t]) := by
  unfold ins
  have h1 : (xs.take i ++ t :: xs.drop i).Perm (t :: (xs.take i ++ xs.drop i)) := List.perm_middle
  rw [List.take_append_drop] at h1
  exact h1.trans (List.perm_append_comm (l₁ := [t]) (l₂ := xs))

end Go.Proofs.YtiodphkmllcjdaaGreat.Tm
end

section
namespace Go.Proofs.YtiodphkmllcjdaaGreat
open Go.ChangeShapes Go.WideShapes Go.ChangeAt Go.RowKit

namespace Tm
/-- A term that was put together, or what is wrong. -/
def madeT (l : List UInt8) : List UInt8 × Nat := if 20000 < l.length then ([], 3) else if right l = true then (l, 0) else ([], 4)
theorem put_made {hd : List UInt8} {ps : List (List UInt8)} (hp : ∀ p ∈ ps, depthOf p ≠ 0) (hb : begin_ (hd ++ ps.flatten) = (hd.length, ps.length)) (hne : hd ≠ [])
    (hk : (hd ++ ps.flatten).getD 0 0 = 107 → element ps.flatten = true) (hc : (hd ++ ps.flatten).getD 0 0 = 101 → chain [] ps) : put hd ps = madeT (hd ++ ps.flatten) := by
  unfold madeT
  rw [List.length_append]
  by_cases h2 : 20000 < hd.length + ps.flatten.length
  · rw [if_pos h2, put_long hp (by unfold total; exact h2)]
  rw [if_neg h2]
  by_cases h3 : 400 < maxDepth ps + 1
  · rw [put_deep hp (by unfold total; exact h2) h3]
    have hr : ¬ right (hd ++ ps.flatten) = true := by
      intro h
      have h5 := (ofL_ok h).2.2.2.2.1
      rw [ofL_node hb hp, ← maxDepth_eq] at h5
      have := depthOf_le (hd ++ ps.flatten)
      omega
    rw [if_neg hr]
  · rw [put_ok hp (by unfold total; exact h2) h3]
    have := node_parse hb hne hp (by omega) hk hc
    rw [if_pos (right_of_parse this (by rw [List.length_append]; omega))]
end Tm

set_option maxRecDepth 100000 in
set_option maxHeartbeats 1000000 in
theorem Rmade_calls (s : ByteArray) (hs : s.size ≤ 1000000) (w : World) :
    Calls Tryz.prog 85 #[.string s] w (Drew w (.tuple #[.string ⟨(Tm.madeT s.data.toList).1.toArray⟩, .int .i64 (Tm.madeT s.data.toList).2])) := by
  have cR := fun W => RRight_calls s (by omega) W
  obtain ⟨r, hr⟩ : ∃ r, Tm.madeT s.data.toList = r := ⟨_, rfl⟩
  rw [hr]
  unfold Tm.madeT at hr
  rw [len_bytes] at hr
  by_cases h1 : 20000 < s.size
  · rw [if_pos h1] at hr
    subst hr
    have i1 : (20000 : Int) < (s.size : Int) := by omega
    clear cR
    go_enter Tryz.func85, Tryz.ntmps85
    go_wp2
    go_ret2
    exact ⟨rfl, 0, rfl⟩
  rw [if_neg h1] at hr
  have i1 : (s.size : Int) ≤ 20000 := by omega
  cases hrr : Tm.right s.data.toList with
  | false =>
    rw [hrr] at cR hr
    rw [if_neg (by simp)] at hr
    subst hr
    have HR := Lib.hid cR
    clear cR hrr
    go_enter Tryz.func85, Tryz.ntmps85
    go_wp2_with fail
    refine (HR.out _).mono ?_
    rintro e' w' ⟨rfl, md, rfl⟩
    go_wp2
    go_ret2
    exact ⟨rfl, _, rfl⟩
  | true =>
    rw [hrr] at cR hr
    rw [if_pos rfl] at hr
    subst hr
    have HR := Lib.hid cR
    clear cR hrr
    go_enter Tryz.func85, Tryz.ntmps85
    go_wp2_with fail
    refine (HR.out _).mono ?_
    rintro e' w' ⟨rfl, md, rfl⟩
    go_wp2
    go_ret2
    exact ⟨by first | rfl | (rw [← of_bytes s]; rfl) | simp, _, rfl⟩

def keyT (a : List UInt8) : List UInt8 × Nat := if (Tm.right a && Tm.element a) = true then Tm.madeT (107 :: a) else ([], 1)

/-- What the document's Of makes of parts. -/
def ofT (hd : List UInt8) (ps : List (List UInt8)) : List UInt8 × Nat := if ps.any (fun p => !Tm.right p) = true then ([], 1) else Tm.madeT (hd ++ ps.flatten)

def Joins (hd : List UInt8) (ps : List (List UInt8)) (w : World) (K : Nat) (v6 v7 : Value) (wr : World) : Prop :=
  ∃ i : Nat, K + i = ps.length ∧ v7 = .int .i64 i ∧ v6 = .string ⟨(hd ++ (ps.take i).flatten).toArray⟩ ∧ (∀ p ∈ ps.take i, Tm.right p = true) ∧ ∃ m, wr = w.drewN m

set_option maxRecDepth 100000 in
set_option maxHeartbeats 4000000 in
theorem ROfm_calls (hd : List UInt8) (ps : List (List UInt8)) (g cap : Nat) (w : World) (hT : Texts w g ps) (hh : hd.length ≤ 5) (hn : ps.length ≤ 5) (hp : ∀ p ∈ ps, p.length ≤ 10000) :
    Calls Tryz.prog 66 #[.string ⟨hd.toArray⟩, .slice (some ⟨g, 0, none⟩) ps.length cap] w (Drew w (.tuple #[.string ⟨(ofT hd ps).1.toArray⟩, .int .i64 (ofT hd ps).2])) := by
  have HT := Lib.hid hT
  have HP := Lib.hid hp
  have fl : ∀ i, (ps.take i).flatten.length ≤ 50000 := by
    intro i
    have h : ∀ (qs : List (List UInt8)), (∀ q ∈ qs, q.length ≤ 10000) → qs.flatten.length ≤ qs.length * 10000 := by
      intro qs
      induction qs with
      | nil => intro _; simp
      | cons q qs ih =>
        intro hq
        have h1 := hq q (by simp)
        have h2 := ih (fun r hr => hq r (by simp [hr]))
        simp only [List.flatten_cons, List.length_append, List.length_cons]
        omega
    have := h (ps.take i) (fun q hq => hp q (List.mem_of_mem_take hq))
    have h2 : (ps.take i).length ≤ 5 := by simp; omega
    omega
  have HFl := Lib.hid fl
  clear hT hp fl
  go_enter Tryz.func66, Tryz.ntmps66
  go_wp2
  go_loopg [6, 7] ps.length (fun K v6 v7 wr => Joins hd ps w K v6 v7 wr)
  case atStart => exact ⟨0, by omega, rfl, by simp, by simp, 0, rfl⟩
  case round =>
    obtain ⟨i, hK, rfl, rfl, hall, m, rfl⟩ := hrel
    have HA := Lib.hid hall
    by_cases hi : i < ps.length
    · obtain ⟨p, hpi⟩ : ∃ p, ps[i]? = some p := ⟨_, List.getElem?_eq_getElem hi⟩
      have hpm : p ∈ ps := List.mem_of_getElem? hpi
      have hcell := HT.out i p hpi
      have hpl := HP.out p hpm
      have cR := fun W => RRight_calls ⟨p.toArray⟩ (by rw [size_list]; omega) W
      have ep : (⟨p.toArray⟩ : ByteArray).data.toList = p := by simp
      rw [ep] at cR
      have htk : ps.take (i + 1) = ps.take i ++ [p] := by rw [List.take_add_one, hpi]; rfl
      have j1 : (i : Int) < (ps.length : Int) := by omega
      have j2 : (0 : Int) ≤ (i : Int) := by omega
      have hfl := HFl.out i
      cases hr : Tm.right p with
      | false =>
        rw [hr] at cR
        have HR := Lib.hid cR
        have HF : Hid (ofT hd ps = ([], 1)) := by
          show _ = _
          unfold ofT
          rw [if_pos (List.any_eq_true.2 ⟨p, hpm, by rw [hr]; rfl⟩)]
        clear cR hr htk hpm hpi hall ep
        go_wp2_with fail
        refine (HR.out _).mono ?_
        rintro e' w' ⟨rfl, md, rfl⟩
        go_wp2
        go_ret2
        exact ⟨by rw [HF.out]; rfl, _, rfl⟩
      | true =>
        rw [hr] at cR
        have HR := Lib.hid cR
        have HX := Lib.hid (And.intro htk hr)
        obtain ⟨y, hy⟩ : ∃ y, hd ++ (ps.take i).flatten = y := ⟨_, rfl⟩
        have hyl : y.length ≤ 50005 := by rw [← hy, List.length_append]; omega
        have HY := Lib.hid hy
        rw [hy]
        have hcat : (⟨y.toArray⟩ ++ ⟨p.toArray⟩ : ByteArray) = ⟨(y ++ p).toArray⟩ := ByteArray.mk_append_mk y p
        have HCt := Lib.hid hcat
        have z1 : (y.length : Int) + (p.length : Int) ≤ 100000 := by omega
        have z2 : y.length + p.length ≤ 100000 := by omega
        clear cR hr htk hpm hpi hall ep hy hcat
        go_wp2_with fail
        refine (HR.out _).mono ?_
        rintro e' w' ⟨rfl, md, rfl⟩
        go_wp2
        go_roundg (gk - 1)
        case measure => omega
        case rel =>
          refine ⟨i + 1, by omega, rfl, ?_, ?_, _, rfl⟩
          · rw [HX.out.1, List.flatten_append, ← List.append_assoc, HY.out]
            simp only [List.flatten_cons, List.flatten_nil, List.append_nil]
            rw [← HCt.out]
          · rw [HX.out.1]
            intro q hq
            rcases List.mem_append.1 hq with hq | hq
            · exact HA.out q hq
            · rw [List.mem_singleton.1 hq]; exact HX.out.2
    · obtain rfl : i = ps.length := by omega
      rw [List.take_length] at hall ⊢
      have j1 : ¬ ((ps.length : Int) < (ps.length : Int)) := by omega
      have hfl := HFl.out ps.length
      rw [List.take_length] at hfl
      have hF : ofT hd ps = Tm.madeT (hd ++ ps.flatten) := by
        unfold ofT
        rw [if_neg]
        intro h
        obtain ⟨p, h1, h2⟩ := List.any_eq_true.1 h
        rw [hall p h1] at h2
        cases h2
      have cM := fun W => Rmade_calls ⟨(hd ++ ps.flatten).toArray⟩ (by rw [size_list, List.length_append]; omega) W
      have em : (⟨(hd ++ ps.flatten).toArray⟩ : ByteArray).data.toList = hd ++ ps.flatten := by simp
      rw [em, ← hF] at cM
      generalize ofT hd ps = r at *
      generalize hd ++ ps.flatten = y at *
      have HM := Lib.hid cM
      clear cM em hF hall HA
      go_wp2_with fail
      refine (HM.out _).mono ?_
      rintro e' w' ⟨rfl, md, rfl⟩
      go_wp2
      go_ret2
      exact ⟨rfl, _, rfl⟩

end Go.Proofs.YtiodphkmllcjdaaGreat
end

section
namespace Go.Proofs.YtiodphkmllcjdaaGreat
open Go.ChangeShapes Go.WideShapes Go.ChangeAt Go.RowKit

theorem cat_one (c : UInt8) (l : List UInt8) : (⟨#[c]⟩ ++ ⟨l.toArray⟩ : ByteArray) = ⟨(c :: l).toArray⟩ := ByteArray.mk_append_mk [c] l
def eightAt (n i q : Nat) : Value := .int .u8 ((if 7 < q + i then n / 256 ^ (7 - q) % 256 else 0 : Nat) : Int)
def eightCells (n i : Nat) : Array Value := #[eightAt n i 0, eightAt n i 1, eightAt n i 2, eightAt n i 3, eightAt n i 4, eightAt n i 5, eightAt n i 6, eightAt n i 7]
theorem eightCells_start (n : Nat) : eightCells n 0 = #[.int .u8 0, .int .u8 0, .int .u8 0, .int .u8 0, .int .u8 0, .int .u8 0, .int .u8 0, .int .u8 0] := by
  simp [eightCells, eightAt]
theorem eightCells_set (n i : Nat) (h : i < 8) : (eightCells n i).setIfInBounds (7 - i) (.int .u8 ((n / 256 ^ i % 256 : Nat) : Int)) = eightCells n (i + 1) := by
  match i, h with
  | 0, _ => rfl
  | 1, _ => rfl
  | 2, _ => rfl
  | 3, _ => rfl
  | 4, _ => rfl
  | 5, _ => rfl
  | 6, _ => rfl
  | 7, _ => rfl
theorem eightCells_end (n : Nat) : eightCells n 8 = ((Tm.be8 n).map fun b => Value.int .u8 (b.toNat : Int)).toArray := by
  simp only [eightCells, eightAt, Tm.be8, List.map_cons, List.map_nil, UInt8.toNat_ofNat']
  rfl
theorem eightCells_get (n i j : Nat) (h : j < 8) : ∃ u, (eightCells n i)[j]? = some u := ⟨_, Array.getElem?_eq_getElem (by simp [eightCells]; omega)⟩

def Eighting (w : World) (n k : Nat) (v4 : Value) (wr : World) : Prop :=
  ∃ i, k + i = 8 ∧ v4 = .int .i64 i ∧ wr.heap[w.heap.size]? = some (.cells (eightCells n i) 5 (0, 0)) ∧ Below w.heap.size w wr

theorem shift_eight (n i : Nat) : (n : Int) / 2 ^ (8 * i) = ((n / 256 ^ i : Nat) : Int) := by
  have : (256 : Nat) ^ i = 2 ^ (8 * i) := by rw [Nat.pow_mul]
  rw [this]
  simp

set_option maxRecDepth 100000 in
set_option maxHeartbeats 1000000 in
theorem eight_calls (n : Nat) (hn : n < 18446744073709551616) (w : World) :
    Calls Tryz.prog 48 #[.int .u64 n] w (One w (.string ⟨(Tm.be8 n).toArray⟩)) := by
  have HN := Lib.hid hn
  have hi8 : (Tryz.prog.info? 5).map (fun i => (i.zero, i.size, i.bytes)) = some (some (.int .u8 0), 1, 1) := by kernel_rfl
  obtain ⟨i0, hi, hz0, hz1, hz2⟩ := info_parts hi8
  have hmk0 := run_make (P := Tryz.prog) w 83 5 i0 (.int .u8 0) Tryz.underlying83 hi hz0 .i64 .i64 8 8 (by omega) (by omega) (by rw [hz2]; omega) (by omega)
  have hmc : madeCells (Value.int .u8 0).cells (8 * 1) = eightCells n 0 := by
    rw [eightCells_start]
    apply Array.toList_inj.1
    show (madeCells #[Value.int .u8 0] 8).toList = _
    rw [toList_madeCells_one]
    rfl
  have hmk : (Instr.makeSlice 83 (.int .i64 8) (.int .i64 8)).run Tryz.prog w = .ok (.slice (some ⟨w.heap.size, 0, none⟩) 8 8) (w.alloc (.cells (eightCells n 0) 5)) := by
    rw [hmk0, ← hmc, hz1]
    rfl
  have HI : Hid (Eighting w n 8 (.int .i64 0) (w.alloc (.cells (eightCells n 0) 5))) := ⟨0, rfl, rfl, heap_alloc_new w _, (Below.refl _ _).alloc (Nat.le_refl _) _⟩
  clear hn hmk0 hmc hi8 hz0 hz1 hz2 hi
  generalize w.alloc (.cells (eightCells n 0) 5) = w1 at *
  go_enter Tryz.func48, Tryz.ntmps48
  go_wp2
  clear hmk
  go_loopg [4] 8 (fun k v4 wr => Eighting w n k v4 wr)
  case atStart => exact HI.out
  case round =>
    clear HI
    obtain ⟨i, hk, rfl, hrow, hbel⟩ := hrel
    by_cases hlt : i < 8
    · obtain ⟨u, hu⟩ := eightCells_get n i (7 - i) (by omega)
      have hc : wr.cell? ⟨w.heap.size, 7 - i, none⟩ = some u := (cell_of_row wr _ _ _ _ _ hrow).trans hu
      have hf : wr.frozen? ⟨w.heap.size, 7 - i, none⟩ = false := frozen_of_row wr _ _ _ _ hrow
      have HR := Lib.hid hrow
      clear hrow hu
      have j1 : (i : Int) < 8 := by omega
      have j2 : (0 : Int) ≤ 7 - (i : Int) := by omega
      have j3 : 7 - (i : Int) < 8 := by omega
      have j4 : (7 - (i : Int)).toNat = 7 - i := by omega
      have j5 : (0 : Int) ≤ 8 * (i : Int) := by omega
      have j6 : 8 * (i : Int) ≤ 64 := by omega
      have j7 : (8 * (i : Int)).toNat = 8 * i := by omega
      have hsh := shift_eight n i
      go_wp2
      go_roundg (gk - 1)
      case measure => omega
      case rel =>
        refine ⟨i + 1, by omega, rfl, ?_, hbel.setCell (Nat.le_refl _) _⟩
        have e : ((n : Int) / 256 ^ i % 256) = ((n / 256 ^ i % 256 : Nat) : Int) := by simp
        rw [e, ← eightCells_set n i hlt]
        exact heap_setCell_same wr w.heap.size (7 - i) _ _ _ HR.out
    · have hi8 : i = 8 := by omega
      subst hi8
      rw [eightCells_end] at hrow
      have hcv : (convert 83 9 (.slice (some ⟨w.heap.size, 0, none⟩) 8 8)).run Tryz.prog wr = .ok (.string ⟨(Tm.be8 n).toArray⟩) wr := by
        refine run_convert_bytes_back wr _ _ 5 _ 8 (Tm.be8 n) Tryz.underlying83 Tryz.underlying5 Tryz.underlying9 ?_
        intro j hj
        refine World.news_of_block hrow j _ ?_
        show ((Tm.be8 n).map fun b => Value.int .u8 (b.toNat : Int))[j]? = _
        rw [List.getElem?_map, List.getElem?_eq_getElem hj]
        rfl
      clear hrow
      generalize (Tm.be8 n).toArray = z at *
      have j1 : ¬ ((8 : Int) < 8) := by omega
      go_wp2
      go_ret
      exact ⟨rfl, hbel⟩


set_option maxRecDepth 100000 in
set_option maxHeartbeats 400000 in
theorem refNumber_calls (n : Nat) (hn : n < 18446744073709551616) (w : World) :
    Calls Tryz.prog 29 #[.int .u64 n] w (One w (.string ⟨(117 :: Tm.be8 n).toArray⟩)) := by
  have HC := Lib.hid (eight_calls n hn)
  have hl : (Tm.be8 n).length = 8 := rfl
  have HD := Lib.hid (cat_one 117 (Tm.be8 n))
  obtain ⟨z, hz⟩ : ∃ z, Tm.be8 n = z := ⟨_, rfl⟩
  rw [hz] at HC HD hl ⊢
  have hsz : (z.length : Int) ≤ 100 := by omega
  clear hn hz hl
  go_enter Tryz.func29, Tryz.ntmps29
  go_wp2_with fail
  refine (HC.out _).mono ?_
  rintro e' w' ⟨rfl, hbw⟩
  go_wp2
  all_goals first | omega | (go_ret; exact ⟨by rw [← HD.out]; rfl, hbw⟩)

end Go.Proofs.YtiodphkmllcjdaaGreat
end

section
namespace Go.Proofs.YtiodphkmllcjdaaGreat
open Go.ChangeShapes Go.WideShapes Go.ChangeAt Go.RowKit


set_option maxHeartbeats 400000 in
theorem refPrivate_no_calls (p : Int) (h : p < 1 ∨ 8 < p) (w : World) :
    Calls Tryz.prog 65 #[.int .i64 p] w (One w (.tuple #[.string ⟨#[]⟩, .int .i64 1])) := by
  by_cases h1 : p < 1
  · go_enter Tryz.func65, Tryz.ntmps65
    go_wp2
    all_goals first | omega | (go_ret2; exact ⟨rfl, Below.refl _ _⟩)
  · have h2 : 8 < p := by omega
    have h3 : decide (p < 1) = false := by simp; omega
    go_enter Tryz.func65, Tryz.ntmps65
    go_wp2
    all_goals first | omega | (go_ret2; exact ⟨rfl, Below.refl _ _⟩)

set_option maxRecDepth 100000 in
set_option maxHeartbeats 400000 in
theorem refPrivate_calls (p : Int) (h0 : 1 ≤ p) (h8 : p ≤ 8) (w : World) :
    Calls Tryz.prog 65 #[.int .i64 p] w (One w (.tuple #[.string ⟨#[105, UInt8.ofNat p.toNat]⟩, .int .i64 0])) := by
  have hc : ∀ W : World, (convert 83 9 (.slice (some ⟨W.heap.size, 0, none⟩) 1 1)).run Tryz.prog (W.alloc (.cells #[.int .u8 p] 5)) = .ok (.string ⟨#[UInt8.ofNat p.toNat]⟩) (W.alloc (.cells #[.int .u8 p] 5)) := by
    intro W
    have := conv_lit W [UInt8.ofNat p.toNat] 9 1 5 Tryz.underlying9
    have e : ((UInt8.ofNat p.toNat).toNat : Int) = p := by rw [UInt8.toNat_ofNat']; omega
    have key : (List.map (fun b : UInt8 => Value.int .u8 (b.toNat : Int)) [UInt8.ofNat p.toNat]).toArray = #[.int .u8 p] := by
      have : (List.map (fun b : UInt8 => Value.int .u8 (b.toNat : Int)) [UInt8.ofNat p.toNat]).toArray = #[.int .u8 ((UInt8.ofNat p.toNat).toNat : Int)] := rfl
      rw [this, e]
    rw [key] at this
    exact this
  have hcat : (⟨#[105]⟩ ++ ⟨#[UInt8.ofNat p.toNat]⟩ : ByteArray) = ⟨#[105, UInt8.ofNat p.toNat]⟩ := cat_one 105 [UInt8.ofNat p.toNat]
  have HC := Lib.hid hcat
  clear hcat
  generalize UInt8.ofNat p.toNat = u at *
  go_enter Tryz.func65, Tryz.ntmps65
  go_wp2
  all_goals first | omega | (go_ret2; exact ⟨by rw [← HC.out]; rfl, (Below.refl _ _).alloc (Nat.le_refl _) _⟩)

end Go.Proofs.YtiodphkmllcjdaaGreat
end
