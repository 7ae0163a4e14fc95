/- The document's own reader, for every text, place and depth. -/
import Derived.Test.YtkalmfhebffklaaEnd
namespace Go.Proofs.Ytkalmfhebffklaa
open Go.ChangeShapes Go.WideShapes Go.ChangeAt Go.RowKit

theorem getD_drop_bytes (s : ByteArray) (a i : Nat) (h : a + i < s.size) : (s.data.toList.drop a).getD i 0 = s[a + i] := by
  rw [← getD_bytes s (a + i) h]
  simp [List.getD]

theorem Tm.element_of {l : List UInt8} (h : l ≠ []) : Tm.element l = true ↔ (l.getD 0 0 = 103 ∨ l.getD 0 0 = 101) := by
  cases l with
  | nil => exact absurd rfl h
  | cons c r => simp [Tm.element]

/-- What is to be shown of the reader, one deeper. -/
def EndAt (s : ByteArray) (f at_ : Nat) : Prop :=
  ∀ w, Calls Try.prog 86 #[.string s, .int .i64 at_, .int .i64 f] w (Drew w (.tuple #[.int .i64 (Tm.endI at_ (Tm.parse f (s.data.toList.drop at_))), .int .i64 (Tm.depI (Tm.parse f (s.data.toList.drop at_)))]))

set_option maxRecDepth 100000 in
set_option maxHeartbeats 4000000 in
theorem End_leaf (s : ByteArray) (hs : s.size ≤ 9223372036854775807) (f : Nat) (hf : f + 1 ≤ 400) (at_ a : Nat) (hat : at_ < s.size) (hl : Tm.leafN (s.data.toList.drop at_) = a) (ha : 0 < a) (ha2 : a ≤ 200)
    (hP : Tm.parse (f + 1) (s.data.toList.drop at_) = (a, 1, 0)) : EndAt s (f + 1) at_ := by
  intro w
  have cL := fun W => leaf_calls (s.extract at_ s.size) (by simp; omega) (by simp; omega) W
  rw [extract_drop, hl] at cL
  rw [hP]
  have hE : Tm.endI at_ (a, 1, 0) = (at_ : Int) + (a : Int) := by simp [Tm.endI]
  rw [hE]
  have hD : Tm.depI (a, 1, 0) = 1 := rfl
  rw [hD]
  have HL := Lib.hid cL
  have j0 : (0 : Int) ≤ (at_ : Int) := by omega
  have j1 : (at_ : Int) < (s.size : Int) := by omega
  have j2 : (at_ : Int) ≤ (s.size : Int) := by omega
  have j3 : (s.size : Int) ≤ 9223372036854775807 := by omega
  have j4 : (f : Int) ≤ 399 := by omega
  have j5 : ¬ ((f : Int) + 1 = 0) := by omega
  have j6 : (((f : Int) + 1) == 0) = false := by rw [beq_eq_false_iff_ne]; exact j5
  have j7 : (0 : Int) < (a : Int) := by omega
  have j8 : (a : Int) ≤ 200 := by omega
  have j9 : (at_ : Int) + (a : Int) ≤ (s.size : Int) := by
    have h1 := (Tm.begin_le (s.data.toList.drop at_)).1
    rw [List.length_drop, len_bytes] at h1
    unfold Tm.leafN at hl
    split at hl
    · omega
    · omega
  clear cL hP hl hE hD
  go_enter Try.func86, Try.ntmps86
  go_wp2_with fail
  refine (HL.out _).mono ?_
  rintro e' w' ⟨rfl, md, rfl⟩
  go_wp2
  go_ret2
  exact ⟨rfl, _, rfl⟩

/-- The ways in which nothing begins at a place, or a key has no element. -/
def NoEntry (s : ByteArray) (at_ : Nat) (pn : Int) (h : at_ < s.size) : Prop :=
  (((s[at_].toNat : Int) == 101) = true ∧ s.size ≤ at_ + 1) ∨
  (((s[at_].toNat : Int) == 101) = true ∧ ∃ h1 : at_ + 1 < s.size, s[at_ + 1].toNat < 1) ∨
  (((s[at_].toNat : Int) == 101) = true ∧ ∃ h1 : at_ + 1 < s.size, 1 ≤ s[at_ + 1].toNat ∧ 32 < s[at_ + 1].toNat) ∨
  (((s[at_].toNat : Int) == 101) = false ∧ pn = -1) ∨
  (((s[at_].toNat : Int) == 101) = false ∧ ((s[at_].toNat : Int) == 107) = true ∧ pn = 1 ∧ s.size ≤ at_ + 1) ∨
  (((s[at_].toNat : Int) == 101) = false ∧ ((s[at_].toNat : Int) == 107) = true ∧ pn = 1 ∧ ∃ h1 : at_ + 1 < s.size, ((s[at_ + 1].toNat : Int) != 103) = true ∧ ((s[at_ + 1].toNat : Int) != 101) = true)

set_option maxRecDepth 100000 in
set_option maxHeartbeats 4000000 in
theorem End_none (s : ByteArray) (hs : s.size ≤ 9223372036854775807) (f : Nat) (hf : f + 1 ≤ 400) (at_ : Nat) (hat : at_ < s.size) (hl : Tm.leafN (s.data.toList.drop at_) = -1) (hE : NoEntry s at_ (Tm.partsN s[at_]) hat)
    (hP : Tm.parse (f + 1) (s.data.toList.drop at_) = (0, 0, 2)) : EndAt s (f + 1) at_ := by
  intro w
  have cL := fun W => leaf_calls (s.extract at_ s.size) (by simp; omega) (by simp; omega) W
  rw [extract_drop, hl] at cL
  have cP := fun W => parts_calls s[at_] W
  generalize Tm.partsN s[at_] = pn at *
  rw [hP]
  have hE2 : Tm.endI at_ (0, 0, 2) = -1 := by simp [Tm.endI]
  rw [hE2]
  have hD : Tm.depI (0, 0, 2) = 0 := rfl
  rw [hD]
  have HL := Lib.hid cL
  have HP := Lib.hid cP
  have j0 : (0 : Int) ≤ (at_ : Int) := by omega
  have j1 : (at_ : Int) < (s.size : Int) := by omega
  have j2 : (at_ : Int) ≤ (s.size : Int) := by omega
  have j3 : (s.size : Int) ≤ 9223372036854775807 := by omega
  have j4 : (f : Int) ≤ 399 := by omega
  have j5 : ¬ ((f : Int) + 1 = 0) := by omega
  have j6 : (((f : Int) + 1) == 0) = false := by rw [beq_eq_false_iff_ne]; exact j5
  have j7 : (0 : Int) ≤ (at_ : Int) + 1 := by omega
  clear cL cP hP hl hE2 hD
  rcases hE with ⟨g1, h1⟩ | ⟨g1, h1, h2⟩ | ⟨g1, h1, h2, h3⟩ | ⟨g1, rfl⟩ | ⟨g1, g2, rfl, h1⟩ | ⟨g1, g2, rfl, h1, g3, g4⟩
  · have k1 : decide ((s.size : Int) ≤ (at_ : Int) + 1) = true := by simp; omega
    have k2 : (s.size : Int) ≤ (at_ : Int) + 1 := by omega
    clear h1
    go_enter Try.func86, Try.ntmps86
    go_wp2_with fail
    refine (HL.out _).mono ?_
    rintro e' w' ⟨rfl, md, rfl⟩
    go_wp2_with fail
    refine (HP.out _).mono ?_
    rintro e' w' ⟨rfl, rfl⟩
    go_wp2
    go_ret2
    exact ⟨rfl, _, rfl⟩
  · have k2 : (at_ : Int) + 1 < (s.size : Int) := by omega
    have k3 : (s[at_ + 1].toNat : Int) < 1 := by omega
    clear h2
    go_enter Try.func86, Try.ntmps86
    go_wp2_with fail
    refine (HL.out _).mono ?_
    rintro e' w' ⟨rfl, md, rfl⟩
    go_wp2_with fail
    refine (HP.out _).mono ?_
    rintro e' w' ⟨rfl, rfl⟩
    go_wp2
    go_ret2
    exact ⟨rfl, _, rfl⟩
  · have k2 : (at_ : Int) + 1 < (s.size : Int) := by omega
    have k3 : (1 : Int) ≤ (s[at_ + 1].toNat : Int) := by omega
    have k4 : (32 : Int) < (s[at_ + 1].toNat : Int) := by omega
    clear h2 h3
    go_enter Try.func86, Try.ntmps86
    go_wp2_with fail
    refine (HL.out _).mono ?_
    rintro e' w' ⟨rfl, md, rfl⟩
    go_wp2_with fail
    refine (HP.out _).mono ?_
    rintro e' w' ⟨rfl, rfl⟩
    go_wp2
    go_ret2
    exact ⟨rfl, _, rfl⟩
  · go_enter Try.func86, Try.ntmps86
    go_wp2_with fail
    refine (HL.out _).mono ?_
    rintro e' w' ⟨rfl, md, rfl⟩
    go_wp2_with fail
    refine (HP.out _).mono ?_
    rintro e' w' ⟨rfl, rfl⟩
    go_wp2
    go_ret2
    exact ⟨rfl, _, rfl⟩
  · have k1 : decide ((s.size : Int) ≤ (at_ : Int) + 1) = true := by simp; omega
    have k2 : (s.size : Int) ≤ (at_ : Int) + 1 := by omega
    clear h1
    go_enter Try.func86, Try.ntmps86
    go_wp2_with fail
    refine (HL.out _).mono ?_
    rintro e' w' ⟨rfl, md, rfl⟩
    go_wp2_with fail
    refine (HP.out _).mono ?_
    rintro e' w' ⟨rfl, rfl⟩
    go_wp2
    go_ret2
    exact ⟨rfl, _, rfl⟩
  · have k2 : (at_ : Int) + 1 < (s.size : Int) := by omega
    have k1 : decide ((s.size : Int) ≤ (at_ : Int) + 1) = false := by simp; omega
    go_enter Try.func86, Try.ntmps86
    go_wp2_with fail
    refine (HL.out _).mono ?_
    rintro e' w' ⟨rfl, md, rfl⟩
    go_wp2_with fail
    refine (HP.out _).mono ?_
    rintro e' w' ⟨rfl, rfl⟩
    go_wp2
    go_ret2
    exact ⟨rfl, _, rfl⟩

set_option maxRecDepth 100000 in
set_option maxHeartbeats 4000000 in
theorem End_out (s : ByteArray) (hs : s.size ≤ 9223372036854775807) (f : Nat) (hf : f + 1 ≤ 400) : EndAt s (f + 1) s.size := by
  intro w
  have hP : Tm.parse (f + 1) (s.data.toList.drop s.size) = (0, 0, 2) := by
    rw [List.drop_of_length_le (by simp)]
    rw [Tm.parse, if_pos (by simp [Tm.begin_, Tm.headOf])]
  rw [hP]
  have hE2 : Tm.endI s.size (0, 0, 2) = -1 := by simp [Tm.endI]
  rw [hE2]
  have hD : Tm.depI (0, 0, 2) = 0 := rfl
  rw [hD]
  have j3 : (s.size : Int) ≤ 9223372036854775807 := by omega
  have j4 : (f : Int) ≤ 399 := by omega
  have j5 : ¬ ((f : Int) + 1 = 0) := by omega
  have j6 : (((f : Int) + 1) == 0) = false := by rw [beq_eq_false_iff_ne]; exact j5
  clear hP hE2 hD
  go_enter Try.func86, Try.ntmps86
  go_wp2
  go_ret2
  exact ⟨rfl, 0, rfl⟩

set_option maxRecDepth 100000 in
set_option maxHeartbeats 4000000 in
theorem End_zero (s : ByteArray) (at_ : Nat) : EndAt s 0 at_ := by
  intro w
  have hP : Tm.parse 0 (s.data.toList.drop at_) = (0, 0, 4) := rfl
  rw [hP]
  have hE2 : Tm.endI at_ (0, 0, 4) = -2 := by simp [Tm.endI]
  rw [hE2]
  have hD : Tm.depI (0, 0, 4) = 0 := rfl
  rw [hD]
  clear hP hE2 hD
  go_enter Try.func86, Try.ntmps86
  go_wp2
  go_ret2
  exact ⟨rfl, 0, rfl⟩

theorem u8_bne {c : UInt8} {n : Nat} (hn : n < 256) (h : ¬ c = UInt8.ofNat n) : ((c.toNat : Int) != (n : Int)) = true := by
  have := u8_no hn h
  simp only [bne, this, Bool.not_false]
theorem u8_beq {c : UInt8} {n : Nat} (hn : n < 256) (h : c = UInt8.ofNat n) : ((c.toNat : Int) != (n : Int)) = false := by
  have := u8_yes hn h
  simp only [bne, this, Bool.not_true]

theorem End_calls (s : ByteArray) (hs : s.size ≤ 9223372036854775807) : ∀ (f : Nat), f ≤ 400 → ∀ (at_ : Nat), at_ ≤ s.size → EndAt s f at_ := by
  intro f
  induction f with
  | zero => intro _ at_ _; exact End_zero s at_
  | succ f ih =>
    intro hf at_ hat0
    by_cases hat1 : at_ = s.size
    · subst hat1; exact End_out s hs f hf
    have hat : at_ < s.size := by omega
    have hlen : (s.data.toList.drop at_).length = s.size - at_ := by rw [List.length_drop, len_bytes]
    have hne : ¬ s.data.toList.drop at_ = [] := fun e => by rw [e] at hlen; simp at hlen; omega
    have hc : (s.data.toList.drop at_).getD 0 0 = s[at_] := by have := getD_drop_bytes s at_ 0 (by omega); simpa using this
    have hh := Tm.headOf_ne hne
    rw [hc] at hh
    have hbl : (Tm.begin_ (s.data.toList.drop at_)).1 ≤ 103 := by
      unfold Tm.begin_
      split
      · simp
      · exact (Tm.headOf_le _).1
    have hfail : (Tm.begin_ (s.data.toList.drop at_)).1 = 0 → Tm.parse (f + 1) (s.data.toList.drop at_) = (0, 0, 2) := fun h => by rw [Tm.parse, if_pos h]
    by_cases hleaf : (Tm.begin_ (s.data.toList.drop at_)).1 ≠ 0 ∧ (Tm.begin_ (s.data.toList.drop at_)).2 = 0
    · refine End_leaf s hs f hf at_ (Tm.begin_ (s.data.toList.drop at_)).1 hat ?_ (by omega) (by omega) (Tm.parse_leaf hleaf.1 hleaf.2)
      unfold Tm.leafN
      rw [if_pos hleaf]
    have hl : Tm.leafN (s.data.toList.drop at_) = -1 := by unfold Tm.leafN; rw [if_neg hleaf]
    have node : ∀ m a : Nat, Tm.begin_ (s.data.toList.drop at_) = (a, m) → a ≠ 0 → at_ + a ≤ s.size → ¬ (s[at_] = 107 ∧ Tm.element (s.data.toList.drop (at_ + a)) = false) → Entry s at_ m (at_ + a) (Tm.partsN s[at_]) hat → EndAt s (f + 1) at_ := by
      intro m a hb ha hk hkey hE w
      refine End_node s hs f hf (ih (by omega)) at_ m (at_ + a) hat hE hk hl w ?_ (by omega)
      have := Tm.parse_node (f := f) (l := s.data.toList.drop at_) (by rw [hb]; exact ha) (by rw [hc, hb, List.drop_drop]; exact hkey)
      rw [hc, hb] at this
      simp only [List.drop_drop] at this
      rw [this, Nat.add_sub_cancel_left]
    have hbg : ∀ a m, Tm.headOf (s.data.toList.drop at_) = (a, m) → a ≤ s.size - at_ → Tm.begin_ (s.data.toList.drop at_) = (a, m) := fun a m h h2 => by
      unfold Tm.begin_; rw [h, if_neg (by rw [hlen]; simp only; omega)]
    by_cases c5 : s[at_] = 101
    · have g1 : ((s[at_].toNat : Int) == 101) = true := u8_yes (n := 101) (by omega) c5
      rw [if_neg (by rw [c5]; decide), if_neg (by rw [c5]; decide), if_neg (by rw [c5]; decide), if_neg (by rw [c5]; decide), if_pos c5] at hh
      by_cases h1 : at_ + 1 < s.size
      · have hg := getD_drop_bytes s at_ 1 h1
        rw [hg, hlen] at hh
        by_cases h2 : s[at_ + 1].toNat < 1
        · rw [if_neg (by omega)] at hh
          exact End_none s hs f hf at_ hat hl (.inr (.inl ⟨g1, h1, h2⟩)) (hfail (by unfold Tm.begin_; rw [hh]; simp))
        · by_cases h3 : 32 < s[at_ + 1].toNat
          · rw [if_neg (by omega)] at hh
            exact End_none s hs f hf at_ hat hl (.inr (.inr (.inl ⟨g1, h1, by omega, h3⟩))) (hfail (by unfold Tm.begin_; rw [hh]; simp))
          · rw [if_pos (by omega)] at hh
            exact node _ 2 (hbg _ _ hh (by omega)) (by omega) (by omega) (fun h => by rw [c5] at h; exact absurd h.1 (by decide)) (.inl ⟨g1, u8_no (n := 107) (by omega) (by rw [c5]; decide), rfl, h1, rfl, by omega, by omega, by rw [c5]; decide⟩)
      · rw [if_neg (by rw [hlen]; omega)] at hh
        exact End_none s hs f hf at_ hat hl (.inl ⟨g1, by omega⟩) (hfail (by unfold Tm.begin_; rw [hh]; simp))
    · have g1 : ((s[at_].toNat : Int) == 101) = false := u8_no (n := 101) (by omega) c5
      by_cases c6 : s[at_] = 107
      · have g2 : ((s[at_].toNat : Int) == 107) = true := u8_yes (n := 107) (by omega) c6
        have hp : Tm.partsN s[at_] = 1 := by rw [c6]; decide
        rw [if_neg (by rw [c6]; decide), if_neg (by rw [c6]; decide), if_neg (by rw [c6]; decide), if_neg (by rw [c6]; decide), if_neg c5, if_pos (.inl c6)] at hh
        have hb := hbg _ _ hh (by omega)
        have hkeyf : Tm.element (s.data.toList.drop (at_ + 1)) = false → Tm.parse (f + 1) (s.data.toList.drop at_) = (0, 0, 2) := fun h =>
          Tm.parse_nokey (by rw [hc, hb]; simp only [List.drop_drop]; exact ⟨c6, h⟩)
        by_cases h1 : at_ + 1 < s.size
        · have hd0 : s.data.toList.drop (at_ + 1) ≠ [] := fun e => by
            have := congrArg List.length e
            rw [List.length_drop, len_bytes] at this
            simp at this
            omega
          have hd1 : (s.data.toList.drop (at_ + 1)).getD 0 0 = s[at_ + 1] := by have := getD_drop_bytes s (at_ + 1) 0 (by omega); simpa using this
          have hel := Tm.element_of hd0
          rw [hd1] at hel
          by_cases h2 : s[at_ + 1] = 103
          · exact node 1 1 hb (by omega) (by omega) (fun h => by rw [hel.2 (.inl h2)] at h; cases h.2) (.inr (.inl ⟨g1, g2, rfl, hp, by omega, by omega, h1, u8_beq (n := 103) (by omega) h2⟩))
          · by_cases h3 : s[at_ + 1] = 101
            · exact node 1 1 hb (by omega) (by omega) (fun h => by rw [hel.2 (.inr h3)] at h; cases h.2) (.inr (.inr (.inl ⟨g1, g2, rfl, hp, by omega, by omega, h1, u8_bne (n := 103) (by omega) h2, u8_beq (n := 101) (by omega) h3⟩)))
            · refine End_none s hs f hf at_ hat hl (.inr (.inr (.inr (.inr (.inr ⟨g1, g2, hp, h1, u8_bne (n := 103) (by omega) h2, u8_bne (n := 101) (by omega) h3⟩))))) (hkeyf ?_)
              cases h : Tm.element (s.data.toList.drop (at_ + 1)) with
              | false => rfl
              | true => exact absurd (hel.1 h) (fun h => h.elim h2 h3)
        · refine End_none s hs f hf at_ hat hl (.inr (.inr (.inr (.inr (.inl ⟨g1, g2, hp, by omega⟩))))) (hkeyf ?_)
          rw [List.drop_of_length_le (by rw [len_bytes]; omega)]
          rfl
      · have g2 : ((s[at_].toNat : Int) == 107) = false := u8_no (n := 107) (by omega) c6
        have nk : ¬ (s[at_] = 107 ∧ Tm.element (s.data.toList.drop (at_ + 1)) = false) := fun h => c6 h.1
        by_cases c7 : s[at_] = 104
        · rw [if_neg (by rw [c7]; decide), if_neg (by rw [c7]; decide), if_neg (by rw [c7]; decide), if_neg (by rw [c7]; decide), if_neg c5, if_pos (.inr c7)] at hh
          exact node 1 1 (hbg _ _ hh (by omega)) (by omega) (by omega) nk (.inr (.inr (.inr ⟨g1, g2, rfl, by rw [c7]; decide, by omega, by omega⟩)))
        by_cases c8 : s[at_] = 112 ∨ s[at_] = 120
        · have e1 : s[at_] ≠ 103 := by rcases c8 with h | h <;> rw [h] <;> decide
          have e2 : ¬ (s[at_] = 110 ∨ s[at_] = 117) := by rcases c8 with h | h <;> rw [h] <;> decide
          have e3 : s[at_] ≠ 116 := by rcases c8 with h | h <;> rw [h] <;> decide
          have e4 : s[at_] ≠ 105 := by rcases c8 with h | h <;> rw [h] <;> decide
          rw [if_neg e1, if_neg e2, if_neg e3, if_neg e4, if_neg c5, if_neg (fun h => h.elim c6 c7), if_pos c8] at hh
          exact node 2 1 (hbg _ _ hh (by omega)) (by omega) (by omega) nk (.inr (.inr (.inr ⟨g1, g2, rfl, by rcases c8 with h | h <;> rw [h] <;> decide, by omega, by omega⟩)))
        by_cases c9 : s[at_] = 115
        · rw [if_neg (by rw [c9]; decide), if_neg (by rw [c9]; decide), if_neg (by rw [c9]; decide), if_neg (by rw [c9]; decide), if_neg c5, if_neg (fun h => h.elim c6 c7), if_neg c8, if_pos c9] at hh
          exact node 3 1 (hbg _ _ hh (by omega)) (by omega) (by omega) nk (.inr (.inr (.inr ⟨g1, g2, rfl, by rw [c9]; decide, by omega, by omega⟩)))
        have hp : Tm.partsN s[at_] = -1 := by
          unfold Tm.partsN
          rw [if_neg (fun h => h.elim c6 c7), if_neg c8, if_neg c9]
        refine End_none s hs f hf at_ hat hl (.inr (.inr (.inr (.inl ⟨g1, hp⟩)))) (hfail ?_)
        -- what is left is no node: its beginning is that of a leaf, or none
        by_cases h0 : (Tm.begin_ (s.data.toList.drop at_)).1 = 0
        · exact h0
        exfalso
        apply hleaf
        refine ⟨h0, ?_⟩
        rw [(Tm.begin_some h0).1, hh]
        simp only [if_neg c5, if_neg (show ¬ (s[at_] = 107 ∨ s[at_] = 104) from fun h => h.elim c6 c7), if_neg c8, if_neg c9]
        repeat' split
        all_goals rfl

end Go.Proofs.Ytkalmfhebffklaa
