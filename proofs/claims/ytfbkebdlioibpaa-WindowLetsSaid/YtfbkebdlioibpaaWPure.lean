/- Windows of numbers without memory: those that were let in, the greatest one, and the bits that tell of them. -/
import Derived.Test.YtfbkebdlioibpaaWBase
import Derived.Laws.BitsAllLaws
namespace Go.Proofs.Ytfbkebdlioibpaa.L5
open Go.ChangeShapes Go.WideShapes Go.ChangeAt Go.RowKit

def topL (L : List Nat) : Nat := L.foldl max 0
def seenS (L : List Nat) (n : Nat) : Bool := decide (n = 0 ∨ n ∈ L ∨ n + 64 ≤ topL L)
def stepS (L : List Nat) (n : Nat) : List Nat := if seenS L n = true then L else L ++ [n]
def allS (l : List Nat) : List Nat := l.foldl stepS []

theorem topL_snoc (L : List Nat) (n : Nat) : topL (L ++ [n]) = max (topL L) n := by simp [topL]
theorem foldl_max (L : List Nat) (a : Nat) : a ≤ L.foldl max a ∧ ∀ x ∈ L, x ≤ L.foldl max a := by
  induction L generalizing a with
  | nil => simp
  | cons y L ih =>
    have h := ih (max a y)
    simp only [List.foldl_cons]
    refine ⟨by omega, fun x hx => ?_⟩
    rcases List.mem_cons.1 hx with rfl | hx
    · omega
    · exact h.2 x hx
theorem le_topL {L : List Nat} {x : Nat} (h : x ∈ L) : x ≤ topL L := (foldl_max L 0).2 x h
theorem foldl_max_mem (L : List Nat) (a : Nat) : L.foldl max a = a ∨ L.foldl max a ∈ L := by
  induction L generalizing a with
  | nil => simp
  | cons y L ih =>
    simp only [List.foldl_cons]
    rcases ih (max a y) with h | h
    · rw [h]
      by_cases hy : a ≤ y
      · right; rw [Nat.max_eq_right hy]; simp
      · left; omega
    · exact .inr (List.mem_cons_of_mem _ h)
theorem topL_mem (L : List Nat) : topL L = 0 ∨ topL L ∈ L := foldl_max_mem L 0

/-- A window (its top, its bits) of those that were let in. -/
structure Inv (t b : Nat) (L : List Nat) : Prop where
  pos : ∀ x ∈ L, 1 ≤ x
  top : t = topL L
  lt : t < 18446744073709551616
  blt : b < 18446744073709551616
  bit : ∀ i, i < 64 → b.testBit i = decide (i < t ∧ t - i ∈ L)

theorem Inv.nil : Inv 0 0 [] := ⟨by simp, rfl, by decide, by decide, fun i _ => by simp⟩
theorem Inv.low {t b : Nat} {L : List Nat} (h : Inv t b L) : b < 2 ^ t := by
  apply Nat.lt_pow_two_of_testBit
  intro i hi
  by_cases h64 : i < 64
  · rw [h.bit i h64]
    simp
    omega
  · exact Nat.testBit_lt_two_pow (Nat.lt_of_lt_of_le h.blt (by rw [show (18446744073709551616 : Nat) = 2 ^ 64 from rfl]; exact Nat.pow_le_pow_right (by omega) (by omega)))
theorem Inv.mem {t b : Nat} {L : List Nat} (h : Inv t b L) {x : Nat} (hx : x ∈ L) : 1 ≤ x ∧ x ≤ t := ⟨h.pos x hx, by rw [h.top]; exact le_topL hx⟩

theorem Inv.up {t b n : Nat} {L : List Nat} (h : Inv t b L) (hn : t < n) (hlt : n < 18446744073709551616) : Inv n ((b * 2 ^ min (n - t) 64 % 18446744073709551616) ||| 1) (L ++ [n]) := by
  have hb : ((b * 2 ^ min (n - t) 64 % 18446744073709551616) ||| 1) < 18446744073709551616 := by
    have h1 : b * 2 ^ min (n - t) 64 % 18446744073709551616 < 2 ^ 64 := Nat.mod_lt _ (by decide)
    have h2 : (1 : Nat) < 2 ^ 64 := by decide
    exact Nat.or_lt_two_pow h1 h2
  refine ⟨fun x hx => ?_, by rw [topL_snoc, ← h.top]; omega, hlt, hb, fun i hi => ?_⟩
  · rcases List.mem_append.1 hx with hx | hx
    · exact h.pos x hx
    · simp at hx; omega
  · rw [Nat.testBit_or, show (18446744073709551616 : Nat) = 2 ^ 64 from rfl, Nat.testBit_mod_two_pow, ← Nat.shiftLeft_eq, Nat.testBit_shiftLeft, show (1 : Nat) = 2 ^ 0 from rfl, Nat.testBit_two_pow]
    rw [Bool.eq_iff_iff]
    simp only [Bool.or_eq_true, Bool.and_eq_true, decide_eq_true_eq, List.mem_append, List.mem_singleton]
    constructor
    · rintro (⟨_, h1, h2⟩ | rfl)
      · by_cases hd : n - t ≤ 64
        · rw [Nat.min_eq_left hd] at h1 h2
          rw [h.bit _ (by omega)] at h2
          simp only [decide_eq_true_eq] at h2
          refine ⟨by omega, .inl ?_⟩
          rw [show n - i = t - (i - (n - t)) by omega]
          exact h2.2
        · omega
      · exact ⟨by omega, .inr (by omega)⟩
    · rintro ⟨h1, h2 | h2⟩
      · have h3 := h.mem h2
        left
        have hd : n - t ≤ 64 := by omega
        rw [Nat.min_eq_left hd]
        refine ⟨hi, by omega, ?_⟩
        rw [h.bit _ (by omega)]
        simp only [decide_eq_true_eq]
        refine ⟨by omega, ?_⟩
        rw [show t - (i - (n - t)) = n - i by omega]
        exact h2
      · right; omega

theorem or_bit (b k i : Nat) : (b ||| 2 ^ k).testBit i = (b.testBit i || decide (k = i)) := by
  rw [Nat.testBit_or, Nat.testBit_two_pow]
theorem Inv.down {t b n : Nat} {L : List Nat} (h : Inv t b L) (h1 : 1 ≤ n) (hn : n ≤ t) (hw : t - n < 64) : Inv t (b ||| 2 ^ (t - n)) (L ++ [n]) := by
  have hb : (b ||| 2 ^ (t - n)) < 18446744073709551616 := by
    have h1 : b < 2 ^ 64 := h.blt
    have h2 : 2 ^ (t - n) < 2 ^ 64 := Nat.pow_lt_pow_right (by omega) hw
    exact Nat.or_lt_two_pow h1 h2
  refine ⟨fun x hx => ?_, by rw [topL_snoc, ← h.top]; omega, h.lt, hb, fun i hi => ?_⟩
  · rcases List.mem_append.1 hx with hx | hx
    · exact h.pos x hx
    · simp at hx; omega
  · rw [or_bit, h.bit i hi, Bool.eq_iff_iff]
    simp only [Bool.or_eq_true, decide_eq_true_eq, List.mem_append, List.mem_singleton]
    constructor
    · rintro (⟨h2, h3⟩ | h2)
      · exact ⟨h2, .inl h3⟩
      · exact ⟨by omega, .inr (by omega)⟩
    · rintro ⟨h2, h3 | h3⟩
      · exact .inl ⟨h2, h3⟩
      · right; omega
theorem Inv.same {t b n : Nat} {L : List Nat} (h : Inv t b L) (h1 : 1 ≤ n) (hn : n ≤ t) (hw : t - n < 64) : (b ||| 2 ^ (t - n) = b ↔ n ∈ L) := by
  have hk : b.testBit (t - n) = true ↔ n ∈ L := by
    rw [h.bit _ hw]
    simp only [decide_eq_true_eq]
    rw [show t - (t - n) = n by omega]
    exact ⟨fun h => h.2, fun h => ⟨by omega, h⟩⟩
  rw [← hk]
  constructor
  · intro e
    rw [← e, or_bit]
    simp
  · intro e
    apply Nat.eq_of_testBit_eq
    intro i
    rw [or_bit]
    by_cases hi : t - n = i
    · subst hi; simp [e]
    · simp [hi]

end Go.Proofs.Ytfbkebdlioibpaa.L5
