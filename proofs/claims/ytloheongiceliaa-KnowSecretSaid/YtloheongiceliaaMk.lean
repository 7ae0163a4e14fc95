/- Contracts of the makers at right terms: what they return without an error is a right term, at most one deeper. -/
import Derived.Test.YtloheongiceliaaMakes
namespace Go.Proofs.Ytloheongiceliaa
open Go.ChangeShapes Go.WideShapes Go.ChangeAt Go.RowKit

def MkOut (W : World) (k : Nat) (e : Ending) (w' : World) : Prop :=
  ∃ (l : List UInt8) (en : Nat), e = .returned (.tuple #[.string ⟨l.toArray⟩, .int .i64 en]) ∧ (en = 0 → Tm.Good k 20000 l) ∧ Below W.heap.size W w'

theorem size_list (l : List UInt8) : (⟨l.toArray⟩ : ByteArray).size = l.length := by simp [ByteArray.size]
theorem good_size {k : Nat} {l : List UInt8} (h : Tm.Good k 600 l) : (⟨l.toArray⟩ : ByteArray).size ≤ maxLen := by
  rw [size_list]
  have := h.2.2
  unfold maxLen
  omega
theorem mk_of_pair2 {W : World} {k : Nat} {r : List UInt8 × Nat} (h : ∀ l, r = (l, 0) → Tm.Good k 20000 l) {e : Ending} {w' : World} (hp : Pair2 W r e w') : MkOut W k e w' := by
  obtain ⟨l, en⟩ := r
  obtain ⟨he, hb⟩ := hp
  exact ⟨l, en, he, fun h0 => h l (by rw [h0]), hb⟩

theorem mk_pair {k : Nat} {a b : List UInt8} (ha : Tm.Good k 600 a) (hb : Tm.Good k 600 b) (W : World) : Calls Try.prog 39 #[.string ⟨a.toArray⟩, .string ⟨b.toArray⟩] W (MkOut W (k + 1)) :=
  (Pair_calls ⟨a.toArray⟩ ⟨b.toArray⟩ (good_size ha) (good_size hb) W).mono fun _ _ hp => mk_of_pair2 (fun l h => (Tm.good_pair (by simpa using h) ha.2.1 hb.2.1).2.2) hp
theorem mk_sign {k : Nat} {a b : List UInt8} (ha : Tm.Good k 600 a) (hb : Tm.Good k 600 b) (W : World) : Calls Try.prog 40 #[.string ⟨a.toArray⟩, .string ⟨b.toArray⟩] W (MkOut W (k + 1)) :=
  (Sign_calls ⟨a.toArray⟩ ⟨b.toArray⟩ (good_size ha) (good_size hb) W).mono fun _ _ hp => mk_of_pair2 (fun l h => (Tm.good_sign (by simpa using h) ha.2.1 hb.2.1).2.2) hp
theorem mk_hash {k : Nat} {a : List UInt8} (ha : Tm.Good k 600 a) (W : World) : Calls Try.prog 20 #[.string ⟨a.toArray⟩] W (MkOut W (k + 1)) :=
  (Hash_calls ⟨a.toArray⟩ (good_size ha) W).mono fun _ _ hp => mk_of_pair2 (fun l h => (Tm.good_hash (by simpa using h) ha.2.1).2.2) hp
theorem mk_three {k : Nat} {a b c : List UInt8} (ha : Tm.Good k 600 a) (hb : Tm.Good k 600 b) (hc : Tm.Good k 600 c) (W : World) : Calls Try.prog 23 #[.string ⟨a.toArray⟩, .string ⟨b.toArray⟩, .string ⟨c.toArray⟩] W (MkOut W (k + 1)) :=
  (Seal_calls ⟨a.toArray⟩ ⟨b.toArray⟩ ⟨c.toArray⟩ (good_size ha) (good_size hb) (good_size hc) W).mono fun _ _ hp => mk_of_pair2 (fun l h => (Tm.good_seal3 (by simpa using h) ha.2.1 hb.2.1 hc.2.1).2) hp
theorem mk_key {k : Nat} {a : List UInt8} (ha : Tm.Good k 600 a) (W : World) : Calls Try.prog 22 #[.string ⟨a.toArray⟩] W (MkOut W (k + 1)) := by
  cases hel : Tm.element a with
  | true => exact (Key_calls ⟨a.toArray⟩ (good_size ha) (by simpa using hel) W).mono fun _ _ hp => mk_of_pair2 (fun l h => (Tm.good_key (by simpa using h) hel ha.2.1).2.2) hp
  | false => exact (Key_no_calls ⟨a.toArray⟩ (by simpa using hel) W).mono fun _ _ hp => mk_of_pair2 (fun l h => by simp at h) hp
theorem mk_power {k : Nat} {a b : List UInt8} (ha : Tm.Good k 600 a) (hb : Tm.Good k 600 b) (W : World) : Calls Try.prog 21 #[.string ⟨a.toArray⟩, .string ⟨b.toArray⟩] W (MkOut W (k + 1)) := by
  have ra : Tm.right a = true := (Tm.right_iff a).2 ha.1
  have rb : Tm.right b = true := (Tm.right_iff b).2 hb.1
  have ea : (⟨a.toArray⟩ : ByteArray).data.toList = a := by simp
  have eb : (⟨b.toArray⟩ : ByteArray).data.toList = b := by simp
  cases hel : Tm.element a with
  | false =>
    exact (Power_no ⟨a.toArray⟩ ⟨b.toArray⟩ (good_size ha) (good_size hb) W (by rw [ea, hel]; simp)).mono fun _ _ hp => mk_of_pair2 (fun l h => by simp at h) hp
  | true =>
    by_cases h0 : a.getD 0 0 = 103
    · refine (Power_gen ⟨a.toArray⟩ ⟨b.toArray⟩ (good_size ha) (good_size hb) W (by rw [ea]; exact hel) (by rw [ea]; exact ra) (by rw [eb]; exact rb) (by rw [ea]; exact h0)).mono ?_
      rintro e w' ⟨i, hf, hp⟩
      rw [ea, eb] at hp hf
      refine mk_of_pair2 (fun l h => Tm.good_power ra hel hf ?_ h ha.2.1 hb.2.1) hp
      unfold Tm.expsOf
      rw [if_pos h0]
      simp
    · by_cases h32 : (Tm.expsOf a).length = 32
      · exact (Power_full ⟨a.toArray⟩ ⟨b.toArray⟩ (good_size ha) (good_size hb) W (by rw [ea]; exact hel) (by rw [ea]; exact ra) (by rw [eb]; exact rb) (by rw [ea]; exact h0) (by rw [ea]; exact h32)).mono fun _ _ hp => mk_of_pair2 (fun l h => by simp at h) hp
      · refine (Power_pow ⟨a.toArray⟩ ⟨b.toArray⟩ (good_size ha) (good_size hb) W (by rw [ea]; exact hel) (by rw [ea]; exact ra) (by rw [eb]; exact rb) (by rw [ea]; exact h0) (by rw [ea]; exact h32)).mono ?_
        rintro e w' ⟨i, hf, hp⟩
        rw [ea, eb] at hp hf
        exact mk_of_pair2 (fun l h => Tm.good_power ra hel hf h32 h ha.2.1 hb.2.1) hp

end Go.Proofs.Ytloheongiceliaa
