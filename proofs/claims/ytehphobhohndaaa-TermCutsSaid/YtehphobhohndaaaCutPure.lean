/- A proper beginning of a term is read as ErrForm, where its depth is below the fuel. -/
import Derived.Test.YtehphobhohndaaaMakes
namespace Go.Proofs.Ytehphobhohndaaa.Tm

theorem parse_zero {f : Nat} {l : List UInt8} (h : (begin_ l).1 = 0) : parse (f + 1) l = (0, 0, 2) := by
  rw [parse, if_pos h]
theorem begin_nil : (begin_ []).1 = 0 := by simp [begin_, headOf]

/-- Of a text that is cut inside its head nothing begins. -/
theorem begin_cut {l : List UInt8} {a : Nat} (h0 : (begin_ l).1 ≠ 0) (ha : a < (begin_ l).1) : (begin_ (l.take a)).1 = 0 := by
  rcases Nat.eq_zero_or_pos (begin_ (l.take a)).1 with h | h
  · exact h
  · have hb := begin_some (l := l.take a) (by omega)
    obtain ⟨b1, b2⟩ := begin_some h0
    have hal : (begin_ l).1 ≤ l.length := by rw [b1]; exact b2
    have hs := begin_stable (l := l.take a) (by omega) (l.drop (begin_ (l.take a)).1)
    have hle : (begin_ (l.take a)).1 ≤ a := by rw [hb.1]; have := hb.2; simp at this; omega
    have e : (l.take a).take (begin_ (l.take a)).1 ++ l.drop (begin_ (l.take a)).1 = l := by
      rw [List.take_take, Nat.min_eq_left hle, List.take_append_drop]
    rw [e] at hs
    rw [hs.1] at ha
    omega

theorem take_split (l : List UInt8) (a m : Nat) (h : a ≤ m) : l.take m = l.take a ++ (l.drop a).take (m - a) := by
  rw [← List.take_add, Nat.add_sub_cancel' h]

theorem parts_cut {f : Nat} (ih : ∀ l n d m, parse f l = (n, d, 0) → m < n → parse f (l.take m) = (0, 0, 2)) (kind : UInt8) (k : Nat) :
    ∀ l ah n e m, partsOf (parse f) kind k l ah = (n, e, 0) → m < n → partsOf (parse f) kind k (l.take m) ah = (0, 0, 2) := by
  induction k with
  | zero =>
    intro l ah n e m h hm
    simp only [partsOf, Prod.mk.injEq, and_true] at h
    omega
  | succ k ihk =>
    intro l ah n e m h hm
    obtain ⟨n1, d1, n2, e2, a1, a2, a3, rfl, rfl⟩ := parts_ok h
    have hb : n1 ≤ l.length := by have := (parse_bounds f l).1; rw [a1] at this; exact this
    by_cases hlt : m < n1
    · rw [partsOf, ih l n1 d1 m a1 hlt]
      simp
    · have hs : l.take m = l.take n1 ++ (l.drop n1).take (m - n1) := take_split l n1 m (by omega)
      have hp := parse_stable f l n1 d1 a1 ((l.drop n1).take (m - n1))
      have hl1 : (l.take n1).length = n1 := by simp; omega
      have ht : (l.take n1 ++ (l.drop n1).take (m - n1)).take n1 = l.take n1 := List.take_left' hl1
      have hd : (l.take n1 ++ (l.drop n1).take (m - n1)).drop n1 = (l.drop n1).take (m - n1) := List.drop_left' hl1
      have hr := ihk (l.drop n1) (l.take n1) n2 e2 (m - n1) a3 (by omega)
      rw [hs, partsOf, hp]
      simp only [ht, hd, hr, ne_eq, not_true_eq_false, if_false, if_neg a2]
      simp
theorem parse_cut (f : Nat) : ∀ l n d m, parse f l = (n, d, 0) → m < n → parse f (l.take m) = (0, 0, 2) := by
  induction f with
  | zero => intro l n d m h; simp [parse] at h
  | succ f ih =>
    intro l n d m h hm
    obtain ⟨h0, h1, q, e, h2, rfl, rfl⟩ := parse_ok h
    by_cases hlt : m < (begin_ l).1
    · exact parse_zero (begin_cut h0 hlt)
    · obtain ⟨b1, b2⟩ := begin_some h0
      have hal : (begin_ l).1 ≤ l.length := by rw [b1]; exact b2
      have hl1 : (l.take (begin_ l).1).length = (begin_ l).1 := by simp; omega
      have hs : l.take m = l.take (begin_ l).1 ++ (l.drop (begin_ l).1).take (m - (begin_ l).1) := take_split l _ m (by omega)
      obtain ⟨s1, s2⟩ := begin_stable h0 ((l.drop (begin_ l).1).take (m - (begin_ l).1))
      have hd : (l.take (begin_ l).1 ++ (l.drop (begin_ l).1).take (m - (begin_ l).1)).drop (begin_ l).1 = (l.drop (begin_ l).1).take (m - (begin_ l).1) := List.drop_left' hl1
      have hr := parts_cut ih (l.getD 0 0) (begin_ l).2 (l.drop (begin_ l).1) [] q e (m - (begin_ l).1) h2 (by omega)
      rw [hs, parse]
      simp only [s1, s2, hd, hr, if_neg h0]
      split <;> simp

end Go.Proofs.Ytehphobhohndaaa.Tm
