/- Contract of the statements' own head: chapter 1's example comes out as the chapter says. -/
import Derived.Test.YtccdpimmmicgaaaNodes
namespace Go.Proofs.Ytccdpimmmicgaaa
open Go.ChangeShapes Go.WideShapes Go.ChangeAt Go.RowKit

namespace Tm
def nm (n : Nat) : List UInt8 := 110 :: be8 n
theorem nm_depth (n : Nat) : depthOf (nm n) = 1 := (depth_of_parse (p := nm n) (d := 1) (name_parse n) (by simp [nm, be8_length])).1
theorem nm_right (n : Nat) : right (nm n) = true := (right_iff _).2 (by rw [nm_depth]; omega)
theorem gen_depth : depthOf [103] = 1 := (depth_of_parse (p := [103]) (d := 1) gen_parse (by simp)).1
theorem gen_right : right [103] = true := (right_iff _).2 (by rw [gen_depth]; omega)
theorem begin_pow (k : Nat) (h1 : 1 ≤ k) (h2 : k ≤ 32) (r : List UInt8) : begin_ ([101, UInt8.ofNat k] ++ r) = (2, k) := by
  have e : (UInt8.ofNat k).toNat = k := by rw [UInt8.toNat_ofNat']; omega
  unfold begin_ headOf
  simp [e, h1, h2]
theorem put_one : put [101, UInt8.ofNat (0 + 1)] [nm 2] = (101 :: 1 :: nm 2, 0) := by
  rw [put_ok (by intro p hp; rw [List.mem_singleton.1 hp, nm_depth]; omega) (by simp [total, nm, be8_length]) (by simp [maxDepth, nm_depth])]
  simp
theorem one_parse : parse 400 (101 :: 1 :: nm 2) = (11, 2, 0) := by
  have h := put_term put_one (begin_pow 1 (by omega) (by omega) _) (by simp) (by simp) (fun _ => ⟨by decide, trivial⟩)
  have h2 := h.2.2.1
  have e1 : maxDepth [nm 2] + 1 = 2 := by simp [maxDepth, nm_depth]
  have e2 : (101 :: 1 :: nm 2).length = 11 := rfl
  rw [e1, e2] at h2
  exact h2
theorem one_right : right (101 :: 1 :: nm 2) = true := right_of_parse (d := 2) (p := 101 :: 1 :: nm 2) one_parse (by simp [nm, be8_length])
theorem one_exps : expsOf (101 :: 1 :: nm 2) = [nm 2] := by
  have hr : read (nm 2) = (9, 1, 0) := by rw [read_parse]; exact name_parse 2
  unfold expsOf
  rw [if_neg (by simp)]
  show exps 1 (nm 2) = _
  simp only [exps, hr]
  rfl
theorem put_both : put [101, UInt8.ofNat (1 + 1)] [nm 1, nm 2] = (101 :: 2 :: (nm 1 ++ nm 2), 0) := by
  rw [put_ok (by
    intro p hp
    simp only [List.mem_cons, List.not_mem_nil, or_false] at hp
    rcases hp with rfl | rfl <;> rw [nm_depth] <;> omega) (by simp [total, nm, be8_length]) (by simp [maxDepth, nm_depth])]
  simp
theorem found_zero {i : Nat} (h : Found [nm 2] (nm 1) i) : i = 0 := by
  rcases Nat.eq_zero_or_pos i with h0 | h0
  · exact h0
  · have h1 := h.1
    simp at h1
    have : i = 1 := by omega
    subst this
    have := h.2.1 (by omega)
    exact absurd this (by decide)
theorem both_bytes : 101 :: 2 :: (nm 1 ++ nm 2) = [101, 2, 110, 0, 0, 0, 0, 0, 0, 0, 1, 110, 0, 0, 0, 0, 0, 0, 0, 2] := by decide
end Tm

set_option maxRecDepth 100000 in
set_option maxHeartbeats 1000000 in
theorem shown_calls (w : World) : Calls Try.prog 13 #[] w (One w (.bool true)) := by
  have cP1 : ∀ W : World, Calls Try.prog 14 #[.string ⟨#[103]⟩, .string ⟨(Tm.nm 2).toArray⟩] W (Pair2 W (101 :: 1 :: Tm.nm 2, 0)) := by
    intro W
    refine (Power_gen ⟨#[103]⟩ ⟨(Tm.nm 2).toArray⟩ (by decide) (by decide) W rfl Tm.gen_right (Tm.nm_right 2) rfl).mono ?_
    rintro e w' ⟨i, _, hp⟩
    have hx : Tm.expsOf (⟨#[103]⟩ : ByteArray).data.toList = [] := rfl
    rw [hx] at hp
    have hi : Tm.ins [] i (⟨(Tm.nm 2).toArray⟩ : ByteArray).data.toList = [Tm.nm 2] := by simp [Tm.ins]
    rw [hi] at hp
    have := Tm.put_one
    rw [show ([] : List (List UInt8)).length = 0 from rfl, this] at hp
    exact hp
  have cP2 : ∀ W : World, Calls Try.prog 14 #[.string ⟨(101 :: 1 :: Tm.nm 2).toArray⟩, .string ⟨(Tm.nm 1).toArray⟩] W (Pair2 W (101 :: 2 :: (Tm.nm 1 ++ Tm.nm 2), 0)) := by
    intro W
    refine (Power_pow ⟨(101 :: 1 :: Tm.nm 2).toArray⟩ ⟨(Tm.nm 1).toArray⟩ (by decide) (by decide) W rfl Tm.one_right (Tm.nm_right 1) (by decide) (by
      show ¬ (Tm.expsOf (101 :: 1 :: Tm.nm 2)).length = 32
      rw [Tm.one_exps]; decide)).mono ?_
    rintro e w' ⟨i, hf, hp⟩
    have hx : Tm.expsOf (⟨(101 :: 1 :: Tm.nm 2).toArray⟩ : ByteArray).data.toList = [Tm.nm 2] := Tm.one_exps
    rw [hx] at hp hf
    have hi := Tm.found_zero hf
    subst hi
    have hins : Tm.ins [Tm.nm 2] 0 (⟨(Tm.nm 1).toArray⟩ : ByteArray).data.toList = [Tm.nm 1, Tm.nm 2] := by simp [Tm.ins]
    rw [hins] at hp
    have := Tm.put_both
    rw [show [Tm.nm 2].length = 1 from rfl, this] at hp
    exact hp
  rw [Tm.both_bytes] at cP2
  have cN2 := fun W => Name_calls 2 (by omega) W
  have cN1 := fun W => Name_calls 1 (by omega) W
  obtain ⟨n1, hn1⟩ : ∃ x, Tm.nm 1 = x := ⟨_, rfl⟩
  obtain ⟨n2, hn2⟩ : ∃ x, Tm.nm 2 = x := ⟨_, rfl⟩
  have e1 : 110 :: Tm.be8 1 = n1 := hn1
  have e2 : 110 :: Tm.be8 2 = n2 := hn2
  rw [e1] at cN1
  rw [e2] at cN2
  rw [hn2] at cP1 cP2
  rw [hn1] at cP2
  obtain ⟨a, ha⟩ : ∃ x, (101 :: 1 :: n2).toArray = x := ⟨_, rfl⟩
  have hpr : ∀ (W : World) (e : Ending) (w' : World), Pair2 W (101 :: 1 :: n2, 0) e w' → e = .returned (.tuple #[.string ⟨a⟩, .int .i64 0]) ∧ Below W.heap.size W w' := by
    intro W e w' h
    rw [← ha]
    exact h
  have cP1' : ∀ W : World, Calls Try.prog 14 #[.string ⟨#[103]⟩, .string ⟨n2.toArray⟩] W (fun e w' => e = .returned (.tuple #[.string ⟨a⟩, .int .i64 0]) ∧ Below W.heap.size W w') := fun W => (cP1 W).mono (hpr W)
  rw [ha] at cP2
  have HP1 := Lib.hid cP1'
  have HP2 := Lib.hid cP2
  have HN1 := Lib.hid cN1
  have HN2 := Lib.hid cN2
  clear cP1 cP1' cP2 cN1 cN2 hn1 hn2 e1 e2 ha hpr
  go_enter Try.func13, Try.ntmps13
  go_wp2_with (go_at_call 27; refine (Gen_calls _).mono ?_)
  rintro e' w1 ⟨rfl, hb1⟩
  go_wp2_with (go_at_call 49; refine (HN2.out _).mono ?_)
  rintro e' w2 ⟨rfl, hb2⟩
  go_wp2_with (go_at_call 14; refine (HP1.out _).mono ?_)
  rintro e' w3 ⟨rfl, hb3⟩
  go_wp2_with (go_at_call 49; refine (HN1.out _).mono ?_)
  rintro e' w4 ⟨rfl, hb4⟩
  go_wp2_with (go_at_call 14; refine (HP2.out _).mono ?_)
  rintro e' w5 ⟨rfl, hb5⟩
  have HB := Lib.hid ((((hb1.trans (hb2.mono hb1.size)).trans (hb3.mono (by have := hb1.size; have := hb2.size; omega))).trans (hb4.mono (by have := hb1.size; have := hb2.size; have := hb3.size; omega))).trans (hb5.mono (by have := hb1.size; have := hb2.size; have := hb3.size; have := hb4.size; omega)))
  clear hb1 hb2 hb3 hb4 hb5
  go_wp2
  go_ret
  exact ⟨by simp, HB.out⟩

end Go.Proofs.Ytccdpimmmicgaaa
