/- Contract of the statements' own has; pure facts for WatchRow. -/
import Derived.Test.YtildapcdkipakaaWtLimP
import Derived.Laws.BitsLemmas
namespace Go.Proofs.Ytildapcdkipakaa.L9
open Go.ChangeShapes Go.WideShapes Go.ChangeAt Go.RowKit Go.Deep

theorem i64_and63 (n : Int) : bits .and .i64 n 63 = n % 64 := by
  have h63 : (BitVec.ofInt 64 63).toNat = 2 ^ 6 - 1 := by decide
  have key : (BitVec.ofInt 64 n &&& BitVec.ofInt 64 63).toNat = (n % ((2 ^ 64 : Nat) : Int)).toNat % 2 ^ 6 := by
    rw [BitVec.toNat_and, BitVec.toNat_ofInt, h63, Nat.and_two_pow_sub_one_eq_mod]
  show IntKind.i64.wrap ((BitVec.ofInt 64 n &&& BitVec.ofInt 64 63).toNat : Nat) = n % 64
  rw [key, IntKind.wrap_i64]
  omega
theorem not_mem_next {l : List Int} {i : Nat} {x n : Int} (hx : l[i]? = some x) (hxn : ¬ x = n) (hn : ¬ n ∈ l.take i) : ¬ n ∈ l.take (i + 1) := by
  rw [List.take_add_one, hx]
  intro hm
  rcases List.mem_append.1 hm with hm | hm
  · exact hn hm
  · simp at hm
    exact hxn hm.symm
def HasGo (w : World) (l : List Int) (n : Int) (k : Nat) (v5 : Value) (wr : World) : Prop := ∃ i : Nat, k + i = l.length ∧ v5 = .int .i64 i ∧ ¬ n ∈ l.take i ∧ w = wr
set_option maxRecDepth 100000 in
set_option maxHeartbeats 2000000 in
theorem has_calls (l : List Int) (n : Int) (v : Value) (w : World) (h : IRow w v l) (hl : l.length ≤ 1000) : Calls Try.prog 29 #[v, .int .i64 n] w (L5.One w (.bool (decide (n ∈ l)))) := by
  obtain ⟨A, c, rfl, hcl⟩ := h
  have HC := Lib.hid hcl
  clear hcl
  go_enter Try.func29, Try.ntmps29
  go_wp2
  go_loopg [5] l.length (fun k v5 wr => HasGo w l n k v5 wr)
  case atStart => exact ⟨0, by omega, rfl, by simp, rfl⟩
  case round =>
    obtain ⟨i, hk, rfl, hn, rfl⟩ := hrel
    by_cases hi : i < l.length
    · obtain ⟨x, hx⟩ : ∃ x, l[i]? = some x := ⟨_, List.getElem?_eq_getElem hi⟩
      obtain ⟨ad, rfl, _, hcx⟩ := HC.out i x hx
      have i1 : (i : Int) < (l.length : Int) := by omega
      have i2 : (0 : Int) ≤ (i : Int) := by omega
      have HM := Lib.hid (show l.length - (i + 1) < gk by omega)
      by_cases hxn : x = n
      · subst hxn
        have HF : Hid (decide (x ∈ l) = true) := (by rw [decide_eq_true_iff]; exact List.mem_of_getElem? hx : decide (x ∈ l) = true)
        clear hx hk hn
        go_wp2
        go_ret
        exact ⟨by rw [HF.out]; rfl, Below.refl _ _⟩
      · have h1 : (x == n) = false := by rw [beq_eq_false_iff_ne]; exact hxn
        have HF : Hid (HasGo w l n (l.length - (i + 1)) (.int .i64 ((i + 1 : Nat) : Int)) w) := ⟨i + 1, by omega, rfl, not_mem_next hx hxn hn, rfl⟩
        clear hx hk hn
        go_wp2
        go_roundg (l.length - (i + 1))
        case measure => exact HM.out
        case rel => simpa using HF.out
    · obtain rfl : i = l.length := by omega
      have i1 : ¬ ((l.length : Int) < (l.length : Int)) := by omega
      rw [List.take_length] at hn
      have HF : Hid (decide (n ∈ l) = false) := (by rw [decide_eq_false_iff_not]; exact hn : decide (n ∈ l) = false)
      clear hk hn
      go_wp2
      go_ret
      exact ⟨by rw [HF.out]; rfl, Below.refl _ _⟩
/-- Me is there. -/
structure Meok (me : Int) (L : List Int) : Prop where
  here : L.getD (me - 1).toNat 0 = 0
theorem Meok.new {me lim : Int} (h : WOk me lim (newL me lim)) : Meok me (newL me lim) := ⟨by have := h.m1; have := h.m2; rw [newL_get (by omega), if_pos (by omega)]⟩
theorem Meok.hear {me lim : Int} {L : List Int} (h : WOk me lim L) (k : Meok me L) (p : Int) : Meok me (hearL L p) := ⟨by have := h.m1; have := h.m2; rw [hearL_get h.len p (by omega), k.here]; split <;> rfl⟩
theorem Meok.tick {me lim : Int} {L : List Int} (h : WOk me lim L) (k : Meok me L) : Meok me (tickL me lim L) := ⟨by have := h.m1; have := h.m2; rw [tickL_get me lim h.len (by omega), if_pos (by omega), k.here]⟩
theorem Meok.mem {me lim : Int} {L : List Int} (h : WOk me lim L) (k : Meok me L) : me ∈ thereL lim L := (thereL_mem lim L me).2 ⟨(me - 1).toNat, by have := h.m1; have := h.m2; omega, by have := h.m1; omega, by rw [k.here]; have := h.l1; omega⟩
/-- Who is heard is there. -/
theorem heard_mem {me lim : Int} {L : List Int} (h : WOk me lim L) {p : Int} (p1 : 1 ≤ p) (p2 : p ≤ 8) : p ∈ thereL lim (hearL L p) := (thereL_mem lim _ p).2 ⟨(p - 1).toNat, by omega, by omega, by rw [hearL_get h.len p (by omega), if_pos (by omega)]; have := h.l1; omega⟩
theorem Meok.ticks {me lim : Int} {L : List Int} (h : WOk me lim L) (k : Meok me L) (n : Nat) : Meok me (tickN me lim L n) := by
  induction n with
  | zero => exact k
  | succ n ih => exact ih.tick (h.ticks n)
/-- More ticks take none back. -/
theorem ticks_up {me lim : Int} {L : List Int} (h : WOk me lim L) (n : Nat) {j : Nat} (hj : j < 8) : L.getD j 0 ≤ (tickN me lim L n).getD j 0 := by
  induction n with
  | zero => exact Int.le_refl _
  | succ n ih =>
    show _ ≤ (tickL me lim (tickN me lim L n)).getD j 0
    rw [tickL_get me lim (h.ticks n).len hj]
    have := (h.ticks n).all _ (getD_mem (by rw [(h.ticks n).len]; exact hj))
    split <;> omega
theorem ticks_there {me lim : Int} {L : List Int} (h : WOk me lim L) (n : Nat) {x : Int} (hx : x ∈ thereL lim (tickN me lim L n)) : x ∈ thereL lim L := by
  obtain ⟨j, h1, h2, h3⟩ := (thereL_mem lim _ x).1 hx
  exact (thereL_mem lim L x).2 ⟨j, h1, h2, Int.le_trans (ticks_up h n h1) h3⟩
theorem there_bounds {lim : Int} {L : List Int} {x : Int} (hx : x ∈ thereL lim L) : 1 ≤ x ∧ x ≤ 8 := by
  obtain ⟨j, h1, h2, h3⟩ := (thereL_mem lim _ x).1 hx
  omega
/-- The numbers of a row rise. -/
theorem there_rise {lim : Int} {L : List Int} {i : Nat} {x y : Int} (hx : (thereL lim L)[i]? = some x) (hy : (thereL lim L)[i + 1]? = some y) : x < y := by
  have hp := thereTo_rise lim L 8
  have h1 := (List.getElem?_eq_some_iff.1 hy).1
  have := List.pairwise_iff_getElem.1 hp i (i + 1) (by have := h1; unfold thereL at this; omega) h1 (by omega)
  unfold thereL at hx hy
  rw [List.getElem?_eq_getElem (by unfold thereL at h1; omega)] at hx
  rw [List.getElem?_eq_getElem (by unfold thereL at h1; omega)] at hy
  cases hx
  cases hy
  exact this
end Go.Proofs.Ytildapcdkipakaa.L9
