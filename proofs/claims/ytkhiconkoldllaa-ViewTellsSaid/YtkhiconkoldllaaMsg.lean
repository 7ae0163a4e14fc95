/- Contracts of list.within, rightId, rise and Right: is a message right? -/
import Derived.Test.YtkhiconkoldllaaMeasure
namespace Go.Proofs.Ytkhiconkoldllaa
open Go.ChangeShapes Go.WideShapes Go.ChangeAt Go.RowKit

def withinB (n l m : Int) : Bool := decide (l ≤ n) && decide (n ≤ m)
theorem withinB_iff (n l m : Int) : withinB n l m = true ↔ l ≤ n ∧ n ≤ m := by simp [withinB]
def idB (e c : Int) : Bool := withinB e 0 2147483647 && withinB c 0 8
def riseB : Int → List Int → Bool
  | _, [] => true
  | a, x :: xs => withinB x (a + 1) 8 && riseB x xs

set_option maxHeartbeats 400000 in
theorem within_calls (n l m : Int) (w : World) : Calls Try.prog 45 #[.int .i64 n, .int .i64 l, .int .i64 m] w fun e w' => e = .returned (.bool (withinB n l m)) ∧ w = w' := by
  by_cases h1 : l ≤ n
  · by_cases h2 : n ≤ m
    · have e : withinB n l m = true := (withinB_iff _ _ _).2 ⟨h1, h2⟩
      rw [e]
      clear e
      go_enter Try.func45, Try.ntmps45
      go_wp2
      go_ret
      exact ⟨rfl, rfl⟩
    · have e : withinB n l m = false := by cases h : withinB n l m with | false => rfl | true => exact absurd ((withinB_iff _ _ _).1 h).2 h2
      rw [e]
      clear e
      go_enter Try.func45, Try.ntmps45
      go_wp2
      go_ret
      exact ⟨rfl, rfl⟩
  · have e : withinB n l m = false := by cases h : withinB n l m with | false => rfl | true => exact absurd ((withinB_iff _ _ _).1 h).1 h1
    rw [e]
    clear e
    go_enter Try.func45, Try.ntmps45
    go_wp2
    go_ret
    exact ⟨rfl, rfl⟩

set_option maxHeartbeats 400000 in
theorem rightId_calls (a c : Int) (w : World) : Calls Try.prog 46 #[.agg #[.int .i64 a, .int .i64 c]] w (One w (.bool (idB a c))) := by
  have H1 := Lib.hid (fun V => within_calls a 0 2147483647 V)
  have H2 := Lib.hid (fun V => within_calls c 0 8 V)
  have hB : Hid (Below w.heap.size w (w.alloc (.cells #[.int .i64 a, .int .i64 c] 23))) := (Below.refl _ w).alloc (Nat.le_refl _) _
  unfold idB
  generalize withinB a 0 2147483647 = b1 at *
  generalize withinB c 0 8 = b2 at *
  cases b1 with
  | false =>
    go_enter Try.func46, Try.ntmps46
    go_wp2_with fail
    refine (H1.out _).mono ?_
    rintro e w1 ⟨rfl, rfl⟩
    go_wp2
    go_ret
    exact ⟨rfl, hB.out⟩
  | true =>
    go_enter Try.func46, Try.ntmps46
    go_wp2_with fail
    refine (H1.out _).mono ?_
    rintro e w1 ⟨rfl, rfl⟩
    go_wp2_with fail
    refine (H2.out _).mono ?_
    rintro e w2 ⟨rfl, rfl⟩
    go_wp2
    go_ret
    exact ⟨rfl, hB.out⟩

/-- A row of numbers that can be read. -/
structure IntsA (w : World) (v : Value) (xs : List Int) : Prop where
  reads : ∃ A c, v = .slice A xs.length c ∧ ∀ j x, xs[j]? = some x → ∃ ad : Addr, A = some ad ∧ ad.block < w.heap.size ∧ w.cell? (ad.add j) = some (.int .i64 x)
  fit : ∀ x ∈ xs, -9223372036854775808 ≤ x ∧ x ≤ 9223372036854775807
  few : xs.length ≤ maxLen
theorem IntsA.below {w w' : World} {v : Value} {xs : List Int} (h : IntsA w v xs) (hb : Below w.heap.size w w') : IntsA w' v xs := by
  obtain ⟨⟨A, c, h1, h2⟩, h3, h4⟩ := h
  refine ⟨⟨A, c, h1, fun j x hx => ?_⟩, h3, h4⟩
  obtain ⟨ad, e, k1, k2⟩ := h2 j x hx
  exact ⟨ad, e, Nat.lt_of_lt_of_le k1 hb.size, (hb.cell (p := ad.add j) (by rw [addr_block]; exact k1)).trans k2⟩
theorem riseB_bound {a : Int} {xs : List Int} (h : riseB a xs = true) (h0 : 0 ≤ a) : ∀ x ∈ xs, a < x ∧ x ≤ 8 := by
  induction xs generalizing a with
  | nil => simp
  | cons y ys ih =>
    unfold riseB at h
    rw [Bool.and_eq_true] at h
    obtain ⟨h1, h2⟩ := h
    rw [withinB_iff] at h1
    intro x hx
    rcases List.mem_cons.1 hx with rfl | hx
    · omega
    · have := ih h2 (by omega) x hx
      omega
def Rising (w : World) (xs : List Int) (k : Nat) (v3 v8 : Value) (wr : World) : Prop :=
  ∃ (i : Nat) (a : Int), k + i = xs.length ∧ v8 = .int .i64 i ∧ v3 = .int .i64 a ∧ 0 ≤ a ∧ a ≤ 8 ∧ riseB 0 xs = riseB a (xs.drop i) ∧ w = wr

set_option maxRecDepth 100000 in
set_option maxHeartbeats 2000000 in
theorem rise_calls (xs : List Int) (v : Value) (w : World) (h : IntsA w v xs) : Calls Try.prog 47 #[v] w fun e w' => e = .returned (.bool (riseB 0 xs)) ∧ w = w' := by
  obtain ⟨⟨A, c, rfl, hcells⟩, hfit, hfew⟩ := h
  have HC := Lib.hid hcells
  have HF := Lib.hid hfit
  obtain ⟨r, hr⟩ : ∃ r, riseB 0 xs = r := ⟨_, rfl⟩
  rw [hr]
  have HR := Lib.hid hr
  unfold maxLen at hfew
  clear hcells hfit hr
  go_enter Try.func47, Try.ntmps47
  go_wp2
  go_loopg [3, 8] xs.length (fun k v3 v8 wr => Rising w xs k v3 v8 wr)
  case atStart => exact ⟨0, 0, by omega, rfl, rfl, by omega, by omega, by simp, rfl⟩
  case round =>
    obtain ⟨i, a, hk, rfl, rfl, h0, h8, hd, rfl⟩ := hrel
    by_cases hil : i < xs.length
    · obtain ⟨x, hx⟩ : ∃ x, xs[i]? = some x := ⟨_, List.getElem?_eq_getElem hil⟩
      obtain ⟨ad, rfl, a1, a3⟩ := HC.out i x hx
      have hdrop : xs.drop i = x :: xs.drop (i + 1) := by
        rw [List.drop_eq_getElem_cons hil, (List.getElem?_eq_some_iff.1 hx).2]
      have hd2 : riseB 0 xs = (withinB x (a + 1) 8 && riseB x (xs.drop (i + 1))) := by rw [hd, hdrop]; rfl
      have HW := Lib.hid (fun V => within_calls x (a + 1) 8 V)
      have hwb := withinB_iff x (a + 1) 8
      have hgk : gk - 1 < gk := by omega
      have j1 : (i : Int) < (xs.length : Int) := by omega
      have j2 : (0 : Int) ≤ (i : Int) := by omega
      cases hb : withinB x (a + 1) 8 with
      | false =>
        rw [hb] at HW
        have hrf : r = false := by rw [← HR.out, hd2, hb]; rfl
        subst hrf
        clear hk hd hx hdrop hd2 hwb hb
        go_wp2_with fail
        refine (HW.out _).mono ?_
        rintro e w1 ⟨rfl, rfl⟩
        go_wp2
        go_ret
        exact ⟨rfl, rfl⟩
      | true =>
        rw [hb] at HW
        have hx8 := hwb.1 hb
        have hRel : Hid (Rising w xs (gk - 1) (.int .i64 x) (.int .i64 ((i + 1 : Nat) : Int)) w) := ⟨i + 1, x, by omega, rfl, rfl, by omega, by omega, by rw [hd2, hb]; rfl, rfl⟩
        clear hk hd hx hdrop hd2 hwb hb hx8
        go_wp2_with fail
        refine (HW.out _).mono ?_
        rintro e w1 ⟨rfl, rfl⟩
        go_wp2
        go_roundg (gk - 1)
        case measure => exact hgk
        case rel => exact hRel.out
    · have j1 : ¬ ((i : Int) < (xs.length : Int)) := by omega
      have hrt : r = true := by rw [← HR.out, hd, List.drop_eq_nil_of_le (by omega)]; rfl
      subst hrt
      clear hk hd
      go_wp2
      go_ret
      exact ⟨rfl, rfl⟩

/-- A message. -/
structure Msg where
  kind : Int
  e1 : Int
  c1 : Int
  e2 : Int
  c2 : Int
  num : Int
  mem : List Int
  terms : List (List UInt8)
def msgCells (m : Msg) (vm vt : Value) : Array Value := #[.int .i64 m.kind, .int .i64 m.e1, .int .i64 m.c1, .int .i64 m.e2, .int .i64 m.c2, .int .i64 m.num, vm, vt]
def Msg.okHead (m : Msg) : Bool := withinB m.kind 0 20 && idB m.e1 m.c1 && idB m.e2 m.c2 && withinB m.num 0 2147483647 && riseB 0 m.mem
def Msg.ok (m : Msg) : Bool := m.okHead && decide ((Tm.measureL m.terms).2 = 0)
structure MsgA (w : World) (m : Msg) (vm vt : Value) : Prop where
  mem : IntsA w vm m.mem
  terms : RowA w vt m.terms
theorem MsgA.below {w w' : World} {m : Msg} {vm vt : Value} (h : MsgA w m vm vt) (hb : Below w.heap.size w w') : MsgA w' m vm vt := ⟨h.mem.below hb, h.terms.below hb⟩

end Go.Proofs.Ytkhiconkoldllaa
