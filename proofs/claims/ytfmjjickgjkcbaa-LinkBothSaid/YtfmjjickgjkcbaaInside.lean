/- Contracts of parts.bytesInside, of the iterator that parts.inside hands back, and of parts.Kind. -/
import Derived.Test.YtfmjjickgjkcbaaOfPure
import Derived.RangeFuncNested
import Derived.RangeFuncBound
import Derived.RangeFuncCalls
import Derived.RangeFuncLeaves
import Derived.RangeFuncBox
import Derived.Shelf.Abstract
import Derived.Shelf.RegionOpen
import Derived.WalkKit
import Derived.OwnWalkIn
import Derived.TacticsInMore
import Derived.LoopNIn
import Derived.LoopIn
import Derived.Maps.AppendAt
import Derived.Sort.LoopGhostIn
namespace Go.Proofs.Ytfmjjickgjkcbaa
open Go.ChangeShapes Go.WideShapes Go.ChangeAt Go.RowKit Go.Shelf

attribute [local go_sem] Oper.semAt_some

set_option maxHeartbeats 400000 in
theorem Kind_calls (s : ByteArray) (hs : s.size ≤ maxLen) (w : World) :
    Calls Try.prog 36 #[.string s] w (One w (.int .u8 (Tm.kindOf s.data.toList).toNat)) := by
  have cR := fun W => Right_calls s hs W
  unfold Tm.kindOf
  cases hr : Tm.right s.data.toList with
  | false =>
    rw [hr] at cR
    have HR := Lib.hid cR
    clear cR hr
    go_enter Try.func36, Try.ntmps36
    go_wp2_with fail
    refine (HR.out _).mono ?_
    rintro e' w1 ⟨rfl, b1⟩
    go_wp2
    go_ret
    exact ⟨rfl, b1⟩
  | true =>
    rw [hr] at cR
    have hp := (Tm.right_ne_nil hr).2
    rw [len_bytes] at hp
    have hg := getD_bytes s 0 hp
    rw [if_pos rfl, hg]
    have HR := Lib.hid cR
    have i1 : (0 : Int) < (s.size : Int) := by omega
    clear cR hr hg
    go_enter Try.func36, Try.ntmps36
    go_wp2_with fail
    refine (HR.out _).mono ?_
    rintro e' w1 ⟨rfl, b1⟩
    go_wp2
    go_ret
    exact ⟨rfl, b1⟩

set_option maxRecDepth 100000 in
set_option maxHeartbeats 2000000 in
theorem bytesInside_calls (s : ByteArray) (hs : s.size ≤ maxLen) (hp : 0 < s.size) (h2 : s[0] = 101 → 2 ≤ s.size) (w : World) :
    Calls Try.prog 65 #[.string s] w fun e w' => e = .returned (.string ⟨(Tm.bytesIn s.data.toList).toArray⟩) ∧ w = w' := by
  obtain ⟨r, hr⟩ : ∃ r, Tm.bytesIn s.data.toList = r := ⟨_, rfl⟩
  rw [hr]
  unfold Tm.bytesIn at hr
  rw [getD_bytes s 0 hp] at hr
  have e1 := extract_eq s 1 s.size
  rw [List.take_of_length_le (by simp)] at e1
  have e2 := extract_eq s 2 s.size
  rw [List.take_of_length_le (by simp)] at e2
  have E1 := Lib.hid e1
  have E2 := Lib.hid e2
  clear e1 e2
  have i1 : (0 : Int) < (s.size : Int) := by omega
  have i2 : (1 : Int) ≤ (s.size : Int) := by omega
  unfold maxLen at hs
  obtain ⟨c, hc⟩ : ∃ c, s[0] = c := ⟨_, rfl⟩
  rw [hc] at hr h2
  by_cases c1 : c = 101
  · rw [if_pos c1] at hr
    subst hr
    have g1 : ((c.toNat : Int) == 101) = true := u8_yes (n := 101) (by omega) c1
    have i3 : (2 : Int) ≤ (s.size : Int) := by have := h2 c1; omega
    rw [← hc] at g1
    clear h2 c1 hc
    go_enter Try.func65, Try.ntmps65
    go_wp2
    go_ret
    exact ⟨by rw [E2.out]; rfl, rfl⟩
  · rw [if_neg c1] at hr
    have g1 : ((c.toNat : Int) == 101) = false := u8_no (n := 101) (by omega) c1
    clear h2 c1
    have fin : ∀ (b1 b2 b3 b4 b5 : Bool), ((c.toNat : Int) == 107) = b1 → ((c.toNat : Int) == 112) = b2 → ((c.toNat : Int) == 104) = b3 → ((c.toNat : Int) == 115) = b4 → ((c.toNat : Int) == 120) = b5 →
        r = (if (b1 || b2 || b3 || b4 || b5) = true then s.data.toList.drop 1 else []) →
        Calls Try.prog 65 #[.string s] w fun e w' => e = .returned (.string ⟨r.toArray⟩) ∧ w = w' := by
      intro b1 b2 b3 b4 b5 q1 q2 q3 q4 q5 hr2
      subst hr2
      rw [← hc] at g1 q1 q2 q3 q4 q5
      clear hr hc
      cases b1 with
      | true =>
        go_enter Try.func65, Try.ntmps65
        go_wp2
        go_ret
        exact ⟨by rw [E1.out, List.drop_one]; rfl, rfl⟩
      | false =>
      cases b2 with
      | true =>
        go_enter Try.func65, Try.ntmps65
        go_wp2
        go_ret
        exact ⟨by rw [E1.out, List.drop_one]; rfl, rfl⟩
      | false =>
      cases b3 with
      | true =>
        go_enter Try.func65, Try.ntmps65
        go_wp2
        go_ret
        exact ⟨by rw [E1.out, List.drop_one]; rfl, rfl⟩
      | false =>
      cases b4 with
      | true =>
        go_enter Try.func65, Try.ntmps65
        go_wp2
        go_ret
        exact ⟨by rw [E1.out, List.drop_one]; rfl, rfl⟩
      | false =>
      cases b5 with
      | true =>
        go_enter Try.func65, Try.ntmps65
        go_wp2
        go_ret
        exact ⟨by rw [E1.out, List.drop_one]; rfl, rfl⟩
      | false =>
        go_enter Try.func65, Try.ntmps65
        go_wp2
        go_ret
        exact ⟨rfl, rfl⟩
    refine fin _ _ _ _ _ rfl rfl rfl rfl rfl ?_
    rw [← hr]
    have t : ∀ n : Nat, n < 256 → (((c.toNat : Int) == (n : Int)) = true ↔ c = UInt8.ofNat n) := fun n hn => by
      rw [beq_iff_eq]; exact u8_iff c n hn
    have k1 := t 107 (by omega)
    have k2 := t 112 (by omega)
    have k3 := t 104 (by omega)
    have k4 := t 115 (by omega)
    have k5 := t 120 (by omega)
    by_cases h : c = 107 ∨ c = 112 ∨ c = 104 ∨ c = 115 ∨ c = 120
    · rw [if_pos h, if_pos]
      simp only [Bool.or_eq_true]
      rcases h with h | h | h | h | h
      · exact .inl (.inl (.inl (.inl (k1.2 h))))
      · exact .inl (.inl (.inl (.inr (k2.2 h))))
      · exact .inl (.inl (.inr (k3.2 h)))
      · exact .inl (.inr (k4.2 h))
      · exact .inr (k5.2 h)
    · rw [if_neg h, if_neg]
      simp only [Bool.or_eq_true]
      rintro ((((h1 | h1) | h1) | h1) | h1)
      · exact h (.inl (k1.1 h1))
      · exact h (.inr (.inl (k2.1 h1)))
      · exact h (.inr (.inr (.inl (k3.1 h1))))
      · exact h (.inr (.inr (.inr (.inl (k4.1 h1)))))
      · exact h (.inr (.inr (.inr (.inr (k5.1 h1)))))

theorem grown_of_below {w w' : World} (h : Below w.heap.size w w') : w.grownBy w' none := ⟨h.os, h.tape, h.output, h.size, fun k hk _ => h.block k hk⟩

/-- What is still to come of the terms in t. -/
def Telling (ps : List (List UInt8)) (J : List (List UInt8) → World → Prop) (k : Nat) (v3 : Value) (wr : World) : Prop :=
  ∃ pre rest, k = rest.length ∧ v3 = .string ⟨rest.flatten.toArray⟩ ∧ ps = pre ++ rest ∧ J pre wr

set_option maxRecDepth 100000 in
set_option maxHeartbeats 2000000 in
theorem inside1_in (n : Nat) (l Bn n₀ : Nat) (s : ByteArray) (hs : s.size ≤ 20000) (hr : Tm.right s.data.toList = true) (J Jx : List (List UInt8) → World → Prop)
    (hJ : ∀ pre A B, J pre A → Below A.heap.size A B → J pre B)
    (hY : ∀ pre x W, J pre W → pre.length < (Tm.ofL s.data.toList).length → YieldAt Fence.wide (n - 1) Try.prog l #[.string ⟨x.toArray⟩] W fun e W' =>
      (e = .returned (.bool true) ∧ J (pre ++ [x]) W' ∧ Below n₀ W W') ∨ (e = .returned (.bool false) ∧ Jx (pre ++ [x]) W'))
    (W : World) (hBn : W.cell? ⟨Bn, 0, none⟩ = some (.string s)) (h0 : J [] W) :
    CallsIn Fence.wide n Try.prog 64 #[.func (.yield l) #[] #[], .pointer (some ⟨Bn, 0, none⟩)] W fun e W' => (∃ v, e = .returned v) ∧
      ((∃ ys, ys = Tm.ofL s.data.toList ∧ J ys W') ∨ (∃ pre, pre <+: Tm.ofL s.data.toList ∧ Jx pre W')) := by
  obtain ⟨o1, o2, o3, o4, o5, o6⟩ := Tm.ofL_ok hr
  have hpos := (Tm.right_ne_nil hr).2
  rw [len_bytes] at hpos
  have h2 : s[0] = 101 → 2 ≤ s.size := fun h => by
    have := (Tm.right_power hr (by rw [getD_bytes s 0 hpos]; exact h)).1
    rwa [len_bytes] at this
  have cB := fun W => bytesInside_calls s (by unfold maxLen; omega) hpos h2 W
  rw [Tm.bytesIn_ofL hr] at cB
  have hdep : ∀ x ∈ Tm.ofL s.data.toList, Tm.Good 400 20000 x := fun x hx => ⟨(o2 x hx).1, Tm.depthOf_le x, by have := (o2 x hx).2.2; omega⟩
  have hfl : (Tm.ofL s.data.toList).flatten.length ≤ 20000 := by rw [o1, List.length_drop]; omega
  generalize Tm.ofL s.data.toList = ps at *
  have HB := Lib.hid cB
  have HD := Lib.hid hdep
  have HJ := Lib.hid hJ
  have HY := Lib.hid hY
  clear cB hdep hJ hY o1 o2 o3 o4 o5 o6 hr h2
  refine callsIn_of_wp Try.func64 rfl trivial ?_ rfl
  simp only [Try.ntmps64, List.size_toArray, List.length_cons, List.length_nil, Nat.reduceAdd, Nat.reduceSub, Array.replicate_succ, Array.replicate_zero, List.push_toArray, List.append_toArray, List.nil_append, List.cons_append]
  gi_wp2_with (refine ⟨trivial, (fun h => nomatch h), ?_⟩; gi_at_call 65; refine (callsIn_wide.2 (HB.out _)).mono ?_; rintro e w' ⟨rfl, rfl⟩)


  gi_loopg [3] ps.length (fun k v3 wr => Telling ps J k v3 wr)
  case atStart => exact ⟨[], ps, rfl, rfl, rfl, h0⟩
  case round =>
    obtain ⟨pre, rest, hk, rfl, hx, hJs⟩ := hrel
    cases rest with
    | nil =>
      simp only [List.flatten_nil]
      gi_wp2
      go_end0
      exact ⟨⟨_, rfl⟩, .inl ⟨pre, by simp [hx], hJs⟩⟩
    | cons x rest =>
      have hxm : x ∈ ps := by rw [hx]; simp
      have hGx := HD.out x hxm
      have hyl : rest.flatten.length ≤ 20000 := by
        rw [hx] at hfl
        simp only [List.flatten_append, List.flatten_cons, List.length_append] at hfl
        omega
      have cT := fun W => take_at hGx rest.flatten (by omega) W
      have hfc : (x :: rest).flatten = x ++ rest.flatten := List.flatten_cons
      rw [hfc]
      have hsz : 0 < (x ++ rest.flatten).length := by
        have := (Tm.right_ne_nil ((Tm.right_iff x).2 hGx.1)).2
        rw [List.length_append]; omega
      obtain ⟨y, hy⟩ : ∃ y, x ++ rest.flatten = y := ⟨_, rfl⟩
      rw [hy] at cT hsz ⊢
      have hne : (y == ([] : List UInt8)) = false := by cases y <;> simp_all
      have HC := Lib.hid cT
      have hplen : pre.length < ps.length := by rw [hx]; simp
      have HX := Lib.hid hx
      clear cT hy hfc hGx hyl hxm hx
      gi_wp2_with (refine ⟨trivial, (fun h => nomatch h), ?_⟩; gi_at_call 49; refine (callsIn_wide.2 (HC.out _)).mono ?_; rintro e' w5 ⟨rfl, b5⟩; have J5 := HJ.out _ _ _ hJs b5; obtain ⟨fn, tmps, assign, body, hy5, hR⟩ := HY.out pre x w5 J5 hplen)
      refine ⟨(fun h => nomatch h), hR.mono ?_⟩
      rintro e W3 (⟨rfl, hJ3, hk3⟩ | ⟨rfl, hJx3⟩)
      · gi_wp2
        gi_roundg rest.length
        case measure => rw [hk]; simp
        case rel => exact ⟨pre ++ [x], rest, rfl, rfl, by rw [HX.out]; simp, hJ3⟩
      · gi_wp2
        refine bodyPost_ret (results_none rfl _ _ _) rfl ?_
        exact ⟨⟨_, rfl⟩, .inr ⟨pre ++ [x], ⟨rest, by rw [HX.out]; simp⟩, hJx3⟩⟩

end Go.Proofs.Ytfmjjickgjkcbaa
