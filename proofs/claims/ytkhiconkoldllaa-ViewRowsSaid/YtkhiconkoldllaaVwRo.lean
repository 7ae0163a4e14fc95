/- Rows of processes that bits name. The law ViewRows: of two rows, what both have is a row, or nothing, and so is what the one has besides. The statement ViewRows: for every input the law returns true, and its arguments read as they did. -/
import Derived.Test.YtkhiconkoldllaaVwA
import Derived.Deep.RegionHeld3
import Derived.Maps.AppendAt
section
namespace Go.Proofs.Ytkhiconkoldllaa.L10
open Go.ChangeShapes Go.WideShapes Go.ChangeAt Go.RowKit

theorem rise_of {a : Int} {xs : List Int} (hp : xs.Pairwise (· < ·)) (hb : ∀ x ∈ xs, a < x ∧ x ≤ 8) : riseB a xs = true := by
  induction xs generalizing a with
  | nil => rfl
  | cons x xs ih =>
    rw [List.pairwise_cons] at hp
    unfold riseB
    rw [Bool.and_eq_true, withinB_iff]
    have h0 := hb x (by simp)
    exact ⟨by omega, ih hp.2 (fun y hy => ⟨hp.1 y hy, (hb y (by simp [hy])).2⟩)⟩
/-- The processes. -/
def eight : List Int := [1, 2, 3, 4, 5, 6, 7, 8]
/-- The first n processes of which f holds. -/
def pickF (f : Int → Bool) (n : Nat) : List Int := (eight.take n).filter f
theorem eight_at {n : Nat} (h : n < 8) : eight[n]? = some ((n : Int) + 1) := by
  match n, h with
  | 0, _ => rfl
  | 1, _ => rfl
  | 2, _ => rfl
  | 3, _ => rfl
  | 4, _ => rfl
  | 5, _ => rfl
  | 6, _ => rfl
  | 7, _ => rfl
theorem pickF_step (f : Int → Bool) {n : Nat} (h : n < 8) : pickF f (n + 1) = if f ((n : Int) + 1) = true then pickF f n ++ [(n : Int) + 1] else pickF f n := by
  unfold pickF
  rw [take_next eight (eight_at h), List.filter_append]
  by_cases hf : f ((n : Int) + 1) = true <;> simp [hf]
theorem pickF_all (f : Int → Bool) : pickF f 8 = eight.filter f := rfl
theorem pickF_len (f : Int → Bool) (n : Nat) : (pickF f n).length ≤ 8 := by
  have h1 := List.length_filter_le f (eight.take n)
  have h2 := List.length_take_le' n eight
  have h3 : eight.length = 8 := rfl
  unfold pickF
  omega
theorem eight_pair : eight.Pairwise (· < ·) := by unfold eight; decide
theorem eight_in : ∀ x ∈ eight, 0 < x ∧ x ≤ 8 := by unfold eight; decide
theorem row_eight (f : Int → Bool) : rowB (eight.filter f) = !(eight.filter f).isEmpty := by
  unfold rowB
  rw [rise_of (eight_pair.filter f) (fun x hx => eight_in x (List.mem_filter.1 hx).1)]
  simp
theorem both_eight (f g : Int → Bool) : (eight.filter f).filter (fun p => (eight.filter g).contains p) = eight.filter (fun p => f p && g p) := by
  rw [List.filter_filter]
  refine List.filter_congr (fun x hx => ?_)
  have : (eight.filter g).contains x = g x := by
    rw [Bool.eq_iff_iff, List.contains_iff_mem, List.mem_filter]
    exact ⟨fun h => h.2, fun h => ⟨hx, h⟩⟩
  rw [this, Bool.and_comm]
theorem only_eight (f g : Int → Bool) : (eight.filter f).filter (fun p => !(eight.filter g).contains p) = eight.filter (fun p => f p && !g p) := by
  rw [List.filter_filter]
  refine List.filter_congr (fun x hx => ?_)
  have : (eight.filter g).contains x = g x := by
    rw [Bool.eq_iff_iff, List.contains_iff_mem, List.mem_filter]
    exact ⟨fun h => h.2, fun h => ⟨hx, h⟩⟩
  rw [this, Bool.and_comm]
theorem both_turn (f g : Int → Bool) : eight.filter (fun p => f p && g p) = eight.filter (fun p => g p && f p) := List.filter_congr (fun _ _ => Bool.and_comm _ _)
theorem split_len (xs : List Int) (q : Int → Bool) : (xs.filter q).length + (xs.filter (fun p => !q p)).length = xs.length := by
  induction xs with
  | nil => rfl
  | cons x xs ih =>
    cases h : q x <;> simp [h] <;> omega
theorem row_eight_pos (f : Int → Bool) : rowB (eight.filter f) = decide (0 < ((eight.filter f).length : Int)) := by
  rw [row_eight]
  cases eight.filter f <;> simp
/-- A view of such a row whose first one made it. -/
theorem right_eight {f : Int → Bool} {x : Int} (e : Int) (hx : (eight.filter f)[0]? = some x) : rightB e x (eight.filter f) = (decide (0 ≤ e) && decide (e ≤ 2147483647)) := by
  have hm : x ∈ eight.filter f := List.mem_of_getElem? hx
  unfold rightB
  rw [row_eight]
  have h1 : (eight.filter f).isEmpty = false := by cases h : eight.filter f with
    | nil => rw [h] at hm; simp at hm
    | cons a b => rfl
  rw [h1, List.contains_iff_mem.2 hm]
  simp
theorem fits_eight (f : Int → Bool) : Fits (eight.filter f) := fun x hx => by have := eight_in x (List.mem_filter.1 hx).1; omega
end Go.Proofs.Ytkhiconkoldllaa.L10
end

section
namespace Go.Proofs.Ytkhiconkoldllaa.L10
open Go.ChangeShapes Go.WideShapes Go.ChangeAt Go.RowKit Go.Shelf Go.Deep

/-- Two rows of the call's own, each in a block of its own. -/
structure RowsAt (W1 wr : World) (v8 : Value) (xs : List Int) (v9 : Value) (ys : List Int) : Prop where
  x : wr.ownsRow W1.heap.size 3 1 v8 xs.length (xs.map (Value.int .i64))
  y : wr.ownsRow W1.heap.size 3 1 v9 ys.length (ys.map (Value.int .i64))
  apart : ∀ q, v8.ownBlock = some q → v9.ownBlock ≠ some q
  below : Below W1.heap.size W1 wr
theorem RowsAt.addX {W1 wr w4 : World} {v8 v9 v2 : Value} {xs ys : List Int} {z : Int} (h : RowsAt W1 wr v8 xs v9 ys)
    (k1 : w4.ownsRow W1.heap.size 3 1 v2 (xs.length + 1) (xs.map (Value.int .i64) ++ [.int .i64 z])) (k2 : (wr.alloc (.cells #[.int .i64 z] 3)).grownBy w4 v8.ownBlock) (k3 : v2.ownBlock = v8.ownBlock ∨ v2.ownBlock = some (wr.alloc (.cells #[.int .i64 z] 3)).heap.size) :
    RowsAt W1 w4 v2 (xs ++ [z]) v9 ys := by
  have hba := (Below.refl wr.heap.size wr).alloc (Nat.le_refl _) (.cells #[.int .i64 z] 3)
  have hy := own_below h.y hba
  have hg2 := grow_trans (World.grownBy_alloc wr (.cells #[.int .i64 z] 3) _) k2
  refine ⟨by simpa using k1, own_same hy (fun g hg => k2.block g (hy.lt g hg).2 (fun e => h.apart g e.symm hg)), fun q e1 e2 => ?_, h.below.grown hg2 h.below.size (fun q e => (h.x.lt q e).1)⟩
  rcases k3 with e | e
  · exact h.apart q (by rw [← e, e1]) e2
  · have := (h.y.lt q e2).2
    rw [e1] at e
    have e3 : q = (wr.alloc (.cells #[.int .i64 z] 3)).heap.size := Option.some.inj e
    simp at e3
    omega
theorem RowsAt.addY {W1 wr w4 : World} {v8 v9 v2 : Value} {xs ys : List Int} {z : Int} (h : RowsAt W1 wr v8 xs v9 ys)
    (k1 : w4.ownsRow W1.heap.size 3 1 v2 (ys.length + 1) (ys.map (Value.int .i64) ++ [.int .i64 z])) (k2 : (wr.alloc (.cells #[.int .i64 z] 3)).grownBy w4 v9.ownBlock) (k3 : v2.ownBlock = v9.ownBlock ∨ v2.ownBlock = some (wr.alloc (.cells #[.int .i64 z] 3)).heap.size) :
    RowsAt W1 w4 v8 xs v2 (ys ++ [z]) := by
  have h' : RowsAt W1 wr v9 ys v8 xs := ⟨h.y, h.x, fun q e1 e2 => h.apart q e2 e1, h.below⟩
  have k := h'.addX k1 k2 k3
  exact ⟨k.y, k.x, fun q e1 e2 => k.apart q e2 e1, k.below⟩
/-- Does a number name a process, by its bit? -/
def bitF (a p : Int) : Bool := bits BinOp.and IntKind.i64 (a / 2 ^ (p - 1).toNat) 1 == 1
theorem bitF_at (a : Int) (n : Nat) : (bits BinOp.and IntKind.i64 (a / 2 ^ n) 1 == 1) = bitF a ((n : Int) + 1) := by
  unfold bitF
  rw [show ((n : Int) + 1 - 1).toNat = n by omega]
def RowsGo (W1 : World) (f g : Int → Bool) (k : Nat) (v8 v9 v10 : Value) (wr : World) : Prop :=
  ∃ n : Nat, k + n = 8 ∧ v10 = .int .i64 ((n : Int) + 1) ∧ RowsAt W1 wr v8 (pickF f n) v9 (pickF g n)

set_option maxRecDepth 100000 in
set_option maxHeartbeats 8000000 in
theorem rows_law (a b e : Int) (w : World) : Calls Try.prog 7 #[.int .i64 a, .int .i64 b, .int .i64 e] w (One w (.bool true)) := by
  obtain ⟨i0, hi, hz0, hz1, hz2⟩ := info_parts info_int10
  have HS := Lib.hid (shown_calls w)
  go_enter Try.func7, Try.ntmps7
  go_wp2_with fail
  refine HS.out.mono ?_
  rintro e' W1 ⟨rfl, b1⟩
  have HB1 := Lib.hid b1
  clear b1 HS
  go_wp2
  have hSt : RowsGo W1 (bitF a) (bitF b) 8 (.slice none 0 0) (.slice none 0 0) (.int .i64 1) W1 := ⟨0, rfl, rfl, World.ownsRow_nil _ _ _ _, World.ownsRow_nil _ _ _ _, fun q e => by simp [Value.ownBlock] at e, Below.refl _ _⟩
  go_loopg [8, 9, 10] 8 (fun k v8 v9 v10 wr => RowsGo W1 (bitF a) (bitF b) k v8 v9 v10 wr)
  case atStart => exact hSt
  case round =>
    clear hSt
    obtain ⟨n, hk, rfl, hR⟩ := hrel
    have H0 := Lib.hid hR
    by_cases hlt : n < 8
    · have j1 : (n : Int) + 1 ≤ 8 := by omega
      have j2 : (0 : Int) ≤ (n : Int) := by omega
      have jw : IntKind.i64.wrap ((n : Int) + 1 - 1) = (n : Int) := by rw [IntKind.wrap_i64]; omega
      have jw2 : IntKind.i64.wrap (n : Int) = (n : Int) := by rw [IntKind.wrap_i64]; omega
      have ha := bitF_at a n
      have hb := bitF_at b n
      have s1 := pickF_step (bitF a) hlt
      have s2 := pickF_step (bitF b) hlt
      have l1 := pickF_len (bitF a) n
      have l2 := pickF_len (bitF b) n
      have HGo : Hid (∀ v2 v3 w4, RowsAt W1 w4 v2 (pickF (bitF a) (n + 1)) v3 (pickF (bitF b) (n + 1)) → RowsGo W1 (bitF a) (bitF b) (gk - 1) v2 v3 (.int .i64 ((n : Int) + 1 + 1)) w4) := fun v2 v3 w4 h => ⟨n + 1, by omega, by simp, h⟩
      have HGk := Lib.hid (show gk - 1 < gk by omega)
      obtain ⟨A8, c8, rfl⟩ := own_slice hR.x
      obtain ⟨A9, c9, rfl⟩ := own_slice hR.y
      have hsz := hR.below.size
      generalize pickF (bitF a) (n + 1) = xs' at *
      generalize pickF (bitF b) (n + 1) = ys' at *
      generalize pickF (bitF a) n = xs at *
      generalize pickF (bitF b) n = ys at *
      generalize bitF a ((n : Int) + 1) = ba at *
      generalize bitF b ((n : Int) + 1) = bb at *
      clear hR hk hlt
      cases ba
      · rw [if_neg (by simp)] at s1
        cases bb
        · rw [if_neg (by simp)] at s2
          subst s1 s2
          go_wp2
          go_roundg (gk - 1)
          case measure => exact HGk.out
          case rel => exact HGo.out _ _ _ H0.out
        · rw [if_pos rfl] at s2
          subst s1 s2
          go_wp2_with (at_builtin; refine wpList_append_own_at _ rfl _ _ 24 rfl W1.heap.size 3 i0 (.int .i64 0) 1 8 Try.underlying24 hi hz0 hz1 hz2 rfl (by decide) (.slice A9 ys.length c9) ys.length (ys.map (Value.int .i64)) rfl (H0.out.y.alloc _) ⟨wr.heap.size, 0, none⟩ 1 1 [.int .i64 ((n : Int) + 1)] rfl rfl (cell_one_new _ _ _) (by simp [Value.oneCell']) (by unfold maxLen; omega) (by omega) (by simp; omega) ?_; intro v2 w4 k1 k2 k3 k4; have h1 : RowsAt W1 w4 (.slice A8 xs'.length c8) xs' v2 (ys ++ [(n : Int) + 1]) := H0.out.addY k1 k2 k4; have H1 := Lib.hid h1; clear k1 k2 k3 k4 h1)
          go_roundg (gk - 1)
          case measure => exact HGk.out
          case rel => exact HGo.out _ _ _ H1.out
      · rw [if_pos rfl] at s1
        cases bb
        · rw [if_neg (by simp)] at s2
          subst s1 s2
          go_wp2_with (at_builtin; refine wpList_append_own_at _ rfl _ _ 24 rfl W1.heap.size 3 i0 (.int .i64 0) 1 8 Try.underlying24 hi hz0 hz1 hz2 rfl (by decide) (.slice A8 xs.length c8) xs.length (xs.map (Value.int .i64)) rfl (H0.out.x.alloc _) ⟨wr.heap.size, 0, none⟩ 1 1 [.int .i64 ((n : Int) + 1)] rfl rfl (cell_one_new _ _ _) (by simp [Value.oneCell']) (by unfold maxLen; omega) (by omega) (by simp; omega) ?_; intro v2 w4 k1 k2 k3 k4; have h1 : RowsAt W1 w4 v2 (xs ++ [(n : Int) + 1]) (.slice A9 ys'.length c9) ys' := H0.out.addX k1 k2 k4; have H1 := Lib.hid h1; clear k1 k2 k3 k4 h1)
          go_roundg (gk - 1)
          case measure => exact HGk.out
          case rel => exact HGo.out _ _ _ H1.out
        · rw [if_pos rfl] at s2
          subst s1 s2
          go_wp2_with (first
            | (at_builtin
               refine wpList_append_own_at _ rfl _ _ 24 rfl W1.heap.size 3 i0 (.int .i64 0) 1 8 Try.underlying24 hi hz0 hz1 hz2 rfl (by decide) (.slice A9 ys.length c9) ys.length (ys.map (Value.int .i64)) rfl (H1.out.y.alloc _) ⟨w4.heap.size, 0, none⟩ 1 1 [.int .i64 ((n : Int) + 1)] rfl rfl (cell_one_new _ _ _) (by simp [Value.oneCell']) (by unfold maxLen; omega) (by omega) (by simp; omega) ?_
               intro v3 w5 k1 k2 k3 k4
               have h2 : RowsAt W1 w5 v2 (xs ++ [(n : Int) + 1]) v3 (ys ++ [(n : Int) + 1]) := H1.out.addY k1 k2 k4
               have H2 := Lib.hid h2
               clear k1 k2 k3 k4 h2)
            | (at_builtin
               refine wpList_append_own_at _ rfl _ _ 24 rfl W1.heap.size 3 i0 (.int .i64 0) 1 8 Try.underlying24 hi hz0 hz1 hz2 rfl (by decide) (.slice A8 xs.length c8) xs.length (xs.map (Value.int .i64)) rfl (H0.out.x.alloc _) ⟨wr.heap.size, 0, none⟩ 1 1 [.int .i64 ((n : Int) + 1)] rfl rfl (cell_one_new _ _ _) (by simp [Value.oneCell']) (by unfold maxLen; omega) (by omega) (by simp; omega) ?_
               intro v2 w4 k1 k2 k3 k4
               have h1 : RowsAt W1 w4 v2 (xs ++ [(n : Int) + 1]) (.slice A9 ys.length c9) ys := H0.out.addX k1 k2 k4
               have H1 := Lib.hid h1
               have hsz4 := H1.out.below.size
               clear k1 k2 k3 k4 h1))
          go_roundg (gk - 1)
          case measure => exact HGk.out
          case rel => exact HGo.out _ _ _ H2.out
    · have hn : n = 8 := by omega
      subst hn
      rw [pickF_all, pickF_all] at hR
      clear H0
      have hsz := hR.below.size
      have hbW := HB1.out.trans (hR.below.mono HB1.out.size)
      have HBw := Lib.hid hbW
      have lx : (eight.filter (bitF a)).length ≤ 8 := pickF_len (bitF a) 8
      have ly : (eight.filter (bitF b)).length ≤ 8 := pickF_len (bitF b) 8
      have hIx := ints_own10 hR.x (fits_eight _) (by omega)
      have hIy := ints_own10 hR.y (fits_eight _) (by omega)
      have q1 := row_eight_pos (bitF a)
      have q2 := row_eight_pos (fun p => bitF a p && bitF b p)
      have q3 := row_eight_pos (fun p => bitF a p && !bitF b p)
      have q4 := both_eight (bitF a) (bitF b)
      have q5 := only_eight (bitF a) (bitF b)
      have q6 := both_eight (bitF b) (bitF a)
      rw [← both_turn (bitF a) (bitF b)] at q6
      have q7 : (eight.filter (fun p => bitF a p && bitF b p)).length + (eight.filter (fun p => bitF a p && !bitF b p)).length = (eight.filter (bitF a)).length := by
        rw [← q4, ← q5]
        exact split_len _ _
      have q8 : ∀ x, (eight.filter (bitF a))[0]? = some x → rightB e x (eight.filter (bitF a)) = (decide (0 ≤ e) && decide (e ≤ 2147483647)) := fun x hx => right_eight e hx
      have fb := fits_eight (fun p => bitF a p && bitF b p)
      have fo := fits_eight (fun p => bitF a p && !bitF b p)
      obtain ⟨A8, c8, rfl⟩ := own_slice hR.x
      obtain ⟨A9, c9, rfl⟩ := own_slice hR.y
      clear hR
      generalize eight.filter (bitF a) = xs at *
      generalize eight.filter (bitF b) = ys at *
      generalize eight.filter (fun p => bitF a p && bitF b p) = bs at *
      generalize eight.filter (fun p => bitF a p && !bitF b p) = os at *
      have HX := Lib.hid (fun (V : World) (hV : Below wr.heap.size wr V) => hIx.below hV)
      have HY := Lib.hid (fun (V : World) (hV : Below wr.heap.size wr V) => hIy.below hV)
      have HL : Hid (xs.length ≤ 8 ∧ ys.length ≤ 8 ∧ bs.length ≤ 8 ∧ os.length ≤ 8) := by refine ⟨lx, ly, ?_, ?_⟩ <;> omega
      have K22 : Hid (∀ V, Below wr.heap.size wr V → Calls Try.prog 22 #[.slice A8 xs.length c8, .slice A9 ys.length c9] V (IntsOut V bs)) := fun V hV => by
        have := both_calls _ _ xs ys V (HX.out V hV) (HY.out V hV) (by omega) (by omega)
        rwa [q4] at this
      have K22' : Hid (∀ V, Below wr.heap.size wr V → Calls Try.prog 22 #[.slice A9 ys.length c9, .slice A8 xs.length c8] V (IntsOut V bs)) := fun V hV => by
        have := both_calls _ _ ys xs V (HY.out V hV) (HX.out V hV) (by omega) (by omega)
        rwa [q6] at this
      have K24 : Hid (∀ V, Below wr.heap.size wr V → Calls Try.prog 24 #[.slice A8 xs.length c8, .slice A9 ys.length c9] V (IntsOut V os)) := fun V hV => by
        have := without_calls _ _ xs ys V (HX.out V hV) (HY.out V hV) (by omega) (by omega)
        rwa [q5] at this
      have Q1 := Lib.hid q1
      have Q2 := Lib.hid q2
      have Q3 := Lib.hid q3
      have Q7 := Lib.hid q7
      have Q8 := Lib.hid q8
      have FB := Lib.hid fb
      have FO := Lib.hid fo
      have hk22 := K22.out wr (Below.refl _ _)
      clear hk hlt hIx hIy q1 q2 q3 q4 q5 q6 q7 q8 fb fo lx ly hbW
      go_wp2_with fail
      refine hk22.mono ?_
      rintro e' V2 ⟨vb, rfl, hvb, b2⟩
      have HB2 := Lib.hid b2
      have HIb := Lib.hid (ints_own10 hvb FB.out (by have := HL.out; omega))
      obtain ⟨Ab, cb, rfl⟩ := own_slice hvb
      have hk24 := K24.out V2 b2
      clear b2 hvb hk22
      go_wp2_with fail
      refine hk24.mono ?_
      rintro e' V3 ⟨vo, rfl, hvo, b3⟩
      have HB3 := Lib.hid (HB2.out.trans (b3.mono HB2.out.size))
      have HIb3 := Lib.hid (fun (V : World) (hV : Below V3.heap.size V3 V) => (HIb.out.below b3).below hV)
      have hIo := ints_own10 hvo FO.out (by have := HL.out; omega)
      have HIo := Lib.hid (fun (V : World) (hV : Below V3.heap.size V3 V) => hIo.below hV)
      have HX3 := Lib.hid (fun (V : World) (hV : Below V3.heap.size V3 V) => HX.out V (HB3.out.trans (hV.mono HB3.out.size)))
      obtain ⟨Ao, co, rfl⟩ := own_slice hvo
      have R1 : Hid (∀ V, Below V3.heap.size V3 V → Calls Try.prog 16 #[.slice A8 xs.length c8] V (fun e' V' => e' = .returned (.bool (decide (0 < (xs.length : Int)))) ∧ V = V')) := fun V hV => by
        have := row_calls _ xs V (HX3.out V hV)
        rwa [Q1.out] at this
      have R2 : Hid (∀ V, Below V3.heap.size V3 V → Calls Try.prog 16 #[.slice Ab bs.length cb] V (fun e' V' => e' = .returned (.bool (decide (0 < (bs.length : Int)))) ∧ V = V')) := fun V hV => by
        have := row_calls _ bs V (HIb3.out V hV)
        rwa [Q2.out] at this
      have R3 : Hid (∀ V, Below V3.heap.size V3 V → Calls Try.prog 16 #[.slice Ao os.length co] V (fun e' V' => e' = .returned (.bool (decide (0 < (os.length : Int)))) ∧ V = V')) := fun V hV => by
        have := row_calls _ os V (HIo.out V hV)
        rwa [Q3.out] at this
      have jw : IntKind.i64.wrap ((bs.length : Int) + (os.length : Int)) = (xs.length : Int) := by rw [IntKind.wrap_i64]; have := Q7.out; have := HL.out; omega
      have r1 := R1.out V3 (Below.refl _ _)
      have r2 := R2.out V3 (Below.refl _ _)
      have r3 := R3.out V3 (Below.refl _ _)
      have hk22 := K22'.out V3 HB3.out
      have hl1 : (xs.length : Int) ≤ 8 := by have := HL.out; omega
      have hl2 : (bs.length : Int) ≤ 8 := by have := HL.out; omega
      have hl3 : (os.length : Int) ≤ 8 := by have := HL.out; omega
      clear hIo hvo b3 hk24
      go_wp2_with fail
      refine r1.mono ?_
      rintro e' V4 ⟨rfl, rfl⟩
      go_wp2_with fail
      refine r2.mono ?_
      rintro e' V5 ⟨rfl, rfl⟩
      go_wp2_with fail
      refine r3.mono ?_
      rintro e' V6 ⟨rfl, rfl⟩
      go_wp2_with fail
      refine hk22.mono ?_
      rintro e' V7 ⟨vz, rfl, hvz, b7⟩
      have HB7 := Lib.hid (HB3.out.trans (b7.mono HB3.out.size))
      have hIz := ints_own10 hvz FB.out (by have := HL.out; omega)
      have hSm := same_calls _ _ bs bs V7 (HIb3.out V7 b7) hIz
      obtain ⟨Az, cz, rfl⟩ := own_slice hvz
      rw [decide_eq_true rfl] at hSm
      have HB37 := Lib.hid b7
      clear b7 hvz hIz
      go_wp2_with fail
      refine hSm.mono ?_
      rintro e' V8 ⟨rfl, b8⟩
      have HB8 := Lib.hid (HB7.out.trans (b8.mono HB7.out.size))
      clear b8 r1 r2 r3 hSm hk22
      by_cases hx0 : xs.length = 0
      · have hx1 : (xs.length : Int) = 0 := by omega
        have hZ := right_calls 0 0 (.slice none 0 0) [] V8 ⟨⟨none, 0, rfl, fun j x hx => by simp at hx⟩, by simp, by simp⟩ (by simp)
        rw [show rightB 0 0 [] = false from rfl] at hZ
        unfold viewV at hZ
        clear hx0
        go_wp2_with (go_at_call 14; refine hZ.mono ?_; rintro e' V9 ⟨rfl, b9⟩)
        go_ret
        have h8 := HBw.out.trans (HB8.out.mono HBw.out.size)
        exact ⟨rfl, h8.trans (b9.mono h8.size)⟩
      · have hx1 : ¬ (xs.length : Int) = 0 := by omega
        have hx2 : (0 : Int) < (xs.length : Int) := by omega
        obtain ⟨x, hx⟩ : ∃ x, xs[0]? = some x := ⟨_, List.getElem?_eq_getElem (by omega)⟩
        have hr := Q8.out x hx
        obtain ⟨A', c', e', hrd⟩ := (HX.out V8 HB8.out).reads
        cases e'
        obtain ⟨ad, rfl, _, hcx⟩ := hrd 0 x hx
        have hcx0 : V8.cell? ad = some (.int .i64 x) := by have := hcx; rwa [show ad.add 0 = ad by unfold Addr.add; rw [if_pos rfl]] at this
        obtain ⟨V9, hV9⟩ : ∃ V9, V8.alloc (.cells #[.int .i64 e, .int .i64 x, .slice (some ad) xs.length c8] 26) = V9 := ⟨_, rfl⟩
        have hb9 : Below V8.heap.size V8 V9 := by rw [← hV9]; exact below_one V8 _
        have hh9 : V9.heap[V8.heap.size]? = some (.cells #[.int .i64 e, .int .i64 x, .slice (some ad) xs.length c8] 26 (0, 0)) := by rw [← hV9]; exact World.alloc_heap_new V8 _
        have hIx9 := fun (V : World) (hV : Below V9.heap.size V9 V) => HX.out V ((HB8.out.trans (hb9.mono HB8.out.size)).trans (hV.mono (Nat.le_trans HB8.out.size hb9.size)))
        have hTm := fun (V : World) (hV : Below V9.heap.size V9 V) => term_calls e x _ xs V (hIx9 V hV) (by have := HL.out; omega)
        have hRt := fun (V : World) (hV : Below V9.heap.size V9 V) => right_calls e x _ xs V (hIx9 V hV) (by have := HL.out; omega)
        have HCe := Lib.hid (fun (V : World) (hV : Below V9.heap.size V9 V) => And.intro (cells_at hh9 hV 0) (And.intro (cells_at hh9 hV 1) (cells_at hh9 hV 2)))
        have HEnd : Hid (∀ V, Below V9.heap.size V9 V → Below w.heap.size w V) := fun V hV => by
          have h8 := HBw.out.trans (HB8.out.mono HBw.out.size)
          have h9 := h8.trans (hb9.mono h8.size)
          exact h9.trans (hV.mono h9.size)
        unfold viewV at hTm hRt
        rw [hr] at hRt
        have HTc := Lib.hid (term_cases e x xs)
        rw [hr] at HTc
        have HTm := Lib.hid hTm
        have HRt := Lib.hid hRt
        clear hx0 hx hrd hr hTm hRt hIx9 hb9 hh9
        obtain ⟨z0, z1, z2⟩ := HCe.out V9 (Below.refl _ _)
        have hT9 := HTm.out V9 (Below.refl _ _)
        obtain ⟨pe, ht, hpe⟩ : ∃ pe : Nat, (termP e x xs).2 = pe ∧ ((decide (0 ≤ e) && decide (e ≤ 2147483647)) = true ∧ pe = 0 ∨ (decide (0 ≤ e) && decide (e ≤ 2147483647)) = false ∧ pe = 1) := by
          rcases HTc.out with ⟨k1, t, k2, _⟩ | ⟨k1, k2⟩
          · exact ⟨0, by rw [k2], .inl ⟨k1, rfl⟩⟩
          · exact ⟨1, by rw [k2], .inr ⟨k1, rfl⟩⟩
        obtain ⟨⟨pt, pe'⟩, htp⟩ : ∃ r, termP e x xs = r := ⟨_, rfl⟩
        rw [htp] at ht hT9
        obtain rfl : pe' = pe := ht
        have HCase : Hid ((0 ≤ e ∧ e ≤ 2147483647 ∧ pe' = 0) ∨ (¬ 0 ≤ e ∧ pe' = 1) ∨ (0 ≤ e ∧ ¬ e ≤ 2147483647 ∧ pe' = 1)) := by
          rcases hpe with ⟨k1, k2⟩ | ⟨k1, k2⟩
          · simp at k1
            exact .inl ⟨k1.1, k1.2, k2⟩
          · simp at k1
            by_cases h0 : 0 ≤ e
            · exact .inr (.inr ⟨h0, by have := k1 h0; omega, k2⟩)
            · exact .inr (.inl ⟨h0, k2⟩)
        clear HTm HTc hpe htp
        go_wp2_with fail
        clear z0 z1 z2 hV9
        refine hT9.mono ?_
        rintro e' V10 ⟨rfl, b10⟩
        have HB10 := Lib.hid b10
        obtain ⟨z0, z1, z2⟩ := HCe.out V10 b10
        have hR1 := HRt.out V10 b10
        clear b10 hT9
        rcases HCase.out with ⟨h0, h1, rfl⟩ | ⟨h0, rfl⟩ | ⟨h0, h1, rfl⟩
        · rw [decide_eq_true h0, decide_eq_true h1] at hR1 HRt
          go_wp2_with fail
          clear z0 z1 z2
          refine hR1.mono ?_
          rintro e' V11 ⟨rfl, b11⟩
          have hb11 := HB10.out.trans (b11.mono HB10.out.size)
          obtain ⟨z0, z1, z2⟩ := HCe.out V11 hb11
          have hR2 := HRt.out V11 hb11
          have HB11 := Lib.hid hb11
          clear b11 hR1 hb11
          go_wp2_with fail
          clear z0 z1 z2
          refine hR2.mono ?_
          rintro e' V12 ⟨rfl, b12⟩
          go_wp2
          go_ret
          exact ⟨by simp, HEnd.out _ (HB11.out.trans (b12.mono HB11.out.size))⟩
        · rw [decide_eq_false (show ¬ 0 ≤ e by omega)] at hR1 HRt
          go_wp2_with fail
          clear z0 z1 z2
          refine hR1.mono ?_
          rintro e' V11 ⟨rfl, b11⟩
          have hb11 := HB10.out.trans (b11.mono HB10.out.size)
          obtain ⟨z0, z1, z2⟩ := HCe.out V11 hb11
          have hR2 := HRt.out V11 hb11
          have HB11 := Lib.hid hb11
          clear b11 hR1 hb11
          go_wp2_with fail
          clear z0 z1 z2
          refine hR2.mono ?_
          rintro e' V12 ⟨rfl, b12⟩
          go_wp2
          go_ret
          exact ⟨by simp, HEnd.out _ (HB11.out.trans (b12.mono HB11.out.size))⟩
        · rw [decide_eq_false (show ¬ e ≤ 2147483647 by omega)] at hR1 HRt
          go_wp2_with fail
          clear z0 z1 z2
          refine hR1.mono ?_
          rintro e' V11 ⟨rfl, b11⟩
          have hb11 := HB10.out.trans (b11.mono HB10.out.size)
          obtain ⟨z0, z1, z2⟩ := HCe.out V11 hb11
          have hR2 := HRt.out V11 hb11
          have HB11 := Lib.hid hb11
          clear b11 hR1 hb11
          go_wp2_with fail
          clear z0 z1 z2
          refine hR2.mono ?_
          rintro e' V12 ⟨rfl, b12⟩
          go_wp2
          go_ret
          exact ⟨by simp; omega, HEnd.out _ (HB11.out.trans (b12.mono HB11.out.size))⟩
end Go.Proofs.Ytkhiconkoldllaa.L10
end

section
namespace Go.Proofs.Ytkhiconkoldllaa
open Go.ChangeShapes Go.WideShapes Go.ChangeAt Go.RowKit

set_option maxRecDepth 100000 in
theorem vrows_lifted (os : Os) (started : os.Started) (H : Type) (enc : TypeId × Value → H) :
    ReturnsInHanded {} Try.checked os 7 .any (Rows.viewRowsSpec.pre6 enc Try.prog Try.f7 Rows.viewRowsRow.domain false) (Rows.viewRowsSpec.post enc Try.prog Try.f7 false true false false) := by
  refine returnsInHanded_of_change (C := Try.checked) L5.own started (by kernel_rfl) Try.func7
    (ChangeSpec.witness6 (enc := enc) (C := Try.checked) false ⟨#[], #[.int .i64 0, .int .i64 0, .int .i64 0], []⟩ 8 (by kernel_rfl) (by kernel_rfl) (by kernel_rfl) (by kernel_rfl)) ?_
  intro W base args ds gs before hval0 hW hcnd _
  have hval : ∀ (j : Nat) t v, Try.f7.params[j]? = some t → args[j]? = some v → Value.okWide Try.prog W .any base t v := hval0
  have hW' := hW
  obtain ⟨p, q, hA0, hV, rfl, hfz, hnd⟩ := hW
  have hA : DataW.TrodAll enc Try.prog W 0 (fun _ => true) true Try.f7.params.toList args.toList ds p := hA0
  rw [Try.params7] at hA hval
  obtain ⟨v0, vs0, d0, ds0, p0, q0, hargs, rfl, rfl, h0, r0⟩ := trodAll_cons hA
  obtain ⟨v1, vs1, d1, ds1, p1, q1, rfl, rfl, rfl, h1, r1⟩ := trodAll_cons r0
  obtain ⟨v2, vs2, d2, ds2, p2, q2, rfl, rfl, rfl, h2, r2⟩ := trodAll_cons r1
  obtain ⟨rfl, rfl, rfl⟩ := trodAll_nil r2
  obtain rfl : args = #[v0, v1, v2] := by cases args; simp_all
  obtain ⟨rfl, rfl⟩ := trodVars_none hV
  obtain ⟨a0, rfl, rfl, rfl, w0⟩ := open_int Try.underlying3 (hval 0 3 v0 rfl rfl) h0
  obtain ⟨a1, rfl, rfl, rfl, w1⟩ := open_int Try.underlying3 (hval 1 3 v1 rfl rfl) h1
  obtain ⟨a2, rfl, rfl, rfl, w2⟩ := open_int Try.underlying3 (hval 2 3 v2 rfl rfl) h2
  clear hA0 hval0
  simp only [List.append_nil] at hW'
  refine (L10.rows_law a0 a1 a2 W).mono fun e W' ⟨he, hg⟩ => ?_
  subst he
  exact ⟨_, rfl, L5.post_law_at (pv := []) hW' (trodAll_cons_mk (shut_bool Try.underlying4 _) trodAll_mk0) (trodAll_cons_mk (shut_int Try.underlying3 w0) (trodAll_cons_mk (shut_int Try.underlying3 w1) (trodAll_cons_mk (shut_int Try.underlying3 w2) trodAll_mk0))) rfl (by simp) hg⟩

theorem vrows_over : Rows.viewRowsRow.holds Try.pinned (OpenSpec.ofChange Rows.viewRowsSpec) :=
  OpenClaim.holds_of_wide 7 Try.f7 rfl rfl rfl rfl rfl rfl rfl ⟨rfl, rfl, rfl, rfl, rfl⟩ rfl rfl rfl rfl rfl (by kernel_rfl) Try.func7 (by kernel_rfl)
    (of_decide_eq_true (by kernel_rfl)) (by unfold Func.isWrapper; first | (rw [if_pos (by decide +kernel)]; kernel_rfl) | (rw [if_neg (by decide +kernel)]; exact ⟨rfl, rfl⟩))
    (fun os started H enc _ => vrows_lifted os started H enc)

theorem vrows_proved : Rows.ViewRowsSaid := vrows_over

end Go.Proofs.Ytkhiconkoldllaa
end
