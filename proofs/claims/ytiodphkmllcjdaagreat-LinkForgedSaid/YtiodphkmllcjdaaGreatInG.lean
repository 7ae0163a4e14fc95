/- Contracts of parts.bytesInside, of the iterator that parts.inside hands back, and of parts.Kind. A range over a function whose rounds all go on, and whose body is told which element comes. Rows from behind: the pieces of which a row's term is put together. Contract of parts.Of: a row of the terms that stand in a right one; none of others. Seals, signatures and texts taken apart. -/
import Derived.Test.YtiodphkmllcjdaaGreatOfPure
import Derived.RangeFuncNested
import Derived.RangeFuncBound
import Derived.RangeFuncCalls
import Derived.RangeFuncLeaves
import Derived.RangeFuncBox
import Derived.Shelf.Abstract
import Derived.Shelf.RegionOpen
import Derived.WalkKit
import Derived.OwnWalkIn
import Derived.TacticsInMore
import Derived.LoopNIn
import Derived.LoopIn
import Derived.Maps.AppendAt
import Derived.Sort.LoopGhostIn
section
namespace Go.Proofs.YtiodphkmllcjdaaGreat
open Go.ChangeShapes Go.WideShapes Go.ChangeAt Go.RowKit Go.Shelf

attribute [local go_sem] Oper.semAt_some

set_option maxHeartbeats 400000 in
theorem Kind_calls (s : ByteArray) (hs : s.size ≤ maxLen) (w : World) :
    Calls Tryz.prog 54 #[.string s] w (One w (.int .u8 (Tm.kindOf s.data.toList).toNat)) := by
  have cR := fun W => Right_calls s hs W
  unfold Tm.kindOf
  cases hr : Tm.right s.data.toList with
  | false =>
    rw [hr] at cR
    have HR := Lib.hid cR
    clear cR hr
    go_enter Tryz.func54, Tryz.ntmps54
    go_wp2_with fail
    refine (HR.out _).mono ?_
    rintro e' w1 ⟨rfl, b1⟩
    go_wp2
    go_ret
    exact ⟨rfl, b1⟩
  | true =>
    rw [hr] at cR
    have hp := (Tm.right_ne_nil hr).2
    rw [len_bytes] at hp
    have hg := getD_bytes s 0 hp
    rw [if_pos rfl, hg]
    have HR := Lib.hid cR
    have i1 : (0 : Int) < (s.size : Int) := by omega
    clear cR hr hg
    go_enter Tryz.func54, Tryz.ntmps54
    go_wp2_with fail
    refine (HR.out _).mono ?_
    rintro e' w1 ⟨rfl, b1⟩
    go_wp2
    go_ret
    exact ⟨rfl, b1⟩

set_option maxRecDepth 100000 in
set_option maxHeartbeats 2000000 in
theorem bytesInside_calls (s : ByteArray) (hs : s.size ≤ maxLen) (hp : 0 < s.size) (h2 : s[0] = 101 → 2 ≤ s.size) (w : World) :
    Calls Tryz.prog 97 #[.string s] w fun e w' => e = .returned (.string ⟨(Tm.bytesIn s.data.toList).toArray⟩) ∧ w = w' := by
  obtain ⟨r, hr⟩ : ∃ r, Tm.bytesIn s.data.toList = r := ⟨_, rfl⟩
  rw [hr]
  unfold Tm.bytesIn at hr
  rw [getD_bytes s 0 hp] at hr
  have e1 := extract_eq s 1 s.size
  rw [List.take_of_length_le (by simp)] at e1
  have e2 := extract_eq s 2 s.size
  rw [List.take_of_length_le (by simp)] at e2
  have E1 := Lib.hid e1
  have E2 := Lib.hid e2
  clear e1 e2
  have i1 : (0 : Int) < (s.size : Int) := by omega
  have i2 : (1 : Int) ≤ (s.size : Int) := by omega
  unfold maxLen at hs
  obtain ⟨c, hc⟩ : ∃ c, s[0] = c := ⟨_, rfl⟩
  rw [hc] at hr h2
  by_cases c1 : c = 101
  · rw [if_pos c1] at hr
    subst hr
    have g1 : ((c.toNat : Int) == 101) = true := u8_yes (n := 101) (by omega) c1
    have i3 : (2 : Int) ≤ (s.size : Int) := by have := h2 c1; omega
    rw [← hc] at g1
    clear h2 c1 hc
    go_enter Tryz.func97, Tryz.ntmps97
    go_wp2
    go_ret
    exact ⟨by rw [E2.out]; rfl, rfl⟩
  · rw [if_neg c1] at hr
    have g1 : ((c.toNat : Int) == 101) = false := u8_no (n := 101) (by omega) c1
    clear h2 c1
    have fin : ∀ (b1 b2 b3 b4 b5 : Bool), ((c.toNat : Int) == 107) = b1 → ((c.toNat : Int) == 112) = b2 → ((c.toNat : Int) == 104) = b3 → ((c.toNat : Int) == 115) = b4 → ((c.toNat : Int) == 120) = b5 →
        r = (if (b1 || b2 || b3 || b4 || b5) = true then s.data.toList.drop 1 else []) →
        Calls Tryz.prog 97 #[.string s] w fun e w' => e = .returned (.string ⟨r.toArray⟩) ∧ w = w' := by
      intro b1 b2 b3 b4 b5 q1 q2 q3 q4 q5 hr2
      subst hr2
      rw [← hc] at g1 q1 q2 q3 q4 q5
      clear hr hc
      cases b1 with
      | true =>
        go_enter Tryz.func97, Tryz.ntmps97
        go_wp2
        go_ret
        exact ⟨by rw [E1.out, List.drop_one]; rfl, rfl⟩
      | false =>
      cases b2 with
      | true =>
        go_enter Tryz.func97, Tryz.ntmps97
        go_wp2
        go_ret
        exact ⟨by rw [E1.out, List.drop_one]; rfl, rfl⟩
      | false =>
      cases b3 with
      | true =>
        go_enter Tryz.func97, Tryz.ntmps97
        go_wp2
        go_ret
        exact ⟨by rw [E1.out, List.drop_one]; rfl, rfl⟩
      | false =>
      cases b4 with
      | true =>
        go_enter Tryz.func97, Tryz.ntmps97
        go_wp2
        go_ret
        exact ⟨by rw [E1.out, List.drop_one]; rfl, rfl⟩
      | false =>
      cases b5 with
      | true =>
        go_enter Tryz.func97, Tryz.ntmps97
        go_wp2
        go_ret
        exact ⟨by rw [E1.out, List.drop_one]; rfl, rfl⟩
      | false =>
        go_enter Tryz.func97, Tryz.ntmps97
        go_wp2
        go_ret
        exact ⟨rfl, rfl⟩
    refine fin _ _ _ _ _ rfl rfl rfl rfl rfl ?_
    rw [← hr]
    have t : ∀ n : Nat, n < 256 → (((c.toNat : Int) == (n : Int)) = true ↔ c = UInt8.ofNat n) := fun n hn => by
      rw [beq_iff_eq]; exact u8_iff c n hn
    have k1 := t 107 (by omega)
    have k2 := t 112 (by omega)
    have k3 := t 104 (by omega)
    have k4 := t 115 (by omega)
    have k5 := t 120 (by omega)
    by_cases h : c = 107 ∨ c = 112 ∨ c = 104 ∨ c = 115 ∨ c = 120
    · rw [if_pos h, if_pos]
      simp only [Bool.or_eq_true]
      rcases h with h | h | h | h | h
      · exact .inl (.inl (.inl (.inl (k1.2 h))))
      · exact .inl (.inl (.inl (.inr (k2.2 h))))
      · exact .inl (.inl (.inr (k3.2 h)))
      · exact .inl (.inr (k4.2 h))
      · exact .inr (k5.2 h)
    · rw [if_neg h, if_neg]
      simp only [Bool.or_eq_true]
      rintro ((((h1 | h1) | h1) | h1) | h1)
      · exact h (.inl (k1.1 h1))
      · exact h (.inr (.inl (k2.1 h1)))
      · exact h (.inr (.inr (.inl (k3.1 h1))))
      · exact h (.inr (.inr (.inr (.inl (k4.1 h1)))))
      · exact h (.inr (.inr (.inr (.inr (k5.1 h1)))))

theorem grown_of_below {w w' : World} (h : Below w.heap.size w w') : w.grownBy w' none := ⟨h.os, h.tape, h.output, h.size, fun k hk _ => h.block k hk⟩

/-- What is still to come of the terms in t. -/
def Telling (ps : List (List UInt8)) (J : List (List UInt8) → World → Prop) (k : Nat) (v3 : Value) (wr : World) : Prop :=
  ∃ pre rest, k = rest.length ∧ v3 = .string ⟨rest.flatten.toArray⟩ ∧ ps = pre ++ rest ∧ J pre wr

set_option maxRecDepth 100000 in
set_option maxHeartbeats 2000000 in
theorem inside1_in (n : Nat) (l Bn n₀ : Nat) (s : ByteArray) (hs : s.size ≤ 20000) (hr : Tm.right s.data.toList = true) (J Jx : List (List UInt8) → World → Prop)
    (hJ : ∀ pre A B, J pre A → Below A.heap.size A B → J pre B)
    (hY : ∀ pre x W, J pre W → pre.length < (Tm.ofL s.data.toList).length → YieldAt Fence.wide (n - 1) Tryz.prog l #[.string ⟨x.toArray⟩] W fun e W' =>
      (e = .returned (.bool true) ∧ J (pre ++ [x]) W' ∧ Below n₀ W W') ∨ (e = .returned (.bool false) ∧ Jx (pre ++ [x]) W'))
    (W : World) (hBn : W.cell? ⟨Bn, 0, none⟩ = some (.string s)) (h0 : J [] W) :
    CallsIn Fence.wide n Tryz.prog 96 #[.func (.yield l) #[] #[], .pointer (some ⟨Bn, 0, none⟩)] W fun e W' => (∃ v, e = .returned v) ∧
      ((∃ ys, ys = Tm.ofL s.data.toList ∧ J ys W') ∨ (∃ pre, pre <+: Tm.ofL s.data.toList ∧ Jx pre W')) := by
  obtain ⟨o1, o2, o3, o4, o5, o6⟩ := Tm.ofL_ok hr
  have hpos := (Tm.right_ne_nil hr).2
  rw [len_bytes] at hpos
  have h2 : s[0] = 101 → 2 ≤ s.size := fun h => by
    have := (Tm.right_power hr (by rw [getD_bytes s 0 hpos]; exact h)).1
    rwa [len_bytes] at this
  have cB := fun W => bytesInside_calls s (by unfold maxLen; omega) hpos h2 W
  rw [Tm.bytesIn_ofL hr] at cB
  have hdep : ∀ x ∈ Tm.ofL s.data.toList, Tm.Good 400 20000 x := fun x hx => ⟨(o2 x hx).1, Tm.depthOf_le x, by have := (o2 x hx).2.2; omega⟩
  have hfl : (Tm.ofL s.data.toList).flatten.length ≤ 20000 := by rw [o1, List.length_drop]; omega
  generalize Tm.ofL s.data.toList = ps at *
  have HB := Lib.hid cB
  have HD := Lib.hid hdep
  have HJ := Lib.hid hJ
  have HY := Lib.hid hY
  clear cB hdep hJ hY o1 o2 o3 o4 o5 o6 hr h2
  refine callsIn_of_wp Tryz.func96 rfl trivial ?_ rfl
  simp only [Tryz.ntmps96, List.size_toArray, List.length_cons, List.length_nil, Nat.reduceAdd, Nat.reduceSub, Array.replicate_succ, Array.replicate_zero, List.push_toArray, List.append_toArray, List.nil_append, List.cons_append]
  gi_wp2_with (refine ⟨trivial, (fun h => nomatch h), ?_⟩; gi_at_call 97; refine (callsIn_wide.2 (HB.out _)).mono ?_; rintro e w' ⟨rfl, rfl⟩)


  gi_loopg [3] ps.length (fun k v3 wr => Telling ps J k v3 wr)
  case atStart => exact ⟨[], ps, rfl, rfl, rfl, h0⟩
  case round =>
    obtain ⟨pre, rest, hk, rfl, hx, hJs⟩ := hrel
    cases rest with
    | nil =>
      simp only [List.flatten_nil]
      gi_wp2
      go_end0
      exact ⟨⟨_, rfl⟩, .inl ⟨pre, by simp [hx], hJs⟩⟩
    | cons x rest =>
      have hxm : x ∈ ps := by rw [hx]; simp
      have hGx := HD.out x hxm
      have hyl : rest.flatten.length ≤ 20000 := by
        rw [hx] at hfl
        simp only [List.flatten_append, List.flatten_cons, List.length_append] at hfl
        omega
      have cT := fun W => take_at hGx rest.flatten (by omega) W
      have hfc : (x :: rest).flatten = x ++ rest.flatten := List.flatten_cons
      rw [hfc]
      have hsz : 0 < (x ++ rest.flatten).length := by
        have := (Tm.right_ne_nil ((Tm.right_iff x).2 hGx.1)).2
        rw [List.length_append]; omega
      obtain ⟨y, hy⟩ : ∃ y, x ++ rest.flatten = y := ⟨_, rfl⟩
      rw [hy] at cT hsz ⊢
      have hne : (y == ([] : List UInt8)) = false := by cases y <;> simp_all
      have HC := Lib.hid cT
      have hplen : pre.length < ps.length := by rw [hx]; simp
      have HX := Lib.hid hx
      clear cT hy hfc hGx hyl hxm hx
      gi_wp2_with (refine ⟨trivial, (fun h => nomatch h), ?_⟩; gi_at_call 76; refine (callsIn_wide.2 (HC.out _)).mono ?_; rintro e' w5 ⟨rfl, b5⟩; have J5 := HJ.out _ _ _ hJs b5; obtain ⟨fn, tmps, assign, body, hy5, hR⟩ := HY.out pre x w5 J5 hplen)
      refine ⟨(fun h => nomatch h), hR.mono ?_⟩
      rintro e W3 (⟨rfl, hJ3, hk3⟩ | ⟨rfl, hJx3⟩)
      · gi_wp2
        gi_roundg rest.length
        case measure => rw [hk]; simp
        case rel => exact ⟨pre ++ [x], rest, rfl, rfl, by rw [HX.out]; simp, hJ3⟩
      · gi_wp2
        refine bodyPost_ret (results_none rfl _ _ _) rfl ?_
        exact ⟨⟨_, rfl⟩, .inr ⟨pre ++ [x], ⟨rest, by rw [HX.out]; simp⟩, hJx3⟩⟩

end Go.Proofs.YtiodphkmllcjdaaGreat
end

section
namespace Go.Proofs.YtiodphkmllcjdaaGreat
open Go.ChangeShapes Go.WideShapes Go.ChangeAt Go.RowKit Go.Shelf

/-- All but the blocks of X lie as they lay. -/
structure Spare (X : Nat → Prop) (W W' : World) : Prop where
  os : W'.os = W.os
  tape : W'.tape = W.tape
  output : W'.output = W.output
  size : W.heap.size ≤ W'.heap.size
  same : ∀ q, q < W.heap.size → ¬ X q → W'.heap[q]? = W.heap[q]?
theorem Spare.refl (X : Nat → Prop) (W : World) : Spare X W W := ⟨rfl, rfl, rfl, Nat.le_refl _, fun _ _ _ => rfl⟩
theorem Spare.trans {X : Nat → Prop} {A B C : World} (h : Spare X A B) (k : Spare X B C) : Spare X A C :=
  ⟨k.os.trans h.os, k.tape.trans h.tape, k.output.trans h.output, Nat.le_trans h.size k.size, fun q hq hx => (k.same q (Nat.lt_of_lt_of_le hq h.size) hx).trans (h.same q hq hx)⟩
theorem Spare.more {X Y : Nat → Prop} {A B : World} (h : Spare X A B) (hXY : ∀ q, X q → Y q) : Spare Y A B := ⟨h.os, h.tape, h.output, h.size, fun q hq hy => h.same q hq (fun hx => hy (hXY q hx))⟩
theorem Spare.of_below {X : Nat → Prop} {A B : World} (h : Below A.heap.size A B) : Spare X A B := ⟨h.os, h.tape, h.output, h.size, fun q hq _ => h.block q hq⟩
theorem Spare.alloc (X : Nat → Prop) (W : World) (o : Obj) : Spare X W (W.alloc o) := .of_below ((Below.refl _ W).alloc (Nat.le_refl _) o)
theorem Spare.put {X : Nat → Prop} (W : World) {l : Nat} (o : Obj) (hl : X l) : Spare X W (W.putObj l o) := by
  have h := grownBy_putObj' W l o
  exact ⟨h.os, h.tape, h.output, h.size, fun q hq hx => h.block q hq (fun e => hx (by cases e; exact hl))⟩
theorem Spare.cell {X : Nat → Prop} (W : World) {b i : Nat} (v : Value) (hb : X b) : Spare X W (W.setCell ⟨b, i, none⟩ v) :=
  ⟨rfl, rfl, rfl, by simp [World.setCell], fun q _ hx => Below.heap_setCell _ _ _ _ (fun e => hx (by have e2 : q = b := e; rw [e2]; exact hb))⟩
theorem Spare.below {n₀ : Nat} {X : Nat → Prop} {w A B : World} (h : Below n₀ w A) (k : Spare X A B) (hn : n₀ ≤ A.heap.size) (hX : ∀ q, X q → n₀ ≤ q) : Below n₀ w B :=
  ⟨k.os.trans h.os, k.tape.trans h.tape, k.output.trans h.output, Nat.le_trans h.size k.size, fun q hq => (k.same q (by omega) (fun hx => by have := hX q hx; omega)).trans (h.block q hq)⟩
theorem below_drew' {B : Nat} {W W' : World} (h : Below B W.drew W') : Below B W W' := ⟨h.os, h.tape, h.output, h.size, h.block⟩
/-- What is said hangs on the blocks below B alone. -/
def Hangs {β : Type} (B : Nat) (J : β → World → Prop) : Prop := ∀ s V V', J s V → Spare (fun q => B ≤ q) V V' → J s V'

/-- An iterator that tells just xs, as long as each round goes on; what a round may write lies in X. -/
def SeqEach {α : Type} (P : Program) (g : Nat) (lb : Array Value) (encs : α → Array Value) (X : Nat → Prop) (xs : List α) (w : World) : Prop :=
  ∀ (n l : Nat) (J : List α → World → Prop) (W : World), Below w.heap.size w W → l < W.heap.size → Hangs W.heap.size J →
    (∀ m pre x W1, pre ++ [x] <+: xs → J pre W1 → YieldAt Fence.wide m P l (encs x) W1 fun e W' => e = .returned (.bool true) ∧ J (pre ++ [x]) W' ∧ Spare X W1 W') →
    J [] W → CallsIn Fence.wide n P g (#[.func (.yield l) #[] #[]] ++ lb) W fun e W' => (∃ v, e = .returned v) ∧ J xs W'

theorem wp_each {α : Type} {P : Program} {g : Operand} {ps : Array Tmp} {assign body : Code} {Q : Exit → Act → World → Prop} {a : Act} {w : World} {n gf : Nat} {lb : Array Value}
    (hg : a.eval g = .func (.func gf) #[] lb) (eg : ∀ args w, (callFunc gf args).run P w = .ok (.enter gf args) w)
    {encs : α → Array Value} {X : Nat → Prop} {xs : List α} {w0 : World} (hseq : SeqEach P gf lb encs X xs w0) (hX : ∀ q, X q → q < w.heap.size) (hb0 : Below w0.heap.size w0 w) (hps : ∀ x, (encs x).size = ps.size)
    (I : List α → World → Prop) (hI : Hangs w.heap.size I) (h0 : I [] w) (a₁ : α → Act)
    (hassign : ∀ (m l : Nat) (x : α) (W : World) (K : Act → World → Prop), K (a₁ x) W →
      assign.wpIn (Fence.wide.inRound l) m P (Exit.then K (fun _ _ _ => False)) { tmps := (ps.zip (encs x)).foldl (fun t (p, v) => t.setIfInBounds p v) a.tmps, defers := [] } W)
    (hbody : ∀ (m l : Nat) (pre : List α) (x : α) (W : World), pre ++ [x] <+: xs → I pre W → body.wpIn (Fence.wide.inRound l) m P (fun e _ W' => e = .normal ∧ Spare X W W' ∧ I (pre ++ [x]) W') (a₁ x) W)
    (hdone : ∀ (D : Nat) (W : World), w.heap.size ≤ D → I xs W → W.heap[D]? = some (.deferred (some [])) → Q .normal { a with defers := { target := .collected D, args := #[] } :: a.defers } W) :
    (Code.rangeFunc g ps assign body).wpIn Fence.wide n P Q a w := by
  refine wpIn_rangeFunc fun fn hfn => ?_
  obtain ⟨ro, hro⟩ : ∃ ro : LoopState → Loop, ro = fun st => { state := st, pending := none, fn := fn, tmps := a.tmps, params := ps, assign := assign, body := body, defers := w.heap.size } := ⟨_, rfl⟩
  have hst : ∀ st st', { ro st with state := st' } = ro st' := fun st st' => by rw [hro]
  obtain ⟨w1, hw1⟩ : ∃ w1, (w.alloc (.deferred (some []))).alloc (.loop (ro .ready)) = w1 := ⟨_, rfl⟩
  have hz1 : w1.heap.size = w.heap.size + 2 := by rw [← hw1]; simp
  have hr1 : w1.heap[w.heap.size + 1]? = some (.loop (ro .ready)) := by
    have := World.alloc_heap_new (w.alloc (.deferred (some []))) (.loop (ro .ready))
    rw [World.size_alloc, hw1] at this
    exact this
  have hd1 : w1.heap[w.heap.size]? = some (.deferred (some [])) := by
    have := (World.grownBy_alloc (w.alloc (.deferred (some []))) (.loop (ro .ready)) none).block w.heap.size (by simp) (by simp)
    rw [hw1] at this
    exact this.trans (World.alloc_heap_new w _)
  have hB1 : Below w.heap.size w w1 := by rw [← hw1]; exact ((Below.refl _ w).alloc (Nat.le_refl _) _).alloc (by simp) _
  -- the caller's word, with the two blocks of the loop
  have hang : Hangs w1.heap.size (fun (pre : List α) W => I pre W ∧ w.heap.size + 2 ≤ W.heap.size ∧ W.heap[w.heap.size + 1]? = some (.loop (ro .ready)) ∧ W.heap[w.heap.size]? = some (.deferred (some []))) := by
    rintro pre V V' ⟨k1, k2, k3, k4⟩ hs
    rw [hz1] at hs
    refine ⟨hI pre V V' k1 (hs.more (fun q hq => by omega)), Nat.le_trans k2 hs.size, (hs.same _ (by omega) (by omega)).trans k3, (hs.same _ (by omega) (by omega)).trans k4⟩
  refine ⟨w.heap.size + 1, [{ target := .collected w.heap.size, args := #[] }], w1, { target := .fn (.func gf) lb, args := #[.func (.yield (w.heap.size + 1)) #[] #[]] }, w1, gf, #[.func (.yield (w.heap.size + 1)) #[] #[]] ++ lb, w1, ?_, ?_, fun _ _ => trivial, ?_, (fun h => nomatch h), ?_⟩
  · have := run_enterLoop_outer (P := P) (w := w) fn a.tmps ps assign body
    rw [← hw1, hro]
    exact this
  · simp only [resolve, hg]
    simp [go_sem]
  · simp [invoke, go_sem, eg]
  · refine (hseq _ (w.heap.size + 1) _ w1 (hb0.trans (hB1.mono hb0.size)) (by omega) hang ?_ ⟨hI [] w w1 h0 (.of_below hB1), by omega, hr1, hd1⟩).mono ?_
    · rintro m pre x W hpre ⟨k1, k2, k3, k4⟩
      have hy := run_yield (P := P) (args := encs x) k3 (by rw [hro]; exact hps x)
      rw [hro] at hy
      refine ⟨_, _, _, _, hy, roundIn_of_wpIn hfn (hassign m _ x W _ ⟨W.putObj (w.heap.size + 1) (.loop (ro .busy)), ?_, ?_⟩)⟩
      · have := run_beginRound (P := P) k3 (by rw [hro])
        rw [hst] at this
        exact this
      · have hl : w.heap.size + 1 < W.heap.size := by omega
        have j1 : I pre (W.putObj (w.heap.size + 1) (.loop (ro .busy))) := hI pre W _ k1 (.put W _ (by omega))
        have j3 : (W.putObj (w.heap.size + 1) (.loop (ro .busy))).heap[w.heap.size + 1]? = some (.loop (ro .busy)) := World.putObj_heap_same hl
        have hsz2 : (W.putObj (w.heap.size + 1) (.loop (ro .busy))).heap.size = W.heap.size := by simp [World.putObj]
        refine wpIn_mono (hbody m _ pre x _ hpre j1) ?_
        rintro e a3 W3 ⟨rfl, s3, i3⟩
        have hnX : ∀ q, w.heap.size ≤ q → ¬ X q := fun q hq hx => by have := hX q hx; omega
        have r3 : W3.heap[w.heap.size + 1]? = some (.loop (ro .busy)) := (s3.same _ (by rw [hsz2]; omega) (hnX _ (by omega))).trans j3
        have d3 : W3.heap[w.heap.size]? = some (.deferred (some [])) := (s3.same _ (by rw [hsz2]; omega) (hnX _ (by omega))).trans ((World.putObj_heap_other (by omega)).trans k4)
        have he := run_endRound (P := P) none r3
        have hst2 : ({ ro .busy with state := if (none : Option Code).isNone = true then .ready else .done, pending := none } : Loop) = ro .ready := by rw [hro]; rfl
        rw [hst2] at he
        have hs3 := s3.size
        have r4 : (W3.putObj (w.heap.size + 1) (.loop (ro .ready))).heap[w.heap.size + 1]? = some (.loop (ro .ready)) := World.putObj_heap_same (by omega)
        have hz4 : (W3.putObj (w.heap.size + 1) (.loop (ro .ready))).heap.size = W3.heap.size := by simp [World.putObj]
        refine ⟨_, _, he, rfl, ⟨hI _ W3 _ i3 (.put W3 _ (by omega)), by omega, r4, (World.putObj_heap_other (by omega)).trans d3⟩, ?_⟩
        have p1 := grownBy_putObj' W (w.heap.size + 1) (.loop (ro .busy))
        have p2 := grownBy_putObj' W3 (w.heap.size + 1) (.loop (ro .ready))
        refine ⟨p2.os.trans (s3.os.trans p1.os), p2.tape.trans (s3.tape.trans p1.tape), p2.output.trans (s3.output.trans p1.output), by omega, fun q hq hx => ?_⟩
        by_cases e : q = w.heap.size + 1
        · rw [e, r4, k3]
        · exact (World.putObj_heap_other (fun h => e h)).trans ((s3.same q (by omega) hx).trans (World.putObj_heap_other (fun h => e h)))
    · rintro e W2 ⟨⟨v, rfl⟩, k1, k2, k3, k4⟩
      have he := run_endLoop (P := P) k3 (by rw [hro]; simp)
      have hpe : (ro .ready).pending = none := by rw [hro]
      rw [hpe] at he
      refine ⟨none, _, he, hdone w.heap.size _ (Nat.le_refl _) (hI _ W2 _ k1 (.put W2 _ (by omega))) ((World.putObj_heap_other (by omega)).trans k4)⟩

end Go.Proofs.YtiodphkmllcjdaaGreat
end

section
namespace Go.Proofs.YtiodphkmllcjdaaGreat
open Go.ChangeShapes Go.WideShapes Go.ChangeAt Go.RowKit Go.Shelf

attribute [local go_sem] Oper.semAt_some

namespace Tm
def num0 : List UInt8 := 117 :: be8 0
/-- The last m of a row, the last one first, each with its place. -/
def back (zs : List (List UInt8)) : Nat → List (Nat × List UInt8)
  | 0 => []
  | m + 1 => back zs m ++ [(zs.length - 1 - m, zs.getD (zs.length - 1 - m) [])]
theorem back_prefix (zs : List (List UInt8)) {m N : Nat} (h : m ≤ N) : back zs m <+: back zs N := by
  induction N with
  | zero => rw [show m = 0 by omega]; exact List.prefix_refl _
  | succ N ih =>
    by_cases e : m = N + 1
    · rw [e]; exact List.prefix_refl _
    · exact (ih (by omega)).trans ⟨_, rfl⟩
def pieces (bs : List (Nat × List UInt8)) : List (List UInt8) := num0 :: bs.flatMap (fun e => [e.2, [112]])
theorem pieces_snoc (bs : List (Nat × List UInt8)) (e : Nat × List UInt8) : pieces (bs ++ [e]) = pieces bs ++ [e.2] ++ [[112]] := by simp [pieces]
theorem pieces_prefix {bs cs : List (Nat × List UInt8)} (h : bs <+: cs) : pieces bs <+: pieces cs := by
  obtain ⟨t, rfl⟩ := h
  exact ⟨t.flatMap (fun e => [e.2, [112]]), by simp [pieces]⟩
/-- A row as bytes. -/
def rowL (zs : List (List UInt8)) : List UInt8 := zs.flatMap (fun z => 112 :: z) ++ num0
def tailL (ps : List (List UInt8)) : List UInt8 := ps.reverse.flatten
theorem tailL_snoc (ps : List (List UInt8)) (x : List UInt8) : tailL (ps ++ [x]) = x ++ tailL ps := by simp [tailL]
theorem tailL_back (zs : List (List UInt8)) {m : Nat} (h : m ≤ zs.length) : tailL (pieces (back zs m)) = rowL (zs.drop (zs.length - m)) := by
  induction m with
  | zero => simp [back, pieces, tailL, rowL]
  | succ m ih =>
    have hk : zs.length - (m + 1) < zs.length := by omega
    have e2 : zs.length - 1 - m = zs.length - (m + 1) := by omega
    show tailL (pieces (back zs m ++ [_])) = _
    rw [pieces_snoc, tailL_snoc, tailL_snoc, ih (by omega), List.drop_eq_getElem_cons hk, show zs.length - (m + 1) + 1 = zs.length - m by omega]
    rw [e2]
    simp [rowL, List.getD, hk]
theorem tailL_all (zs : List (List UInt8)) : tailL (pieces (back zs zs.length)) = rowL zs := by rw [tailL_back zs (Nat.le_refl _), Nat.sub_self, List.drop_zero]
end Tm

/-- A row of texts that can be read, wherever it lies. -/
def ReadsA (X : Nat → Prop) (w : World) (v : Value) (xs : List (List UInt8)) : Prop :=
  ∃ A c, v = .slice A xs.length c ∧ ∀ j x, xs[j]? = some x → ∃ ad : Addr, A = some ad ∧ ad.block < w.heap.size ∧ ¬ X ad.block ∧ w.cell? (ad.add j) = some (.string ⟨x.toArray⟩)
theorem addr_block (ad : Addr) (i : Nat) : (ad.add i).block = ad.block := by unfold Addr.add; split <;> rfl
theorem Spare.at {X : Nat → Prop} {W W' : World} (h : Spare X W W') {a : Addr} (hb : a.block < W.heap.size) (hx : ¬ X a.block) : W'.cell? a = W.cell? a := World.cell?_of_block (h.same a.block hb hx)
theorem ReadsA.spare {X : Nat → Prop} {W W' : World} {v : Value} {xs : List (List UInt8)} (h : ReadsA X W v xs) (hs : Spare X W W') : ReadsA X W' v xs := by
  obtain ⟨A, c, h1, h2⟩ := h
  refine ⟨A, c, h1, fun j x hx => ?_⟩
  obtain ⟨ad, e, k1, k2, k3⟩ := h2 j x hx
  exact ⟨ad, e, Nat.lt_of_lt_of_le k1 hs.size, k2, (hs.at (by rw [addr_block]; exact k1) (by rw [addr_block]; exact k2)).trans k3⟩

def Backing (X : Nat → Prop) (W : World) (zs : List (List UInt8)) (J : List (Nat × List UInt8) → World → Prop) (k : Nat) (v3 : Value) (wr : World) : Prop :=
  ∃ m, k + m = zs.length ∧ v3 = .int .i64 ((k : Int) - 1) ∧ J (Tm.back zs m) wr ∧ Spare X W wr

set_option maxRecDepth 100000 in
set_option maxHeartbeats 2000000 in
theorem backward1_in (n l Bs : Nat) (zs : List (List UInt8)) (v : Value) (X : Nat → Prop) (J : List (Nat × List UInt8) → World → Prop)
    (hY : ∀ m pre x W1, pre ++ [x] <+: Tm.back zs zs.length → J pre W1 → YieldAt Fence.wide m Tryz.prog l #[.int .i64 (x.1 : Int), .string ⟨x.2.toArray⟩] W1 fun e W' => e = .returned (.bool true) ∧ J (pre ++ [x]) W' ∧ Spare X W1 W')
    (W : World) (hBs : W.cell? ⟨Bs, 0, none⟩ = some v) (hBl : Bs < W.heap.size) (hBX : ¬ X Bs) (hR : ReadsA X W v zs) (hlen : zs.length ≤ 1000000) (h0 : J [] W) :
    CallsIn Fence.wide n Tryz.prog 106 #[.func (.yield l) #[] #[], .pointer (some ⟨Bs, 0, none⟩)] W fun e W' => (∃ v, e = .returned v) ∧ J (Tm.back zs zs.length) W' := by
  obtain ⟨A, c, rfl, hcells⟩ := hR
  have HY := Lib.hid hY
  have HC := Lib.hid hcells
  clear hY hcells
  refine callsIn_of_wp Tryz.func106 rfl trivial ?_ rfl
  simp only [Tryz.ntmps106, List.size_toArray, List.length_cons, List.length_nil, Nat.reduceAdd, Nat.reduceSub, Array.replicate_succ, Array.replicate_zero, List.push_toArray, List.append_toArray, List.nil_append, List.cons_append]
  gi_wp2
  gi_loopg [3] zs.length (fun k v3 wr => Backing X W zs J k v3 wr)
  case atStart => exact ⟨0, by omega, rfl, h0, Spare.refl _ _⟩
  case round =>
    obtain ⟨m, hk, rfl, hJs, hs⟩ := hrel
    cases gk with
    | zero =>
      have e : m = zs.length := by omega
      rw [e] at hJs
      have HJ := Lib.hid hJs
      have j1 : ¬ ((0 : Int) ≤ ((0 : Nat) : Int) - 1) := by omega
      clear hJs hs hk
      gi_wp2
      go_end0
      exact ⟨⟨_, rfl⟩, HJ.out⟩
    | succ k =>
      have hkl : k < zs.length := by omega
      have e1 : zs.length - 1 - m = k := by omega
      obtain ⟨x, hx⟩ : ∃ x, zs[k]? = some x := ⟨_, List.getElem?_eq_getElem hkl⟩
      obtain ⟨ad, rfl, a1, a2, a3⟩ := HC.out k x hx
      have hcx := (hs.at (a := ad.add k) (by rw [addr_block]; exact a1) (by rw [addr_block]; exact a2)).trans a3
      have hcb := (hs.at (a := ⟨Bs, 0, none⟩) hBl hBX).trans hBs
      have hbk : Tm.back zs (m + 1) = Tm.back zs m ++ [(k, x)] := by
        show Tm.back zs m ++ [_] = _
        rw [e1]
        simp [List.getD, hx]
      have HYy := Lib.hid (fun mm => HY.out mm (Tm.back zs m) (k, x) wr (by rw [← hbk]; exact Tm.back_prefix zs (by omega)) hJs)
      have HS := Lib.hid (And.intro hs (And.intro hbk hk))
      have j1 : (0 : Int) ≤ ((k + 1 : Nat) : Int) - 1 := by omega
      have j2 : ((k + 1 : Nat) : Int) - 1 = (k : Int) := by omega
      have j3 : (k : Int) < (zs.length : Int) := by omega
      have j4 : (0 : Int) ≤ (k : Int) := by omega
      rw [j2]
      clear hs hbk hk hJs hx a1 a2 a3 e1
      obtain ⟨fn, tmps, assign, body, hy5, hR⟩ := HYy.out (n - 1)
      gi_wp2
      refine ⟨(fun h => nomatch h), hR.mono ?_⟩
      rintro e W3 ⟨rfl, hJ3, hs3⟩
      have hRel : Hid (Backing X W zs J k (.int .i64 ((k : Int) - 1)) W3) := by
        obtain ⟨k1, k2, k3⟩ := HS.out
        exact ⟨m + 1, by omega, rfl, by rw [k2]; exact hJ3, k1.trans hs3⟩
      clear hJ3 hs3 hy5 hR HYy
      gi_wp2
      gi_roundg k
      case measure => omega
      case rel => exact hRel.out

set_option maxHeartbeats 400000 in
theorem backward_calls (v : Value) (A : Option Addr) (len c : Nat) (hv : v = .slice A len c) (w : World) :
    Calls Tryz.prog 104 #[v] w fun e w' => e = .returned (.func (.func 106) #[] #[.pointer (some ⟨w.heap.size, 0, none⟩)]) ∧ w.alloc (.cells #[v] 34) = w' := by
  subst hv
  go_enter Tryz.func104, Tryz.ntmps104
  go_wp2
  go_ret
  exact ⟨rfl, rfl⟩
theorem backward_each (Bs : Nat) (zs : List (List UInt8)) (v : Value) (X : Nat → Prop) (w : World) (hBs : w.cell? ⟨Bs, 0, none⟩ = some v) (hBl : Bs < w.heap.size) (hBX : ¬ X Bs) (hR : ReadsA X w v zs) (hlen : zs.length ≤ 1000000) :
    SeqEach Tryz.prog 106 #[.pointer (some ⟨Bs, 0, none⟩)] (fun x : Nat × List UInt8 => #[.int .i64 (x.1 : Int), .string ⟨x.2.toArray⟩]) X (Tm.back zs zs.length) w := by
  intro n l J W hW _ _ hY h0
  exact backward1_in n l Bs zs v X J hY W ((hW.cell (p := ⟨Bs, 0, none⟩) hBl).trans hBs) (Nat.lt_of_lt_of_le hBl hW.size) hBX (hR.spare (.of_below hW)) hlen h0

end Go.Proofs.YtiodphkmllcjdaaGreat
end

section
namespace Go.Proofs.YtiodphkmllcjdaaGreat
open Go.ChangeShapes Go.WideShapes Go.ChangeAt Go.RowKit Go.Shelf

attribute [local go_sem] Oper.semAt_some


set_option maxHeartbeats 400000 in
theorem inside_calls (s : ByteArray) (w : World) :
    Calls Tryz.prog 75 #[.string s] w fun e w' => e = .returned (.func (.func 96) #[] #[.pointer (some ⟨w.heap.size, 0, none⟩)]) ∧ w.alloc (.cells #[.string s] 46) = w' := by
  go_enter Tryz.func75, Tryz.ntmps75
  go_wp2
  go_ret
  exact ⟨rfl, rfl⟩

theorem inside_stops (n Bn n₀ : Nat) (s : ByteArray) (hs : s.size ≤ 20000) (hr : Tm.right s.data.toList = true) (w : World) (hBn : Bn < w.heap.size) (hc : w.cell? ⟨Bn, 0, none⟩ = some (.string s)) :
    SeqStopsK Fence.wide n Tryz.prog 96 #[.pointer (some ⟨Bn, 0, none⟩)] (fun x : List UInt8 => #[Value.string ⟨x.toArray⟩]) (Below n₀) (fun ys => ys = Tm.ofL s.data.toList) (fun pre => pre <+: Tm.ofL s.data.toList) (Tm.ofL s.data.toList).length w :=
  fun l J Jx W hW hJ _ hY h0 =>
    inside1_in n l Bn n₀ s hs hr J Jx (fun pre A B h hb => hJ pre A B none h (grown_of_below hb) (fun r e => by cases e)) hY W ((hW.cell (p := ⟨Bn, 0, none⟩) hBn).trans hc) h0

def OfOut (w : World) (ps : List (List UInt8)) (e : Ending) (w' : World) : Prop :=
  ∃ v, e = .returned v ∧ w'.ownsRow w.heap.size 46 1 v ps.length (strs ps) ∧ (v = .slice none 0 0 ↔ ps = []) ∧ Below w.heap.size w w'

set_option maxRecDepth 100000 in
set_option maxHeartbeats 4000000 in
theorem Of_right (s : ByteArray) (hr : Tm.right s.data.toList = true) (w : World) :
    Calls Tryz.prog 55 #[.string s] w (OfOut w (Tm.ofL s.data.toList)) := by
  have hs : s.size ≤ 20000 := by have := (Tm.ofL_ok hr).2.2.2.2.2; rwa [len_bytes] at this
  have hlen : (Tm.ofL s.data.toList).length ≤ 32 := by rw [(Tm.ofL_ok hr).2.2.1]; exact (Tm.begin_le _).2
  have cR := fun W => Right_calls s (by unfold maxLen; omega) W
  rw [hr] at cR
  have HR := Lib.hid cR
  obtain ⟨i0, hi, hz0, hz1, hz2⟩ := info_parts info_term
  clear cR
  refine (callsIn_wide (n := 9)).1 ?_
  refine callsIn_of_wp_marks Tryz.func55 rfl trivial ?_ rfl
  simp only [Tryz.ntmps55, List.size_toArray, List.length_cons, List.length_nil, Nat.reduceAdd, Nat.reduceSub, Array.replicate_succ, Array.replicate_zero, List.push_toArray, List.append_toArray, List.nil_append, List.cons_append]
  gi_wp2_with (refine ⟨trivial, ?_⟩; first
    | (gi_at_call 39; refine (callsIn_wide.2 (HR.out _)).mono ?_; rintro e w1 ⟨rfl, b1⟩)
    | (gi_at_call 75; refine (callsIn_wide.2 (inside_calls s _)).mono ?_; rintro e w' ⟨rfl, rfl⟩))
  have hw1 := b1.size
  have bO := Boxed.new w1 34 (.slice none 0 0)
  have bN := Boxed.new (w1.alloc (.cells #[.slice none 0 0] 34)) 46 (.string s)
  rw [World.size_alloc] at bN
  have hB0 : Below w.heap.size w ((w1.alloc (.cells #[.slice none 0 0] 34)).alloc (.cells #[.string s] 46)) := (b1.alloc hw1 _).alloc (by simp; omega) _
  have hstops := inside_stops 8 (w1.heap.size + 1) w.heap.size s hs hr ((w1.alloc (.cells #[.slice none 0 0] 34)).alloc (.cells #[.string s] 46)) (by simp) bN.cell
  generalize Tm.ofL s.data.toList = ps at *
  refine wpIn_rangeFunc_ownG rfl (by omega) (gf := 96) (lb := #[.pointer (some ⟨w1.heap.size + 1, 0, none⟩)]) rfl trivial (enters_of Tryz.func96 (by kernel_rfl) rfl)
    hstops belowK_t (belowK_b (by simp; omega)) (Below.refl _ _) (fun _ => rfl)
    (fun pre W => (∃ v, Boxed W w1.heap.size 34 v ∧ W.ownsRow w.heap.size 46 1 v pre.length (strs pre) ∧ (v = .slice none 0 0 ↔ pre = [])) ∧ Below w.heap.size w W)
    (fun _ _ _ => False)
    (OwnFrom.and (Own.from (holdsRow_own w.heap.size w1.heap.size 34 46 1 (fun pre => pre.length) (fun pre => strs pre) (fun pre v => v = .slice none 0 0 ↔ pre = [])) _) (ownFrom_below (Nat.le_refl _) (by simp; omega)))
    (fun _ _ _ _ _ hs _ _ => hs)
    ⟨⟨_, bO.alloc _, World.ownsRow_nil _ _ _ _, by simp⟩, hB0⟩
    (fun x => { tmps := #[.string s, undef, .slice none 0 0, .pointer (some ⟨w1.heap.size, 0, none⟩), .string ⟨x.toArray⟩, .string s, .bool true, .bool false, .string s, .func (.func 96) #[] #[.pointer (some ⟨w1.heap.size + 1, 0, none⟩)], .string ⟨x.toArray⟩, undef, undef, undef, undef, undef], defers := [] }) ?assign ?body ?done ?stop
  case assign =>
    intro l x W K hK
    gi_wp2
    exact hK
  case body =>
    rintro l pre x W ⟨⟨v, hv, hrow, hnil⟩, hB⟩ hlt
    have hc := hv.cell
    have hsz := hB.size
    gi_wp2_with (gi_at_builtin; refine wpListIn_append_own _ rfl _ _ 34 rfl w.heap.size 46 i0 (.string ⟨#[]⟩) 1 16 Tryz.underlying34 hi hz0 hz1 hz2 rfl (by decide) _ _ _ rfl (hrow.alloc _) ⟨W.heap.size, 0, none⟩ 1 1 [.string ⟨x.toArray⟩] rfl rfl (cell_one_new _ _ _) (by simp [Value.oneCell']) (by unfold maxLen; omega) (by omega) (by simp; omega) ?_; intro v' w2 hown' hgrow _; obtain ⟨g', cap', rfl⟩ := ownsRow_succ hown'; obtain ⟨hv1, hv2, hr2, hk2, hb2⟩ := hv.appended (by decide) hrow hB.size hw1 hown' hgrow; have hc1 := hv1.cell; have hf1 := hv1.frozen)
    exact ⟨hk2.from _, hb2, ⟨_, hv2, by simpa [strs] using hr2, by simp⟩, hB.trans hb2⟩
  case done =>
    rintro D ys W hD rfl ⟨⟨v, hv, hrow, hnil⟩, hB⟩ hK
    have hc := hv.cell
    gi_wp2
    refine ⟨by simp, .inl ⟨_, _, rfl, run_takeDeferred hK, ?_⟩⟩
    exact ⟨_, results_tmp rfl _ _ _, v, rfl, ownsRow_putObj hrow _ hK rfl, hnil, hB.trans (belowK_b (w := w) (Nat.le_refl _) W D _ _ (by simp at hD; omega) hK rfl rfl)⟩
  case stop =>
    rintro D c pre W _ _ h _
    exact h.elim

set_option maxHeartbeats 400000 in
theorem Of_wrong (s : ByteArray) (hs : s.size ≤ maxLen) (hr : Tm.right s.data.toList = false) (w : World) :
    Calls Tryz.prog 55 #[.string s] w (OfOut w []) := by
  have cR := fun W => Right_calls s hs W
  rw [hr] at cR
  have HR := Lib.hid cR
  clear cR hr
  go_enter Tryz.func55, Tryz.ntmps55
  go_wp2_with fail
  refine (HR.out _).mono ?_
  rintro e w1 ⟨rfl, b1⟩
  go_wp2
  go_ret
  exact ⟨_, rfl, World.ownsRow_nil _ _ _ _, by simp, b1⟩

theorem Of_calls (s : ByteArray) (hs : s.size ≤ maxLen) (w : World) :
    Calls Tryz.prog 55 #[.string s] w (OfOut w (Tm.partsOfT s.data.toList)) := by
  unfold Tm.partsOfT
  cases hr : Tm.right s.data.toList with
  | true => rw [if_pos rfl]; exact Of_right s hr w
  | false => exact Of_wrong s hs hr w

end Go.Proofs.YtiodphkmllcjdaaGreat
end

section
namespace Go.Proofs.YtiodphkmllcjdaaGreat
open Go.ChangeShapes Go.WideShapes Go.ChangeAt Go.RowKit

namespace Tm
theorem kind_right {t : List UInt8} {c : UInt8} (h : kindOf t = c) (hc : c ≠ 0) : right t = true ∧ t.getD 0 0 = c := by
  unfold kindOf at h
  split at h
  · rename_i hr; exact ⟨hr, h⟩
  · exact absurd h.symm hc
theorem seal_parts {t : List UInt8} (h : right t = true) (hk : t.getD 0 0 = 115) : ∃ x y z, ofL t = [x, y, z] := by
  have hl := (ofL_ok h).2.2.1
  have hh : headOf t = (1, 3) := by unfold headOf; rw [if_neg (right_ne_nil h).1, hk]; simp
  rw [(head_of_right h).1, hh] at hl
  match hx : ofL t, hl with
  | [x, y, z], _ => exact ⟨x, y, z, rfl⟩
theorem sign_parts {t : List UInt8} (h : right t = true) (hk : t.getD 0 0 = 120) : ∃ x y, ofL t = [x, y] := by
  have hl := (ofL_ok h).2.2.1
  have hh : headOf t = (1, 2) := by unfold headOf; rw [if_neg (right_ne_nil h).1, hk]; simp
  rw [(head_of_right h).1, hh] at hl
  match hx : ofL t, hl with
  | [x, y], _ => exact ⟨x, y, rfl⟩
theorem text_long {t : List UInt8} (h : right t = true) (hk : t.getD 0 0 = 116) : 3 ≤ t.length := by
  obtain ⟨hb, h0⟩ := head_of_right h
  have hh : headOf t = (textHead t, 0) := by unfold headOf; rw [if_neg (right_ne_nil h).1, hk]; simp
  rw [hh] at h0
  unfold textHead at h0
  by_cases hl : t.length < 3
  · rw [if_pos hl] at h0; exact absurd rfl h0
  · omega
def openT (t key : List UInt8) : List UInt8 × List UInt8 × Nat :=
  if kindOf t ≠ 115 then ([], [], 2) else if (ofL t).getD 0 [] ≠ key then ([], [], 6) else ((ofL t).getD 1 [], (ofL t).getD 2 [], 0)
def checkT (t : List UInt8) (p : Int) : List UInt8 × Nat :=
  if kindOf t ≠ 120 then ([], 2) else if p < 1 ∨ 8 < p then ([], 6) else if (ofL t).getD 0 [] ≠ [105, UInt8.ofNat p.toNat] then ([], 6) else ((ofL t).getD 1 [], 0)
def saidT (t : List UInt8) : List UInt8 × Bool := if kindOf t ≠ 116 then ([], false) else (t.drop 3, true)
end Tm

theorem kind_yes {c : UInt8} {n : Nat} (hn : n < 256) (h : c = UInt8.ofNat n) : ((c.toNat : Int) != (n : Int)) = false := by
  have := u8_yes hn h
  simp only [bne, this, Bool.not_true]
theorem kind_no {c : UInt8} {n : Nat} (hn : n < 256) (h : ¬ c = UInt8.ofNat n) : ((c.toNat : Int) != (n : Int)) = true := by
  have := u8_no hn h
  simp only [bne, this, Bool.not_false]

/-- A row that is not empty, as a slice with its texts. -/
theorem row_slice {w : World} {B : Nat} {v : Value} {ps : List (List UInt8)} (h : w.ownsRow B 46 1 v ps.length (strs ps)) (hne : ps ≠ []) :
    ∃ g cap, v = .slice (some ⟨g, 0, none⟩) ps.length cap ∧ Texts w g ps ∧ g < w.heap.size := by
  rcases h.2 with ⟨_, h0⟩ | ⟨g, cap, cur, rfl, _⟩
  · exact absurd (List.length_eq_zero_iff.1 h0) hne
  · exact ⟨g, cap, rfl, texts_of_row h, lt_of_row h⟩

end Go.Proofs.YtiodphkmllcjdaaGreat
end
