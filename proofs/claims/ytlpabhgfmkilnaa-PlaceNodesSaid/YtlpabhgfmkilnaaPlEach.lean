/- A range over a function that tells what is known: each round's element, until one at which the body leaves. -/
import Derived.ChangeSame
import Derived.ChangeMaps5
import Derived.Carry
import Derived.Below
import Derived.ChangeAt
import Derived.RangeFuncNested
import Derived.RangeFuncBound
import Derived.RangeFuncLeaves
import Derived.Shelf.Abstract
import Derived.Shelf.RegionOpen
import Derived.WalkKit
import Derived.OwnWalkIn
import Derived.TacticsInMore
import Derived.LoopNIn
import Derived.LoopIn
import Derived.Sort.LoopGhostIn
namespace Go.Proofs.Ytlpabhgfmkilnaa.L14
open Go.ChangeShapes Go.WideShapes Go.ChangeAt Go.RowKit Go.Shelf

/-- Nothing has changed but what lies at B or above, and not in F. -/
structure Beside (B : Nat) (F : Nat → Prop) (V V' : World) : Prop where
  os : V'.os = V.os
  tape : V'.tape = V.tape
  output : V'.output = V.output
  size : V.heap.size ≤ V'.heap.size
  same : ∀ q, q < V.heap.size → (q < B ∨ F q) → V'.heap[q]? = V.heap[q]?
theorem Beside.refl (B : Nat) (F : Nat → Prop) (V : World) : Beside B F V V := ⟨rfl, rfl, rfl, Nat.le_refl _, fun _ _ _ => rfl⟩
theorem Beside.trans {B : Nat} {F : Nat → Prop} {A C D : World} (h : Beside B F A C) (k : Beside B F C D) : Beside B F A D :=
  ⟨k.os.trans h.os, k.tape.trans h.tape, k.output.trans h.output, Nat.le_trans h.size k.size, fun q hq hx => (k.same q (Nat.lt_of_lt_of_le hq h.size) hx).trans (h.same q hq hx)⟩
theorem Beside.lower {B C : Nat} {F : Nat → Prop} {V V' : World} (h : Beside C F V V') (hb : B ≤ C) : Beside B F V V' := ⟨h.os, h.tape, h.output, h.size, fun q hq hx => h.same q hq (hx.imp_left (fun h => Nat.lt_of_lt_of_le h hb))⟩
theorem Beside.of_below {B : Nat} {F : Nat → Prop} {A C : World} (h : Below A.heap.size A C) : Beside B F A C := ⟨h.os, h.tape, h.output, h.size, fun q hq _ => h.block q hq⟩
theorem Beside.alloc (B : Nat) (F : Nat → Prop) (V : World) (o : Obj) : Beside B F V (V.alloc o) := .of_below ((Below.refl _ V).alloc (Nat.le_refl _) o)
theorem Beside.put {B : Nat} {F : Nat → Prop} (V : World) {l : Nat} (o : Obj) (hl : B ≤ l) (hF : ¬ F l) : Beside B F V (V.putObj l o) := by
  have h := grownBy_putObj' V l o
  refine ⟨h.os, h.tape, h.output, h.size, fun q hq hx => h.block q hq (fun e => ?_)⟩
  cases e
  rcases hx with hx | hx
  · omega
  · exact hF hx
/-- What a round does: it changes only what lies in F; behind it F has no more than it had, and what is new. -/
structure Round (F F' : Nat → Prop) (V V' : World) : Prop where
  os : V'.os = V.os
  tape : V'.tape = V.tape
  output : V'.output = V.output
  size : V.heap.size ≤ V'.heap.size
  same : ∀ q, q < V.heap.size → ¬ F q → V'.heap[q]? = V.heap[q]?
  more : ∀ q, F' q → F q ∨ V.heap.size ≤ q
  low : ∀ q, F' q → q < V'.heap.size
theorem Round.of_below {F : Nat → Prop} {A C : World} (h : Below A.heap.size A C) (hF : ∀ q, F q → q < A.heap.size) : Round F F A C := ⟨h.os, h.tape, h.output, h.size, fun q hq _ => h.block q hq, fun _ h => .inl h, fun q hq => Nat.lt_of_lt_of_le (hF q hq) h.size⟩
theorem Round.trans {F F' F'' : Nat → Prop} {A C D : World} (h : Round F F' A C) (k : Round F' F'' C D) : Round F F'' A D :=
  ⟨k.os.trans h.os, k.tape.trans h.tape, k.output.trans h.output, Nat.le_trans h.size k.size, fun q hq hx => (k.same q (Nat.lt_of_lt_of_le hq h.size) (fun hf => (h.more q hf).elim hx (fun h => by omega))).trans (h.same q hq hx),
    fun q hq => (k.more q hq).elim (fun h' => h.more q h') (fun h' => .inr (Nat.le_trans h.size h')), k.low⟩
/-- .. of a round behind which it goes on. -/
theorem Round.go {F F' : Nat → Prop} {V V' : World} {b : Bool} {l : Nat} (h : Round (fun q => F q ∨ (b = true ∧ q = l)) F' V V') (hm : ∀ q, F' q → F q ∨ V.heap.size ≤ q) (hb : b = false) : Round F F' V V' :=
  ⟨h.os, h.tape, h.output, h.size, fun q hq hx => h.same q hq (fun e => e.elim hx (fun e => by rw [hb] at e; cases e.1)), hm, h.low⟩
/-- What is said hangs on the blocks below B, and on those of F, alone. -/
def Hangs {β : Type} (B : Nat) (J : (Nat → Prop) → β → World → Prop) : Prop := ∀ F s V V', J F s V → Beside B F V V' → J F s V'

/-- A row up to the first one at which s holds, that one with it. -/
def upto {α : Type} (s : α → Bool) : List α → List α
  | [] => []
  | x :: xs => if s x then [x] else x :: upto s xs
theorem upto_never {α : Type} (xs : List α) : upto (fun _ => false) xs = xs := by
  induction xs with
  | nil => rfl
  | cons x xs ih => simp [upto, ih]
theorem upto_none {α : Type} {s : α → Bool} {xs : List α} (h : ∀ x ∈ xs, s x = false) : upto s xs = xs := by
  induction xs with
  | nil => rfl
  | cons x xs ih => rw [upto, h x (by simp), ih (fun y hy => h y (by simp [hy]))]; rfl
theorem upto_some {α : Type} {s : α → Bool} (a b : List α) {x : α} (h : ∀ y ∈ a, s y = false) (hx : s x = true) : upto s (a ++ x :: b) = a ++ [x] := by
  induction a with
  | nil => simp [upto, hx]
  | cons y a ih => rw [List.cons_append, upto, h y (by simp), ih (fun z hz => h z (by simp [hz]))]; rfl
theorem upto_clean {α : Type} {s : α → Bool} (a b : List α) (h : ∀ y ∈ a, s y = false) : upto s (a ++ b) = a ++ upto s b := by
  induction a with
  | nil => rfl
  | cons y a ih => rw [List.cons_append, upto, h y (by simp), ih (fun z hz => h z (by simp [hz]))]; rfl
theorem upto_next {α : Type} {s : α → Bool} (a b : List α) (x : α) (h : ∀ y ∈ a, s y = false) : a ++ [x] <+: upto s (a ++ x :: b) := by
  rw [upto_clean a _ h, upto]
  split
  · exact List.prefix_refl _
  · exact ⟨upto s b, by simp⟩
/-- What has come ahead of an element is none at which it stops. -/
theorem upto_pre {α : Type} {s : α → Bool} {xs pre : List α} {x : α} (h : pre ++ [x] <+: upto s xs) : ∀ y ∈ pre, s y = false := by
  induction xs generalizing pre with
  | nil => simp [upto] at h
  | cons a xs ih =>
    rw [upto] at h
    split at h
    · cases pre with
      | nil => simp
      | cons b pre => have := h.length_le; simp at this
    · rename_i ha
      cases pre with
      | nil => simp
      | cons b pre =>
        rw [List.cons_append, List.cons_prefix_cons] at h
        intro y hy
        rcases List.mem_cons.1 hy with rfl | hy
        · rw [h.1]; simpa using ha
        · exact ih h.2 y hy
/-- It has stopped just at its last one. -/
def stopped {α : Type} (s : α → Bool) (pre : List α) : Bool := pre.any s
theorem stopped_snoc {α : Type} {s : α → Bool} {pre : List α} (x : α) (h : ∀ y ∈ pre, s y = false) : stopped s (pre ++ [x]) = s x := by
  unfold stopped
  rw [List.any_append]
  have : pre.any s = false := by rw [List.any_eq_false]; intro y hy; simp [h y hy]
  rw [this]; simp

/-- An iterator that tells just xs, up to the one behind which a round does not go on; it reads what lies in R. -/
def SeqUpto {α : Type} (P : Program) (g : Nat) (lb : Array Value) (encs : α → Array Value) (R : Nat → Prop) (xs : List α) (w : World) : Prop :=
  ∀ (s : α → Bool) (n l : Nat) (J : (Nat → Prop) → List α → World → Prop) (F : Nat → Prop) (W : World), Below w.heap.size w W → l < W.heap.size → Hangs W.heap.size J → (∀ q, F q → q < W.heap.size ∧ ¬ R q) →
    (∀ m pre x F W1, pre ++ [x] <+: upto s xs → J F pre W1 → YieldAt Fence.wide m P l (encs x) W1 fun e W' => e = .returned (.bool (!s x)) ∧ ∃ F', J F' (pre ++ [x]) W' ∧ (∀ q, F' q → F q ∨ W1.heap.size ≤ q) ∧ Round (fun q => F q ∨ (s x = true ∧ q = l)) F' W1 W') →
    J F [] W → CallsIn Fence.wide n P g (#[.func (.yield l) #[] #[]] ++ lb) W fun e W' => (∃ v, e = .returned v) ∧ ∃ F', J F' (upto s xs) W'

/-- How a round's body is left: on with the next one, or out of the function. -/
def roundEnd {α : Type} (s : α → Bool) (x : α) : Exit → Prop
  | .normal => s x = false
  | .ret => s x = true
  | _ => False
theorem wp_uptoA {α : Type} {P : Program} {g : Operand} {ps : Array Tmp} {assign body : Code} {Q : Exit → Act → World → Prop} {a : Act} {w : World} {n gf : Nat} {lb : Array Value}
    (hg : a.eval g = .func (.func gf) #[] lb) (eg : ∀ args w, (callFunc gf args).run P w = .ok (.enter gf args) w)
    {encs : α → Array Value} {R : Nat → Prop} {xs : List α} {w0 : World} (hseq : SeqUpto P gf lb encs R xs w0) (F0 : Nat → Prop) (hF0 : ∀ q, F0 q → q < w.heap.size ∧ ¬ R q) (hb0 : Below w0.heap.size w0 w) (hps : ∀ x, (encs x).size = ps.size)
    (s : α → Bool) (I : (Nat → Prop) → List α → World → Prop) (hI : Hangs w.heap.size I) (h0 : I F0 [] w)
    (hround : ∀ (m l : Nat) (pre : List α) (x : α) (F : Nat → Prop) (W : World), pre ++ [x] <+: upto s xs → I F pre W → l < W.heap.size → w.heap.size ≤ l → ¬ F l →
      assign.wpIn (Fence.wide.inRound l) m P (Exit.then (fun a₁ W₁ => Below W.heap.size W W₁ ∧ ∀ o, body.wpIn (Fence.wide.inRound l) m P (fun e _ W' => roundEnd s x e ∧ ∃ F', Round F F' (W₁.putObj l o) W' ∧ I F' (pre ++ [x]) W') a₁ (W₁.putObj l o)) (fun _ _ _ => False)) { tmps := (ps.zip (encs x)).foldl (fun t (p, v) => t.setIfInBounds p v) a.tmps, defers := [] } W)
    (hdone : ∀ (D : Nat) (F : Nat → Prop) (W : World), w.heap.size ≤ D → ¬ F D → I F (upto s xs) W → W.heap[D]? = some (.deferred (some [])) → Q (if stopped s (upto s xs) then .ret else .normal) { a with defers := { target := .collected D, args := #[] } :: a.defers } W) :
    (Code.rangeFunc g ps assign body).wpIn Fence.wide n P Q a w := by
  refine wpIn_rangeFunc fun fn hfn => ?_
  obtain ⟨rp, hrp⟩ : ∃ rp : LoopState → Option Code → Loop, rp = fun st p => { state := st, pending := p, fn := fn, tmps := a.tmps, params := ps, assign := assign, body := body, defers := w.heap.size } := ⟨_, rfl⟩
  obtain ⟨ro, hro⟩ : ∃ ro : List α → Loop, ro = fun pre => if stopped s pre then rp .done (some .ret) else rp .ready none := ⟨_, rfl⟩
  have hro0 : ro [] = rp .ready none := by rw [hro]; rfl
  have hst : ∀ st p st', { rp st p with state := st' } = rp st' p := fun st p st' => by rw [hrp]
  obtain ⟨w1, hw1⟩ : ∃ w1, (w.alloc (.deferred (some []))).alloc (.loop (rp .ready none)) = w1 := ⟨_, rfl⟩
  have hz1 : w1.heap.size = w.heap.size + 2 := by rw [← hw1]; simp
  have hr1 : w1.heap[w.heap.size + 1]? = some (.loop (rp .ready none)) := by
    have := World.alloc_heap_new (w.alloc (.deferred (some []))) (.loop (rp .ready none))
    rw [World.size_alloc, hw1] at this
    exact this
  have hd1 : w1.heap[w.heap.size]? = some (.deferred (some [])) := by
    have := (World.grownBy_alloc (w.alloc (.deferred (some []))) (.loop (rp .ready none)) none).block w.heap.size (by simp) (by simp)
    rw [hw1] at this
    exact this.trans (World.alloc_heap_new w _)
  have hB1 : Below w.heap.size w w1 := by rw [← hw1]; exact ((Below.refl _ w).alloc (Nat.le_refl _) _).alloc (by simp) _
  -- the caller's word, with the two blocks of the loop
  have hang : Hangs w1.heap.size (fun (F : Nat → Prop) (pre : List α) W => I F pre W ∧ w.heap.size + 2 ≤ W.heap.size ∧ W.heap[w.heap.size + 1]? = some (.loop (ro pre)) ∧ W.heap[w.heap.size]? = some (.deferred (some [])) ∧ ¬ F w.heap.size ∧ ¬ F (w.heap.size + 1)) := by
    rintro F pre V V' ⟨k1, k2, k3, k4, k5⟩ hs
    rw [hz1] at hs
    exact ⟨hI F pre V V' k1 (hs.lower (by omega)), Nat.le_trans k2 hs.size, (hs.same _ (by omega) (.inl (by omega))).trans k3, (hs.same _ (by omega) (.inl (by omega))).trans k4, k5⟩
  have hF1 : ∀ q, F0 q → q < w1.heap.size ∧ ¬ R q := fun q hq => ⟨by have := (hF0 q hq).1; omega, (hF0 q hq).2⟩
  have hFn : ¬ F0 w.heap.size ∧ ¬ F0 (w.heap.size + 1) := ⟨fun h => by have := (hF0 _ h).1; omega, fun h => by have := (hF0 _ h).1; omega⟩
  refine ⟨w.heap.size + 1, [{ target := .collected w.heap.size, args := #[] }], w1, { target := .fn (.func gf) lb, args := #[.func (.yield (w.heap.size + 1)) #[] #[]] }, w1, gf, #[.func (.yield (w.heap.size + 1)) #[] #[]] ++ lb, w1, ?_, ?_, fun _ _ => trivial, ?_, (fun h => nomatch h), ?_⟩
  · have := run_enterLoop_outer (P := P) (w := w) fn a.tmps ps assign body
    rw [← hw1, hrp]
    exact this
  · simp only [resolve, hg]
    simp [go_sem]
  · simp [invoke, go_sem, eg]
  · refine (hseq s _ (w.heap.size + 1) _ F0 w1 (hb0.trans (hB1.mono hb0.size)) (by omega) hang hF1 ?_ ⟨hI F0 [] w w1 h0 (.of_below hB1), by omega, by rw [hro0]; exact hr1, hd1, hFn⟩).mono ?_
    · rintro m pre x F W hpre ⟨k1, k2, k3, k4, k5, k6⟩
      have hclean := upto_pre hpre
      have hrn : ro pre = rp .ready none := by
        rw [hro]
        have : stopped s pre = false := by unfold stopped; rw [List.any_eq_false]; intro y hy; simp [hclean y hy]
        simp [this]
      rw [hrn] at k3
      have hy := run_yield (P := P) (args := encs x) k3 (by rw [hrp]; exact hps x)
      rw [hrp] at hy
      refine ⟨_, _, _, _, hy, roundIn_of_wpIn hfn (wpIn_mono (hround m _ pre x F W hpre k1 (by omega) (by omega) k6) ?_)⟩
      rintro e1 a1 W1 hq1
      cases e1 with
      | normal =>
        obtain ⟨hB1, hbody⟩ := hq1
        have hl : w.heap.size + 1 < W.heap.size := by omega
        have hz1 := hB1.size
        have kr : W1.heap[w.heap.size + 1]? = some (.loop (rp .ready none)) := (hB1.block _ hl).trans k3
        refine ⟨W1.putObj (w.heap.size + 1) (.loop (rp .busy none)), ?_, ?_⟩
        · have := run_beginRound (P := P) kr (by rw [hrp])
          rw [hst] at this
          exact this
        have j3 : (W1.putObj (w.heap.size + 1) (.loop (rp .busy none))).heap[w.heap.size + 1]? = some (.loop (rp .busy none)) := World.putObj_heap_same (by omega)
        have hsz2 : (W1.putObj (w.heap.size + 1) (.loop (rp .busy none))).heap.size = W1.heap.size := by simp [World.putObj]
        have hsn : ro (pre ++ [x]) = if s x then rp .done (some .ret) else rp .ready none := by rw [hro]; dsimp only; rw [stopped_snoc x hclean]
        refine wpIn_mono (hbody _) ?_
        rintro e a3 W3 ⟨he0, F', s3, i3⟩
        have r3 : W3.heap[w.heap.size + 1]? = some (.loop (rp .busy none)) := (s3.same _ (by rw [hsz2]; omega) k6).trans j3
        have d3 : W3.heap[w.heap.size]? = some (.deferred (some [])) := (s3.same _ (by rw [hsz2]; omega) k5).trans ((World.putObj_heap_other (by omega)).trans ((hB1.block _ (by omega)).trans k4))
        have hs3 := s3.size
        have f5 : ¬ F' w.heap.size := fun h => (s3.more _ h).elim k5 (fun h => by omega)
        have f6 : ¬ F' (w.heap.size + 1) := fun h => (s3.more _ h).elim k6 (fun h => by omega)
        have key : ∀ (jump : Option Code), (jump.isNone = !s x) → ro (pre ++ [x]) = { rp .busy none with state := if jump.isNone then .ready else .done, pending := jump } →
            ∃ v w', (Instr.endRound (w.heap.size + 1) jump).run P W3 = .ok v w' ∧ Ending.returned v = .returned (.bool (!s x)) ∧ ∃ F', (I F' (pre ++ [x]) w' ∧ w.heap.size + 2 ≤ w'.heap.size ∧ w'.heap[w.heap.size + 1]? = some (.loop (ro (pre ++ [x]))) ∧ w'.heap[w.heap.size]? = some (.deferred (some [])) ∧ ¬ F' w.heap.size ∧ ¬ F' (w.heap.size + 1)) ∧ (∀ q, F' q → F q ∨ W.heap.size ≤ q) ∧ Round (fun q => F q ∨ (s x = true ∧ q = w.heap.size + 1)) F' W w' := by
          intro jump hj hr
          have he := run_endRound (P := P) jump r3
          rw [← hr] at he
          have hz4 : (W3.putObj (w.heap.size + 1) (.loop (ro (pre ++ [x])))).heap.size = W3.heap.size := by simp [World.putObj]
          have p1 := grownBy_putObj' W1 (w.heap.size + 1) (.loop (rp .busy none))
          have p2 := grownBy_putObj' W3 (w.heap.size + 1) (.loop (ro (pre ++ [x])))
          have f3 : (W3.putObj (w.heap.size + 1) (.loop (ro (pre ++ [x])))).heap[w.heap.size + 1]? = some (.loop (ro (pre ++ [x]))) := World.putObj_heap_same (by omega)
          refine ⟨_, _, he, by rw [hj], F', ⟨hI F' _ W3 _ i3 (.put W3 _ (by omega) f6), by omega, f3, (World.putObj_heap_other (by omega)).trans d3, f5, f6⟩, fun q hq => (s3.more q hq).imp_right (fun h => by omega), ⟨p2.os.trans (s3.os.trans (p1.os.trans hB1.os)), p2.tape.trans (s3.tape.trans (p1.tape.trans hB1.tape)), p2.output.trans (s3.output.trans (p1.output.trans hB1.output)), by omega, fun q hq hx => ?_, fun q hq => (s3.more q hq).imp (fun h => .inl h) (fun h => by omega), fun q hq => by have := s3.low q hq; omega⟩⟩
          by_cases e : q = w.heap.size + 1
          · cases hsx : s x with
            | true => exact absurd (.inr ⟨hsx, e⟩) hx
            | false => rw [e, f3, k3, hsn, hsx]; rfl
          · exact (World.putObj_heap_other (fun h => e h)).trans ((s3.same q (by omega) (fun h => hx (.inl h))).trans ((World.putObj_heap_other (fun h => e h)).trans (hB1.block q hq)))
        cases e with
        | normal =>
          have hsx : s x = false := he0
          exact key none (by rw [hsx]; rfl) (by rw [hsn, hsx, hrp]; rfl)
        | ret =>
          have hsx : s x = true := he0
          exact key (some .ret) (by rw [hsx]; rfl) (by rw [hsn, hsx, hrp]; rfl)
        | panic c => exact he0.elim
        | exit i => exact he0.elim
        | goto i => exact he0.elim
        | outgrown => exact he0.elim
      | exit i => exact hq1.elim
      | goto i => exact hq1.elim
      | ret => exact hq1.elim
      | panic c => exact hq1.elim
      | outgrown => exact hq1.elim
    · rintro e W2 ⟨⟨v, rfl⟩, F, k1, k2, k3, k4, k5, k6⟩
      have hj : ∀ (j : Option Code), ((ro (upto s xs)).pending = j) → (ro (upto s xs)).state ≠ .busy → ∃ w4, (Instr.endLoop (w.heap.size + 1)).run P W2 = .ok j w4 ∧ I F (upto s xs) w4 ∧ w4.heap[w.heap.size]? = some (.deferred (some [])) := by
        intro j hp hb
        have he := run_endLoop (P := P) k3 hb
        rw [hp] at he
        exact ⟨_, he, hI F _ W2 _ k1 (.put W2 _ (by omega) k6), (World.putObj_heap_other (by omega)).trans k4⟩
      have hd := hdone w.heap.size
      by_cases hs : stopped s (upto s xs) = true
      · obtain ⟨w4, e1, e2, e3⟩ := hj (some .ret) (by rw [hro]; simp [hs, hrp]) (by rw [hro]; simp [hs, hrp])
        have := hd F w4 (Nat.le_refl _) k5 e2 e3
        rw [if_pos hs] at this
        exact ⟨_, _, e1, wpIn_ret this⟩
      · obtain ⟨w4, e1, e2, e3⟩ := hj none (by rw [hro]; simp [hs, hrp]) (by rw [hro]; simp [hs, hrp])
        have := hd F w4 (Nat.le_refl _) k5 e2 e3
        rw [if_neg hs] at this
        exact ⟨_, _, e1, this⟩

theorem wp_upto {α : Type} {P : Program} {g : Operand} {ps : Array Tmp} {assign body : Code} {Q : Exit → Act → World → Prop} {a : Act} {w : World} {n gf : Nat} {lb : Array Value}
    (hg : a.eval g = .func (.func gf) #[] lb) (eg : ∀ args w, (callFunc gf args).run P w = .ok (.enter gf args) w)
    {encs : α → Array Value} {R : Nat → Prop} {xs : List α} {w0 : World} (hseq : SeqUpto P gf lb encs R xs w0) (F0 : Nat → Prop) (hF0 : ∀ q, F0 q → q < w.heap.size ∧ ¬ R q) (hb0 : Below w0.heap.size w0 w) (hps : ∀ x, (encs x).size = ps.size)
    (s : α → Bool) (I : (Nat → Prop) → List α → World → Prop) (hI : Hangs w.heap.size I) (h0 : I F0 [] w) (a₁ : α → Act)
    (hassign : ∀ (m l : Nat) (x : α) (W : World) (K : Act → World → Prop), K (a₁ x) W →
      assign.wpIn (Fence.wide.inRound l) m P (Exit.then K (fun _ _ _ => False)) { tmps := (ps.zip (encs x)).foldl (fun t (p, v) => t.setIfInBounds p v) a.tmps, defers := [] } W)
    (hbody : ∀ (m l : Nat) (pre : List α) (x : α) (F : Nat → Prop) (W : World), pre ++ [x] <+: upto s xs → I F pre W → body.wpIn (Fence.wide.inRound l) m P (fun e _ W' => roundEnd s x e ∧ ∃ F', Round F F' W W' ∧ I F' (pre ++ [x]) W') (a₁ x) W)
    (hdone : ∀ (D : Nat) (F : Nat → Prop) (W : World), w.heap.size ≤ D → ¬ F D → I F (upto s xs) W → W.heap[D]? = some (.deferred (some [])) → Q (if stopped s (upto s xs) then .ret else .normal) { a with defers := { target := .collected D, args := #[] } :: a.defers } W) :
    (Code.rangeFunc g ps assign body).wpIn Fence.wide n P Q a w := by
  refine wp_uptoA hg eg hseq F0 hF0 hb0 hps s I hI h0 (fun m l pre x F W hpre k1 hl hwl hFl => ?_) hdone
  refine hassign m l x W _ ⟨Below.refl _ _, fun o => hbody m l pre x F _ hpre (hI F pre W _ k1 (.put W _ hwl hFl))⟩

end Go.Proofs.Ytlpabhgfmkilnaa.L14
