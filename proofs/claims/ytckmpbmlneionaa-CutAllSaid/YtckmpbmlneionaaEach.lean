/- A range over a function whose rounds all go on, and whose body is told which element comes. -/
import Derived.Test.YtckmpbmlneionaaInside
import Derived.RangeFuncNested
import Derived.RangeFuncBound
import Derived.RangeFuncLeaves
import Derived.Shelf.Abstract
import Derived.Shelf.RegionOpen
import Derived.WalkKit
import Derived.OwnWalkIn
import Derived.TacticsInMore
import Derived.LoopNIn
import Derived.LoopIn
import Derived.Sort.LoopGhostIn
namespace Go.Proofs.Ytckmpbmlneionaa
open Go.ChangeShapes Go.WideShapes Go.ChangeAt Go.RowKit Go.Shelf

/-- All but the blocks of X lie as they lay. -/
structure Spare (X : Nat → Prop) (W W' : World) : Prop where
  os : W'.os = W.os
  tape : W'.tape = W.tape
  output : W'.output = W.output
  size : W.heap.size ≤ W'.heap.size
  same : ∀ q, q < W.heap.size → ¬ X q → W'.heap[q]? = W.heap[q]?
theorem Spare.refl (X : Nat → Prop) (W : World) : Spare X W W := ⟨rfl, rfl, rfl, Nat.le_refl _, fun _ _ _ => rfl⟩
theorem Spare.trans {X : Nat → Prop} {A B C : World} (h : Spare X A B) (k : Spare X B C) : Spare X A C :=
  ⟨k.os.trans h.os, k.tape.trans h.tape, k.output.trans h.output, Nat.le_trans h.size k.size, fun q hq hx => (k.same q (Nat.lt_of_lt_of_le hq h.size) hx).trans (h.same q hq hx)⟩
theorem Spare.more {X Y : Nat → Prop} {A B : World} (h : Spare X A B) (hXY : ∀ q, X q → Y q) : Spare Y A B := ⟨h.os, h.tape, h.output, h.size, fun q hq hy => h.same q hq (fun hx => hy (hXY q hx))⟩
theorem Spare.of_below {X : Nat → Prop} {A B : World} (h : Below A.heap.size A B) : Spare X A B := ⟨h.os, h.tape, h.output, h.size, fun q hq _ => h.block q hq⟩
theorem Spare.alloc (X : Nat → Prop) (W : World) (o : Obj) : Spare X W (W.alloc o) := .of_below ((Below.refl _ W).alloc (Nat.le_refl _) o)
theorem Spare.put {X : Nat → Prop} (W : World) {l : Nat} (o : Obj) (hl : X l) : Spare X W (W.putObj l o) := by
  have h := grownBy_putObj' W l o
  exact ⟨h.os, h.tape, h.output, h.size, fun q hq hx => h.block q hq (fun e => hx (by cases e; exact hl))⟩
theorem Spare.cell {X : Nat → Prop} (W : World) {b i : Nat} (v : Value) (hb : X b) : Spare X W (W.setCell ⟨b, i, none⟩ v) :=
  ⟨rfl, rfl, rfl, by simp [World.setCell], fun q _ hx => Below.heap_setCell _ _ _ _ (fun e => hx (by have e2 : q = b := e; rw [e2]; exact hb))⟩
theorem Spare.below {n₀ : Nat} {X : Nat → Prop} {w A B : World} (h : Below n₀ w A) (k : Spare X A B) (hn : n₀ ≤ A.heap.size) (hX : ∀ q, X q → n₀ ≤ q) : Below n₀ w B :=
  ⟨k.os.trans h.os, k.tape.trans h.tape, k.output.trans h.output, Nat.le_trans h.size k.size, fun q hq => (k.same q (by omega) (fun hx => by have := hX q hx; omega)).trans (h.block q hq)⟩
theorem below_drew' {B : Nat} {W W' : World} (h : Below B W.drew W') : Below B W W' := ⟨h.os, h.tape, h.output, h.size, h.block⟩
/-- What is said hangs on the blocks below B alone. -/
def Hangs {β : Type} (B : Nat) (J : β → World → Prop) : Prop := ∀ s V V', J s V → Spare (fun q => B ≤ q) V V' → J s V'

/-- An iterator that tells just xs, as long as each round goes on; what a round may write lies in X. -/
def SeqEach {α : Type} (P : Program) (g : Nat) (lb : Array Value) (encs : α → Array Value) (X : Nat → Prop) (xs : List α) (w : World) : Prop :=
  ∀ (n l : Nat) (J : List α → World → Prop) (W : World), Below w.heap.size w W → l < W.heap.size → Hangs W.heap.size J →
    (∀ m pre x W1, pre ++ [x] <+: xs → J pre W1 → YieldAt Fence.wide m P l (encs x) W1 fun e W' => e = .returned (.bool true) ∧ J (pre ++ [x]) W' ∧ Spare X W1 W') →
    J [] W → CallsIn Fence.wide n P g (#[.func (.yield l) #[] #[]] ++ lb) W fun e W' => (∃ v, e = .returned v) ∧ J xs W'

theorem wp_each {α : Type} {P : Program} {g : Operand} {ps : Array Tmp} {assign body : Code} {Q : Exit → Act → World → Prop} {a : Act} {w : World} {n gf : Nat} {lb : Array Value}
    (hg : a.eval g = .func (.func gf) #[] lb) (eg : ∀ args w, (callFunc gf args).run P w = .ok (.enter gf args) w)
    {encs : α → Array Value} {X : Nat → Prop} {xs : List α} {w0 : World} (hseq : SeqEach P gf lb encs X xs w0) (hX : ∀ q, X q → q < w.heap.size) (hb0 : Below w0.heap.size w0 w) (hps : ∀ x, (encs x).size = ps.size)
    (I : List α → World → Prop) (hI : Hangs w.heap.size I) (h0 : I [] w) (a₁ : α → Act)
    (hassign : ∀ (m l : Nat) (x : α) (W : World) (K : Act → World → Prop), K (a₁ x) W →
      assign.wpIn (Fence.wide.inRound l) m P (Exit.then K (fun _ _ _ => False)) { tmps := (ps.zip (encs x)).foldl (fun t (p, v) => t.setIfInBounds p v) a.tmps, defers := [] } W)
    (hbody : ∀ (m l : Nat) (pre : List α) (x : α) (W : World), pre ++ [x] <+: xs → I pre W → body.wpIn (Fence.wide.inRound l) m P (fun e _ W' => e = .normal ∧ Spare X W W' ∧ I (pre ++ [x]) W') (a₁ x) W)
    (hdone : ∀ (D : Nat) (W : World), w.heap.size ≤ D → I xs W → W.heap[D]? = some (.deferred (some [])) → Q .normal { a with defers := { target := .collected D, args := #[] } :: a.defers } W) :
    (Code.rangeFunc g ps assign body).wpIn Fence.wide n P Q a w := by
  refine wpIn_rangeFunc fun fn hfn => ?_
  obtain ⟨ro, hro⟩ : ∃ ro : LoopState → Loop, ro = fun st => { state := st, pending := none, fn := fn, tmps := a.tmps, params := ps, assign := assign, body := body, defers := w.heap.size } := ⟨_, rfl⟩
  have hst : ∀ st st', { ro st with state := st' } = ro st' := fun st st' => by rw [hro]
  obtain ⟨w1, hw1⟩ : ∃ w1, (w.alloc (.deferred (some []))).alloc (.loop (ro .ready)) = w1 := ⟨_, rfl⟩
  have hz1 : w1.heap.size = w.heap.size + 2 := by rw [← hw1]; simp
  have hr1 : w1.heap[w.heap.size + 1]? = some (.loop (ro .ready)) := by
    have := World.alloc_heap_new (w.alloc (.deferred (some []))) (.loop (ro .ready))
    rw [World.size_alloc, hw1] at this
    exact this
  have hd1 : w1.heap[w.heap.size]? = some (.deferred (some [])) := by
    have := (World.grownBy_alloc (w.alloc (.deferred (some []))) (.loop (ro .ready)) none).block w.heap.size (by simp) (by simp)
    rw [hw1] at this
    exact this.trans (World.alloc_heap_new w _)
  have hB1 : Below w.heap.size w w1 := by rw [← hw1]; exact ((Below.refl _ w).alloc (Nat.le_refl _) _).alloc (by simp) _
  -- the caller's word, with the two blocks of the loop
  have hang : Hangs w1.heap.size (fun (pre : List α) W => I pre W ∧ w.heap.size + 2 ≤ W.heap.size ∧ W.heap[w.heap.size + 1]? = some (.loop (ro .ready)) ∧ W.heap[w.heap.size]? = some (.deferred (some []))) := by
    rintro pre V V' ⟨k1, k2, k3, k4⟩ hs
    rw [hz1] at hs
    refine ⟨hI pre V V' k1 (hs.more (fun q hq => by omega)), Nat.le_trans k2 hs.size, (hs.same _ (by omega) (by omega)).trans k3, (hs.same _ (by omega) (by omega)).trans k4⟩
  refine ⟨w.heap.size + 1, [{ target := .collected w.heap.size, args := #[] }], w1, { target := .fn (.func gf) lb, args := #[.func (.yield (w.heap.size + 1)) #[] #[]] }, w1, gf, #[.func (.yield (w.heap.size + 1)) #[] #[]] ++ lb, w1, ?_, ?_, fun _ _ => trivial, ?_, (fun h => nomatch h), ?_⟩
  · have := run_enterLoop_outer (P := P) (w := w) fn a.tmps ps assign body
    rw [← hw1, hro]
    exact this
  · simp only [resolve, hg]
    simp [go_sem]
  · simp [invoke, go_sem, eg]
  · refine (hseq _ (w.heap.size + 1) _ w1 (hb0.trans (hB1.mono hb0.size)) (by omega) hang ?_ ⟨hI [] w w1 h0 (.of_below hB1), by omega, hr1, hd1⟩).mono ?_
    · rintro m pre x W hpre ⟨k1, k2, k3, k4⟩
      have hy := run_yield (P := P) (args := encs x) k3 (by rw [hro]; exact hps x)
      rw [hro] at hy
      refine ⟨_, _, _, _, hy, roundIn_of_wpIn hfn (hassign m _ x W _ ⟨W.putObj (w.heap.size + 1) (.loop (ro .busy)), ?_, ?_⟩)⟩
      · have := run_beginRound (P := P) k3 (by rw [hro])
        rw [hst] at this
        exact this
      · have hl : w.heap.size + 1 < W.heap.size := by omega
        have j1 : I pre (W.putObj (w.heap.size + 1) (.loop (ro .busy))) := hI pre W _ k1 (.put W _ (by omega))
        have j3 : (W.putObj (w.heap.size + 1) (.loop (ro .busy))).heap[w.heap.size + 1]? = some (.loop (ro .busy)) := World.putObj_heap_same hl
        have hsz2 : (W.putObj (w.heap.size + 1) (.loop (ro .busy))).heap.size = W.heap.size := by simp [World.putObj]
        refine wpIn_mono (hbody m _ pre x _ hpre j1) ?_
        rintro e a3 W3 ⟨rfl, s3, i3⟩
        have hnX : ∀ q, w.heap.size ≤ q → ¬ X q := fun q hq hx => by have := hX q hx; omega
        have r3 : W3.heap[w.heap.size + 1]? = some (.loop (ro .busy)) := (s3.same _ (by rw [hsz2]; omega) (hnX _ (by omega))).trans j3
        have d3 : W3.heap[w.heap.size]? = some (.deferred (some [])) := (s3.same _ (by rw [hsz2]; omega) (hnX _ (by omega))).trans ((World.putObj_heap_other (by omega)).trans k4)
        have he := run_endRound (P := P) none r3
        have hst2 : ({ ro .busy with state := if (none : Option Code).isNone = true then .ready else .done, pending := none } : Loop) = ro .ready := by rw [hro]; rfl
        rw [hst2] at he
        have hs3 := s3.size
        have r4 : (W3.putObj (w.heap.size + 1) (.loop (ro .ready))).heap[w.heap.size + 1]? = some (.loop (ro .ready)) := World.putObj_heap_same (by omega)
        have hz4 : (W3.putObj (w.heap.size + 1) (.loop (ro .ready))).heap.size = W3.heap.size := by simp [World.putObj]
        refine ⟨_, _, he, rfl, ⟨hI _ W3 _ i3 (.put W3 _ (by omega)), by omega, r4, (World.putObj_heap_other (by omega)).trans d3⟩, ?_⟩
        have p1 := grownBy_putObj' W (w.heap.size + 1) (.loop (ro .busy))
        have p2 := grownBy_putObj' W3 (w.heap.size + 1) (.loop (ro .ready))
        refine ⟨p2.os.trans (s3.os.trans p1.os), p2.tape.trans (s3.tape.trans p1.tape), p2.output.trans (s3.output.trans p1.output), by omega, fun q hq hx => ?_⟩
        by_cases e : q = w.heap.size + 1
        · rw [e, r4, k3]
        · exact (World.putObj_heap_other (fun h => e h)).trans ((s3.same q (by omega) hx).trans (World.putObj_heap_other (fun h => e h)))
    · rintro e W2 ⟨⟨v, rfl⟩, k1, k2, k3, k4⟩
      have he := run_endLoop (P := P) k3 (by rw [hro]; simp)
      have hpe : (ro .ready).pending = none := by rw [hro]
      rw [hpe] at he
      refine ⟨none, _, he, hdone w.heap.size _ (Nat.le_refl _) (hI _ W2 _ k1 (.put W2 _ (by omega))) ((World.putObj_heap_other (by omega)).trans k4)⟩

end Go.Proofs.Ytckmpbmlneionaa
