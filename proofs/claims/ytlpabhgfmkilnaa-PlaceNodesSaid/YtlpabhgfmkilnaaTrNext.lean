/- What changes while a tree is read; the next byte. -/
import Derived.Test.YtlpabhgfmkilnaaTrDep
import Derived.Lib.Builder
namespace Go.Proofs.Ytlpabhgfmkilnaa.L13
open Go.ChangeShapes Go.WideShapes Go.ChangeAt Go.RowKit Go.Deep

attribute [local go_sem] store_func13
/-- All that is not of O lies as it lay. -/
structure Fr (O : Nat → Prop) (w W : World) : Prop where
  os : W.os = w.os
  tape : W.tape = w.tape
  output : W.output = w.output
  size : w.heap.size ≤ W.heap.size
  block : ∀ q, q < w.heap.size → ¬ O q → W.heap[q]? = w.heap[q]?
theorem Fr.refl (O : Nat → Prop) (w : World) : Fr O w w := ⟨rfl, rfl, rfl, Nat.le_refl _, fun _ _ _ => rfl⟩
theorem Fr.of_below {O : Nat → Prop} {w W : World} (h : Below w.heap.size w W) : Fr O w W := ⟨h.os, h.tape, h.output, h.size, fun q hq _ => h.block q hq⟩
theorem Fr.trans {O : Nat → Prop} {w W V : World} (h : Fr O w W) (k : Fr O W V) : Fr O w V :=
  ⟨k.os.trans h.os, k.tape.trans h.tape, k.output.trans h.output, Nat.le_trans h.size k.size, fun q hq hO => (k.block q (Nat.lt_of_lt_of_le hq h.size) hO).trans (h.block q hq hO)⟩
theorem Fr.then {O : Nat → Prop} {w W V : World} (h : Fr O w W) (k : Below W.heap.size W V) : Fr O w V := h.trans (.of_below k)
theorem Fr.set {O : Nat → Prop} {w W : World} (h : Fr O w W) (p : Addr) (u : Value) (hs : O p.block) : Fr O w (W.setCell p u) :=
  ⟨h.os, h.tape, h.output, by have := h.size; simpa using this, fun q hq hO => (Below.heap_setCell _ _ _ _ (fun e => by subst e; exact hO hs)).trans (h.block q hq hO)⟩
theorem Fr.below {O : Nat → Prop} {B : Nat} {w W : World} (h : Fr O w W) (hs : ∀ q, O q → B ≤ q) (hB : B ≤ w.heap.size) : Below B w W := ⟨h.os, h.tape, h.output, h.size, fun q hq => h.block q (by omega) (fun e => by have := hs q e; omega)⟩
theorem Fr.drewN {O : Nat → Prop} {w W : World} (h : Fr O w W) (n : Nat) : Fr O w (W.drewN n) := ⟨h.os, h.tape, h.output, h.size, h.block⟩
theorem TreeAt.fr {O : Nat → Prop} {w W : World} {t : Tr} {a : Nat} {F : List Nat} (h : TreeAt w t a F) (hF : Fr O w W) (hO : ∀ q ∈ F, ¬ O q) : TreeAt W t a F := h.same (fun q hq => hF.block q (h.lt q hq) (hO q hq))
theorem set_blk {W : World} {b i : Nat} {cs : Array Value} {t : TypeId} {fr : Nat × Nat} (h : W.heap[b]? = some (.cells cs t fr)) (v : Value) : (W.setCell ⟨b, i, none⟩ v).heap[b]? = some (.cells (cs.setIfInBounds i v) t fr) := by
  obtain ⟨hlt, hk⟩ := Array.getElem?_eq_some_iff.1 h
  show (W.heap.modify b _)[b]? = _
  rw [Array.getElem?_eq_getElem (by rw [Array.size_modify]; exact hlt), Array.getElem_modify_self, hk]
  rfl
theorem frozen_of {w : World} {a : Nat} {cs : Array Value} {T : TypeId} (h : w.heap[a]? = some (.cells cs T (0, 0))) (j : Nat) : w.frozen? ⟨a, j, none⟩ = false := by simp [World.frozen?, h]

def seenC (s : List Nat) : List Value := (List.range 9).map (fun j => .bool (decide (j ∈ s)))
theorem seen_get (s : List Nat) (j : Nat) (h : j < 9) : (seenC s).toArray[j]? = some (.bool (decide (j ∈ s))) := by
  simp [seenC, h]
theorem seen_set (s : List Nat) (p : Nat) : (seenC s).toArray.setIfInBounds p (.bool true) = (seenC (p :: s)).toArray := by
  rw [List.setIfInBounds_toArray]
  congr 1
  refine List.ext_getElem? fun j => ?_
  by_cases hj : j < 9
  · by_cases e : p = j
    · subst e
      simp [seenC, hj]
    · rw [List.getElem?_set_ne e]
      simp [seenC, hj, Ne.symm e]
  · rw [List.getElem?_eq_none (by simp [seenC]; omega), List.getElem?_eq_none (by simp [seenC]; omega)]
/-- A text under way: what is left of it lies at block B, who was seen at the next one, then next and one. -/
structure RdSt (B : Nat) (w : World) (x : List UInt8) (s : List Nat) : Prop where
  rest : w.heap[B]? = some (.cells #[.string ⟨x.toArray⟩] 23 (0, 0))
  seen : w.heap[B + 1]? = some (.cells (seenC s).toArray 66 (0, 0))
  next : w.heap[B + 2]? = some (.cells #[.func (.func 39) #[] #[.pointer (some ⟨B, 0, none⟩)]] 67 (0, 0))
  one : w.heap[B + 3]? = some (.cells #[.func (.func 40) #[] #[.pointer (some ⟨B + 2, 0, none⟩), .pointer (some ⟨B + 1, 0, none⟩), .pointer (some ⟨B + 3, 0, none⟩)]] 68 (0, 0))
def RdO (B : Nat) (q : Nat) : Prop := q = B ∨ q = B + 1
theorem RdSt.same {B : Nat} {w W : World} {x : List UInt8} {s : List Nat} (h : RdSt B w x s) (hs : ∀ q, B ≤ q → q < B + 4 → W.heap[q]? = w.heap[q]?) : RdSt B W x s :=
  ⟨(hs B (by omega) (by omega)).trans h.rest, (hs _ (by omega) (by omega)).trans h.seen, (hs _ (by omega) (by omega)).trans h.next, (hs _ (by omega) (by omega)).trans h.one⟩
theorem RdSt.lt {B : Nat} {w : World} {x : List UInt8} {s : List Nat} (h : RdSt B w x s) : B + 4 ≤ w.heap.size := (Array.getElem?_eq_some_iff.1 h.one).1
theorem RdSt.later {B : Nat} {w W : World} {x : List UInt8} {s : List Nat} (h : RdSt B w x s) (hb : Below w.heap.size w W) : RdSt B W x s := h.same (fun q _ h4 => hb.block q (by have := h.lt; omega))
theorem RdSt.text {B : Nat} {w : World} {x y : List UInt8} {s : List Nat} (h : RdSt B w x s) : RdSt B (w.setCell ⟨B, 0, none⟩ (.string ⟨y.toArray⟩)) y s :=
  ⟨set_blk h.rest _, (Below.heap_setCell _ _ _ _ (by show B + 1 ≠ B; omega)).trans h.seen, (Below.heap_setCell _ _ _ _ (by show B + 2 ≠ B; omega)).trans h.next, (Below.heap_setCell _ _ _ _ (by show B + 3 ≠ B; omega)).trans h.one⟩
theorem RdSt.mark {B : Nat} {w : World} {x : List UInt8} {s : List Nat} (h : RdSt B w x s) (p : Nat) : RdSt B (w.setCell ⟨B + 1, p, none⟩ (.bool true)) x (p :: s) :=
  ⟨(Below.heap_setCell _ _ _ _ (by show B ≠ B + 1; omega)).trans h.rest, (set_blk h.seen _).trans (by rw [seen_set]), (Below.heap_setCell _ _ _ _ (by show B + 2 ≠ B + 1; omega)).trans h.next, (Below.heap_setCell _ _ _ _ (by show B + 3 ≠ B + 1; omega)).trans h.one⟩

set_option maxHeartbeats 400000 in
theorem next_none {B : Nat} {w : World} {s : List Nat} (h : RdSt B w [] s) : Calls Try.prog 39 #[.pointer (some ⟨B, 0, none⟩)] w fun e w' => e = .returned (.int .u8 0) ∧ w' = w := by
  have h0 : w.cell? ⟨B, 0, none⟩ = some (.string ⟨#[]⟩) := by rw [cells_of h.rest]; rfl
  clear h
  go_enter Try.func39, Try.ntmps39
  go_wp2
  go_ret
  exact ⟨rfl, rfl⟩
set_option maxHeartbeats 400000 in
theorem next_calls {B : Nat} {w : World} {b : UInt8} {x : List UInt8} {s : List Nat} (h : RdSt B w (b :: x) s) (hx : x.length ≤ 100) : Calls Try.prog 39 #[.pointer (some ⟨B, 0, none⟩)] w fun e w' => e = .returned (.int .u8 b.toNat) ∧ RdSt B w' x s ∧ Fr (RdO B) w w' := by
  have h0 : w.cell? ⟨B, 0, none⟩ = some (.string ⟨(b :: x).toArray⟩) := by rw [cells_of h.rest]; rfl
  have f0 := frozen_of h.rest 0
  have HR := Lib.hid (And.intro (h.text (y := x)) ((Fr.refl (RdO B) w).set ⟨B, 0, none⟩ (.string ⟨x.toArray⟩) (.inl rfl)))
  clear h
  obtain ⟨t, ht⟩ : ∃ t : ByteArray, ⟨(b :: x).toArray⟩ = t := ⟨_, rfl⟩
  rw [ht] at h0
  have h1 : 0 < t.size := by rw [← ht]; simp [ByteArray.size]
  have h2 : t.size ≤ 101 := by rw [← ht]; simp [ByteArray.size]; omega
  have hb : t[0] = b := by subst ht; rfl
  have he : t.extract 1 t.size = ⟨x.toArray⟩ := by
    subst ht
    rw [extract_eq]
    simp [ByteArray.size]
  have he1 : (t.toList == ([] : List UInt8)) = false := isEmpty_no t h1
  have he' : ¬ t.toList = [] := by simpa using he1
  have he2 : (t.toList.isEmpty) = false := by simpa using he1
  have h1' : (0 : Int) < (t.size : Int) := by omega
  have HE := Lib.hid (And.intro hb he)
  clear ht hb he
  go_enter Try.func39, Try.ntmps39
  go_wp2
  go_ret
  rw [HE.out.2, HE.out.1]
  exact ⟨rfl, HR.out⟩
end Go.Proofs.Ytlpabhgfmkilnaa.L13
