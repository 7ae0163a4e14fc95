/- What the texts of layer 13 take of the elder texts: rows of ints, and the contracts of view and of the document's rows. -/
import Derived.Below
import Derived.Laws.Strings
import Derived.Test.YtlpabhgfmkilnaaRows
import Derived.WalkKit
import Derived.ProofKit
import Derived.OpenShut
import Derived.Lib.Hide
import Derived.Deep.QuietTactic
import Derived.BigQuiet
import Derived.Deep.AppendLies
import Derived.Laws.OwnMore
import Derived.Maps.AppendAt
import Derived.Deep.LoopGhost
import Derived.WalkMore
import Derived.Lib.UnsafeStr
import Derived.Lib.Builder
import Derived.Lib.AppendStr
import Derived.ChangeSame
import Derived.ChangeMaps5
import Derived.RangeFuncNested
import Derived.RangeFuncBound
import Derived.RangeFuncLeaves
import Derived.Shelf.Abstract
import Derived.Shelf.RegionOpen
import Derived.OwnWalkIn
import Derived.TacticsInMore
import Derived.LoopNIn
import Derived.LoopIn
import Derived.Sort.LoopGhostIn
import Derived.Test.YtlpabhgfmkilnaaShelfV
import Derived.RangeFuncBox
import Derived.Sort.OwnSortedInts
import Derived.Deep.RegionWith
import Derived.Deep.RegionHeld3
import Derived.Laws.MakeOwn
import Derived.Laws.AppendOwnNone
import Derived.Laws.Shifts
import Derived.Deep.Slices
import Derived.Deep.Fields
import Derived.Carry
import Derived.Test.YtlpabhgfmkilnaaChecked
import Derived.ChangeSlices
section
namespace Go.Proofs.Ytlpabhgfmkilnaa.Tm
def element : List UInt8 → Bool
  | [] => false
  | c :: _ => c == 103 || c == 101
def textHead (l : List UInt8) : Nat :=
  if l.length < 3 then 0
  else if 100 < (l.getD 1 0).toNat * 256 + (l.getD 2 0).toNat then 0
  else 3 + ((l.getD 1 0).toNat * 256 + (l.getD 2 0).toNat)
/-- How many bytes stand ahead of a term's parts, and how many parts. -/
def headOf (l : List UInt8) : Nat × Nat :=
  if l = [] then (0, 0)
  else if l.getD 0 0 = 103 then (1, 0)
  else if l.getD 0 0 = 110 ∨ l.getD 0 0 = 117 then (9, 0)
  else if l.getD 0 0 = 116 then (textHead l, 0)
  else if l.getD 0 0 = 105 then (if 2 ≤ l.length ∧ 1 ≤ (l.getD 1 0).toNat ∧ (l.getD 1 0).toNat ≤ 8 then (2, 0) else (0, 0))
  else if l.getD 0 0 = 101 then (if 2 ≤ l.length ∧ 1 ≤ (l.getD 1 0).toNat ∧ (l.getD 1 0).toNat ≤ 32 then (2, (l.getD 1 0).toNat) else (0, 0))
  else if l.getD 0 0 = 107 ∨ l.getD 0 0 = 104 then (1, 1)
  else if l.getD 0 0 = 112 ∨ l.getD 0 0 = 120 then (1, 2)
  else if l.getD 0 0 = 115 then (1, 3)
  else (0, 0)
def begin_ (l : List UInt8) : Nat × Nat := if l.length < (headOf l).1 then (0, 0) else headOf l
theorem textHead_le (l : List UInt8) : textHead l ≤ 103 := by
  unfold textHead; split <;> (try split) <;> omega
theorem headOf_le (l : List UInt8) : (headOf l).1 ≤ 103 ∧ (headOf l).2 ≤ 32 := by
  unfold headOf
  have h := textHead_le l
  repeat' split
  all_goals simp_all
theorem begin_le (l : List UInt8) : (begin_ l).1 ≤ l.length ∧ (begin_ l).2 ≤ 32 := by
  unfold begin_
  have h := headOf_le l
  split
  · simp
  · exact ⟨by omega, h.2⟩
/-- A term that has begun: its kind, how many parts are still to come, where the part that is read begins, the part ahead of it. -/
structure Fr where
  kind : UInt8
  left : Nat
  frm : Nat
  ahead : List UInt8
def less (a b : List UInt8) : Bool := Op.bytesLess a b
def inKey : List Fr → Bool
  | [] => false
  | f :: _ => f.kind == 107
/-- The machine: the terms that are open, the innermost first; `up` : a part has just ended. -/
def run (l : List UInt8) : Bool → List Fr → Nat → Nat → Nat × Nat × Nat
  | false, st, at_, depth =>
    if inKey st = true ∧ element (l.drop at_) = false then (0, 0, 2)
    else if st.length = 400 then (0, 0, 4)
    else if h : (begin_ (l.drop at_)).1 = 0 then (0, 0, 2)
    else if 0 < (begin_ (l.drop at_)).2 then
      run l false (⟨l.getD at_ 0, (begin_ (l.drop at_)).2, at_ + (begin_ (l.drop at_)).1, []⟩ :: st) (at_ + (begin_ (l.drop at_)).1) (max depth (st.length + 1))
    else run l true st (at_ + (begin_ (l.drop at_)).1) (max depth (st.length + 1))
  | true, [], at_, depth => (at_, depth, 0)
  | true, f :: st, at_, depth =>
    if f.kind = 101 ∧ less ((l.drop f.frm).take (at_ - f.frm)) f.ahead = true then (0, 0, 2)
    else if 0 < f.left - 1 then run l false (⟨f.kind, f.left - 1, at_, (l.drop f.frm).take (at_ - f.frm)⟩ :: st) at_ depth
    else run l true st at_ depth
termination_by up st at_ _ => (l.length - at_, if up then st.length + 1 else 0)
decreasing_by
  · have h1 := (begin_le (l.drop at_)).1
    simp only [List.length_drop] at h1
    apply Prod.Lex.left; omega
  · have h1 := (begin_le (l.drop at_)).1
    simp only [List.length_drop] at h1
    apply Prod.Lex.left; omega
  · apply Prod.Lex.right; simp
  · apply Prod.Lex.right; simp
def read (l : List UInt8) : Nat × Nat × Nat := run l false [] 0 0
end Go.Proofs.Ytlpabhgfmkilnaa.Tm
end

section
namespace Go.Proofs.Ytlpabhgfmkilnaa.Tm
def depthOf (l : List UInt8) : Nat := if 20000 < l.length then 0 else if (read l).2.2 ≠ 0 ∨ (read l).1 ≠ l.length then 0 else (read l).2.1
def right (l : List UInt8) : Bool := decide (0 < depthOf l)
/-- Take: the term, what is behind it, the error. -/
def take (l : List UInt8) : List UInt8 × List UInt8 × Nat :=
  if (read l).2.2 ≠ 0 then ([], [], (read l).2.2) else if 20000 < (read l).1 then ([], [], 3) else (l.take (read l).1, l.drop (read l).1, 0)
end Go.Proofs.Ytlpabhgfmkilnaa.Tm
end

section
namespace Go.Proofs.Ytlpabhgfmkilnaa
open Go.ChangeShapes Go.WideShapes Go.ChangeAt Go.RowKit
theorem of_list (s : ByteArray) : ∃ l : List UInt8, s = ⟨l.toArray⟩ := ⟨s.data.toList, by cases s; simp⟩
theorem u8_iff (c : UInt8) (n : Nat) (h : n < 256) : (c.toNat : Int) = (n : Int) ↔ c = UInt8.ofNat n := by
  constructor
  · intro e
    apply UInt8.toNat_inj.1
    rw [UInt8.toNat_ofNat']
    omega
  · rintro rfl
    rw [UInt8.toNat_ofNat']
    omega
theorem u8_yes {c : UInt8} {n : Nat} (hn : n < 256) (h : c = UInt8.ofNat n) : ((c.toNat : Int) == (n : Int)) = true := by
  simp [(u8_iff c n hn).2 h]
theorem u8_no {c : UInt8} {n : Nat} (hn : n < 256) (h : ¬ c = UInt8.ofNat n) : ((c.toNat : Int) == (n : Int)) = false := by
  simp only [beq_eq_false_iff_ne, ne_eq]
  exact fun e => h ((u8_iff c n hn).1 e)
theorem getD_bytes (s : ByteArray) (i : Nat) (h : i < s.size) : s.data.toList.getD i 0 = s[i] := by
  have h' : i < s.data.toList.length := by simpa using h
  rw [List.getD_eq_getElem?_getD, List.getElem?_eq_getElem h']
  rfl
theorem len_bytes (s : ByteArray) : s.data.toList.length = s.size := by simp
theorem nil_bytes (s : ByteArray) : s.data.toList = [] ↔ s.size = 0 := by
  rw [← len_bytes, List.length_eq_zero_iff]
theorem bytes_cons (s : ByteArray) (h : 0 < s.size) : s.data.toList = s[0] :: s.data.toList.tail := by
  have h2 := getD_bytes s 0 h
  cases hs : s.data.toList with
  | nil => rw [nil_bytes] at hs; omega
  | cons a l => rw [hs] at h2; simp at h2; rw [h2]; rfl
theorem isEmpty_no (s : ByteArray) (h : 0 < s.size) : (s.toList == ([] : List UInt8)) = false := by
  rw [ByteArray.toList_eq, bytes_cons s h]; rfl
end Go.Proofs.Ytlpabhgfmkilnaa
end

section
namespace Go.Proofs.Ytlpabhgfmkilnaa
open Go.ChangeShapes Go.WideShapes Go.ChangeAt Go.RowKit
theorem extract_eq (s : ByteArray) (a b : Nat) : s.extract a b = ⟨((s.data.toList.drop a).take (b - a)).toArray⟩ := by
  obtain ⟨l, rfl⟩ := of_list s
  rw [ByteArray.extract_mk]
end Go.Proofs.Ytlpabhgfmkilnaa
end

section
namespace Go.Proofs.Ytlpabhgfmkilnaa
open Go.ChangeShapes Go.WideShapes Go.ChangeAt Go.RowKit
theorem below_drewN {B : Nat} {a w : World} (h : Below B a w) (n : Nat) : Below B a (w.drewN n) := ⟨h.os, h.tape, h.output, h.size, h.block⟩
end Go.Proofs.Ytlpabhgfmkilnaa
end

section
namespace Go.Proofs.Ytlpabhgfmkilnaa
open Go.ChangeShapes Go.WideShapes Go.ChangeAt Go.RowKit
def One (w : World) (v : Value) (e : Ending) (w' : World) : Prop := e = .returned v ∧ Below w.heap.size w w'
end Go.Proofs.Ytlpabhgfmkilnaa
end

section
namespace Go.Proofs.Ytlpabhgfmkilnaa
open Go.ChangeShapes Go.WideShapes Go.ChangeAt Go.RowKit
namespace Tm
/-- A number as eight bytes, the highest first. -/
def be8 (n : Nat) : List UInt8 := [UInt8.ofNat (n / 256 ^ 7), UInt8.ofNat (n / 256 ^ 6), UInt8.ofNat (n / 256 ^ 5), UInt8.ofNat (n / 256 ^ 4), UInt8.ofNat (n / 256 ^ 3), UInt8.ofNat (n / 256 ^ 2), UInt8.ofNat (n / 256 ^ 1), UInt8.ofNat (n / 256 ^ 0)]
end Tm
def shiftedTo (n m : Nat) : Nat := n / 256 ^ (8 - m)
theorem shiftedTo_next (n m : Nat) (h0 : 0 < m) (h8 : m ≤ 8) : shiftedTo n (m - 1) = shiftedTo n m / 256 := by
  unfold shiftedTo
  rw [Nat.div_div_eq_div_mul, ← Nat.pow_succ]
  congr 2
  omega
def byteAt (n m q : Nat) : Value := .int .u8 ((if m < q then n / 256 ^ (8 - q) % 256 else 0 : Nat) : Int)
def wordCells (k : UInt8) (n m : Nat) : Array Value := #[.int .u8 k.toNat, byteAt n m 1, byteAt n m 2, byteAt n m 3, byteAt n m 4, byteAt n m 5, byteAt n m 6, byteAt n m 7, byteAt n m 8]
theorem wordCells_start (k : UInt8) (n : Nat) : wordCells k n 8 = #[.int .u8 k.toNat, .int .u8 0, .int .u8 0, .int .u8 0, .int .u8 0, .int .u8 0, .int .u8 0, .int .u8 0, .int .u8 0] := by
  simp [wordCells, byteAt]
theorem wordCells_set (k : UInt8) (n m : Nat) (h0 : 0 < m) (h8 : m ≤ 8) :
    (wordCells k n m).setIfInBounds m (.int .u8 ((shiftedTo n m % 256 : Nat) : Int)) = wordCells k n (m - 1) := by
  match m, h0, h8 with
  | 1, _, _ => rfl
  | 2, _, _ => rfl
  | 3, _, _ => rfl
  | 4, _, _ => rfl
  | 5, _, _ => rfl
  | 6, _, _ => rfl
  | 7, _, _ => rfl
  | 8, _, _ => rfl
theorem wordCells_end (k : UInt8) (n : Nat) : wordCells k n 0 = ((k :: Tm.be8 n).map fun b => Value.int .u8 (b.toNat : Int)).toArray := by
  simp only [wordCells, byteAt, Tm.be8, List.map_cons, List.map_nil, UInt8.toNat_ofNat']
  rfl
theorem wordCells_get (k : UInt8) (n m : Nat) (h8 : m ≤ 8) : ∃ u, (wordCells k n m)[m]? = some u :=
  ⟨_, Array.getElem?_eq_getElem (by simp [wordCells]; omega)⟩
end Go.Proofs.Ytlpabhgfmkilnaa
end

section
namespace Go.Proofs.Ytlpabhgfmkilnaa
open Go.ChangeShapes Go.WideShapes Go.ChangeAt Go.RowKit
theorem info_byte : (Try.prog.info? 5).map (fun i => (i.zero, i.size, i.bytes)) = some (some (.int .u8 0), 1, 1) := by kernel_rfl
end Go.Proofs.Ytlpabhgfmkilnaa
end

section
namespace Go.Proofs.Ytlpabhgfmkilnaa
open Go.ChangeShapes Go.WideShapes Go.ChangeAt Go.RowKit
namespace Tm
def maxDepth (ps : List (List UInt8)) : Nat := ps.foldl (fun m p => max m (depthOf p)) 0
def put (hd : List UInt8) (ps : List (List UInt8)) : List UInt8 × Nat :=
  if ps.any (fun p => depthOf p == 0) = true then ([], 1)
  else if 20000 < hd.length + ps.flatten.length then ([], 3)
  else if 400 < maxDepth ps + 1 then ([], 4)
  else (hd ++ ps.flatten, 0)
end Tm
/-- The texts xs lie one by one from cell 0 of block g on. -/
def Texts (w : World) (g : Nat) (xs : List (List UInt8)) : Prop := ∀ j x, xs[j]? = some x → w.cell? ⟨g, j, none⟩ = some (.string ⟨x.toArray⟩)
theorem Texts.below {w w' : World} {B g : Nat} {xs : List (List UInt8)} (h : Texts w g xs) (hb : Below B w w') (hg : g < B) : Texts w' g xs :=
  fun j x hj => (hb.cell (p := ⟨g, j, none⟩) hg).trans (h j x hj)
end Go.Proofs.Ytlpabhgfmkilnaa
end

section
namespace Go.Proofs.Ytlpabhgfmkilnaa
open Go.ChangeShapes Go.WideShapes Go.ChangeAt Go.RowKit
theorem own : ownKnob Try.prog.godebug = none := by kernel_rfl
theorem u64_of_wf {a : Int} (h : (Lit.int .u64 a).wf = true) : ∃ n : Nat, a = n ∧ n < 18446744073709551616 := by
  have hx : 0 ≤ a ∧ a ≤ 18446744073709551615 := by simpa [Lit.wf, IntKind.min, IntKind.max, IntKind.signed, IntKind.bits] using h
  exact ⟨a.toNat, by omega, by omega⟩
theorem i64_of_wf {a : Int} (h : (Lit.int .i64 a).wf = true) : -9223372036854775808 ≤ a ∧ a ≤ 9223372036854775807 := by
  simpa [Lit.wf, IntKind.min, IntKind.max, IntKind.signed, IntKind.bits] using h
end Go.Proofs.Ytlpabhgfmkilnaa
end

section
namespace Go.Proofs.Ytlpabhgfmkilnaa
namespace Tm
/-- A right term: its depth is at most k, its length at most m. -/
def Good (k m : Nat) (l : List UInt8) : Prop := depthOf l ≠ 0 ∧ depthOf l ≤ k ∧ l.length ≤ m
theorem Good.mono {k k' m m' : Nat} {l : List UInt8} (h : Good k m l) (hk : k ≤ k') (hm : m ≤ m') : Good k' m' l := ⟨h.1, Nat.le_trans h.2.1 hk, Nat.le_trans h.2.2 hm⟩
end Tm
end Go.Proofs.Ytlpabhgfmkilnaa
end

section
namespace Go.Proofs.Ytlpabhgfmkilnaa
open Go.ChangeShapes Go.WideShapes Go.ChangeAt Go.RowKit Go.Shelf
/-- All but the blocks of X lie as they lay. -/
structure Spare (X : Nat → Prop) (W W' : World) : Prop where
  os : W'.os = W.os
  tape : W'.tape = W.tape
  output : W'.output = W.output
  size : W.heap.size ≤ W'.heap.size
  same : ∀ q, q < W.heap.size → ¬ X q → W'.heap[q]? = W.heap[q]?
theorem Spare.refl (X : Nat → Prop) (W : World) : Spare X W W := ⟨rfl, rfl, rfl, Nat.le_refl _, fun _ _ _ => rfl⟩
theorem Spare.trans {X : Nat → Prop} {A B C : World} (h : Spare X A B) (k : Spare X B C) : Spare X A C :=
  ⟨k.os.trans h.os, k.tape.trans h.tape, k.output.trans h.output, Nat.le_trans h.size k.size, fun q hq hx => (k.same q (Nat.lt_of_lt_of_le hq h.size) hx).trans (h.same q hq hx)⟩
theorem Spare.of_below {X : Nat → Prop} {A B : World} (h : Below A.heap.size A B) : Spare X A B := ⟨h.os, h.tape, h.output, h.size, fun q hq _ => h.block q hq⟩
theorem Spare.alloc (X : Nat → Prop) (W : World) (o : Obj) : Spare X W (W.alloc o) := .of_below ((Below.refl _ W).alloc (Nat.le_refl _) o)
theorem Spare.put {X : Nat → Prop} (W : World) {l : Nat} (o : Obj) (hl : X l) : Spare X W (W.putObj l o) := by
  have h := grownBy_putObj' W l o
  exact ⟨h.os, h.tape, h.output, h.size, fun q hq hx => h.block q hq (fun e => hx (by cases e; exact hl))⟩
theorem Spare.cell {X : Nat → Prop} (W : World) {b i : Nat} (v : Value) (hb : X b) : Spare X W (W.setCell ⟨b, i, none⟩ v) :=
  ⟨rfl, rfl, rfl, by simp [World.setCell], fun q _ hx => Below.heap_setCell _ _ _ _ (fun e => hx (by have e2 : q = b := e; rw [e2]; exact hb))⟩
theorem Spare.below {n₀ : Nat} {X : Nat → Prop} {w A B : World} (h : Below n₀ w A) (k : Spare X A B) (hn : n₀ ≤ A.heap.size) (hX : ∀ q, X q → n₀ ≤ q) : Below n₀ w B :=
  ⟨k.os.trans h.os, k.tape.trans h.tape, k.output.trans h.output, Nat.le_trans h.size k.size, fun q hq => (k.same q (by omega) (fun hx => by have := hX q hx; omega)).trans (h.block q hq)⟩
end Go.Proofs.Ytlpabhgfmkilnaa
end

section
namespace Go.Proofs.Ytlpabhgfmkilnaa
open Go.ChangeShapes Go.WideShapes Go.ChangeAt Go.RowKit Go.Shelf
attribute [local go_sem] Oper.semAt_some
namespace Tm
def num0 : List UInt8 := 117 :: be8 0
/-- A row as bytes. -/
def rowL (zs : List (List UInt8)) : List UInt8 := zs.flatMap (fun z => 112 :: z) ++ num0
end Tm
/-- A row of texts that can be read, wherever it lies. -/
def ReadsA (X : Nat → Prop) (w : World) (v : Value) (xs : List (List UInt8)) : Prop :=
  ∃ A c, v = .slice A xs.length c ∧ ∀ j x, xs[j]? = some x → ∃ ad : Addr, A = some ad ∧ ad.block < w.heap.size ∧ ¬ X ad.block ∧ w.cell? (ad.add j) = some (.string ⟨x.toArray⟩)
theorem addr_block (ad : Addr) (i : Nat) : (ad.add i).block = ad.block := by unfold Addr.add; split <;> rfl
theorem Spare.at {X : Nat → Prop} {W W' : World} (h : Spare X W W') {a : Addr} (hb : a.block < W.heap.size) (hx : ¬ X a.block) : W'.cell? a = W.cell? a := World.cell?_of_block (h.same a.block hb hx)
theorem ReadsA.spare {X : Nat → Prop} {W W' : World} {v : Value} {xs : List (List UInt8)} (h : ReadsA X W v xs) (hs : Spare X W W') : ReadsA X W' v xs := by
  obtain ⟨A, c, h1, h2⟩ := h
  refine ⟨A, c, h1, fun j x hx => ?_⟩
  obtain ⟨ad, e, k1, k2, k3⟩ := h2 j x hx
  exact ⟨ad, e, Nat.lt_of_lt_of_le k1 hs.size, k2, (hs.at (by rw [addr_block]; exact k1) (by rw [addr_block]; exact k2)).trans k3⟩
end Go.Proofs.Ytlpabhgfmkilnaa
end

section
namespace Go.Proofs.Ytlpabhgfmkilnaa
open Go.ChangeShapes Go.WideShapes Go.ChangeAt Go.RowKit
namespace Tm
/-- How deep a row's term is, as it is reckoned from the left. -/
def deepR (zs : List (List UInt8)) : Nat := (zs.zipIdx).foldl (fun m p => max m (depthOf p.1 + p.2 + 1)) 1
def wrongIn (zs : List (List UInt8)) : Bool := zs.any (fun z => depthOf z == 0)
def measureL (zs : List (List UInt8)) : Nat × Nat :=
  if 150 < zs.length ∨ wrongIn zs = true then (0, 1) else if 20000 < (rowL zs).length then (0, 3) else if 400 < deepR zs then (0, 4) else ((rowL zs).length, 0)
end Tm
/-- A row of the call's own: where its block lies as it lay, so does it. -/
theorem own_same {W W' : World} {B : Nat} {e : TypeId} {size n : Nat} {v : Value} {xs : List Value} (h : W.ownsRow B e size v n xs) (hs : ∀ g, v.ownBlock = some g → W'.heap[g]? = W.heap[g]?) : W'.ownsRow B e size v n xs := by
  refine ⟨h.1, ?_⟩
  rcases h.2 with hn | ⟨g, cap, cur, rfl, h1, h2, h3⟩
  · exact .inl hn
  · exact .inr ⟨g, cap, cur, rfl, h1, (hs g rfl).trans h2, h3⟩
theorem own_below {W W' : World} {B : Nat} {e : TypeId} {size n : Nat} {v : Value} {xs : List Value} (h : W.ownsRow B e size v n xs) (hb : Below W.heap.size W W') : W'.ownsRow B e size v n xs := own_same h (fun q e => hb.block q (h.lt q e).2)
theorem own_slice {W : World} {B : Nat} {e : TypeId} {size n : Nat} {v : Value} {xs : List Value} (h : W.ownsRow B e size v n xs) : ∃ A c, v = .slice A n c := by
  rcases h.2 with ⟨rfl, rfl⟩ | ⟨g, cap, cur, rfl, _⟩
  · exact ⟨none, 0, rfl⟩
  · exact ⟨_, cap, rfl⟩
theorem grow_trans {a w w' : World} {row : Option Nat} (h : a.grownBy w row) (k : w.grownBy w' row) : a.grownBy w' row :=
  ⟨k.os.trans h.os, k.tape.trans h.tape, k.output.trans h.output, Nat.le_trans h.size k.size, fun q hq hr => (k.block q (Nat.lt_of_lt_of_le hq h.size) hr).trans (h.block q hq hr)⟩
end Go.Proofs.Ytlpabhgfmkilnaa
end

section
namespace Go.Proofs.Ytlpabhgfmkilnaa
open Go.ChangeShapes Go.WideShapes Go.ChangeAt Go.RowKit
/-- A row of texts, none of them longer than texts are. -/
structure RowA (w : World) (v : Value) (zs : List (List UInt8)) : Prop where
  reads : ReadsA (fun _ => False) w v zs
  short : ∀ z ∈ zs, z.length ≤ maxLen
  few : zs.length ≤ maxLen
theorem RowA.below {w w' : World} {v : Value} {zs : List (List UInt8)} (h : RowA w v zs) (hb : Below w.heap.size w w') : RowA w' v zs := ⟨h.reads.spare (.of_below hb), h.short, h.few⟩
end Go.Proofs.Ytlpabhgfmkilnaa
end

section
namespace Go.Proofs.Ytlpabhgfmkilnaa
open Go.ChangeShapes Go.WideShapes Go.ChangeAt Go.RowKit
def withinB (n l m : Int) : Bool := decide (l ≤ n) && decide (n ≤ m)
theorem withinB_iff (n l m : Int) : withinB n l m = true ↔ l ≤ n ∧ n ≤ m := by simp [withinB]
def idB (e c : Int) : Bool := withinB e 0 2147483647 && withinB c 0 8
def riseB : Int → List Int → Bool
  | _, [] => true
  | a, x :: xs => withinB x (a + 1) 8 && riseB x xs
/-- A row of numbers that can be read. -/
structure IntsA (w : World) (v : Value) (xs : List Int) : Prop where
  reads : ∃ A c, v = .slice A xs.length c ∧ ∀ j x, xs[j]? = some x → ∃ ad : Addr, A = some ad ∧ ad.block < w.heap.size ∧ w.cell? (ad.add j) = some (.int .i64 x)
  fit : ∀ x ∈ xs, -9223372036854775808 ≤ x ∧ x ≤ 9223372036854775807
  few : xs.length ≤ maxLen
theorem IntsA.below {w w' : World} {v : Value} {xs : List Int} (h : IntsA w v xs) (hb : Below w.heap.size w w') : IntsA w' v xs := by
  obtain ⟨⟨A, c, h1, h2⟩, h3, h4⟩ := h
  refine ⟨⟨A, c, h1, fun j x hx => ?_⟩, h3, h4⟩
  obtain ⟨ad, e, k1, k2⟩ := h2 j x hx
  exact ⟨ad, e, Nat.lt_of_lt_of_le k1 hb.size, (hb.cell (p := ad.add j) (by rw [addr_block]; exact k1)).trans k2⟩
/-- A message. -/
structure Msg where
  kind : Int
  e1 : Int
  c1 : Int
  e2 : Int
  c2 : Int
  num : Int
  mem : List Int
  terms : List (List UInt8)
def Msg.okHead (m : Msg) : Bool := withinB m.kind 0 20 && idB m.e1 m.c1 && idB m.e2 m.c2 && withinB m.num 0 2147483647 && riseB 0 m.mem
def Msg.ok (m : Msg) : Bool := m.okHead && decide ((Tm.measureL m.terms).2 = 0)
structure MsgA (w : World) (m : Msg) (vm vt : Value) : Prop where
  mem : IntsA w vm m.mem
  terms : RowA w vt m.terms
theorem MsgA.below {w w' : World} {m : Msg} {vm vt : Value} (h : MsgA w m vm vt) (hb : Below w.heap.size w w') : MsgA w' m vm vt := ⟨h.mem.below hb, h.terms.below hb⟩
end Go.Proofs.Ytlpabhgfmkilnaa
end

section
namespace Go.Proofs.Ytlpabhgfmkilnaa.L10
open Go.ChangeShapes Go.WideShapes Go.ChangeAt Go.RowKit Go.Shelf Go.Sort
attribute [local go_sem] Oper.semAt_some
theorem take_next (xs : List Int) {k : Nat} {x : Int} (h : xs[k]? = some x) : xs.take (k + 1) = xs.take k ++ [x] := by
  rw [List.take_add_one, h]; rfl
theorem info_int10 : (Try.prog.info? 3).map (fun i => (i.zero, i.size, i.bytes)) = some (some (.int .i64 0), 1, 8) := by kernel_rfl
/-- A row in the order of numbers. -/
def sortL (xs : List Int) : List Int := xs.mergeSort fun x y => decide (x ≤ y)
theorem sortL_length (xs : List Int) : (sortL xs).length = xs.length := List.length_mergeSort xs
theorem sortL_mem (xs : List Int) (x : Int) : x ∈ sortL xs ↔ x ∈ xs := List.mem_mergeSort
theorem sortL_sorted (xs : List Int) : (sortL xs).Pairwise (· ≤ ·) := by
  have := List.pairwise_mergeSort (le := fun x y : Int => decide (x ≤ y)) (fun a b c h1 h2 => by simp at *; omega) (fun a b => by simp; omega) xs
  exact this.imp (by simp)
end Go.Proofs.Ytlpabhgfmkilnaa.L10
end

section
namespace Go.Proofs.Ytlpabhgfmkilnaa.L10
open Go.ChangeShapes Go.WideShapes Go.ChangeAt Go.RowKit Go.Shelf Go.Sort
theorem own_base {W : World} {base base' : Nat} {e : TypeId} {size n : Nat} {v : Value} {xs : List Value} (h : W.ownsRow base e size v n xs) (hb : base' ≤ base) : W.ownsRow base' e size v n xs :=
  ⟨h.1, h.2.imp id (fun ⟨g, cap, cur, e, k, r⟩ => ⟨g, cap, cur, e, Nat.le_trans hb k, r⟩)⟩
theorem below_drewN (w : World) (q B : Nat) : Below B w (w.drewN q) := ⟨rfl, rfl, rfl, Nat.le_refl _, fun _ _ => rfl⟩
theorem sorted_has (xs : List Int) (p : Int) : (sortL xs).contains p = xs.contains p := by
  rw [Bool.eq_iff_iff, List.contains_iff_mem, List.contains_iff_mem, sortL_mem]
end Go.Proofs.Ytlpabhgfmkilnaa.L10
end

section
namespace Go.Proofs.Ytlpabhgfmkilnaa.L10
open Go.ChangeShapes Go.WideShapes Go.ChangeAt Go.RowKit Go.Shelf Go.Sort
/-- A function value that tells q of a process. -/
structure WantsA (w : World) (f : Value) (q : Int → Bool) : Prop where
  calls : ∃ g lb, f = .func (.func g) #[] lb ∧ (∀ args w, (callFunc g args).run Try.prog w = .ok (.enter g args) w) ∧ ∀ V p, Below w.heap.size w V → Calls Try.prog g (#[.int .i64 p] ++ lb) V (One V (.bool (q p)))
/-- A new row of numbers. -/
def IntsOut (w : World) (ys : List Int) (e : Ending) (w' : World) : Prop := ∃ v, e = .returned v ∧ w'.ownsRow w.heap.size 3 1 v ys.length (ys.map (Value.int .i64)) ∧ Below w.heap.size w w'
def Keeping (w : World) (xs : List Int) (q : Int → Bool) (k : Nat) (v5 v10 : Value) (wr : World) : Prop :=
  ∃ i : Nat, k + i = xs.length ∧ v10 = .int .i64 i ∧ wr.ownsRow w.heap.size 3 1 v5 ((xs.take i).filter q).length (((xs.take i).filter q).map (Value.int .i64)) ∧ Below w.heap.size w wr
theorem keep_yes {w wr w1 w4 : World} {xs : List Int} {q : Int → Bool} {i k : Nat} {x : Int} {v5 v2 : Value} (hk : k + 1 + i = xs.length) (hx : xs[i]? = some x) (hq : q x = true) (hB : Below w.heap.size w wr)
    (hrow : wr.ownsRow w.heap.size 3 1 v5 ((xs.take i).filter q).length (((xs.take i).filter q).map (Value.int .i64))) (b1 : Below wr.heap.size wr w1)
    (k1 : w4.ownsRow w.heap.size 3 1 v2 (((xs.take i).filter q).length + 1) (((xs.take i).filter q).map (Value.int .i64) ++ [.int .i64 x])) (k2 : (w1.alloc (.cells #[.int .i64 x] 3)).grownBy w4 v5.ownBlock) :
    Keeping w xs q k v2 (.int .i64 ((i + 1 : Nat) : Int)) w4 := by
  have b4 := hB.trans (b1.mono hB.size)
  have hg2 := grow_trans (World.grownBy_alloc w1 (.cells #[.int .i64 x] 3) _) k2
  refine ⟨i + 1, by omega, rfl, ?_, b4.grown hg2 b4.size (fun q e => (hrow.lt q e).1)⟩
  rw [take_next xs hx, List.filter_append]
  simpa [hq] using k1
theorem keep_no {w wr w1 : World} {xs : List Int} {q : Int → Bool} {i k : Nat} {x : Int} {v5 : Value} (hk : k + 1 + i = xs.length) (hx : xs[i]? = some x) (hq : q x = false) (hB : Below w.heap.size w wr)
    (hrow : wr.ownsRow w.heap.size 3 1 v5 ((xs.take i).filter q).length (((xs.take i).filter q).map (Value.int .i64))) (b1 : Below wr.heap.size wr w1) :
    Keeping w xs q k v5 (.int .i64 ((i + 1 : Nat) : Int)) w1 := by
  refine ⟨i + 1, by omega, rfl, ?_, hB.trans (b1.mono hB.size)⟩
  rw [take_next xs hx, List.filter_append]
  simpa [hq] using own_below hrow b1
theorem WantsA.below {w w' : World} {f : Value} {q : Int → Bool} (h : WantsA w f q) (hb : Below w.heap.size w w') : WantsA w' f q := by
  obtain ⟨g, lb, e, eg, hc⟩ := h
  exact ⟨g, lb, e, eg, fun V p k => hc V p (hb.trans (k.mono hb.size))⟩
theorem store_func10 {P : Program} {w : World} {a : Addr} {m : Mode} (fn : Fn) (first captured : Array Value) : (store a (.func fn first captured) m).run P w = stored P w a (.func fn first captured) m := run_store P w a _ m rfl
attribute [local go_sem] store_func10
end Go.Proofs.Ytlpabhgfmkilnaa.L10
end

section
namespace Go.Proofs.Ytlpabhgfmkilnaa.L4
open Go.ChangeShapes Go.WideShapes Go.ChangeAt Go.RowKit
/-- The cells of a message that was boxed. -/
def Boxed (W : World) (b : Nat) (m : Msg) (vm vt : Value) : Prop := W.cell? ⟨b, 0, none⟩ = some (.int .i64 m.kind) ∧ W.cell? ⟨b, 1, none⟩ = some (.int .i64 m.e1) ∧ W.cell? ⟨b, 2, none⟩ = some (.int .i64 m.c1) ∧ W.cell? ⟨b, 3, none⟩ = some (.int .i64 m.e2) ∧ W.cell? ⟨b, 4, none⟩ = some (.int .i64 m.c2) ∧ W.cell? ⟨b, 5, none⟩ = some (.int .i64 m.num) ∧ W.cell? ⟨b, 6, none⟩ = some vm ∧ W.cell? ⟨b, 7, none⟩ = some vt
theorem Boxed.below {W W' : World} {b : Nat} {m : Msg} {vm vt : Value} (h : Boxed W b m vm vt) {B : Nat} (hb : Below B W W') (hlt : b < B) : Boxed W' b m vm vt := by
  obtain ⟨h0, h1, h2, h3, h4, h5, h6, h7⟩ := h
  have k : ∀ j, W'.cell? ⟨b, j, none⟩ = W.cell? ⟨b, j, none⟩ := fun j => hb.cell (p := ⟨b, j, none⟩) hlt
  exact ⟨(k 0).trans h0, (k 1).trans h1, (k 2).trans h2, (k 3).trans h3, (k 4).trans h4, (k 5).trans h5, (k 6).trans h6, (k 7).trans h7⟩
end Go.Proofs.Ytlpabhgfmkilnaa.L4
end

section
namespace Go.Proofs.Ytlpabhgfmkilnaa
open Go.ChangeShapes Go.WideShapes Go.ChangeAt Go.RowKit
/-- A world in which all that lay in w lies as it lay. -/
structure Later (w : World) where
  world : World
  kept : Below w.heap.size w world
instance (w : World) : Nonempty (Later w) := ⟨⟨w, Below.refl _ _⟩⟩
/-- A region that draws its order, whose operations read what lay there before, and whose callees leave it as it was: one walk, in the order of the text. -/
theorem wp_region_kept {P : Program} {id : Nat} {Q : Exit → Act → World → Prop} {a : Act} {w : World} {l : List Oper} (hm : P.follows .mixedOrders = true) (hB : Region.lexB .any l.toArray = true)
    (h : wpQuiet P l.toArray (fun w' => ∃ X : Later w, w' = X.world) (fun a' => ∀ w', (∃ X : Later w, w' = X.world) → Q .normal a' w') l a) : (Code.region id l.toArray true).wp P Q a w :=
  wp_region_quiet (C := fun w' => ∃ X : Later w, w' = X.world) hm hB ⟨⟨w.drewN 1, below_drewN (Below.refl _ _) _⟩, rfl⟩ (by simpa using h)
/-- The walk in the order of the text, closed: Lean does not look into it by itself (a guard that is false makes it run through all that is left). -/
structure Quietly (P : Program) (ops : Array Oper) (C : World → Prop) (Q : Act → Prop) (l : List Oper) (a : Act) : Prop where
  out : wpQuiet P ops C Q l a
theorem Quietly.step {P : Program} {ops : Array Oper} {C : World → Prop} {Q : Act → Prop} {o : Oper} {rest : List Oper} {a : Act}
    (h : ∀ K : Act → Prop, (∀ a, Quietly P ops C Q rest a → K a) → if Region.wanted o (yielded ops a.tmps) then o.quiet P a C K else K (a.put o.dst undef)) : Quietly P ops C Q (o :: rest) a :=
  ⟨wpQuiet_step (fun K hK => h K (fun a ha => hK a ha.out))⟩
theorem Quietly.none {P : Program} {ops : Array Oper} {C : World → Prop} {Q : Act → Prop} {a : Act} (h : Q a) : Quietly P ops C Q [] a := ⟨wpQuiet_nil h⟩
theorem wp_region_later {P : Program} {id : Nat} {Q : Exit → Act → World → Prop} {a : Act} {w : World} {l : List Oper} (hm : P.follows .mixedOrders = true) (hB : Region.lexB .any l.toArray = true)
    (h : Quietly P l.toArray (fun w' => ∃ X : Later w, w' = X.world) (fun a' => ∀ w', (∃ X : Later w, w' = X.world) → Q .normal a' w') l a) : (Code.region id l.toArray true).wp P Q a w :=
  wp_region_kept hm hB h.out
end Go.Proofs.Ytlpabhgfmkilnaa
end

section
namespace Go.Proofs.Ytlpabhgfmkilnaa.L4
open Go.ChangeShapes Go.WideShapes Go.ChangeAt Go.RowKit
/-- A region that draws its order and only reads: one walk, in the order of the text, closed at each step. -/
theorem wp_region_still {P : Program} {id : Nat} {Q : Exit → Act → World → Prop} {a : Act} {w : World} {l : List Oper} (hm : P.follows .mixedOrders = true) (hB : Region.lexB .any l.toArray = true)
    (h : Quietly P l.toArray (fun w' => ∃ n : Nat, w' = w.drewN n) (fun a' => ∀ w', (∃ n : Nat, w' = w.drewN n) → Q .normal a' w') l a) : (Code.region id l.toArray true).wp P Q a w :=
  wp_region_quiet (C := fun w' => ∃ n : Nat, w' = w.drewN n) hm hB ⟨1, rfl⟩ (by simpa using h.out)
/-- The number ahead of place i, 0 at the first one. -/
def ahead (xs : List Int) (i : Nat) : Int := if i = 0 then 0 else xs.getD (i - 1) 0
end Go.Proofs.Ytlpabhgfmkilnaa.L4
end

section
namespace Go.Proofs.Ytlpabhgfmkilnaa.L10
open Go.ChangeShapes Go.WideShapes Go.ChangeAt Go.RowKit Go.Shelf Go.Sort Go.Proofs.Ytlpabhgfmkilnaa.L4
/-- Do the numbers rise, each 1 to 8, and is there one? -/
def rowB (xs : List Int) : Bool := riseB 0 xs && !xs.isEmpty
def RowLoop (w : World) (xs : List Int) (k : Nat) (v3 v8 : Value) (wr : World) : Prop :=
  ∃ (i : Nat) (a : Int), k + i = xs.length ∧ v8 = .int .i64 i ∧ v3 = .int .i64 a ∧ 0 ≤ a ∧ a ≤ 8 ∧ riseB 0 xs = riseB a (xs.drop i) ∧ w = wr
def RRowLoop (w : World) (xs : List Int) (k : Nat) (v3 : Value) (wr : World) : Prop :=
  ∃ i : Nat, k + i = xs.length ∧ v3 = .int .i64 i ∧ riseB 0 xs = riseB (L4.ahead xs i) (xs.drop i) ∧ 0 ≤ L4.ahead xs i ∧ L4.ahead xs i ≤ 8 ∧ (0 < i → 1 ≤ L4.ahead xs i) ∧ Below w.heap.size w wr
end Go.Proofs.Ytlpabhgfmkilnaa.L10
end

section
namespace Go.Proofs.Ytlpabhgfmkilnaa.L10
open Go.ChangeShapes Go.WideShapes Go.ChangeAt Go.RowKit Go.Shelf Go.Sort Go.Proofs.Ytlpabhgfmkilnaa.L4
/-- The cells of a row that is not empty. -/
theorem ints_at {w : World} {v : Value} {xs : List Int} (h : IntsA w v xs) (hx : xs ≠ []) : ∃ b off c, v = .slice (some ⟨b, off, none⟩) xs.length c ∧ ∀ j, j < xs.length → w.cell? ⟨b, off + j, none⟩ = some (.int .i64 (xs.getD j 0)) := by
  obtain ⟨A, c, rfl, k⟩ := h.reads
  obtain ⟨x, hx0⟩ : ∃ x, xs[0]? = some x := ⟨_, List.getElem?_eq_getElem (List.length_pos_iff.2 hx)⟩
  obtain ⟨⟨b, off, spot⟩, rfl, _, h0⟩ := k 0 x hx0
  have hs : spot = none := by simpa [Addr.add] using World.cell?_spot h0
  subst hs
  refine ⟨b, off, c, rfl, fun j hj => ?_⟩
  obtain ⟨ad, e, _, hc⟩ := k j _ (List.getElem?_eq_getElem hj)
  cases e
  rw [List.getD, List.getElem?_eq_getElem hj, Option.getD_some, ← hc]
  congr 1
  simp [Addr.add]
def RHasLoop (w : World) (xs : List Int) (p : Int) (k : Nat) (v5 : Value) (wr : World) : Prop := ∃ i : Nat, k + i = xs.length ∧ v5 = .int .i64 i ∧ xs.contains p = (xs.drop i).contains p ∧ w = wr
set_option maxRecDepth 100000 in
set_option maxHeartbeats 1000000 in
theorem rhas_calls (v : Value) (xs : List Int) (p : Int) (w : World) (hI : IntsA w v xs) : Calls Try.prog 26 #[v, .int .i64 p] w fun e w' => e = .returned (.bool (xs.contains p)) ∧ w = w' := by
  obtain ⟨⟨A, c, rfl, hcells⟩, hfit, hfew⟩ := hI
  have HC := Lib.hid hcells
  obtain ⟨r, hr⟩ : ∃ r, xs.contains p = r := ⟨_, rfl⟩
  rw [hr]
  have HR := Lib.hid hr
  unfold maxLen at hfew
  clear hcells hfit hr
  go_enter Try.func26, Try.ntmps26
  go_wp2
  go_loopg [5] xs.length (fun k v5 wr => RHasLoop w xs p k v5 wr)
  case atStart => exact ⟨0, by omega, rfl, by simp, rfl⟩
  case round =>
    obtain ⟨i, hk, rfl, hd, rfl⟩ := hrel
    by_cases hil : i < xs.length
    · obtain ⟨x, hx⟩ : ∃ x, xs[i]? = some x := ⟨_, List.getElem?_eq_getElem hil⟩
      obtain ⟨ad, rfl, a1, a3⟩ := HC.out i x hx
      have hdrop : xs.drop i = x :: xs.drop (i + 1) := by
        rw [List.drop_eq_getElem_cons hil, (List.getElem?_eq_some_iff.1 hx).2]
      have hd2 := hd
      rw [hdrop, List.contains_cons] at hd2
      have hgk : gk - 1 < gk := by omega
      have j1 : (i : Int) < (xs.length : Int) := by omega
      have j2 : (0 : Int) ≤ (i : Int) := by omega
      by_cases hxp : x = p
      · have hrt : r = true := by rw [← HR.out, hd2, hxp]; simp
        subst hrt hxp
        clear hk hd hx hdrop hd2
        go_wp2
        go_ret
        exact ⟨rfl, rfl⟩
      · have hRel : Hid (RHasLoop w xs p (gk - 1) (.int .i64 ((i + 1 : Nat) : Int)) w) := ⟨i + 1, by omega, rfl, by rw [hd2]; simp [Ne.symm hxp], rfl⟩
        clear hk hd hx hdrop hd2
        go_wp2
        go_roundg (gk - 1)
        case measure => exact hgk
        case rel => exact hRel.out
    · have hrf : r = false := by rw [← HR.out, hd, List.drop_eq_nil_of_le (by omega)]; rfl
      subst hrf
      have j1 : ¬ ((i : Int) < (xs.length : Int)) := by omega
      clear hk hd
      go_wp2
      go_ret
      exact ⟨rfl, rfl⟩
def RSameLoop (w : World) (xs ys : List Int) (k : Nat) (v5 : Value) (wr : World) : Prop := ∃ i : Nat, k + i = xs.length ∧ v5 = .int .i64 i ∧ xs.take i = ys.take i ∧ Below w.heap.size w wr
theorem ints_read {w : World} {A : Option Addr} {c : Nat} {xs : List Int} (h : IntsA w (.slice A xs.length c) xs) : ∀ (j : Nat) (x : Int), xs[j]? = some x → ∃ ad : Addr, A = some ad ∧ ∀ V : World, Below w.heap.size w V → V.cell? (ad.add j) = some (.int .i64 x) := by
  intro j x hx
  obtain ⟨A', c', e, k⟩ := h.reads
  cases e
  obtain ⟨ad, e2, b1, b2⟩ := k j x hx
  exact ⟨ad, e2, fun V hV => (hV.cell (p := ad.add j) (by rw [addr_block]; exact b1)).trans b2⟩
end Go.Proofs.Ytlpabhgfmkilnaa.L10
end

section
namespace Go.Proofs.Ytlpabhgfmkilnaa.L10
open Go.ChangeShapes Go.WideShapes Go.ChangeAt Go.RowKit Go.Shelf Go.Sort Go.Proofs.Ytlpabhgfmkilnaa.L4
end Go.Proofs.Ytlpabhgfmkilnaa.L10
end

section
namespace Go.Proofs.Ytlpabhgfmkilnaa
open Go.ChangeShapes Go.WideShapes Go.ChangeAt Go.RowKit
namespace Tm
def numL (n : Int) : List UInt8 := 117 :: be8 n.toNat
end Tm
def Msg.head (m : Msg) : List Int := [m.kind, m.e1, m.c1, m.e2, m.c2, m.num, (m.mem.length : Int)]
def Msg.nums (m : Msg) : List Int := m.head ++ m.mem
def Msg.row (m : Msg) : List (List UInt8) := m.nums.map Tm.numL ++ m.terms
theorem own_base {W : World} {base base' : Nat} {e : TypeId} {size n : Nat} {v : Value} {xs : List Value} (h : W.ownsRow base e size v n xs) (hb : base' ≤ base) : W.ownsRow base' e size v n xs :=
  ⟨h.1, h.2.imp id (fun ⟨g, cap, cur, a, b, c⟩ => ⟨g, cap, cur, a, Nat.le_trans hb b, c⟩)⟩
end Go.Proofs.Ytlpabhgfmkilnaa
end

section
namespace Go.Proofs.Ytlpabhgfmkilnaa.L10
open Go.ChangeShapes Go.WideShapes Go.ChangeAt Go.RowKit
/-- One more than an epoch, as a machine counts. -/
def up (a : Int) : Int := wrap64 (a + 1)
end Go.Proofs.Ytlpabhgfmkilnaa.L10
end

section
namespace Go.Proofs.Ytlpabhgfmkilnaa.L10
open Go.ChangeShapes Go.WideShapes Go.ChangeAt Go.RowKit Go.Shelf Go.Sort Go.Proofs.Ytlpabhgfmkilnaa.L4
def Fits (xs : List Int) : Prop := ∀ x ∈ xs, -9223372036854775808 ≤ x ∧ x ≤ 9223372036854775807
theorem ints_new (w : World) (xs : List Int) (hf : Fits xs) (hl : xs.length ≤ 1000000) : IntsA (w.alloc (.cells (xs.map (Value.int .i64)).toArray 3)) (.slice (some ⟨w.heap.size, 0, none⟩) xs.length xs.length) xs := by
  refine ⟨⟨_, _, rfl, fun j x hx => ⟨_, rfl, by simp, ?_⟩⟩, hf, by unfold maxLen; omega⟩
  have e : (⟨w.heap.size, 0, none⟩ : Addr).add j = ⟨w.heap.size, j, none⟩ := by unfold Addr.add; by_cases h : j = 0 <;> simp [h]
  rw [e]
  simp only [World.cell?]
  rw [World.alloc_heap_new]
  simp [hx]
theorem ints_own10 {W : World} {B : Nat} {v : Value} {xs : List Int} (h : W.ownsRow B 3 1 v xs.length (xs.map (Value.int .i64))) (hf : Fits xs) (hl : xs.length ≤ 1000000) : IntsA W v xs := by
  rcases h.2 with ⟨rfl, hz⟩ | ⟨gb, cap, cur, rfl, hbase, hgb, r1, r2, r3, r4⟩
  · have hx : xs = [] := List.eq_nil_of_length_eq_zero hz
    subst hx
    exact ⟨⟨none, 0, rfl, fun j x hx => by simp at hx⟩, by simp, by simp⟩
  · refine ⟨⟨_, _, rfl, fun j x hx => ⟨_, rfl, (Array.getElem?_eq_some_iff.1 hgb).1, ?_⟩⟩, hf, by unfold maxLen; omega⟩
    have hj : j < xs.length := (List.getElem?_eq_some_iff.1 hx).1
    have e : (⟨gb, 0, none⟩ : Addr).add j = ⟨gb, j, none⟩ := by unfold Addr.add; by_cases h : j = 0 <;> simp [h]
    rw [e, h.cellAt j (by omega), List.getElem?_map, hx]
    rfl
theorem fits_filter {xs : List Int} (h : Fits xs) (q : Int → Bool) : Fits (xs.filter q) := fun x hx => h x (List.mem_filter.1 hx).1
end Go.Proofs.Ytlpabhgfmkilnaa.L10
end

section
namespace Go.Proofs.Ytlpabhgfmkilnaa.L5
open Go.ChangeShapes Go.WideShapes Go.ChangeAt Go.RowKit Go.Deep
theorem own : ownKnob Try.prog.godebug = none := by kernel_rfl
theorem laid_out : laidOutB Try.prog = true := by kernel_rfl
theorem u64_of_wf {a : Int} (h : (Lit.int .u64 a).wf = true) : ∃ n : Nat, a = n ∧ n < 18446744073709551616 := by
  have hx : 0 ≤ a ∧ a ≤ 18446744073709551615 := by simpa [Lit.wf, IntKind.min, IntKind.max, IntKind.signed, IntKind.bits] using h
  exact ⟨a.toNat, by omega, by omega⟩
theorem i64_of_wf {a : Int} (h : (Lit.int .i64 a).wf = true) : -9223372036854775808 ≤ a ∧ a ≤ 9223372036854775807 := by
  simpa [Lit.wf, IntKind.min, IntKind.max, IntKind.signed, IntKind.bits] using h
/-- As the row asks it: the arguments' reading given at the one place where it is asked. -/
theorem post_law_at {H : Type} {enc : TypeId × Value → H} {P : Program} {f : Func} {s : ChangeSpec} {W W' : World} {args : Array Value} {v : Value} {ds gs : List (DataW H)} {before pa pv : List MemPlace}
    (hW : DataW.Whole enc P f.params.toList s.vars false W args.toList ds gs before)
    (hres : DataW.TrodAll enc P W' W.heap.size (fun _ => false) false f.resultTypes.toList (v.resultList f.resultTypes.size) (s.fn H (ds ++ gs)).results [])
    (hargs : DataW.TrodAll enc P W' 0 (fun b => decide (b < W.heap.size)) true f.params.toList args.toList (s.fn H (ds ++ gs)).args pa)
    (hvars : DataW.TrodVars enc P W' (fun b => decide (b < W.heap.size)) s.vars (s.fn H (ds ++ gs)).vars pv)
    (hps : before = pa ++ pv) (hb : Below W.heap.size W W') : s.post enc P f false true false false W args v W' := by
  have hin : ∀ p ∈ before, p ∈ before ∧ (p ∈ ([] : List MemPlace) ∨ p ∈ pa ∨ p ∈ pv) := by
    intro p hp
    refine ⟨hp, .inr ?_⟩
    rw [hps] at hp
    exact List.mem_append.1 hp
  exact ⟨ds, gs, before, [], pa, pv, hW, hres, hargs, hvars, World.keptBut_mono hin (hb.frame (· ∈ before)), fun h => by cases h⟩
/-- A row of the call's own: where its block lies as it lay, so does it. -/
theorem own_same {W W' : World} {B : Nat} {e : TypeId} {size n : Nat} {v : Value} {xs : List Value} (h : W.ownsRow B e size v n xs) (hs : ∀ g, v.ownBlock = some g → W'.heap[g]? = W.heap[g]?) : W'.ownsRow B e size v n xs := by
  refine ⟨h.1, ?_⟩
  rcases h.2 with hn | ⟨g, cap, cur, rfl, h1, h2, h3⟩
  · exact .inl hn
  · exact .inr ⟨g, cap, cur, rfl, h1, (hs g rfl).trans h2, h3⟩
theorem own_below {W W' : World} {B : Nat} {e : TypeId} {size n : Nat} {v : Value} {xs : List Value} (h : W.ownsRow B e size v n xs) (hb : Below W.heap.size W W') : W'.ownsRow B e size v n xs := own_same h (fun q e => hb.block q (h.lt q e).2)
theorem own_slice {W : World} {B : Nat} {e : TypeId} {size n : Nat} {v : Value} {xs : List Value} (h : W.ownsRow B e size v n xs) : ∃ A c, v = .slice A n c := by
  rcases h.2 with ⟨rfl, rfl⟩ | ⟨g, cap, cur, rfl, _⟩
  · exact ⟨none, 0, rfl⟩
  · exact ⟨_, cap, rfl⟩
theorem grow_trans {a w w' : World} {row : Option Nat} (h : a.grownBy w row) (k : w.grownBy w' row) : a.grownBy w' row :=
  ⟨k.os.trans h.os, k.tape.trans h.tape, k.output.trans h.output, Nat.le_trans h.size k.size, fun q hq hr => (k.block q (Nat.lt_of_lt_of_le hq h.size) hr).trans (h.block q hq hr)⟩
theorem below_drewN {B : Nat} {a w : World} (h : Below B a w) (n : Nat) : Below B a (w.drewN n) := ⟨h.os, h.tape, h.output, h.size, h.block⟩
/-- A call that returned one value, and left all that lay as it lay. -/
def One (w : World) (v : Value) (e : Ending) (w' : World) : Prop := e = .returned v ∧ Below w.heap.size w w'
end Go.Proofs.Ytlpabhgfmkilnaa.L5
end

section
namespace Go.Proofs.Ytlpabhgfmkilnaa.L10
open Go.ChangeShapes Go.WideShapes Go.ChangeAt Go.RowKit
section
variable {H : Type} {enc : TypeId × Value → H} {W : World}
set_option maxRecDepth 100000 in
theorem trod_ints {n : Nat} {c : Value} {x : DataW H × List MemPlace} (h : DataW.trod enc Try.prog W 0 (fun _ => true) true n 49 [c] = some x) : ∃ xs, IntsA W c xs ∧ ∀ n k, c = .slice none n k → k = 0 := by
  rcases open_ints Try.underlying49 Try.underlying3 (by kernel_rfl) h with ⟨h0, _⟩ | ⟨a, len, cap, ss, hcs, _, hl, hm, hsl, _, hcell, hwf⟩
  · cases h0
    exact ⟨[], ⟨⟨none, 0, rfl, fun j x hx => by simp at hx⟩, by simp, by simp⟩, fun n k e => by cases e; rfl⟩
  · cases hcs
    simp only [if_true] at hsl
    have hlen : (ss.take len).length = len := by simp; omega
    refine ⟨ss.take len, ⟨⟨some a, cap, by rw [hlen], fun j x hx => ?_⟩, fun z hz => i64_of_wf (hwf z (List.mem_of_mem_take hz)), by rw [hlen]; omega⟩, fun n k e => by cases e⟩
    rw [List.getElem?_take] at hx
    have hjn : j < len := by
      rcases Nat.lt_or_ge j len with h | h
      · exact h
      · rw [if_neg (by omega)] at hx; cases hx
    rw [if_pos hjn] at hx
    have hc2 := hcell j (by omega)
    rw [List.getD, hx, Option.getD_some] at hc2
    have hlt := World.block_lt_of_cell? W _ hc2
    rw [addr_block] at hlt
    exact ⟨a, rfl, hlt, hc2⟩
set_option maxRecDepth 100000 in
theorem open_irow {base : Nat} {v : Value} {d : DataW H} {ps : List MemPlace} (hval : Value.okWide Try.prog W .any base 49 v) (h : DataW.Trod enc Try.prog W 0 (fun _ => true) true 49 v d ps) : ∃ zs, IntsA W v zs := by
  obtain ⟨A, n, c, rfl⟩ := okWide_slice Try.underlying49 hval
  obtain ⟨fuel, hf⟩ := h
  obtain ⟨xs, hI, _⟩ := trod_ints (c := .slice A n c) hf
  exact ⟨xs, hI⟩
end
end Go.Proofs.Ytlpabhgfmkilnaa.L10
end
