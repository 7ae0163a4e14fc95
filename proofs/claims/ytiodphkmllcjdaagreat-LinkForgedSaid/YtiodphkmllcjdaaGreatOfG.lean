/- Contracts of Pair, Hash, Seal, Sign and Key: what put makes of the head and the parts, for all texts. Contract of exponentsOf: the exponents of an element, one behind the other, in a row with room for thirty-two. Contract of slices.BinarySearch at rows of terms: the place that it tells has a lesser term ahead of it and none that is less at it. Contract of slices.Insert of one term into a row of terms: the row with that term at that place. Contract of Power: the power of the exponents that the element had and the new one at a place that fits, or the error that the chapter names first. -/
import Derived.Test.YtiodphkmllcjdaaGreatPut
import Derived.Lib.Overlaps
import Derived.Laws.CopyOwn
import Derived.Shelf.Spec.SlicesInsert
section
namespace Go.Proofs.YtiodphkmllcjdaaGreat
open Go.ChangeShapes Go.WideShapes Go.ChangeAt Go.RowKit

theorem head_cells {w : World} {g : Nat} {hd : List UInt8} {t : TypeId} (h : w.heap[g]? = some (.cells (Lib.byteCells hd).toArray t (0, 0))) :
    ∀ j u, (Lib.byteCells hd)[j]? = some u → w.cell? ((⟨g, 0, none⟩ : Addr).add j) = some u := by
  have := World.news_of_block h
  simpa using this
theorem text_cells {w : World} {g : Nat} {xs : List (List UInt8)} {t : TypeId} (h : w.heap[g]? = some (.cells (xs.map fun x => Value.string ⟨x.toArray⟩).toArray t (0, 0))) : Texts w g xs := by
  intro j x hj
  rw [cell_of_row w g j _ t _ h]
  simp [hj]
theorem of_bytes (s : ByteArray) : s = ⟨s.data.toList.toArray⟩ := by cases s; simp

theorem put_two (hd : List UInt8) (xs : List (List UInt8)) (w : World) (hn : xs.length ≤ 40) (hh : 0 < hd.length) (hh2 : hd.length ≤ 10) (hp : ∀ p ∈ xs, p.length ≤ maxLen) (th tp : TypeId) :
    Calls Tryz.prog 31 #[.slice (some ⟨w.heap.size, 0, none⟩) hd.length hd.length, .slice (some ⟨w.heap.size + 1, 0, none⟩) xs.length xs.length]
      ((w.alloc (.cells (Lib.byteCells hd).toArray th)).alloc (.cells (xs.map fun x => Value.string ⟨x.toArray⟩).toArray tp)) (Pair2 w (Tm.put hd xs)) := by
  have h1 : (w.alloc (.cells (Lib.byteCells hd).toArray th)).heap.size = w.heap.size + 1 := by simp
  have h2 := heap_alloc_new (w.alloc (.cells (Lib.byteCells hd).toArray th)) (.cells (xs.map fun x => Value.string ⟨x.toArray⟩).toArray tp)
  rw [h1] at h2
  have h3 : ((w.alloc (.cells (Lib.byteCells hd).toArray th)).alloc (.cells (xs.map fun x => Value.string ⟨x.toArray⟩).toArray tp)).heap[w.heap.size]? = some (.cells (Lib.byteCells hd).toArray th (0, 0)) := by
    rw [Below.heap_alloc _ _ _ (by rw [h1]; omega)]
    exact heap_alloc_new w _
  refine (put_calls hd xs w.heap.size hd.length (w.heap.size + 1) xs.length _ (by simp; omega) (by simp) (text_cells h2) (head_cells h3) hn hh hh2 hp).mono ?_
  rintro e w' ⟨rfl, hb⟩
  refine ⟨rfl, ((((Below.refl w.heap.size w).alloc (Nat.le_refl _) _).alloc (by simp) _).trans (hb.mono (by simp; omega)))⟩

set_option maxRecDepth 100000 in
set_option maxHeartbeats 400000 in
theorem Sign_calls (a b : ByteArray) (ha : a.size ≤ maxLen) (hb : b.size ≤ maxLen) (w : World) :
    Calls Tryz.prog 14 #[.string a, .string b] w (Pair2 w (Tm.put [120] [a.data.toList, b.data.toList])) := by
  have hc := put_two [120] [a.data.toList, b.data.toList] w (by simp) (by simp) (by simp) (by
    intro p hp
    simp only [List.mem_cons, List.not_mem_nil, or_false] at hp
    rcases hp with rfl | rfl
    · rw [len_bytes]; exact ha
    · rw [len_bytes]; exact hb) 5 46
  have e : (List.map (fun x : List UInt8 => Value.string ⟨x.toArray⟩) [a.data.toList, b.data.toList]).toArray = #[.string a, .string b] := by
    show #[Value.string ⟨a.data.toList.toArray⟩, Value.string ⟨b.data.toList.toArray⟩] = _
    rw [← of_bytes, ← of_bytes]
  rw [e] at hc
  generalize Tm.put [120] [a.data.toList, b.data.toList] = r at *
  have HC := Lib.hid hc
  clear hc e
  go_enter Tryz.func14, Tryz.ntmps14
  go_wp2_with (go_at_call 31; refine HC.out.mono ?_; rintro e' w' ⟨rfl, hbw⟩)
  go_ret2
  exact ⟨rfl, hbw⟩

end Go.Proofs.YtiodphkmllcjdaaGreat
end

section
namespace Go.Proofs.YtiodphkmllcjdaaGreat
open Go.ChangeShapes Go.WideShapes Go.ChangeAt Go.RowKit

namespace Tm
def exps : Nat → List UInt8 → List (List UInt8)
  | 0, _ => []
  | n + 1, r => r.take (read r).1 :: exps n (r.drop (read r).1)
theorem exps_length (n : Nat) (r : List UInt8) : (exps n r).length = n := by
  induction n generalizing r with
  | zero => rfl
  | succ n ih => simp [exps, ih]
end Tm

def strs (xs : List (List UInt8)) : List Value := xs.map fun x => Value.string ⟨x.toArray⟩
theorem strs_length (xs : List (List UInt8)) : (strs xs).length = xs.length := by simp [strs]

theorem info_term : (Tryz.prog.info? 46).map (fun i => (i.zero, i.size, i.bytes)) = some (some (.string ⟨#[]⟩), 1, 16) := by kernel_rfl

/-- A row of texts that the call itself made, with room for thirty-two. -/
def Row32 (B g : Nat) (xs : List (List UInt8)) (w : World) : Prop :=
  w.ownsRow B 46 1 (.slice (some ⟨g, 0, none⟩) xs.length 32) xs.length (strs xs)

theorem ownsRow_below {w w' : World} {base : Nat} {e : TypeId} {size n : Nat} {v : Value} {xs : List Value} (h : w.ownsRow base e size v n xs) (hb : Below w.heap.size w w') : w'.ownsRow base e size v n xs := by
  refine ⟨h.1, ?_⟩
  rcases h.2 with h0 | ⟨g, cap, cur, h1, h2, h3, h4⟩
  · exact .inl h0
  · exact .inr ⟨g, cap, cur, h1, h2, (hb.block g (Array.getElem?_eq_some_iff.1 h3).1).trans h3, h4⟩

def Listing (w : World) (g c : Nat) (r0 : List UInt8) (k : Nat) (v3 v4 v17 : Value) (wr : World) : Prop :=
  ∃ (i : Nat) (acc : List (List UInt8)) (r : ByteArray), k + i = c ∧ v17 = .int .i64 i ∧ v3 = .string r ∧ r.size ≤ maxLen ∧ v4 = .slice (some ⟨g, 0, none⟩) acc.length 32 ∧ acc.length = i ∧
    Row32 w.heap.size g acc wr ∧ Below w.heap.size w wr ∧ acc ++ Tm.exps (c - i) r.data.toList = Tm.exps c r0

def RowOut (w : World) (xs : List (List UInt8)) (e : Ending) (w' : World) : Prop :=
  ∃ g, e = .returned (.slice (some ⟨g, 0, none⟩) xs.length 32) ∧ Row32 w.heap.size g xs w' ∧ Below w.heap.size w w'

end Go.Proofs.YtiodphkmllcjdaaGreat
end

section
namespace Go.Proofs.YtiodphkmllcjdaaGreat
open Go.ChangeShapes Go.WideShapes Go.ChangeAt Go.RowKit

/-- What the search tells of a row. -/
def Found (xs : List (List UInt8)) (t : List UInt8) (i : Nat) : Prop :=
  i ≤ xs.length ∧ (0 < i → Tm.less (xs.getD (i - 1) []) t = true) ∧ (i < xs.length → Tm.less (xs.getD i []) t = false)

def Searching (w : World) (xs : List (List UInt8)) (t : List UInt8) (k : Nat) (v7 v8 : Value) (wr : World) : Prop :=
  ∃ i j : Nat, k = j - i ∧ i ≤ j ∧ j ≤ xs.length ∧ v7 = .int .i64 i ∧ v8 = .int .i64 j ∧ (0 < i → Tm.less (xs.getD (i - 1) []) t = true) ∧ (j < xs.length → Tm.less (xs.getD j []) t = false) ∧ wr = w

def SearchOut (w : World) (xs : List (List UInt8)) (t : List UInt8) (e : Ending) (w' : World) : Prop :=
  ∃ (i : Nat) (b : Bool), e = .returned (.tuple #[.int .i64 i, .bool b]) ∧ Found xs t i ∧ w' = w

end Go.Proofs.YtiodphkmllcjdaaGreat
end

section
namespace Go.Proofs.YtiodphkmllcjdaaGreat
open Go.ChangeShapes Go.WideShapes Go.ChangeAt Go.RowKit

def InsertOut (B : Nat) (w : World) (ys : List (List UInt8)) (e : Ending) (w' : World) : Prop :=
  ∃ g cap, e = .returned (.slice (some ⟨g, 0, none⟩) ys.length cap) ∧ Texts w' g ys ∧ g < w'.heap.size ∧ Below B w w'

theorem texts_of_row {w : World} {B g n cap : Nat} {e : TypeId} {xs : List (List UInt8)} (h : w.ownsRow B e 1 (.slice (some ⟨g, 0, none⟩) n cap) n (strs xs)) : Texts w g xs := by
  intro j x hj
  have hl : (strs xs).length = n * 1 := h.1
  rw [strs_length] at hl
  have hjl := (List.getElem?_eq_some_iff.1 hj).1
  rw [h.cellAt j (by omega)]
  simp [strs, hj]
theorem lt_of_row {w : World} {B g n cap : Nat} {e : TypeId} {xs : List Value} (h : w.ownsRow B e 1 (.slice (some ⟨g, 0, none⟩) n cap) n xs) : g < w.heap.size := (h.lt g rfl).2

theorem texts_of_block {w : World} {g : Nat} {xs : List (List UInt8)} {rest : List Value} {e : TypeId} (h : w.heap[g]? = some (.cells (strs xs ++ rest).toArray e (0, 0))) : Texts w g xs := by
  intro j x hj
  have hjl := (List.getElem?_eq_some_iff.1 hj).1
  rw [cell_of_row w g j _ e _ h]
  simp only [List.getElem?_toArray]
  rw [List.getElem?_append_left (by rw [strs_length]; exact hjl)]
  simp [strs, hj]

theorem splice_insert (xs : List Value) (rest : List Value) (i : Nat) (t : Value) (hi : i < xs.length) :
    splice (splice (xs ++ rest) (i + 1) (xs.drop i)) i [t] = (xs.take i ++ t :: xs.drop i) ++ rest.drop 1 := by
  have h1 : splice (xs ++ rest) (i + 1) (xs.drop i) = xs.take (i + 1) ++ (xs.drop i ++ rest.drop 1) := by
    unfold splice
    rw [List.take_append_of_le_length (by omega), List.length_drop, show i + 1 + (xs.length - i) = xs.length + 1 from by omega, List.drop_append]
    simp
  rw [h1]
  unfold splice
  rw [List.take_append_of_le_length (by simp; omega), List.take_take, Nat.min_eq_left (by omega)]
  have h2 : (xs.take (i + 1) ++ (xs.drop i ++ rest.drop 1)).drop (i + [t].length) = xs.drop i ++ rest.drop 1 := by
    have : (xs.take (i + 1)).length = i + [t].length := by simp; omega
    rw [← this, List.drop_left]
  rw [h2]
  simp

theorem strs_insert (xs : List (List UInt8)) (i : Nat) (t : ByteArray) : strs (xs.take i ++ t.data.toList :: xs.drop i) = (strs xs).take i ++ Value.string t :: (strs xs).drop i := by
  have : (⟨t.data.toList.toArray⟩ : ByteArray) = t := (of_bytes t).symm
  simp only [strs, List.map_append, List.map_cons, List.map_take, List.map_drop, this]

theorem row_block {w : World} {B g : Nat} {xs : List (List UInt8)} (h : Row32 B g xs w) : ∃ rest : List Value, w.heap[g]? = some (.cells (strs xs ++ rest).toArray 46 (0, 0)) ∧ xs.length + rest.length = 32 := by
  rcases h.2 with ⟨h0, _⟩ | ⟨g', cap, cur, hv, _, hh, hn, _, hs, ht⟩
  · cases h0
  · cases hv
    refine ⟨cur.toList.drop xs.length, ?_, ?_⟩
    · have : strs xs ++ cur.toList.drop xs.length = cur.toList := by
        rw [← ht, Nat.mul_one, List.take_append_drop]
      rw [this]
      exact hh
    · simp
      omega

end Go.Proofs.YtiodphkmllcjdaaGreat
end

section
namespace Go.Proofs.YtiodphkmllcjdaaGreat
open Go.ChangeShapes Go.WideShapes Go.ChangeAt Go.RowKit

namespace Tm
def expsOf (l : List UInt8) : List (List UInt8) := if l.getD 0 0 = 103 then [] else exps (l.getD 1 0).toNat (l.drop 2)
def ins (xs : List (List UInt8)) (i : Nat) (t : List UInt8) : List (List UInt8) := xs.take i ++ t :: xs.drop i
theorem ins_length (xs : List (List UInt8)) (i : Nat) (t : List UInt8) (h : i ≤ xs.length) : (ins xs i t).length = xs.length + 1 := by
  simp [ins]; omega
theorem right_begin {l : List UInt8} (h : right l = true) : (begin_ l).1 ≠ 0 := by
  intro h0
  have hr : read l = (0, 0, 2) := by
    unfold read
    rw [run_none (l := l) (st := []) (at_ := 0) (depth := 0) (by simp [inKey]) (by simp) (by simpa using h0)]
  unfold right depthOf at h
  rw [hr] at h
  split at h <;> simp at h
theorem right_power {l : List UInt8} (h : right l = true) (h1 : l.getD 0 0 = 101) : 2 ≤ l.length ∧ 1 ≤ (l.getD 1 0).toNat ∧ (l.getD 1 0).toNat ≤ 32 := by
  have hb := right_begin h
  have hne : l ≠ [] := by intro e; rw [e] at h1; simp at h1
  have hh : headOf l = if 2 ≤ l.length ∧ 1 ≤ (l.getD 1 0).toNat ∧ (l.getD 1 0).toNat ≤ 32 then (2, (l.getD 1 0).toNat) else (0, 0) := by
    unfold headOf
    rw [if_neg hne, h1]
    simp
  unfold begin_ at hb
  rw [hh] at hb
  by_cases hc : 2 ≤ l.length ∧ 1 ≤ (l.getD 1 0).toNat ∧ (l.getD 1 0).toNat ≤ 32
  · exact hc
  · rw [if_neg hc] at hb
    split at hb <;> simp at hb
end Tm

def PowerOut (w : World) (base by_ : List UInt8) (e : Ending) (w' : World) : Prop :=
  ∃ i, Found (Tm.expsOf base) by_ i ∧ Pair2 w (Tm.put [101, UInt8.ofNat ((Tm.expsOf base).length + 1)] (Tm.ins (Tm.expsOf base) i by_)) e w'

/-- What is behind the search and the insertion: put, at the row that they left. -/
theorem put_row (ys : List (List UInt8)) (n g cap : Nat) (w0 w : World) (hb : Below w0.heap.size w0 w) (hT : Texts w g ys) (hg : g < w.heap.size) (hn : ys.length = n + 1) (hn2 : n < 32) (hp : ∀ p ∈ ys, p.length ≤ maxLen) :
    Calls Tryz.prog 31 #[.slice (some ⟨w.heap.size, 0, none⟩) 2 2, .slice (some ⟨g, 0, none⟩) (n + 1) cap] (w.alloc (.cells #[.int .u8 101, .int .u8 ((n : Int) + 1)] 5)) (Pair2 w0 (Tm.put [101, UInt8.ofNat (n + 1)] ys)) := by
  have e : (Lib.byteCells [101, UInt8.ofNat (n + 1)]).toArray = #[.int .u8 101, .int .u8 ((n : Int) + 1)] := by
    have e1 : ((UInt8.ofNat (n + 1)).toNat : Int) = (n : Int) + 1 := by rw [UInt8.toNat_ofNat']; omega
    have e2 : (Lib.byteCells [101, UInt8.ofNat (n + 1)]).toArray = #[.int .u8 101, .int .u8 ((UInt8.ofNat (n + 1)).toNat : Int)] := rfl
    rw [e2, e1]
  generalize UInt8.ofNat (n + 1) = u at *
  rw [← e, ← hn]
  have hb1 : Below w.heap.size w (w.alloc (.cells (Lib.byteCells [101, u]).toArray 5)) := (Below.refl _ _).alloc (Nat.le_refl _) _
  refine (put_calls [101, u] ys w.heap.size 2 g cap _ (by simp) (by simp; omega) (hT.below hb1 hg) (head_cells (heap_alloc_new w _)) (by omega) (by simp) (by simp) hp).mono ?_
  rintro e' w' ⟨rfl, hbw⟩
  exact ⟨rfl, (hb.trans (hb1.mono hb.size)).trans (hbw.mono (by have := hb.size; simp; omega))⟩

theorem read_take_le (r : List UInt8) (k : Nat) : (r.take k).length ≤ r.length := by simp; omega
theorem exps_mem_le (n : Nat) (r p : List UInt8) (h : p ∈ Tm.exps n r) : p.length ≤ r.length := by
  induction n generalizing r with
  | zero => simp [Tm.exps] at h
  | succ n ih =>
    simp only [Tm.exps, List.mem_cons] at h
    rcases h with rfl | h
    · exact read_take_le _ _
    · have := ih _ h
      rw [List.length_drop] at this
      omega

end Go.Proofs.YtiodphkmllcjdaaGreat
end
