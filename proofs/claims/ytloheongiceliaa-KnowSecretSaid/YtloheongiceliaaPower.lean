/- Contract of Power: the power of the exponents that the element had and the new one at a place that fits, or the error that the chapter names first. -/
import Derived.Test.YtloheongiceliaaInsert
namespace Go.Proofs.Ytloheongiceliaa
open Go.ChangeShapes Go.WideShapes Go.ChangeAt Go.RowKit

namespace Tm
def expsOf (l : List UInt8) : List (List UInt8) := if l.getD 0 0 = 103 then [] else exps (l.getD 1 0).toNat (l.drop 2)
def ins (xs : List (List UInt8)) (i : Nat) (t : List UInt8) : List (List UInt8) := xs.take i ++ t :: xs.drop i
theorem ins_length (xs : List (List UInt8)) (i : Nat) (t : List UInt8) (h : i ≤ xs.length) : (ins xs i t).length = xs.length + 1 := by
  simp [ins]; omega
theorem right_begin {l : List UInt8} (h : right l = true) : (begin_ l).1 ≠ 0 := by
  intro h0
  have hr : read l = (0, 0, 2) := by
    unfold read
    rw [run_none (l := l) (st := []) (at_ := 0) (depth := 0) (by simp [inKey]) (by simp) (by simpa using h0)]
  unfold right depthOf at h
  rw [hr] at h
  split at h <;> simp at h
theorem right_power {l : List UInt8} (h : right l = true) (h1 : l.getD 0 0 = 101) : 2 ≤ l.length ∧ 1 ≤ (l.getD 1 0).toNat ∧ (l.getD 1 0).toNat ≤ 32 := by
  have hb := right_begin h
  have hne : l ≠ [] := by intro e; rw [e] at h1; simp at h1
  have hh : headOf l = if 2 ≤ l.length ∧ 1 ≤ (l.getD 1 0).toNat ∧ (l.getD 1 0).toNat ≤ 32 then (2, (l.getD 1 0).toNat) else (0, 0) := by
    unfold headOf
    rw [if_neg hne, h1]
    simp
  unfold begin_ at hb
  rw [hh] at hb
  by_cases hc : 2 ≤ l.length ∧ 1 ≤ (l.getD 1 0).toNat ∧ (l.getD 1 0).toNat ≤ 32
  · exact hc
  · rw [if_neg hc] at hb
    split at hb <;> simp at hb
end Tm

def PowerOut (w : World) (base by_ : List UInt8) (e : Ending) (w' : World) : Prop :=
  ∃ i, Found (Tm.expsOf base) by_ i ∧ Pair2 w (Tm.put [101, UInt8.ofNat ((Tm.expsOf base).length + 1)] (Tm.ins (Tm.expsOf base) i by_)) e w'

set_option maxHeartbeats 400000 in
theorem Power_no (a b : ByteArray) (ha : a.size ≤ maxLen) (hb : b.size ≤ maxLen) (w : World) (h : ¬ (Tm.element a.data.toList = true ∧ Tm.right a.data.toList = true ∧ Tm.right b.data.toList = true)) :
    Calls Try.prog 21 #[.string a, .string b] w (Pair2 w ([], 1)) := by
  have cE := fun W => beginsElement_calls a W
  have cA := fun W => Right_calls a ha W
  have cB := fun W => Right_calls b hb W
  generalize Tm.element a.data.toList = x at *
  generalize Tm.right a.data.toList = y at *
  generalize Tm.right b.data.toList = z at *
  have HE := Lib.hid cE
  have HA := Lib.hid cA
  have HB := Lib.hid cB
  clear cE cA cB
  cases x
  · go_enter Try.func21, Try.ntmps21
    go_wp2_with (go_at_call 42; refine (HE.out _).mono ?_; rintro e' w' ⟨rfl, rfl⟩)
    go_ret2
    exact ⟨rfl, Below.refl _ _⟩
  · cases y
    · go_enter Try.func21, Try.ntmps21
      go_wp2_with (first
        | (go_at_call 42; refine (HE.out _).mono ?_; rintro e' w' ⟨rfl, rfl⟩)
        | (go_at_call 43; refine (HA.out _).mono ?_; rintro e' w1 ⟨rfl, hb1⟩))
      go_ret2
      exact ⟨rfl, hb1⟩
    · cases z
      · clear h
        go_enter Try.func21, Try.ntmps21
        go_wp2_with (go_at_call 42; refine (HE.out _).mono ?_)
        rintro e' w' ⟨rfl, rfl⟩
        go_wp2_with (go_at_call 43; refine (HA.out _).mono ?_)
        rintro e' w1 ⟨rfl, hb1⟩
        go_wp2_with (go_at_call 43; refine (HB.out _).mono ?_)
        rintro e' w2 ⟨rfl, hb2⟩
        go_wp2
        go_ret2
        exact ⟨rfl, hb1.trans (hb2.mono hb1.size)⟩
      · simp at h

/-- What is behind the search and the insertion: put, at the row that they left. -/
theorem put_row (ys : List (List UInt8)) (n g cap : Nat) (w0 w : World) (hb : Below w0.heap.size w0 w) (hT : Texts w g ys) (hg : g < w.heap.size) (hn : ys.length = n + 1) (hn2 : n < 32) (hp : ∀ p ∈ ys, p.length ≤ maxLen) :
    Calls Try.prog 41 #[.slice (some ⟨w.heap.size, 0, none⟩) 2 2, .slice (some ⟨g, 0, none⟩) (n + 1) cap] (w.alloc (.cells #[.int .u8 101, .int .u8 ((n : Int) + 1)] 5)) (Pair2 w0 (Tm.put [101, UInt8.ofNat (n + 1)] ys)) := by
  have e : (Lib.byteCells [101, UInt8.ofNat (n + 1)]).toArray = #[.int .u8 101, .int .u8 ((n : Int) + 1)] := by
    have e1 : ((UInt8.ofNat (n + 1)).toNat : Int) = (n : Int) + 1 := by rw [UInt8.toNat_ofNat']; omega
    have e2 : (Lib.byteCells [101, UInt8.ofNat (n + 1)]).toArray = #[.int .u8 101, .int .u8 ((UInt8.ofNat (n + 1)).toNat : Int)] := rfl
    rw [e2, e1]
  generalize UInt8.ofNat (n + 1) = u at *
  rw [← e, ← hn]
  have hb1 : Below w.heap.size w (w.alloc (.cells (Lib.byteCells [101, u]).toArray 5)) := (Below.refl _ _).alloc (Nat.le_refl _) _
  refine (put_calls [101, u] ys w.heap.size 2 g cap _ (by simp) (by simp; omega) (hT.below hb1 hg) (head_cells (heap_alloc_new w _)) (by omega) (by simp) (by simp) hp).mono ?_
  rintro e' w' ⟨rfl, hbw⟩
  exact ⟨rfl, (hb.trans (hb1.mono hb.size)).trans (hbw.mono (by have := hb.size; simp; omega))⟩

set_option maxRecDepth 100000 in
set_option maxHeartbeats 1000000 in
theorem Power_gen (a b : ByteArray) (ha : a.size ≤ maxLen) (hb : b.size ≤ maxLen) (w : World) (h1 : Tm.element a.data.toList = true) (h2 : Tm.right a.data.toList = true) (h3 : Tm.right b.data.toList = true) (h0 : a.data.toList.getD 0 0 = 103) :
    Calls Try.prog 21 #[.string a, .string b] w (PowerOut w a.data.toList b.data.toList) := by
  have cE := fun W => beginsElement_calls a W
  have cA := fun W => Right_calls a ha W
  have cB := fun W => Right_calls b hb W
  rw [h1] at cE
  rw [h2] at cA
  rw [h3] at cB
  have hpos : 0 < a.size := by
    rcases Nat.eq_zero_or_pos a.size with h | h
    · rw [(nil_bytes a).2 h] at h1
      simp [Tm.element] at h1
    · exact h
  have hx : Tm.expsOf a.data.toList = [] := by unfold Tm.expsOf; rw [if_pos h0]
  have cX := fun W => exponentsOf_gen a hpos (by rw [← getD_bytes a 0 hpos]; exact h0) W
  have hfin : ∀ (e : Ending) (w' : World), Pair2 w (Tm.put [101, UInt8.ofNat (0 + 1)] [b.data.toList]) e w' → PowerOut w a.data.toList b.data.toList e w' := by
    intro e w' he
    refine ⟨0, ⟨Nat.zero_le _, by omega, ?_⟩, ?_⟩
    · rw [hx]; simp
    · rw [hx]; exact he
  have HE := Lib.hid cE
  have HA := Lib.hid cA
  have HB := Lib.hid cB
  have HX := Lib.hid cX
  have HF := Lib.hid hfin
  have hbl : ∀ p ∈ [b.data.toList], p.length ≤ maxLen := by
    intro p hp
    rw [List.mem_singleton.1 hp, len_bytes]
    exact hb
  have HL := Lib.hid hbl
  clear cE cA cB cX hfin hx hbl h1 h2 h3 h0 ha hb
  go_enter Try.func21, Try.ntmps21
  go_wp2_with (go_at_call 42; refine (HE.out _).mono ?_)
  rintro e' w' ⟨rfl, rfl⟩
  go_wp2_with (go_at_call 43; refine (HA.out _).mono ?_)
  rintro e' w1 ⟨rfl, hb1⟩
  go_wp2_with (go_at_call 43; refine (HB.out _).mono ?_)
  rintro e' w2 ⟨rfl, hb2⟩
  have B2 := Lib.hid (hb1.trans (hb2.mono hb1.size))
  clear hb1 hb2
  go_wp2_with (go_at_call 44; refine (HX.out _).mono ?_)
  rintro e' w' ⟨rfl, rfl⟩
  go_wp2_with (go_at_call 45; refine (Search_none b _).mono ?_)
  rintro e' w' ⟨rfl, rfl⟩
  go_wp2_with (go_at_call 46; refine (Insert_nil b w2.heap.size _ (by simp [World.cell?_alloc_new])).mono ?_)
  rintro e' w3 ⟨g, cap, rfl, hT, hg, hb3⟩
  have X3 : Hid (Texts w3 g [b.data.toList] ∧ g < w3.heap.size ∧ Below w.heap.size w w3) := ⟨hT, hg, (B2.out.alloc B2.out.size _).trans (hb3.mono (by have := B2.out.size; simp; omega))⟩
  clear hT hg hb3
  go_wp2_with (go_at_call 41; refine (put_row [b.data.toList] 0 g cap w w3 X3.out.2.2 X3.out.1 X3.out.2.1 rfl (by omega) HL.out).mono ?_)
  rintro e' w4 ⟨rfl, hb4⟩
  go_wp2
  go_ret2
  exact HF.out _ _ ⟨rfl, hb4⟩

theorem read_take_le (r : List UInt8) (k : Nat) : (r.take k).length ≤ r.length := by simp; omega
theorem exps_mem_le (n : Nat) (r p : List UInt8) (h : p ∈ Tm.exps n r) : p.length ≤ r.length := by
  induction n generalizing r with
  | zero => simp [Tm.exps] at h
  | succ n ih =>
    simp only [Tm.exps, List.mem_cons] at h
    rcases h with rfl | h
    · exact read_take_le _ _
    · have := ih _ h
      rw [List.length_drop] at this
      omega

set_option maxRecDepth 100000 in
set_option maxHeartbeats 1000000 in
theorem Power_full (a b : ByteArray) (ha : a.size ≤ maxLen) (hb : b.size ≤ maxLen) (w : World) (h1 : Tm.element a.data.toList = true) (h2 : Tm.right a.data.toList = true) (h3 : Tm.right b.data.toList = true) (h0 : ¬ a.data.toList.getD 0 0 = 103) (h32 : (Tm.expsOf a.data.toList).length = 32) :
    Calls Try.prog 21 #[.string a, .string b] w (Pair2 w ([], 3)) := by
  have cE := fun W => beginsElement_calls a W
  have cA := fun W => Right_calls a ha W
  have cB := fun W => Right_calls b hb W
  rw [h1] at cE
  rw [h2] at cA
  rw [h3] at cB
  have hpos : 0 < a.size := by
    rcases Nat.eq_zero_or_pos a.size with h | h
    · rw [(nil_bytes a).2 h] at h1
      simp [Tm.element] at h1
    · exact h
  have h101 : a.data.toList.getD 0 0 = 101 := by
    rw [bytes_cons a hpos] at h1 h0 ⊢
    simp [Tm.element] at h1 h0 ⊢
    rcases h1 with h1 | h1
    · exact absurd h1 h0
    · exact h1
  obtain ⟨p1, p2, p3⟩ := Tm.right_power h2 h101
  rw [len_bytes] at p1
  rw [getD_bytes a 1 (by omega)] at p2 p3
  have hx : Tm.expsOf a.data.toList = Tm.exps a[1].toNat (a.data.toList.drop 2) := by unfold Tm.expsOf; rw [if_neg h0, getD_bytes a 1 (by omega)]
  have cX := fun W => exponentsOf_pow a ha p1 (by rw [← getD_bytes a 0 hpos]; exact h0) p3 W
  rw [← hx] at cX
  generalize Tm.expsOf a.data.toList = xs at *
  have HE := Lib.hid cE
  have HA := Lib.hid cA
  have HB := Lib.hid cB
  have HX := Lib.hid cX
  have k32 : ((xs.length : Int) == 32) = true := by simp; omega
  clear cE cA cB cX hx h1 h2 h3 h0 ha hb h101 p2 p3 h32
  go_enter Try.func21, Try.ntmps21
  go_wp2_with (go_at_call 42; refine (HE.out _).mono ?_)
  rintro e' w' ⟨rfl, rfl⟩
  go_wp2_with (go_at_call 43; refine (HA.out _).mono ?_)
  rintro e' w1 ⟨rfl, hb1⟩
  go_wp2_with (go_at_call 43; refine (HB.out _).mono ?_)
  rintro e' w2 ⟨rfl, hb2⟩
  have B2 := Lib.hid (hb1.trans (hb2.mono hb1.size))
  clear hb1 hb2
  go_wp2_with (go_at_call 44; refine (HX.out _).mono ?_)
  rintro e' w3 ⟨g, rfl, hrow, hb3⟩
  have B3 := Lib.hid (B2.out.trans (hb3.mono B2.out.size))
  clear hrow hb3
  go_wp2
  all_goals first
    | omega
    | (go_ret2; exact ⟨rfl, B3.out⟩)

set_option maxRecDepth 100000 in
set_option maxHeartbeats 2000000 in
theorem Power_pow (a b : ByteArray) (ha : a.size ≤ maxLen) (hb : b.size ≤ maxLen) (w : World) (h1 : Tm.element a.data.toList = true) (h2 : Tm.right a.data.toList = true) (h3 : Tm.right b.data.toList = true) (h0 : ¬ a.data.toList.getD 0 0 = 103) (h32 : ¬ (Tm.expsOf a.data.toList).length = 32) :
    Calls Try.prog 21 #[.string a, .string b] w (PowerOut w a.data.toList b.data.toList) := by
  have cE := fun W => beginsElement_calls a W
  have cA := fun W => Right_calls a ha W
  have cB := fun W => Right_calls b hb W
  rw [h1] at cE
  rw [h2] at cA
  rw [h3] at cB
  have hpos : 0 < a.size := by
    rcases Nat.eq_zero_or_pos a.size with h | h
    · rw [(nil_bytes a).2 h] at h1
      simp [Tm.element] at h1
    · exact h
  have h101 : a.data.toList.getD 0 0 = 101 := by
    rw [bytes_cons a hpos] at h1 h0 ⊢
    simp [Tm.element] at h1 h0 ⊢
    rcases h1 with h1 | h1
    · exact absurd h1 h0
    · exact h1
  obtain ⟨p1, p2, p3⟩ := Tm.right_power h2 h101
  rw [len_bytes] at p1
  rw [getD_bytes a 1 (by omega)] at p2 p3
  have hx : Tm.expsOf a.data.toList = Tm.exps a[1].toNat (a.data.toList.drop 2) := by unfold Tm.expsOf; rw [if_neg h0, getD_bytes a 1 (by omega)]
  have hlen : (Tm.expsOf a.data.toList).length ≤ 32 := by rw [hx, Tm.exps_length]; exact p3
  have hmem : ∀ p ∈ Tm.expsOf a.data.toList, p.length ≤ maxLen := by
    rw [hx]
    intro p hp
    have := exps_mem_le _ _ _ hp
    rw [List.length_drop, len_bytes] at this
    omega
  have cX := fun W => exponentsOf_pow a ha p1 (by rw [← getD_bytes a 0 hpos]; exact h0) p3 W
  rw [← hx] at cX
  have hPO : PowerOut w a.data.toList b.data.toList = fun e w' => ∃ i, Found (Tm.expsOf a.data.toList) b.data.toList i ∧ Pair2 w (Tm.put [101, UInt8.ofNat ((Tm.expsOf a.data.toList).length + 1)] (Tm.ins (Tm.expsOf a.data.toList) i b.data.toList)) e w' := rfl
  rw [hPO]
  clear hPO
  generalize Tm.expsOf a.data.toList = xs at *
  have hfin : ∀ (i : Nat) (e : Ending) (w' : World), Found xs b.data.toList i → Pair2 w (Tm.put [101, UInt8.ofNat (xs.length + 1)] (Tm.ins xs i b.data.toList)) e w' → ∃ i, Found xs b.data.toList i ∧ Pair2 w (Tm.put [101, UInt8.ofNat (xs.length + 1)] (Tm.ins xs i b.data.toList)) e w' := fun i e w' h h' => ⟨i, h, h'⟩
  have hins : ∀ i, ∀ p ∈ Tm.ins xs i b.data.toList, p.length ≤ maxLen := by
    intro i p hp
    simp only [Tm.ins, List.mem_append, List.mem_cons] at hp
    rcases hp with hp | rfl | hp
    · exact hmem p (List.mem_of_mem_take hp)
    · rw [len_bytes]; exact hb
    · exact hmem p (List.mem_of_mem_drop hp)
  generalize hQ : (fun e w' => ∃ i, Found xs b.data.toList i ∧ Pair2 w (Tm.put [101, UInt8.ofNat (xs.length + 1)] (Tm.ins xs i b.data.toList)) e w') = Q
  have hfin2 : ∀ (i : Nat) (e : Ending) (w' : World), Found xs b.data.toList i → Pair2 w (Tm.put [101, UInt8.ofNat (xs.length + 1)] (Tm.ins xs i b.data.toList)) e w' → Q e w' := by
    intro i e w' h h'
    rw [← hQ]
    exact ⟨i, h, h'⟩
  have HE := Lib.hid cE
  have HA := Lib.hid cA
  have HB := Lib.hid cB
  have HX := Lib.hid cX
  have HF := Lib.hid hfin2
  have HI := Lib.hid hins
  have hn : xs.length < 32 := by omega
  have k32 : ((xs.length : Int) == 32) = false := by simp; omega
  clear cE cA cB cX hx h1 h2 h3 h0 ha hb h101 p2 p3 h32 hfin hfin2 hQ hins hmem hlen
  go_enter Try.func21, Try.ntmps21
  go_wp2_with (go_at_call 42; refine (HE.out _).mono ?_)
  rintro e' w' ⟨rfl, rfl⟩
  go_wp2_with (go_at_call 43; refine (HA.out _).mono ?_)
  rintro e' w1 ⟨rfl, hb1⟩
  go_wp2_with (go_at_call 43; refine (HB.out _).mono ?_)
  rintro e' w2 ⟨rfl, hb2⟩
  have B2 := Lib.hid (hb1.trans (hb2.mono hb1.size))
  clear hb1 hb2
  go_wp2_with (go_at_call 44; refine (HX.out _).mono ?_)
  rintro e' w3 ⟨g, rfl, hrow, hb3⟩
  have hgw : w2.heap.size ≤ g := (hrow.lt g rfl).1
  have hgl : g < w3.heap.size := (hrow.lt g rfl).2
  have B3 := Lib.hid (B2.out.trans (hb3.mono B2.out.size))
  have R3 := Lib.hid hrow
  clear hrow hb3
  go_wp2_with (go_at_call 45; refine (Search_calls xs b g 32 _ (texts_of_row R3.out) (by omega)).mono ?_)
  rintro e' w' ⟨i, fb, rfl, hfound, rfl⟩
  have hFi := Lib.hid hfound
  have hile : i ≤ xs.length := hfound.1
  clear hfound
  have hR : Row32 w2.heap.size g xs (w'.alloc (.cells #[.string b] 24)) := World.ownsRow.alloc R3.out _
  have HR4 := Lib.hid hR
  clear hR
  have hw2 : w2.heap.size ≤ w'.heap.size := by omega
  by_cases hi : i < xs.length
  · go_wp2_with (go_at_call 46; refine (Insert_shift xs b w2.heap.size g w'.heap.size i _ HR4.out hn hi (heap_alloc_new w' _) (by omega) hgw).mono ?_)
    rintro e' w4 ⟨g4, cap4, rfl, hT, hg, hb4⟩
    have e4 : (xs.take i ++ b.data.toList :: xs.drop i).length = xs.length + 1 := Tm.ins_length xs i b.data.toList hile
    rw [e4]
    have X4 : Hid (Texts w4 g4 (Tm.ins xs i b.data.toList) ∧ g4 < w4.heap.size ∧ Below w.heap.size w w4 ∧ (Tm.ins xs i b.data.toList).length = xs.length + 1) := ⟨hT, hg, (B3.out.alloc B3.out.size _).trans (hb4.mono B2.out.size), e4⟩
    clear hT hg hb4 e4
    have cP := put_row (Tm.ins xs i b.data.toList) xs.length g4 cap4 w w4 X4.out.2.2.1 X4.out.1 X4.out.2.1 X4.out.2.2.2 hn (HI.out i)
    obtain ⟨r, hr⟩ : ∃ r, Tm.put [101, UInt8.ofNat (xs.length + 1)] (Tm.ins xs i b.data.toList) = r := ⟨_, rfl⟩
    rw [hr] at cP
    have HP := Lib.hid cP
    have HQ := Lib.hid hr
    clear cP hr X4
    go_wp2_with (go_at_call 41; refine HP.out.mono ?_)
    rintro e' w5 ⟨rfl, hb5⟩
    go_wp2
    exact HF.out i _ _ hFi.out (by rw [HQ.out]; exact ⟨rfl, hb5⟩)
  · obtain rfl : i = xs.length := by omega
    go_wp2_with (go_at_call 46; refine (Insert_end xs b w2.heap.size g w'.heap.size _ HR4.out hn (by simp [World.cell?_alloc_new]) hgw (by simp; omega)).mono ?_)
    rintro e' w4 ⟨g4, cap4, rfl, hT, hg, hb4⟩
    have e5 : Tm.ins xs xs.length b.data.toList = xs ++ [b.data.toList] := by simp [Tm.ins]
    have e4 : (xs ++ [b.data.toList]).length = xs.length + 1 := by simp
    rw [e4]
    have X4 : Hid (Texts w4 g4 (Tm.ins xs xs.length b.data.toList) ∧ g4 < w4.heap.size ∧ Below w.heap.size w w4 ∧ (Tm.ins xs xs.length b.data.toList).length = xs.length + 1) := ⟨by rw [e5]; exact hT, hg, (B3.out.alloc B3.out.size _).trans (hb4.mono B2.out.size), by rw [e5]; exact e4⟩
    clear hT hg hb4 e4 e5
    have cP := put_row (Tm.ins xs xs.length b.data.toList) xs.length g4 cap4 w w4 X4.out.2.2.1 X4.out.1 X4.out.2.1 X4.out.2.2.2 hn (HI.out xs.length)
    obtain ⟨r, hr⟩ : ∃ r, Tm.put [101, UInt8.ofNat (xs.length + 1)] (Tm.ins xs xs.length b.data.toList) = r := ⟨_, rfl⟩
    rw [hr] at cP
    have HP := Lib.hid cP
    have HQ := Lib.hid hr
    clear cP hr X4
    go_wp2_with (go_at_call 41; refine HP.out.mono ?_)
    rintro e' w5 ⟨rfl, hb5⟩
    go_wp2
    exact HF.out xs.length _ _ hFi.out (by rw [HQ.out]; exact ⟨rfl, hb5⟩)

end Go.Proofs.Ytloheongiceliaa
