/- Contracts of slices.Values, of its iterator, and of AppendSeq, Collect and Sorted over it, at ints: a new row, sorted. Contracts of view.among, of its function value, and of view.Has: is a process in a list? Contracts of view.keep, Both and Without: what of a list is wanted, in its order. Contracts of view.Row and view.Same, and of the document's own Row, Has and Same. Contracts of view.Same, and of the document's own Has, Same, Both and Without. Contracts of the document's own Both and Without. Contracts of view.Right and view.Term, and of the document's own. Contracts of view.Less, view.Next and the document's own Less: ids of views. The laws' own example, and a view that a law is handed. Ids, views and rows of ints that a law is handed, as their cells lie in memory. Views as terms: right views are terms, unlike ones unlike terms. -/
import Derived.Test.YtkhiconkoldllaaMsg
import Derived.Test.YtkhiconkoldllaaShelfV
import Derived.RangeFuncBox
import Derived.RangeFuncLeaves
import Derived.Shelf.Abstract
import Derived.WalkKit
import Derived.OwnWalkIn
import Derived.TacticsInMore
import Derived.LoopNIn
import Derived.LoopIn
import Derived.Maps.AppendAt
import Derived.Sort.OwnSortedInts
import Derived.Test.YtkhiconkoldllaaR4G
import Derived.Test.YtkhiconkoldllaaPack
import Derived.Test.YtkhiconkoldllaaWBase
import Derived.Test.YtkhiconkoldllaaChecked
import Derived.ChangeSlices
section
namespace Go.Proofs.Ytkhiconkoldllaa.L10
open Go.ChangeShapes Go.WideShapes Go.ChangeAt Go.RowKit Go.Shelf Go.Sort

attribute [local go_sem] Oper.semAt_some

theorem take_next (xs : List Int) {k : Nat} {x : Int} (h : xs[k]? = some x) : xs.take (k + 1) = xs.take k ++ [x] := by
  rw [List.take_add_one, h]; rfl

set_option maxRecDepth 100000 in
set_option maxHeartbeats 2000000 in
theorem values1_in (n : Nat) (hn : 1 ≤ n) (l Bs : Nat) (xs : List Int) (v : Value) (w W : World) (hI : IntsA w v xs) (hW : Below w.heap.size w W) (J Jx : List Int → World → Prop)
    (hY : ∀ pre x W, J pre W → pre.length < xs.length → YieldAt Fence.wide (n - 1) Try.prog l #[.int .i64 x] W fun e W' =>
      (e = .returned (.bool true) ∧ J (pre ++ [x]) W' ∧ Below w.heap.size W W') ∨ (e = .returned (.bool false) ∧ Jx (pre ++ [x]) W'))
    (hBs : W.cell? ⟨Bs, 0, none⟩ = some v) (h0 : J [] W) :
    CallsIn Fence.wide n Try.prog 56 #[.func (.yield l) #[] #[], .pointer (some ⟨Bs, 0, none⟩)] W fun e W' => (∃ v, e = .returned v) ∧
      ((∃ ys, ys = xs ∧ J ys W') ∨ (∃ pre, pre <+: xs ∧ Jx pre W')) := by
  obtain ⟨A, c, rfl, _⟩ := id hI.reads
  have hfew := hI.few
  unfold maxLen at hfew
  have HI := Lib.hid hI
  have HW := Lib.hid hW
  clear hI hW
  refine callsIn_of_wp Try.func56 rfl trivial ?_ rfl
  simp only [Try.ntmps56, List.size_toArray, List.length_cons, List.length_nil, Nat.reduceAdd, Nat.reduceSub, Array.replicate_succ, Array.replicate_zero, List.push_toArray, List.append_toArray, List.nil_append, List.cons_append]
  gi_wp2
  gi_loopw [7] (fun i wr => ∃ k : Nat, k ≤ xs.length ∧ i = .int .i64 k ∧ J (xs.take k) wr ∧ Below w.heap.size w wr)
    (fun i _ => xs.length - (intOf i).toNat)
  case atStart => exact ⟨0, Nat.zero_le _, rfl, by simpa using h0, HW.out⟩
  case round =>
    obtain ⟨k, hk, rfl, hJs, hnx⟩ := hrel
    by_cases hlt : k < xs.length
    · obtain ⟨x, hx⟩ : ∃ x, xs[k]? = some x := ⟨_, List.getElem?_eq_getElem hlt⟩
      obtain ⟨A', c', e', hrd⟩ := (HI.out.below hnx).reads
      cases e'
      obtain ⟨ad, rfl, _, hcx⟩ := hrd k x hx
      obtain ⟨fn, tmps, assign, body, hy, hR⟩ := hY _ x wr hJs (by rw [List.length_take]; omega)
      have HT := Lib.hid (take_next xs hx)
      have HN := Lib.hid hnx
      have HP := Lib.hid (And.intro hx hrd)
      clear hnx hx hrd
      gi_wp2
      refine hR.mono ?_
      rintro e W3 (⟨rfl, hJ3, hk3⟩ | ⟨rfl, hJx3⟩)
      · gi_wp2
        go_roundw
        case rel => exact ⟨k + 1, by omega, by simp, by rw [HT.out]; exact hJ3, HN.out.trans hk3⟩
        case measure => simp [intOf]; omega
      · gi_wp2
        refine bodyPost_ret (results_none rfl _ _ _) rfl ?_
        exact ⟨⟨_, rfl⟩, .inr ⟨_, by rw [← HT.out]; exact List.take_prefix _ _, hJx3⟩⟩
    · obtain rfl : k = xs.length := by omega
      gi_wp2
      go_end0
      exact ⟨⟨_, rfl⟩, .inl ⟨_, List.take_length, hJs⟩⟩

/-- slices.Values(l): the row is boxed; the function value has the box. -/
theorem values_in (n : Nat) (A : Option Addr) (len c : Nat) (w : World) :
    CallsIn Fence.wide n Try.prog 41 #[.slice A len c] w fun e w' => e = .returned (.func (.func 56) #[] #[.pointer (some ⟨w.heap.size, 0, none⟩)]) ∧ w' = w.alloc (.cells #[.slice A len c] 24) := by
  refine callsIn_of_wp Try.func41 rfl trivial ?_ rfl
  simp only [Try.ntmps41, List.size_toArray, List.length_cons, List.length_nil, Nat.reduceAdd, Nat.reduceSub, Array.replicate_succ, Array.replicate_zero, List.push_toArray, List.append_toArray, List.nil_append, List.cons_append]
  gi_wp2
  go_ret
  exact ⟨rfl, rfl⟩
theorem values_stops (n : Nat) (hn : 1 ≤ n) (Bs : Nat) (v : Value) (xs : List Int) (w w1 : World) (hI : IntsA w v xs) (hW : Below w.heap.size w w1) (hBs : Bs < w1.heap.size) (hc : w1.cell? ⟨Bs, 0, none⟩ = some v) :
    SeqStopsK Fence.wide n Try.prog 56 #[.pointer (some ⟨Bs, 0, none⟩)] (fun x : Int => #[Value.int .i64 x]) (Below w.heap.size) (fun ys => ys = xs) (fun pre => pre <+: xs) xs.length w1 := fun l J Jx W hW1 _ _ hY h0 =>
  values1_in n hn l Bs xs v w W hI (hW.trans (hW1.mono hW.size)) J Jx hY ((hW1.cell (p := ⟨Bs, 0, none⟩) hBs).trans hc) h0
theorem info_int10 : (Try.prog.info? 3).map (fun i => (i.zero, i.size, i.bytes)) = some (some (.int .i64 0), 1, 8) := by kernel_rfl

set_option maxRecDepth 100000 in
set_option maxHeartbeats 2000000 in
/-- slices.AppendSeq(nil, slices.Values(l)): a new row, like l. -/
theorem append_in (n : Nat) (hn : 3 ≤ n) (Bs : Nat) (v : Value) (xs : List Int) (w : World) (hI : IntsA w v xs) (hBs : Bs < w.heap.size) (hcb : w.cell? ⟨Bs, 0, none⟩ = some v) (hlen : xs.length ≤ 1000000) :
    CallsIn Fence.wide n Try.prog 67 #[.slice none 0 0, .func (.func 56) #[] #[.pointer (some ⟨Bs, 0, none⟩)]] w fun e W' =>
      ∃ u, e = .returned u ∧ W'.ownsRow w.heap.size 3 1 u xs.length (xs.map (Value.int .i64)) ∧ Below w.heap.size w W' := by
  have h1 : 1 ≤ n := by omega
  obtain ⟨i0, hi, hz0, hz1, hz2⟩ := info_parts info_int10
  refine callsIn_of_wp_marks Try.func67 rfl trivial ?_ rfl
  simp only [Try.ntmps67, List.size_toArray, List.length_cons, List.length_nil, Nat.reduceAdd, Nat.reduceSub, Array.replicate_succ, Array.replicate_zero, List.push_toArray, List.append_toArray, List.nil_append, List.cons_append]
  gi_wp2
  have bO := Boxed.new w 24 (.slice none 0 0)
  have hB0 : Below w.heap.size w (w.alloc (.cells #[.slice none 0 0] 24)) := (Below.refl _ w).alloc (Nat.le_refl _) _
  refine wpIn_rangeFunc_ownG rfl h1 (gf := 56) (lb := #[.pointer (some ⟨Bs, 0, none⟩)]) rfl trivial (enters_of Try.func56 (by kernel_rfl) rfl)
    (values_stops (n - 1) (by omega) Bs v xs w _ hI hB0 (by simp; omega) ((hB0.cell (p := ⟨Bs, 0, none⟩) hBs).trans hcb)) belowK_t (belowK_b (by simp)) (Below.refl _ _) (fun _ => rfl)
    (fun pre W => (∃ v, Boxed W w.heap.size 24 v ∧ W.ownsRow w.heap.size 3 1 v pre.length (pre.map (Value.int .i64)) ∧ True) ∧ Below w.heap.size w W)
    (fun _ _ _ => False)
    (OwnFrom.and (Own.from (holdsRow_own w.heap.size w.heap.size 24 3 1 (fun pre : List Int => pre.length) (fun pre => pre.map (Value.int .i64)) (fun _ _ => True)) _) (ownFrom_below (Nat.le_refl _) (by simp)))
    (fun _ _ _ _ _ hs _ _ => hs)
    ⟨⟨_, bO, World.ownsRow_nil _ _ _ _, trivial⟩, hB0⟩
    (fun x => { tmps := #[.slice none 0 0, .func (.func 56) #[] #[.pointer (some ⟨Bs, 0, none⟩)], .pointer (some ⟨w.heap.size, 0, none⟩), undef, .slice none 0 0, .int .i64 x, .func (.func 56) #[] #[.pointer (some ⟨Bs, 0, none⟩)], .int .i64 x, undef, undef, undef, undef, undef], defers := [] }) ?assign ?body ?done ?stop
  case assign =>
    intro l x W K hK
    gi_wp2
    exact hK
  case body =>
    rintro l pre x W ⟨⟨u, hv, hrow, _⟩, hB⟩ hlt
    have hc := hv.cell
    gi_wp2_with (gi_at_builtin; refine wpListIn_append_own _ rfl _ _ 24 rfl w.heap.size 3 i0 (.int .i64 0) 1 8 Try.underlying24 hi hz0 hz1 hz2 rfl (by decide) _ _ _ rfl (hrow.alloc _) ⟨W.heap.size, 0, none⟩ 1 1 [.int .i64 x] rfl rfl (cell_one_new _ _ _) (by simp [Value.oneCell']) (by unfold maxLen; omega) (by omega) (by have := hB.size; simp; omega) ?_; intro v' w1 hown' hgrow _; obtain ⟨g', cap', rfl⟩ := ownsRow_succ hown'; obtain ⟨hv1, hv2, hr2, hk2, hb2⟩ := hv.appended (by decide) hrow hB.size (Nat.le_refl _) hown' hgrow; have hc1 := hv1.cell; have hf1 := hv1.frozen)
    exact ⟨hk2.from _, hb2, ⟨_, hv2, by simpa using hr2, trivial⟩, hB.trans hb2⟩
  case done =>
    rintro D ys W hD rfl ⟨⟨u, hv, hrow, _⟩, hB⟩ hK
    have hc := hv.cell
    gi_wp2
    refine ⟨by simp, .inl ⟨_, _, rfl, run_takeDeferred hK, ?_⟩⟩
    exact ⟨_, results_tmp rfl _ _ _, u, rfl, ownsRow_putObj hrow _ hK rfl, hB.trans (belowK_b (w := w) (Nat.le_refl _) W D _ _ (by simp at hD; omega) hK rfl rfl)⟩
  case stop =>
    rintro D c pre W _ _ h _
    exact h.elim

theorem collect_in (n : Nat) (hn : 4 ≤ n) (Bs : Nat) (v : Value) (xs : List Int) (w : World) (hI : IntsA w v xs) (hBs : Bs < w.heap.size) (hcb : w.cell? ⟨Bs, 0, none⟩ = some v) (hlen : xs.length ≤ 1000000) :
    CallsIn Fence.wide n Try.prog 54 #[.func (.func 56) #[] #[.pointer (some ⟨Bs, 0, none⟩)]] w fun e W' =>
      ∃ u, e = .returned u ∧ W'.ownsRow w.heap.size 3 1 u xs.length (xs.map (Value.int .i64)) ∧ Below w.heap.size w W' := by
  have hA := append_in (n - 1) (by omega) Bs v xs w hI hBs hcb hlen
  have h1 : 1 ≤ n := by omega
  have hfA : Fence.wide.fn 67 := trivial
  refine callsIn_of_wp Try.func54 rfl trivial ?_ rfl
  simp only [Try.ntmps54, List.size_toArray, List.length_cons, List.length_nil, Nat.reduceAdd, Nat.reduceSub, Array.replicate_succ, Array.replicate_zero, List.push_toArray, List.append_toArray, List.nil_append, List.cons_append]
  gi_wp2_with (gi_at_call 67; refine hA.mono ?_; rintro e W ⟨u, rfl, hrow, hb⟩)
  go_ret
  exact ⟨_, rfl, hrow, hb⟩
/-- A row in the order of numbers. -/
def sortL (xs : List Int) : List Int := xs.mergeSort fun x y => decide (x ≤ y)
theorem sortL_length (xs : List Int) : (sortL xs).length = xs.length := List.length_mergeSort xs
theorem sortL_mem (xs : List Int) (x : Int) : x ∈ sortL xs ↔ x ∈ xs := List.mem_mergeSort
theorem sortL_sorted (xs : List Int) : (sortL xs).Pairwise (· ≤ ·) := by
  have := List.pairwise_mergeSort (le := fun x y : Int => decide (x ≤ y)) (fun a b c h1 h2 => by simp at *; omega) (fun a b => by simp; omega) xs
  exact this.imp (by simp)

set_option maxHeartbeats 1000000 in
theorem sorted_in (n : Nat) (hn : 5 ≤ n) (Bs : Nat) (v : Value) (xs : List Int) (w : World) (hI : IntsA w v xs) (hBs : Bs < w.heap.size) (hcb : w.cell? ⟨Bs, 0, none⟩ = some v) (hlen : xs.length ≤ 1000000) :
    CallsIn Fence.wide n Try.prog 40 #[.func (.func 56) #[] #[.pointer (some ⟨Bs, 0, none⟩)]] w fun e W' =>
      ∃ u, e = .returned u ∧ W'.ownsRow w.heap.size 3 1 u xs.length ((sortL xs).map (Value.int .i64)) ∧ Below w.heap.size w W' := by
  have hC := collect_in (n - 1) (by omega) Bs v xs w hI hBs hcb hlen
  have h1 : 1 ≤ n := by omega
  have hfA : Fence.wide.fn 54 := trivial
  have hfB : Fence.wide.fn 55 := trivial
  refine callsIn_of_wp Try.func40 rfl trivial ?_ rfl
  simp only [Try.ntmps40, List.size_toArray, List.length_cons, List.length_nil, Nat.reduceAdd, Nat.reduceSub, Array.replicate_succ, Array.replicate_zero, List.push_toArray, List.append_toArray, List.nil_append, List.cons_append]
  gi_wp2_with (gi_at_call 54; refine hC.mono ?_; rintro e W ⟨u, rfl, hrow, hb⟩)
  rcases hrow.2 with ⟨rfl, hz⟩ | ⟨gb, cap, cur, rfl, hbase, hgb, r1, r2, r3, r4⟩
  · have hs := fun V => (callsIn_wide (n := n - 1)).2 (Try.slices_Sort_int_none none 0 V)
    have hx : xs = [] := List.eq_nil_of_length_eq_zero hz
    subst hx
    gi_wp2_with (gi_at_call 55; refine (hs _).mono ?_; rintro e w' ⟨rfl, rfl⟩)
    go_ret
    exact ⟨_, rfl, by simpa [sortL] using hrow, hb⟩
  · have hH : Holds (Value.int .i64) W gb 0 xs.toArray := holds_of_blockI hgb (by simpa using r4)
    have hgl : gb < W.heap.size := (Array.getElem?_eq_some_iff.1 hgb).1
    have hs := (callsIn_wide (n := n - 1)).2 (Try.slices_Sort_int gb 0 cap xs W hH hgl (by omega))
    gi_wp2_with (gi_at_call 55; refine hs.mono ?_; rintro e w' ⟨rfl, nn, os, rfl⟩)
    go_ret
    exact ⟨_, rfl, ownsRow_sortedI (List.length_mergeSort xs) hbase hgb r1 r2 r3, hb.grown (grownBy_sortedI _) hb.size (fun j hj => by cases hj; exact hbase)⟩
end Go.Proofs.Ytkhiconkoldllaa.L10
end

section
namespace Go.Proofs.Ytkhiconkoldllaa.L10
open Go.ChangeShapes Go.WideShapes Go.ChangeAt Go.RowKit Go.Shelf Go.Sort

theorem own_base {W : World} {base base' : Nat} {e : TypeId} {size n : Nat} {v : Value} {xs : List Value} (h : W.ownsRow base e size v n xs) (hb : base' ≤ base) : W.ownsRow base' e size v n xs :=
  ⟨h.1, h.2.imp id (fun ⟨g, cap, cur, e, k, r⟩ => ⟨g, cap, cur, e, Nat.le_trans hb k, r⟩)⟩
/-- A function value that tells what is in a list: it keeps a sorted row of it. -/
structure TellsA (B : Nat) (w : World) (f : Value) (xs : List Int) : Prop where
  few : xs.length ≤ 1000000
  reads : ∃ (Bs : Nat) (u : Value), f = .func (.func 42) #[] #[.pointer (some ⟨Bs, 0, none⟩)] ∧ Bs < w.heap.size ∧ w.cell? ⟨Bs, 0, none⟩ = some u ∧ w.ownsRow B 3 1 u xs.length ((sortL xs).map (Value.int .i64))
def AmongOut (w : World) (xs : List Int) (e : Ending) (w' : World) : Prop := ∃ f, e = .returned f ∧ TellsA w.heap.size w' f xs ∧ Below w.heap.size w w'

set_option maxHeartbeats 1000000 in
theorem among_calls (v : Value) (xs : List Int) (w : World) (hI : IntsA w v xs) (hlen : xs.length ≤ 1000000) : Calls Try.prog 29 #[v] w (AmongOut w xs) := by
  obtain ⟨A, c, rfl, _⟩ := id hI.reads
  have hV := fun (V : World) => callsIn_wide.1 (values_in 6 A xs.length c V)
  have bN := Boxed.new w 24 (.slice A xs.length c)
  have hB0 : Below w.heap.size w (w.alloc (.cells #[.slice A xs.length c] 24)) := (Below.refl _ w).alloc (Nat.le_refl _) _
  have hS := callsIn_wide.1 (sorted_in 6 (by omega) w.heap.size _ xs _ (hI.below hB0) (by simp) bN.cell hlen)
  clear hI
  have HB0 := Lib.hid hB0
  have hN : (w.alloc (.cells #[.slice A xs.length c] 24)).heap.size = w.heap.size + 1 := by simp
  have HN := Lib.hid hN
  have HL := Lib.hid hlen
  clear hB0 bN hN hlen
  go_enter Try.func29, Try.ntmps29
  go_wp2_with (first
    | (go_at_call 41; refine (hV _).mono ?_; rintro e w1 ⟨rfl, rfl⟩)
    | (go_at_call 40; refine hS.mono ?_; rintro e w2 ⟨u, rfl, hrow, hb⟩; obtain ⟨A2, c2, rfl⟩ := own_slice hrow; have HR := Lib.hid hrow; have HB := Lib.hid hb; clear hrow hb))
  go_ret
  have hsz := HB.out.size
  rw [HN.out] at hsz
  have hba := (Below.refl w2.heap.size w2).alloc (Nat.le_refl _) (.cells #[.slice A2 xs.length c2] 24)
  refine ⟨_, rfl, ⟨HL.out, _, _, rfl, by simp, (Boxed.new w2 24 _).cell, own_base (own_below HR.out hba) (by rw [HN.out]; omega)⟩, HB0.out.trans ((HB.out.mono (by rw [HN.out]; omega)).trans (hba.mono (by omega)))⟩
theorem TellsA.below {B : Nat} {w w' : World} {f : Value} {xs : List Int} (h : TellsA B w f xs) (hb : Below w.heap.size w w') : TellsA B w' f xs := by
  obtain ⟨hl, Bs, u, e, h1, h2, h3⟩ := h
  exact ⟨hl, Bs, u, e, Nat.lt_of_lt_of_le h1 hb.size, (hb.cell (p := ⟨Bs, 0, none⟩) h1).trans h2, own_below h3 hb⟩

set_option maxHeartbeats 1000000 in
theorem search_none (c : Nat) (p : Int) (w : World) : Calls Try.prog 43 #[.slice none 0 c, .int .i64 p] w fun e w' => e = .returned (.tuple #[.int .i64 0, .bool false]) ∧ w' = w := by
  go_enter Try.func43, Try.ntmps43
  go_wp2
  go_loopg [7, 8] 0 (fun _ s7 s8 wr => s7 = .int .i64 0 ∧ s8 = .int .i64 0 ∧ wr = w)
  case atStart => exact ⟨rfl, rfl, rfl⟩
  case round =>
    obtain ⟨rfl, rfl, rfl⟩ := hrel
    go_wp2
    go_ret2
    exact ⟨rfl, rfl⟩
theorem below_drewN (w : World) (q B : Nat) : Below B w (w.drewN q) := ⟨rfl, rfl, rfl, Nat.le_refl _, fun _ _ => rfl⟩
theorem sorted_has (xs : List Int) (p : Int) : (sortL xs).contains p = xs.contains p := by
  rw [Bool.eq_iff_iff, List.contains_iff_mem, List.contains_iff_mem, sortL_mem]

set_option maxHeartbeats 1000000 in
/-- What among hands back tells whether a process is in the list. -/
theorem tells_calls {B : Nat} {f : Value} {xs : List Int} {w : World} (h : TellsA B w f xs) (p : Int) : ∃ lb, f = .func (.func 42) #[] lb ∧ Calls Try.prog 42 (#[.int .i64 p] ++ lb) w (One w (.bool (xs.contains p))) := by
  obtain ⟨hl, Bs, u, rfl, h1, h2, h3⟩ := h
  refine ⟨_, rfl, ?_⟩
  rw [← sorted_has]
  have hs : ∃ k : Int, ∃ A c, u = .slice A xs.length c ∧ ∀ V, V = w → Calls Try.prog 43 #[u, .int .i64 p] V fun e w' => e = .returned (.tuple #[.int .i64 k, .bool ((sortL xs).contains p)]) ∧ ∃ q, w' = V.drewN q := by
    rcases h3.2 with ⟨rfl, hz⟩ | ⟨gb, cap, cur, rfl, hbase, hgb, r1, r2, r3, r4⟩
    · have hx : xs = [] := List.eq_nil_of_length_eq_zero hz
      subst hx
      refine ⟨0, _, _, rfl, fun V _ => (search_none 0 p V).mono ?_⟩
      rintro e w' ⟨rfl, rfl⟩
      exact ⟨by simp [sortL], 0, rfl⟩
    · have e1 : (sortL xs).take xs.length = sortL xs := by rw [← sortL_length xs, List.take_length]
      refine ⟨((sortL xs).countP (· < p) : Nat), _, _, rfl, fun V hV => ?_⟩
      subst hV
      have := Try.slices_BinarySearch_int gb 0 xs.length cap (sortL xs) p V (by rw [sortL_length]; exact Nat.le_refl _) (by omega) (fun j hj => ?_) (by rw [e1]; exact sortL_sorted xs)
      · rw [e1] at this
        exact this
      · have hj' : j < xs.length := by rw [← sortL_length]; exact hj
        have := h3.cellAt j (by omega)
        rw [Nat.zero_add, this, List.getElem?_map, List.getElem?_eq_getElem hj, List.getD, List.getElem?_eq_getElem hj]
        rfl
  obtain ⟨k, A, c, rfl, hs⟩ := hs
  have hS := hs w rfl
  clear hs h3
  generalize (sortL xs).contains p = b at hS ⊢
  go_enter Try.func42, Try.ntmps42
  go_wp2_with (go_at_call 43; refine hS.mono ?_; rintro e w1 ⟨rfl, q, rfl⟩)
  go_ret
  exact ⟨rfl, below_drewN _ _ _⟩

set_option maxHeartbeats 1000000 in
theorem has_calls (v : Value) (xs : List Int) (p : Int) (w : World) (hI : IntsA w v xs) (hlen : xs.length ≤ 1000000) : Calls Try.prog 18 #[v, .int .i64 p] w (One w (.bool (xs.contains p))) := by
  have hA := among_calls v xs w hI hlen
  obtain ⟨A, c, rfl, _⟩ := id hI.reads
  obtain ⟨b, hbv⟩ : ∃ b, xs.contains p = b := ⟨_, rfl⟩
  rw [hbv]
  have HV := Lib.hid hbv
  clear hI hbv
  go_enter Try.func18, Try.ntmps18
  go_wp2_with (first
    | (go_at_call 29; refine hA.mono ?_; rintro e w1 ⟨f, rfl, hT, hb⟩; obtain ⟨lb, rfl, hC⟩ := tells_calls hT p; rw [HV.out] at hC; have HB := Lib.hid hb; clear hT hb)
    | (go_at_call 42; refine hC.mono ?_; rintro e w2 ⟨rfl, hb2⟩))
  go_ret
  exact ⟨rfl, HB.out.trans (hb2.mono HB.out.size)⟩
end Go.Proofs.Ytkhiconkoldllaa.L10
end

section
namespace Go.Proofs.Ytkhiconkoldllaa.L10
open Go.ChangeShapes Go.WideShapes Go.ChangeAt Go.RowKit Go.Shelf Go.Sort

/-- A function value that tells q of a process. -/
structure WantsA (w : World) (f : Value) (q : Int → Bool) : Prop where
  calls : ∃ g lb, f = .func (.func g) #[] lb ∧ (∀ args w, (callFunc g args).run Try.prog w = .ok (.enter g args) w) ∧ ∀ V p, Below w.heap.size w V → Calls Try.prog g (#[.int .i64 p] ++ lb) V (One V (.bool (q p)))
theorem TellsA.wants {B : Nat} {w : World} {f : Value} {xs : List Int} (h : TellsA B w f xs) : WantsA w f (fun p => xs.contains p) := by
  obtain ⟨hl, Bs, u, rfl, h1, h2, h3⟩ := id h
  refine ⟨_, _, rfl, enters_of Try.func42 (by kernel_rfl) rfl, fun V p hb => ?_⟩
  obtain ⟨lb, e, hc⟩ := tells_calls (h.below hb) p
  cases e
  exact hc
/-- A new row of numbers. -/
def IntsOut (w : World) (ys : List Int) (e : Ending) (w' : World) : Prop := ∃ v, e = .returned v ∧ w'.ownsRow w.heap.size 3 1 v ys.length (ys.map (Value.int .i64)) ∧ Below w.heap.size w w'
def Keeping (w : World) (xs : List Int) (q : Int → Bool) (k : Nat) (v5 v10 : Value) (wr : World) : Prop :=
  ∃ i : Nat, k + i = xs.length ∧ v10 = .int .i64 i ∧ wr.ownsRow w.heap.size 3 1 v5 ((xs.take i).filter q).length (((xs.take i).filter q).map (Value.int .i64)) ∧ Below w.heap.size w wr
theorem keep_yes {w wr w1 w4 : World} {xs : List Int} {q : Int → Bool} {i k : Nat} {x : Int} {v5 v2 : Value} (hk : k + 1 + i = xs.length) (hx : xs[i]? = some x) (hq : q x = true) (hB : Below w.heap.size w wr)
    (hrow : wr.ownsRow w.heap.size 3 1 v5 ((xs.take i).filter q).length (((xs.take i).filter q).map (Value.int .i64))) (b1 : Below wr.heap.size wr w1)
    (k1 : w4.ownsRow w.heap.size 3 1 v2 (((xs.take i).filter q).length + 1) (((xs.take i).filter q).map (Value.int .i64) ++ [.int .i64 x])) (k2 : (w1.alloc (.cells #[.int .i64 x] 3)).grownBy w4 v5.ownBlock) :
    Keeping w xs q k v2 (.int .i64 ((i + 1 : Nat) : Int)) w4 := by
  have b4 := hB.trans (b1.mono hB.size)
  have hg2 := grow_trans (World.grownBy_alloc w1 (.cells #[.int .i64 x] 3) _) k2
  refine ⟨i + 1, by omega, rfl, ?_, b4.grown hg2 b4.size (fun q e => (hrow.lt q e).1)⟩
  rw [take_next xs hx, List.filter_append]
  simpa [hq] using k1
theorem keep_no {w wr w1 : World} {xs : List Int} {q : Int → Bool} {i k : Nat} {x : Int} {v5 : Value} (hk : k + 1 + i = xs.length) (hx : xs[i]? = some x) (hq : q x = false) (hB : Below w.heap.size w wr)
    (hrow : wr.ownsRow w.heap.size 3 1 v5 ((xs.take i).filter q).length (((xs.take i).filter q).map (Value.int .i64))) (b1 : Below wr.heap.size wr w1) :
    Keeping w xs q k v5 (.int .i64 ((i + 1 : Nat) : Int)) w1 := by
  refine ⟨i + 1, by omega, rfl, ?_, hB.trans (b1.mono hB.size)⟩
  rw [take_next xs hx, List.filter_append]
  simpa [hq] using own_below hrow b1

set_option maxRecDepth 100000 in
set_option maxHeartbeats 4000000 in
theorem keep_calls (v f : Value) (xs : List Int) (q : Int → Bool) (w : World) (hI : IntsA w v xs) (hF : WantsA w f q) (hlen : xs.length ≤ 1000000) : Calls Try.prog 31 #[v, f] w (IntsOut w (xs.filter q)) := by
  obtain ⟨i0, hi, hz0, hz1, hz2⟩ := info_parts info_int10
  obtain ⟨A, c, rfl, _⟩ := id hI.reads
  obtain ⟨g, lb, rfl, eg, hC⟩ := hF
  have HI := Lib.hid hI
  have HC := Lib.hid hC
  clear hI hC
  have HL := Lib.hid hlen
  go_enter Try.func31, Try.ntmps31
  go_wp2
  have HStart : Hid (Keeping w xs q xs.length (.slice none 0 0) (.int .i64 0) w) := ⟨0, rfl, rfl, by simpa using World.ownsRow_nil _ _ _ _, Below.refl _ _⟩
  go_loopg [5, 10] xs.length (fun k v5 v10 wr => Keeping w xs q k v5 v10 wr)
  case atStart => exact HStart.out
  case round =>
    clear HStart
    obtain ⟨i, hk, rfl, hrow, hB⟩ := hrel
    by_cases hlt : i < xs.length
    · obtain ⟨k, rfl⟩ : ∃ k, gk = k + 1 := ⟨gk - 1, by omega⟩
      obtain ⟨x, hx⟩ : ∃ x, xs[i]? = some x := ⟨_, List.getElem?_eq_getElem hlt⟩
      obtain ⟨A', c', e', hrd⟩ := (HI.out.below hB).reads
      cases e'
      obtain ⟨ad, rfl, _, hcx⟩ := hrd i x hx
      clear hrd
      have hc := HC.out wr x hB
      obtain ⟨A4, c4, rfl⟩ := own_slice hrow
      have hfl : ((xs.take i).filter q).length ≤ i := by have := List.length_filter_le q (xs.take i); have := List.length_take_le i xs; omega
      have j1 : (i : Int) < (xs.length : Int) := by omega
      have j2 : (0 : Int) ≤ (i : Int) := by omega
      have hwr := hB.size
      cases hq : q x with
      | true =>
        rw [hq] at hc
        have HY := Lib.hid (fun w1 w4 v2 b1 k1 k2 => keep_yes (w1 := w1) (w4 := w4) (v2 := v2) hk hx hq hB hrow b1 k1 k2)
        have HRow := Lib.hid hrow
        clear hq hk hx hB hrow
        generalize ((xs.take i).filter q).length = m at *
        generalize ((xs.take i).filter q).map (Value.int .i64) = zs at *
        go_wp2_with (first
          | (go_at_fn g; refine hc.mono ?_; rintro e' w1 ⟨rfl, b1⟩; have hr1 := Lib.hid (own_below HRow.out b1); have hs1 := Nat.le_trans hwr b1.size; have HY1 := Lib.hid (fun w4 v2 k1 k2 => HY.out w1 w4 v2 b1 k1 k2); clear b1)
          | (at_builtin
             refine wpList_append_own_at _ rfl _ _ 24 rfl w.heap.size 3 i0 (.int .i64 0) 1 8 Try.underlying24 hi hz0 hz1 hz2 rfl (by decide) _ _ _ rfl (hr1.out.alloc _) ⟨w1.heap.size, 0, none⟩ 1 1 [.int .i64 x] rfl rfl (cell_one_new _ _ _) (by simp [Value.oneCell']) (by unfold maxLen; omega) (by omega) (by simp; omega) ?_
             intro v2 w4 hown' hgrow hnil hat
             have hRl := Lib.hid (HY1.out w4 v2 hown' hgrow)
             clear hown' hgrow hnil hat))
        go_roundg k
        case measure => omega
        case rel => exact hRl.out
      | false =>
        rw [hq] at hc
        have HY := Lib.hid (fun w1 b1 => keep_no (w1 := w1) hk hx hq hB hrow b1)
        clear hq hk hx hB hrow
        generalize ((xs.take i).filter q).length = m at *
        go_wp2_with (go_at_fn g; refine hc.mono ?_; rintro e' w1 ⟨rfl, b1⟩; have HY1 := Lib.hid (HY.out w1 b1); clear b1)
        go_roundg k
        case measure => omega
        case rel => exact HY1.out
    · have e : i = xs.length := by omega
      subst e
      have HR : Hid (IntsOut w (xs.filter q) (.returned u5) wr) := by
        rw [List.take_length] at hrow
        exact ⟨_, rfl, hrow, hB⟩
      clear hrow hB hk hlt
      go_wp2
      go_ret
      exact HR.out

theorem WantsA.below {w w' : World} {f : Value} {q : Int → Bool} (h : WantsA w f q) (hb : Below w.heap.size w w') : WantsA w' f q := by
  obtain ⟨g, lb, e, eg, hc⟩ := h
  exact ⟨g, lb, e, eg, fun V p k => hc V p (hb.trans (k.mono hb.size))⟩
set_option maxHeartbeats 1000000 in
theorem both_calls (v u : Value) (xs ys : List Int) (w : World) (hI : IntsA w v xs) (hU : IntsA w u ys) (hx : xs.length ≤ 1000000) (hy : ys.length ≤ 1000000) : Calls Try.prog 22 #[v, u] w (IntsOut w (xs.filter (fun p => ys.contains p))) := by
  have hA := among_calls u ys w hU hy
  have HK := Lib.hid (fun (V : World) (f : Value) (hb : Below w.heap.size w V) (hT : TellsA w.heap.size V f ys) => keep_calls v f xs _ V (hI.below hb) hT.wants hx)
  clear hI hU
  go_enter Try.func22, Try.ntmps22
  go_wp2_with (first
    | (go_at_call 29; refine hA.mono ?_; rintro e w1 ⟨f, rfl, hT, hb⟩; have HC := Lib.hid (HK.out w1 f hb hT); have HB := Lib.hid hb; clear hT hb)
    | (go_at_call 31; refine HC.out.mono ?_; rintro e w2 ⟨r, rfl, hr, hb2⟩))
  go_ret
  exact ⟨_, rfl, own_base hr HB.out.size, HB.out.trans (hb2.mono HB.out.size)⟩

set_option maxHeartbeats 1000000 in
theorem not_calls {f : Value} {q : Int → Bool} {w : World} {Bs : Nat} (h : WantsA w f q) (hc : w.cell? ⟨Bs, 0, none⟩ = some f) (p : Int) : Calls Try.prog 32 #[.int .i64 p, .pointer (some ⟨Bs, 0, none⟩)] w (One w (.bool (!q p))) := by
  obtain ⟨g, lb, rfl, eg, hC⟩ := h
  have HC := hC w p (Below.refl _ _)
  clear hC
  generalize q p = b at HC ⊢
  go_enter Try.func32, Try.ntmps32
  go_wp2_with (go_at_fn g; refine HC.mono ?_; rintro e w1 ⟨rfl, b1⟩)
  go_ret
  exact ⟨rfl, b1⟩
theorem store_func10 {P : Program} {w : World} {a : Addr} {m : Mode} (fn : Fn) (first captured : Array Value) : (store a (.func fn first captured) m).run P w = stored P w a (.func fn first captured) m := run_store P w a _ m rfl
attribute [local go_sem] store_func10
set_option maxHeartbeats 1000000 in
theorem without_calls (v u : Value) (xs ys : List Int) (w : World) (hI : IntsA w v xs) (hU : IntsA w u ys) (hx : xs.length ≤ 1000000) (hy : ys.length ≤ 1000000) : Calls Try.prog 24 #[v, u] w (IntsOut w (xs.filter (fun p => !ys.contains p))) := by
  have hA := among_calls u ys w hU hy
  have HK : Hid (∀ (V : World) (f : Value), Below w.heap.size w V → TellsA w.heap.size V f ys → Calls Try.prog 31 #[v, .func (.func 32) #[] #[.pointer (some ⟨V.heap.size, 0, none⟩)]] (V.alloc (.cells #[f] 56)) (IntsOut (V.alloc (.cells #[f] 56)) (xs.filter (fun p => !ys.contains p)))) := by
    intro V f hb hT
    have hb1 : Below V.heap.size V (V.alloc (.cells #[f] 56)) := (Below.refl _ V).alloc (Nat.le_refl _) _
    refine keep_calls v _ xs _ _ ((hI.below hb).below hb1) ⟨_, _, rfl, enters_of Try.func32 (by kernel_rfl) rfl, fun W p hW => ?_⟩ hx
    exact not_calls (f := f) (q := fun p => ys.contains p) (hT.wants.below (hb1.trans (hW.mono hb1.size))) ((hW.cell (p := ⟨V.heap.size, 0, none⟩) (by simp)).trans (Boxed.new V 56 f).cell) p
  clear hI hU
  go_enter Try.func24, Try.ntmps24
  go_wp2_with (first
    | (go_at_call 29; refine hA.mono ?_; rintro e w1 ⟨f, rfl, hT, hb⟩; have HC := Lib.hid (HK.out w1 f hb hT); have HB := Lib.hid hb; obtain ⟨_, Bs, u, rfl, _⟩ := hT; clear hb)
    | (go_at_call 31; refine HC.out.mono ?_; rintro e w2 ⟨r, rfl, hr, hb2⟩))
  go_ret
  have hba := fun (w1 : World) (o : Obj) => (Below.refl w1.heap.size w1).alloc (Nat.le_refl _) o
  exact ⟨_, rfl, own_base hr (by have := HB.out.size; simp; omega), (HB.out.trans ((hba _ _).mono HB.out.size)).trans (hb2.mono (by have := HB.out.size; simp; omega))⟩
end Go.Proofs.Ytkhiconkoldllaa.L10
end

section
namespace Go.Proofs.Ytkhiconkoldllaa.L10
open Go.ChangeShapes Go.WideShapes Go.ChangeAt Go.RowKit Go.Shelf Go.Sort Go.Proofs.Ytkhiconkoldllaa.L4

/-- Do the numbers rise, each 1 to 8, and is there one? -/
def rowB (xs : List Int) : Bool := riseB 0 xs && !xs.isEmpty
def RowLoop (w : World) (xs : List Int) (k : Nat) (v3 v8 : Value) (wr : World) : Prop :=
  ∃ (i : Nat) (a : Int), k + i = xs.length ∧ v8 = .int .i64 i ∧ v3 = .int .i64 a ∧ 0 ≤ a ∧ a ≤ 8 ∧ riseB 0 xs = riseB a (xs.drop i) ∧ w = wr

set_option maxRecDepth 100000 in
set_option maxHeartbeats 2000000 in
theorem row_calls (v : Value) (xs : List Int) (w : World) (hI : IntsA w v xs) : Calls Try.prog 16 #[v] w fun e w' => e = .returned (.bool (rowB xs)) ∧ w = w' := by
  obtain ⟨⟨A, c, rfl, hcells⟩, hfit, hfew⟩ := hI
  have HC := Lib.hid hcells
  obtain ⟨r, hr⟩ : ∃ r, rowB xs = r := ⟨_, rfl⟩
  rw [hr]
  have HR := Lib.hid hr
  unfold maxLen at hfew
  clear hcells hfit hr
  go_enter Try.func16, Try.ntmps16
  go_wp2
  go_loopg [3, 8] xs.length (fun k v3 v8 wr => RowLoop w xs k v3 v8 wr)
  case atStart => exact ⟨0, 0, by omega, rfl, rfl, by omega, by omega, by simp, rfl⟩
  case round =>
    obtain ⟨i, a, hk, rfl, rfl, h0, h8, hd, rfl⟩ := hrel
    by_cases hil : i < xs.length
    · obtain ⟨x, hx⟩ : ∃ x, xs[i]? = some x := ⟨_, List.getElem?_eq_getElem hil⟩
      obtain ⟨ad, rfl, a1, a3⟩ := HC.out i x hx
      have hdrop : xs.drop i = x :: xs.drop (i + 1) := by
        rw [List.drop_eq_getElem_cons hil, (List.getElem?_eq_some_iff.1 hx).2]
      have hd2 : riseB 0 xs = (withinB x (a + 1) 8 && riseB x (xs.drop (i + 1))) := by rw [hd, hdrop]; rfl
      have hwb := withinB_iff x (a + 1) 8
      have hgk : gk - 1 < gk := by omega
      have j1 : (i : Int) < (xs.length : Int) := by omega
      have j2 : (0 : Int) ≤ (i : Int) := by omega
      cases hb : withinB x (a + 1) 8 with
      | false =>
        have hrf : r = false := by rw [← HR.out, rowB, hd2, hb]; rfl
        subst hrf
        have hno : x ≤ a ∨ ¬ x ≤ a ∧ 8 < x := by
          have : ¬ (a + 1 ≤ x ∧ x ≤ 8) := fun h => by rw [hwb.2 h] at hb; cases hb
          omega
        clear hk hd hx hdrop hd2 hwb hb h0 h8
        rcases hno with h1 | ⟨h1, h2⟩
        · go_wp2
          go_ret
          exact ⟨rfl, rfl⟩
        · go_wp2
          go_ret
          exact ⟨rfl, rfl⟩
      | true =>
        have hx8 := hwb.1 hb
        have hRel : Hid (RowLoop w xs (gk - 1) (.int .i64 x) (.int .i64 ((i + 1 : Nat) : Int)) w) := ⟨i + 1, x, by omega, rfl, rfl, by omega, by omega, by rw [hd2, hb]; rfl, rfl⟩
        have h1 : ¬ x ≤ a := by omega
        have h2 : ¬ 8 < x := by omega
        clear hk hd hx hdrop hd2 hwb hb hx8
        go_wp2
        go_roundg (gk - 1)
        case measure => exact hgk
        case rel => exact hRel.out
    · have hrt : r = decide (0 < (xs.length : Int)) := by
        rw [← HR.out, rowB, hd, List.drop_eq_nil_of_le (by omega)]
        cases xs <;> simp [riseB]
      subst hrt
      have j1 : ¬ ((i : Int) < (xs.length : Int)) := by omega
      clear hk hd
      go_wp2
      go_ret
      exact ⟨rfl, rfl⟩
def RRowLoop (w : World) (xs : List Int) (k : Nat) (v3 : Value) (wr : World) : Prop :=
  ∃ i : Nat, k + i = xs.length ∧ v3 = .int .i64 i ∧ riseB 0 xs = riseB (L4.ahead xs i) (xs.drop i) ∧ 0 ≤ L4.ahead xs i ∧ L4.ahead xs i ≤ 8 ∧ (0 < i → 1 ≤ L4.ahead xs i) ∧ Below w.heap.size w wr

set_option maxRecDepth 100000 in
set_option maxHeartbeats 4000000 in
theorem rrow_calls (v : Value) (xs : List Int) (w : World) (hI : IntsA w v xs) : Calls Try.prog 17 #[v] w (One w (.bool (rowB xs))) := by
  obtain ⟨A, c, rfl, _⟩ := id hI.reads
  have hfew := hI.few
  unfold maxLen at hfew
  have HI : Hid (∀ (j : Nat) (x : Int), xs[j]? = some x → ∃ ad : Addr, A = some ad ∧ ∀ V : World, Below w.heap.size w V → V.cell? (ad.add j) = some (.int .i64 x)) := by
    intro j x hx
    obtain ⟨A', c', e, k⟩ := hI.reads
    cases e
    obtain ⟨ad, e2, b1, b2⟩ := k j x hx
    exact ⟨ad, e2, fun V hV => (hV.cell (p := ad.add j) (by rw [addr_block]; exact b1)).trans b2⟩
  obtain ⟨r, hr⟩ : ∃ r, rowB xs = r := ⟨_, rfl⟩
  rw [hr]
  have HR := Lib.hid hr
  clear hI hr
  go_enter Try.func17, Try.ntmps17
  go_wp2
  go_loopg [3] xs.length (fun k v3 wr => RRowLoop w xs k v3 wr)
  case atStart => exact ⟨0, by omega, rfl, by simp [L4.ahead], by simp [L4.ahead], by simp [L4.ahead], by omega, Below.refl _ _⟩
  case round =>
    obtain ⟨i, hk, rfl, hd, h0, h8, h1, hBd⟩ := hrel
    have HBd := Lib.hid hBd
    by_cases hil : i < xs.length
    · obtain ⟨x, hx⟩ : ∃ x, xs[i]? = some x := ⟨_, List.getElem?_eq_getElem hil⟩
      obtain ⟨ad, rfl, hcx⟩ := HI.out i x hx
      have c1 := hcx wr hBd
      have hdrop : xs.drop i = x :: xs.drop (i + 1) := by
        rw [List.drop_eq_getElem_cons hil, (List.getElem?_eq_some_iff.1 hx).2]
      have hd2 : riseB 0 xs = (withinB x (L4.ahead xs i + 1) 8 && riseB x (xs.drop (i + 1))) := by rw [hd, hdrop]; rfl
      have hnx : L4.ahead xs (i + 1) = x := by simp [L4.ahead, List.getD, hx]
      have hgk := Lib.hid (show gk - 1 < gk by omega)
      have j1 : (i : Int) < (xs.length : Int) := by omega
      have j2 : (0 : Int) ≤ (i : Int) := by omega
      have hno : withinB x (L4.ahead xs i + 1) 8 = false → Hid (r = false) := fun h => by
        show r = false
        rw [← HR.out, rowB, hd2, h]
        rfl
      have hyes : withinB x (L4.ahead xs i + 1) 8 = true → Hid (∀ md2, RRowLoop w xs (gk - 1) (.int .i64 ((i + 1 : Nat) : Int)) (wr.drewN md2)) := fun h md2 => by
        have := (withinB_iff _ _ _).1 h
        exact ⟨i + 1, by omega, rfl, by rw [hd2, h, hnx]; rfl, by rw [hnx]; omega, by rw [hnx]; omega, fun _ => by rw [hnx]; omega, hBd.trans (below_drewN _ _ _)⟩
      have hiff := withinB_iff x (L4.ahead xs i + 1) 8
      have hwf : ¬ (L4.ahead xs i + 1 ≤ x ∧ x ≤ 8) → withinB x (L4.ahead xs i + 1) 8 = false := fun h => by
        cases hq : withinB x (L4.ahead xs i + 1) 8 with
        | false => rfl
        | true => exact absurd (hiff.1 hq) h
      have hend : Hid (r = false) → Hid (∀ md2, One w (.bool r) (.returned (.bool false)) (wr.drewN md2)) := fun h md2 => ⟨by rw [show r = false from h], hBd.trans (below_drewN _ _ _)⟩
      clear hBd
      by_cases hx1 : x < 1
      · have HF := Lib.hid ((hend (hno (hwf (by omega)))).out)
        clear hk hd hx hdrop hd2 hnx hno hyes hiff hwf hend h0 h8 h1
        go_wp2
        refine L4.wp_region_still (by kernel_rfl) (by kernel_rfl) ?_
        repeat
          (refine Quietly.step (fun K hK => ?_)
           go_simp
           refine hK _ ?_
           clear hK K)
        refine Quietly.none ?_
        rintro w2 ⟨nq, rfl⟩
        go_wp2
        go_ret
        exact HF.out _
      by_cases hx8 : 8 < x
      · have HF := Lib.hid ((hend (hno (hwf (by omega)))).out)
        clear hk hd hx hdrop hd2 hnx hno hyes hiff hwf hend h0 h8 h1
        go_wp2
        refine L4.wp_region_still (by kernel_rfl) (by kernel_rfl) ?_
        repeat
          (refine Quietly.step (fun K hK => ?_)
           go_simp
           refine hK _ ?_
           clear hK K)
        refine Quietly.none ?_
        rintro w2 ⟨nq, rfl⟩
        go_wp2
        go_ret
        exact HF.out _
      rcases Nat.eq_zero_or_pos i with hi0 | hi0
      · subst hi0
        have c1' : wr.cell? ad = some (.int .i64 x) := by have := c1; rwa [show ad.add 0 = ad by unfold Addr.add; rw [if_pos rfl]] at this
        have HF := Lib.hid (hyes (by rw [hiff]; simp [L4.ahead]; omega)).out
        clear hk hd hx hdrop hd2 hnx hno hyes hiff hwf hend h0 h8 h1
        go_wp2
        refine L4.wp_region_still (by kernel_rfl) (by kernel_rfl) ?_
        repeat
          (refine Quietly.step (fun K hK => ?_)
           go_simp
           refine hK _ ?_
           clear hK K)
        refine Quietly.none ?_
        rintro w2 ⟨nq, rfl⟩
        go_wp2
        go_roundg (gk - 1)
        case measure => exact hgk.out
        case rel => exact HF.out _
      · obtain ⟨q, hq⟩ : ∃ q, q + 1 = i := ⟨i - 1, by omega⟩
        obtain ⟨p, hp⟩ : ∃ p, xs[q]? = some p := ⟨_, List.getElem?_eq_getElem (by omega)⟩
        obtain ⟨ad', e', hcp⟩ := HI.out q p hp
        cases e'
        have c2 := hcp wr HBd.out
        have hap : L4.ahead xs i = p := by rw [← hq]; simp [L4.ahead, List.getD, hp]
        have j3 : (0 : Int) < (i : Int) := by omega
        have j4 : (q : Int) < (xs.length : Int) := by omega
        have j5 : (0 : Int) ≤ (q : Int) := by omega
        have j6 : IntKind.i64.wrap ((i : Int) - 1) = (q : Int) := by rw [IntKind.wrap_i64]; omega
        have hd3 := hd2
        rw [hap] at hd3
        by_cases hle : x ≤ p
        · have HF := Lib.hid ((hend (hno (hwf (by rw [hap]; omega)))).out)
          clear hk hd hx hdrop hd2 hnx hno hyes hiff hwf hend h0 h8 h1 hp hap hd3 hq
          go_wp2
          refine L4.wp_region_still (by kernel_rfl) (by kernel_rfl) ?_
          repeat
            (refine Quietly.step (fun K hK => ?_)
             go_simp
             refine hK _ ?_
             clear hK K)
          refine Quietly.none ?_
          rintro w2 ⟨nq, rfl⟩
          go_wp2
          go_ret
          exact HF.out _
        · have HF := Lib.hid (hyes (by rw [hiff, hap]; omega)).out
          clear hk hd hx hdrop hd2 hnx hno hyes hiff hwf hend h0 h8 h1 hp hap hd3 hq
          go_wp2
          refine L4.wp_region_still (by kernel_rfl) (by kernel_rfl) ?_
          repeat
            (refine Quietly.step (fun K hK => ?_)
             go_simp
             refine hK _ ?_
             clear hK K)
          refine Quietly.none ?_
          rintro w2 ⟨nq, rfl⟩
          go_wp2
          go_roundg (gk - 1)
          case measure => exact hgk.out
          case rel => exact HF.out _
    · have hrt : r = decide (0 < (xs.length : Int)) := by
        rw [← HR.out, rowB, hd, List.drop_eq_nil_of_le (by omega)]
        cases xs <;> simp [riseB]
      subst hrt
      have j1 : ¬ ((i : Int) < (xs.length : Int)) := by omega
      clear hk hd h0 h8 h1 hBd
      go_wp2
      go_ret
      exact ⟨rfl, HBd.out⟩
end Go.Proofs.Ytkhiconkoldllaa.L10
end

section
namespace Go.Proofs.Ytkhiconkoldllaa.L10
open Go.ChangeShapes Go.WideShapes Go.ChangeAt Go.RowKit Go.Shelf Go.Sort Go.Proofs.Ytkhiconkoldllaa.L4

/-- The cells of a row that is not empty. -/
theorem ints_at {w : World} {v : Value} {xs : List Int} (h : IntsA w v xs) (hx : xs ≠ []) : ∃ b off c, v = .slice (some ⟨b, off, none⟩) xs.length c ∧ ∀ j, j < xs.length → w.cell? ⟨b, off + j, none⟩ = some (.int .i64 (xs.getD j 0)) := by
  obtain ⟨A, c, rfl, k⟩ := h.reads
  obtain ⟨x, hx0⟩ : ∃ x, xs[0]? = some x := ⟨_, List.getElem?_eq_getElem (List.length_pos_iff.2 hx)⟩
  obtain ⟨⟨b, off, spot⟩, rfl, _, h0⟩ := k 0 x hx0
  have hs : spot = none := by simpa [Addr.add] using World.cell?_spot h0
  subst hs
  refine ⟨b, off, c, rfl, fun j hj => ?_⟩
  obtain ⟨ad, e, _, hc⟩ := k j _ (List.getElem?_eq_getElem hj)
  cases e
  rw [List.getD, List.getElem?_eq_getElem hj, Option.getD_some, ← hc]
  congr 1
  simp [Addr.add]

set_option maxHeartbeats 1000000 in
theorem equal_calls (v u : Value) (xs ys : List Int) (w : World) (hI : IntsA w v xs) (hU : IntsA w u ys) : Calls Try.prog 30 #[v, u] w (One w (.bool (decide (xs = ys)))) := by
  obtain ⟨A, c, e1, _⟩ := id hI.reads
  obtain ⟨A2, c2, e2, _⟩ := id hU.reads
  have f1 := hI.few
  have f2 := hU.few
  unfold maxLen at f1 f2
  by_cases hn : xs.length = ys.length
  · by_cases hx : xs = []
    · subst hx
      have hy : ys = [] := List.eq_nil_of_length_eq_zero hn.symm
      subst hy
      subst e1 e2
      refine (Try.slices_Equal_int_empty A A2 c 0 c2 w (by omega)).mono ?_
      rintro e w' ⟨rfl, rfl⟩
      exact ⟨by simp, Below.refl _ _⟩
    · have hy : ys ≠ [] := fun h => hx (List.eq_nil_of_length_eq_zero (by rw [hn, h]; rfl))
      obtain ⟨b, off, c, rfl, hc⟩ := ints_at hI hx
      obtain ⟨b2, off2, c2, rfl, hc2⟩ := ints_at hU hy
      refine (Try.slices_Equal_int b off xs.length c b2 off2 ys.length c2 xs ys w (Nat.le_refl _) (Nat.le_refl _) f1 f2 hc hc2).mono ?_
      rintro e w' ⟨rfl, q, rfl⟩
      rw [List.take_length, List.take_length]
      refine ⟨?_, below_drewN _ _ _⟩
      congr 2
      rw [Bool.eq_iff_iff]
      simp
  · have e : decide (xs = ys) = false := decide_eq_false (fun h => hn (by rw [h]))
    have hn2 : ¬ (xs.length : Int) = (ys.length : Int) := by omega
    rw [e]
    subst e1 e2
    generalize xs.length = n at *
    generalize ys.length = m at *
    clear e hI hU
    go_enter Try.func30, Try.ntmps30
    go_wp2
    go_ret
    exact ⟨rfl, Below.refl _ _⟩
set_option maxHeartbeats 1000000 in
theorem same_calls (v u : Value) (xs ys : List Int) (w : World) (hI : IntsA w v xs) (hU : IntsA w u ys) : Calls Try.prog 20 #[v, u] w (One w (.bool (decide (xs = ys)))) := by
  have hE := equal_calls v u xs ys w hI hU
  generalize decide (xs = ys) = b at *
  clear hI hU
  go_enter Try.func20, Try.ntmps20
  go_wp2_with (go_at_call 30; refine hE.mono ?_; rintro e w1 ⟨rfl, b1⟩)
  go_ret
  exact ⟨rfl, b1⟩

def RHasLoop (w : World) (xs : List Int) (p : Int) (k : Nat) (v5 : Value) (wr : World) : Prop := ∃ i : Nat, k + i = xs.length ∧ v5 = .int .i64 i ∧ xs.contains p = (xs.drop i).contains p ∧ w = wr
set_option maxRecDepth 100000 in
set_option maxHeartbeats 1000000 in
theorem rhas_calls (v : Value) (xs : List Int) (p : Int) (w : World) (hI : IntsA w v xs) : Calls Try.prog 19 #[v, .int .i64 p] w fun e w' => e = .returned (.bool (xs.contains p)) ∧ w = w' := by
  obtain ⟨⟨A, c, rfl, hcells⟩, hfit, hfew⟩ := hI
  have HC := Lib.hid hcells
  obtain ⟨r, hr⟩ : ∃ r, xs.contains p = r := ⟨_, rfl⟩
  rw [hr]
  have HR := Lib.hid hr
  unfold maxLen at hfew
  clear hcells hfit hr
  go_enter Try.func19, Try.ntmps19
  go_wp2
  go_loopg [5] xs.length (fun k v5 wr => RHasLoop w xs p k v5 wr)
  case atStart => exact ⟨0, by omega, rfl, by simp, rfl⟩
  case round =>
    obtain ⟨i, hk, rfl, hd, rfl⟩ := hrel
    by_cases hil : i < xs.length
    · obtain ⟨x, hx⟩ : ∃ x, xs[i]? = some x := ⟨_, List.getElem?_eq_getElem hil⟩
      obtain ⟨ad, rfl, a1, a3⟩ := HC.out i x hx
      have hdrop : xs.drop i = x :: xs.drop (i + 1) := by
        rw [List.drop_eq_getElem_cons hil, (List.getElem?_eq_some_iff.1 hx).2]
      have hd2 := hd
      rw [hdrop, List.contains_cons] at hd2
      have hgk : gk - 1 < gk := by omega
      have j1 : (i : Int) < (xs.length : Int) := by omega
      have j2 : (0 : Int) ≤ (i : Int) := by omega
      by_cases hxp : x = p
      · have hrt : r = true := by rw [← HR.out, hd2, hxp]; simp
        subst hrt hxp
        clear hk hd hx hdrop hd2
        go_wp2
        go_ret
        exact ⟨rfl, rfl⟩
      · have hRel : Hid (RHasLoop w xs p (gk - 1) (.int .i64 ((i + 1 : Nat) : Int)) w) := ⟨i + 1, by omega, rfl, by rw [hd2]; simp [Ne.symm hxp], rfl⟩
        clear hk hd hx hdrop hd2
        go_wp2
        go_roundg (gk - 1)
        case measure => exact hgk
        case rel => exact hRel.out
    · have hrf : r = false := by rw [← HR.out, hd, List.drop_eq_nil_of_le (by omega)]; rfl
      subst hrf
      have j1 : ¬ ((i : Int) < (xs.length : Int)) := by omega
      clear hk hd
      go_wp2
      go_ret
      exact ⟨rfl, rfl⟩

def RSameLoop (w : World) (xs ys : List Int) (k : Nat) (v5 : Value) (wr : World) : Prop := ∃ i : Nat, k + i = xs.length ∧ v5 = .int .i64 i ∧ xs.take i = ys.take i ∧ Below w.heap.size w wr
theorem ints_read {w : World} {A : Option Addr} {c : Nat} {xs : List Int} (h : IntsA w (.slice A xs.length c) xs) : ∀ (j : Nat) (x : Int), xs[j]? = some x → ∃ ad : Addr, A = some ad ∧ ∀ V : World, Below w.heap.size w V → V.cell? (ad.add j) = some (.int .i64 x) := by
  intro j x hx
  obtain ⟨A', c', e, k⟩ := h.reads
  cases e
  obtain ⟨ad, e2, b1, b2⟩ := k j x hx
  exact ⟨ad, e2, fun V hV => (hV.cell (p := ad.add j) (by rw [addr_block]; exact b1)).trans b2⟩
set_option maxRecDepth 100000 in
set_option maxHeartbeats 2000000 in
theorem rsame_calls (v u : Value) (xs ys : List Int) (w : World) (hI : IntsA w v xs) (hU : IntsA w u ys) : Calls Try.prog 21 #[v, u] w (One w (.bool (decide (xs = ys)))) := by
  obtain ⟨A, c, rfl, _⟩ := id hI.reads
  obtain ⟨A2, c2, rfl, _⟩ := id hU.reads
  have f1 := hI.few
  have f2 := hU.few
  unfold maxLen at f1 f2
  have H1 := Lib.hid (ints_read hI)
  have H2 := Lib.hid (ints_read hU)
  clear hI hU
  by_cases hn : xs.length = ys.length
  · obtain ⟨r, hr⟩ : ∃ r, decide (xs = ys) = r := ⟨_, rfl⟩
    rw [hr]
    have HR := Lib.hid hr
    have HN := Lib.hid hn
    clear hr
    rw [← hn]
    clear hn
    go_enter Try.func21, Try.ntmps21
    go_wp2
    go_loopg [5] xs.length (fun k v5 wr => RSameLoop w xs ys k v5 wr)
    case atStart => exact ⟨0, by omega, rfl, by simp, Below.refl _ _⟩
    case round =>
      obtain ⟨i, hk, rfl, hd, hB⟩ := hrel
      by_cases hil : i < xs.length
      · obtain ⟨x, hx⟩ : ∃ x, xs[i]? = some x := ⟨_, List.getElem?_eq_getElem hil⟩
        obtain ⟨y, hy⟩ : ∃ y, ys[i]? = some y := ⟨_, List.getElem?_eq_getElem (by rw [← HN.out]; exact hil)⟩
        obtain ⟨ad, rfl, hcx⟩ := H1.out i x hx
        obtain ⟨ad2, rfl, hcy⟩ := H2.out i y hy
        have c1 := hcx wr hB
        have c2' := hcy wr hB
        have hgk := Lib.hid (show gk - 1 < gk by omega)
        have j1 : (i : Int) < (xs.length : Int) := by omega
        have j2 : (0 : Int) ≤ (i : Int) := by omega
        by_cases hxy : x = y
        · subst hxy
          have HF : Hid (∀ q, RSameLoop w xs ys (gk - 1) (.int .i64 ((i + 1 : Nat) : Int)) (wr.drewN q)) := fun q => ⟨i + 1, by omega, rfl, by rw [take_next xs hx, take_next ys hy, hd], hB.trans (below_drewN _ _ _)⟩
          clear hk hd hx hy hB hcx hcy
          go_wp2
          refine L4.wp_region_still (by kernel_rfl) (by kernel_rfl) ?_
          repeat
            (refine Quietly.step (fun K hK => ?_)
             go_simp
             refine hK _ ?_
             clear hK K)
          refine Quietly.none ?_
          rintro w2 ⟨nq, rfl⟩
          go_wp2
          go_roundg (gk - 1)
          case measure => exact hgk.out
          case rel => exact HF.out _
        · have hrf : r = false := by
            rw [← HR.out]
            refine decide_eq_false (fun h => hxy ?_)
            rw [h, hy] at hx
            exact (Option.some.inj hx).symm
          subst hrf
          have HF : Hid (∀ q, Below w.heap.size w (wr.drewN q)) := fun q => hB.trans (below_drewN _ _ _)
          clear hk hd hx hy hB hcx hcy
          go_wp2
          refine L4.wp_region_still (by kernel_rfl) (by kernel_rfl) ?_
          repeat
            (refine Quietly.step (fun K hK => ?_)
             go_simp
             refine hK _ ?_
             clear hK K)
          refine Quietly.none ?_
          rintro w2 ⟨nq, rfl⟩
          go_wp2
          go_ret
          exact ⟨rfl, HF.out _⟩
      · have hrt : r = true := by
          rw [← HR.out]
          refine decide_eq_true ?_
          have hi : i = xs.length := by omega
          rw [hi, List.take_length, HN.out, List.take_length] at hd
          exact hd
        subst hrt
        have HB := Lib.hid hB
        have j1 : ¬ ((i : Int) < (xs.length : Int)) := by omega
        clear hk hd hB
        go_wp2
        go_ret
        exact ⟨rfl, HB.out⟩
  · have e : decide (xs = ys) = false := decide_eq_false (fun h => hn (by rw [h]))
    have hn2 : ¬ (xs.length : Int) = (ys.length : Int) := by omega
    rw [e]
    clear e
    generalize xs.length = n at *
    generalize ys.length = m at *
    go_enter Try.func21, Try.ntmps21
    go_wp2
    go_ret
    exact ⟨rfl, Below.refl _ _⟩
end Go.Proofs.Ytkhiconkoldllaa.L10
end

section
namespace Go.Proofs.Ytkhiconkoldllaa.L10
open Go.ChangeShapes Go.WideShapes Go.ChangeAt Go.RowKit Go.Shelf Go.Sort Go.Proofs.Ytkhiconkoldllaa.L4

set_option maxRecDepth 100000 in
set_option maxHeartbeats 4000000 in
theorem rboth_calls (v u : Value) (xs ys : List Int) (w : World) (hI : IntsA w v xs) (hU : IntsA w u ys) (hlen : xs.length ≤ 1000000) : Calls Try.prog 23 #[v, u] w (IntsOut w (xs.filter (fun p => ys.contains p))) := by
  obtain ⟨i0, hi, hz0, hz1, hz2⟩ := info_parts info_int10
  obtain ⟨A, c, rfl, _⟩ := id hI.reads
  obtain ⟨A2, c2, rfl, _⟩ := id hU.reads
  have H1 := Lib.hid (ints_read hI)
  have HC := Lib.hid (fun (V : World) (p : Int) (hb : Below w.heap.size w V) => rhas_calls _ ys p V (hU.below hb))
  obtain ⟨q, hqd⟩ : ∃ q : Int → Bool, (fun p => ys.contains p) = q := ⟨_, rfl⟩
  have HQ : Hid (∀ p, (ys.contains p) = q p) := fun p => congrFun hqd p
  rw [hqd]
  clear hI hU hqd
  have HL := Lib.hid hlen
  go_enter Try.func23, Try.ntmps23
  go_wp2
  have HStart : Hid (Keeping w xs q xs.length (.slice none 0 0) (.int .i64 0) w) := ⟨0, rfl, rfl, by simpa using World.ownsRow_nil _ _ _ _, Below.refl _ _⟩
  go_loopg [5, 6] xs.length (fun k v5 v6 wr => Keeping w xs q k v5 v6 wr)
  case atStart => exact HStart.out
  case round =>
    clear HStart
    obtain ⟨i, hk, rfl, hrow, hB⟩ := hrel
    by_cases hlt : i < xs.length
    · obtain ⟨k, rfl⟩ : ∃ k, gk = k + 1 := ⟨gk - 1, by omega⟩
      obtain ⟨x, hx⟩ : ∃ x, xs[i]? = some x := ⟨_, List.getElem?_eq_getElem hlt⟩
      obtain ⟨ad, rfl, hcx⟩ := H1.out i x hx
      have hcx1 := hcx wr hB
      have hc := HC.out wr x hB
      obtain ⟨A4, c4, rfl⟩ := own_slice hrow
      have hfl : ((xs.take i).filter q).length ≤ i := by have := List.length_filter_le q (xs.take i); have := List.length_take_le i xs; omega
      have j1 : (i : Int) < (xs.length : Int) := by omega
      have j2 : (0 : Int) ≤ (i : Int) := by omega
      have hwr := hB.size
      have hqx := HQ.out x
      cases hq : q x with
      | true =>
        rw [hq] at hqx
        rw [hqx] at hc
        have HY := Lib.hid (fun w4 v2 k1 k2 => keep_yes (w1 := wr) (w4 := w4) (v2 := v2) hk hx hq hB hrow (Below.refl _ _) k1 k2)
        have HRow := Lib.hid hrow
        clear hq hk hx hB hrow hqx hcx
        generalize ((xs.take i).filter q).length = m at *
        generalize ((xs.take i).filter q).map (Value.int .i64) = zs at *
        go_wp2_with (first
          | (go_at_call 19; refine hc.mono ?_; rintro e' w1 ⟨rfl, rfl⟩)
          | (at_builtin
             refine wpList_append_own_at _ rfl _ _ 24 rfl w.heap.size 3 i0 (.int .i64 0) 1 8 Try.underlying24 hi hz0 hz1 hz2 rfl (by decide) _ _ _ rfl (HRow.out.alloc _) ⟨wr.heap.size, 0, none⟩ 1 1 [.int .i64 x] rfl rfl (cell_one_new _ _ _) (by simp [Value.oneCell']) (by unfold maxLen; omega) (by omega) (by simp; omega) ?_
             intro v2 w4 hown' hgrow hnil hat
             have hRl := Lib.hid (HY.out w4 v2 hown' hgrow)
             clear hown' hgrow hnil hat))
        go_roundg k
        case measure => omega
        case rel => exact hRl.out
      | false =>
        rw [hq] at hqx
        rw [hqx] at hc
        have HY := Lib.hid (keep_no (w1 := wr) hk hx hq hB hrow (Below.refl _ _))
        clear hq hk hx hB hrow hqx hcx
        generalize ((xs.take i).filter q).length = m at *
        go_wp2_with (go_at_call 19; refine hc.mono ?_; rintro e' w1 ⟨rfl, rfl⟩)
        go_roundg k
        case measure => omega
        case rel => exact HY.out
    · have e : i = xs.length := by omega
      subst e
      have HR : Hid (IntsOut w (xs.filter q) (.returned u5) wr) := by
        rw [List.take_length] at hrow
        exact ⟨_, rfl, hrow, hB⟩
      clear hrow hB hk hlt
      go_wp2
      go_ret
      exact HR.out

set_option maxRecDepth 100000 in
set_option maxHeartbeats 4000000 in
theorem rwithout_calls (v u : Value) (xs ys : List Int) (w : World) (hI : IntsA w v xs) (hU : IntsA w u ys) (hlen : xs.length ≤ 1000000) : Calls Try.prog 25 #[v, u] w (IntsOut w (xs.filter (fun p => !ys.contains p))) := by
  obtain ⟨i0, hi, hz0, hz1, hz2⟩ := info_parts info_int10
  obtain ⟨A, c, rfl, _⟩ := id hI.reads
  obtain ⟨A2, c2, rfl, _⟩ := id hU.reads
  have H1 := Lib.hid (ints_read hI)
  have HC := Lib.hid (fun (V : World) (p : Int) (hb : Below w.heap.size w V) => rhas_calls _ ys p V (hU.below hb))
  obtain ⟨q, hqd⟩ : ∃ q : Int → Bool, (fun p => !ys.contains p) = q := ⟨_, rfl⟩
  have HQ : Hid (∀ p, (!ys.contains p) = q p) := fun p => congrFun hqd p
  rw [hqd]
  clear hI hU hqd
  have HL := Lib.hid hlen
  go_enter Try.func25, Try.ntmps25
  go_wp2
  have HStart : Hid (Keeping w xs q xs.length (.slice none 0 0) (.int .i64 0) w) := ⟨0, rfl, rfl, by simpa using World.ownsRow_nil _ _ _ _, Below.refl _ _⟩
  go_loopg [5, 6] xs.length (fun k v5 v6 wr => Keeping w xs q k v5 v6 wr)
  case atStart => exact HStart.out
  case round =>
    clear HStart
    obtain ⟨i, hk, rfl, hrow, hB⟩ := hrel
    by_cases hlt : i < xs.length
    · obtain ⟨k, rfl⟩ : ∃ k, gk = k + 1 := ⟨gk - 1, by omega⟩
      obtain ⟨x, hx⟩ : ∃ x, xs[i]? = some x := ⟨_, List.getElem?_eq_getElem hlt⟩
      obtain ⟨ad, rfl, hcx⟩ := H1.out i x hx
      have hcx1 := hcx wr hB
      have hc := HC.out wr x hB
      obtain ⟨A4, c4, rfl⟩ := own_slice hrow
      have hfl : ((xs.take i).filter q).length ≤ i := by have := List.length_filter_le q (xs.take i); have := List.length_take_le i xs; omega
      have j1 : (i : Int) < (xs.length : Int) := by omega
      have j2 : (0 : Int) ≤ (i : Int) := by omega
      have hwr := hB.size
      have hqx := HQ.out x
      cases hq : q x with
      | true =>
        rw [hq] at hqx
        rw [show ys.contains x = false by simpa using hqx] at hc
        have HY := Lib.hid (fun w4 v2 k1 k2 => keep_yes (w1 := wr) (w4 := w4) (v2 := v2) hk hx hq hB hrow (Below.refl _ _) k1 k2)
        have HRow := Lib.hid hrow
        clear hq hk hx hB hrow hqx hcx
        generalize ((xs.take i).filter q).length = m at *
        generalize ((xs.take i).filter q).map (Value.int .i64) = zs at *
        go_wp2_with (first
          | (go_at_call 19; refine hc.mono ?_; rintro e' w1 ⟨rfl, rfl⟩)
          | (at_builtin
             refine wpList_append_own_at _ rfl _ _ 24 rfl w.heap.size 3 i0 (.int .i64 0) 1 8 Try.underlying24 hi hz0 hz1 hz2 rfl (by decide) _ _ _ rfl (HRow.out.alloc _) ⟨wr.heap.size, 0, none⟩ 1 1 [.int .i64 x] rfl rfl (cell_one_new _ _ _) (by simp [Value.oneCell']) (by unfold maxLen; omega) (by omega) (by simp; omega) ?_
             intro v2 w4 hown' hgrow hnil hat
             have hRl := Lib.hid (HY.out w4 v2 hown' hgrow)
             clear hown' hgrow hnil hat))
        go_roundg k
        case measure => omega
        case rel => exact hRl.out
      | false =>
        rw [hq] at hqx
        rw [show ys.contains x = true by simpa using hqx] at hc
        have HY := Lib.hid (keep_no (w1 := wr) hk hx hq hB hrow (Below.refl _ _))
        clear hq hk hx hB hrow hqx hcx
        generalize ((xs.take i).filter q).length = m at *
        go_wp2_with (go_at_call 19; refine hc.mono ?_; rintro e' w1 ⟨rfl, rfl⟩)
        go_roundg k
        case measure => omega
        case rel => exact HY.out
    · have e : i = xs.length := by omega
      subst e
      have HR : Hid (IntsOut w (xs.filter q) (.returned u5) wr) := by
        rw [List.take_length] at hrow
        exact ⟨_, rfl, hrow, hB⟩
      clear hrow hB hk hlt
      go_wp2
      go_ret
      exact HR.out
end Go.Proofs.Ytkhiconkoldllaa.L10
end

section
namespace Go.Proofs.Ytkhiconkoldllaa.L10
open Go.ChangeShapes Go.WideShapes Go.ChangeAt Go.RowKit Go.Shelf Go.Sort Go.Proofs.Ytkhiconkoldllaa.L4

/-- Is a view right? -/
def rightB (e c : Int) (xs : List Int) : Bool := decide (0 ≤ e) && decide (e ≤ 2147483647) && rowB xs && xs.contains c
def viewV (e c : Int) (vm : Value) : Value := .agg #[.int .i64 e, .int .i64 c, vm]
theorem below_one (w : World) (o : Obj) : Below w.heap.size w (w.alloc o) := (Below.refl _ w).alloc (Nat.le_refl _) _

set_option maxHeartbeats 2000000 in
theorem right_calls (e c : Int) (vm : Value) (xs : List Int) (w : World) (hI : IntsA w vm xs) (hlen : xs.length ≤ 1000000) : Calls Try.prog 14 #[viewV e c vm] w (One w (.bool (rightB e c xs))) := by
  obtain ⟨A, cp, rfl, _⟩ := id hI.reads
  have HR := Lib.hid (fun (V : World) (hb : Below w.heap.size w V) => row_calls _ xs V (hI.below hb))
  have HH := Lib.hid (fun (V : World) (hb : Below w.heap.size w V) => has_calls _ xs c V (hI.below hb) hlen)
  have HB := Lib.hid (below_one w (.cells #[.int .i64 e, .int .i64 c, .slice A xs.length cp] 26))
  have H1 := HR.out _ HB.out
  have H2 := HH.out _ HB.out
  unfold viewV rightB
  clear hI
  by_cases h0 : 0 ≤ e
  · by_cases h1 : e ≤ 2147483647
    · rw [decide_eq_true h0, decide_eq_true h1]
      generalize rowB xs = r at *
      generalize xs.contains c = b at *
      cases r
      · go_enter Try.func14, Try.ntmps14
        go_wp2_with (go_at_call 16; refine H1.mono ?_; rintro e' w1 ⟨rfl, rfl⟩)
        go_ret
        exact ⟨rfl, HB.out⟩
      · go_enter Try.func14, Try.ntmps14
        go_wp2_with (first
          | (go_at_call 16; refine H1.mono ?_; rintro e' w1 ⟨rfl, rfl⟩)
          | (go_at_call 18; refine H2.mono ?_; rintro e' w2 ⟨rfl, b2⟩))
        go_ret
        exact ⟨by simp, HB.out.trans (b2.mono HB.out.size)⟩
    · rw [decide_eq_false h1]
      clear H1 H2
      go_enter Try.func14, Try.ntmps14
      go_wp2
      go_ret
      exact ⟨by simp, HB.out⟩
  · rw [decide_eq_false h0]
    clear H1 H2
    go_enter Try.func14, Try.ntmps14
    go_wp2
    go_ret
    exact ⟨by simp, HB.out⟩
set_option maxHeartbeats 2000000 in
theorem rright_calls (e c : Int) (vm : Value) (xs : List Int) (w : World) (hI : IntsA w vm xs) : Calls Try.prog 15 #[viewV e c vm] w (One w (.bool (rightB e c xs))) := by
  obtain ⟨A, cp, rfl, _⟩ := id hI.reads
  have HB := Lib.hid (below_one w (.cells #[.int .i64 e, .int .i64 c, .slice A xs.length cp] 26))
  have H1 := rrow_calls _ xs _ (hI.below HB.out)
  have HH := Lib.hid (fun (V : World) (hb : Below w.heap.size w V) => rhas_calls _ xs c V (hI.below hb))
  have HBx : Hid (∀ V, Below (w.heap.size + 1) (w.alloc (.cells #[.int .i64 e, .int .i64 c, .slice A xs.length cp] 26)) V → V.cell? ⟨w.heap.size, 0, none⟩ = some (.int .i64 e) ∧ V.cell? ⟨w.heap.size, 1, none⟩ = some (.int .i64 c) ∧ V.cell? ⟨w.heap.size, 2, none⟩ = some (.slice A xs.length cp)) := by
    intro V hV
    have k : ∀ j, V.cell? ⟨w.heap.size, j, none⟩ = (#[.int .i64 e, .int .i64 c, .slice A xs.length cp] : Array Value)[j]? := fun j => by
      refine (hV.cell (p := ⟨w.heap.size, j, none⟩) (by simp)).trans ?_
      simp only [World.cell?]
      rw [World.alloc_heap_new]
      rfl
    exact ⟨k 0, k 1, k 2⟩
  have hs : (w.alloc (.cells #[.int .i64 e, .int .i64 c, .slice A xs.length cp] 26)).heap.size = w.heap.size + 1 := by simp
  unfold viewV rightB
  clear hI
  obtain ⟨r, hr⟩ : ∃ r, rowB xs = r := ⟨_, rfl⟩
  obtain ⟨b, hb⟩ : ∃ b, xs.contains c = b := ⟨_, rfl⟩
  rw [hr] at H1 ⊢
  rw [hb] at HH ⊢
  have HS := Lib.hid hs
  clear hr hb hs
  cases r
  · go_enter Try.func15, Try.ntmps15
    go_wp2_with (go_at_call 17; refine H1.mono ?_; rintro e' w1 ⟨rfl, b1⟩; have HB1 := Lib.hid (HB.out.trans (b1.mono HB.out.size)); clear b1)
    go_ret
    exact ⟨by simp <;> omega, HB1.out⟩
  · cases b
    · go_enter Try.func15, Try.ntmps15
      go_wp2_with (first
        | (go_at_call 17; refine H1.mono ?_; rintro e' w1 ⟨rfl, b1⟩; have HB1 := Lib.hid (HB.out.trans (b1.mono HB.out.size)); obtain ⟨x0, x1, x2⟩ := HBx.out w1 (by rw [← HS.out]; exact b1); have hc := HH.out w1 HB1.out; clear b1)
        | (go_at_call 19; refine hc.mono ?_; rintro e' w2 ⟨rfl, rfl⟩))
      go_ret
      exact ⟨by simp <;> omega, HB1.out⟩
    · by_cases h0 : 0 ≤ e
      · by_cases h1 : e ≤ 2147483647
        · rw [decide_eq_true h0, decide_eq_true h1]
          go_enter Try.func15, Try.ntmps15
          go_wp2_with (first
            | (go_at_call 17; refine H1.mono ?_; rintro e' w1 ⟨rfl, b1⟩; have HB1 := Lib.hid (HB.out.trans (b1.mono HB.out.size)); obtain ⟨x0, x1, x2⟩ := HBx.out w1 (by rw [← HS.out]; exact b1); have hc := HH.out w1 HB1.out; clear b1)
            | (go_at_call 19; refine hc.mono ?_; rintro e' w2 ⟨rfl, rfl⟩))
          go_ret
          exact ⟨by simp <;> omega, HB1.out⟩
        · rw [decide_eq_false h1]
          go_enter Try.func15, Try.ntmps15
          go_wp2_with (first
            | (go_at_call 17; refine H1.mono ?_; rintro e' w1 ⟨rfl, b1⟩; have HB1 := Lib.hid (HB.out.trans (b1.mono HB.out.size)); obtain ⟨x0, x1, x2⟩ := HBx.out w1 (by rw [← HS.out]; exact b1); have hc := HH.out w1 HB1.out; clear b1)
            | (go_at_call 19; refine hc.mono ?_; rintro e' w2 ⟨rfl, rfl⟩))
          go_ret
          exact ⟨by simp <;> omega, HB1.out⟩
      · rw [decide_eq_false h0]
        go_enter Try.func15, Try.ntmps15
        go_wp2_with (first
          | (go_at_call 17; refine H1.mono ?_; rintro e' w1 ⟨rfl, b1⟩; have HB1 := Lib.hid (HB.out.trans (b1.mono HB.out.size)); obtain ⟨x0, x1, x2⟩ := HBx.out w1 (by rw [← HS.out]; exact b1); have hc := HH.out w1 HB1.out; clear b1)
          | (go_at_call 19; refine hc.mono ?_; rintro e' w2 ⟨rfl, rfl⟩))
        go_ret
        exact ⟨by simp <;> omega, HB1.out⟩

/-- A view as a message. -/
def vmsg (e c : Int) (xs : List Int) : Msg := ⟨0, e, c, 0, 0, 0, xs, []⟩
/-- A view as a term, or what is wrong. -/
def termP (e c : Int) (xs : List Int) : List UInt8 × Nat := if rightB e c xs = true then (vmsg e c xs).pack else ([], 1)
theorem msg_of {w : World} {vm : Value} {xs : List Int} (h : IntsA w vm xs) (e c : Int) : MsgA w (vmsg e c xs) vm (.slice none 0 0) :=
  ⟨h, ⟨⟨none, 0, rfl, fun j x hx => by simp [vmsg] at hx⟩, by simp [vmsg], by simp [vmsg]⟩⟩
set_option maxHeartbeats 2000000 in
theorem term_calls (e c : Int) (vm : Value) (xs : List Int) (w : World) (hI : IntsA w vm xs) (hlen : xs.length ≤ 1000000) : Calls Try.prog 9 #[viewV e c vm] w (Pair2 w (termP e c xs)) := by
  obtain ⟨A, cp, rfl, _⟩ := id hI.reads
  have HB := Lib.hid (below_one w (.cells #[.int .i64 e, .int .i64 c, .slice A xs.length cp] 26))
  have H1 := right_calls e c _ xs _ (hI.below HB.out) hlen
  have HP := Lib.hid (fun (V : World) (hb : Below w.heap.size w V) => lpack_calls (vmsg e c xs) _ _ V (msg_of (hI.below hb) e c) (fun n k h => by cases h; rfl))
  have HBx : Hid (∀ V, Below (w.heap.size + 1) (w.alloc (.cells #[.int .i64 e, .int .i64 c, .slice A xs.length cp] 26)) V → V.cell? ⟨w.heap.size, 0, none⟩ = some (.int .i64 e) ∧ V.cell? ⟨w.heap.size, 1, none⟩ = some (.int .i64 c) ∧ V.cell? ⟨w.heap.size, 2, none⟩ = some (.slice A xs.length cp)) := by
    intro V hV
    have k : ∀ j, V.cell? ⟨w.heap.size, j, none⟩ = (#[.int .i64 e, .int .i64 c, .slice A xs.length cp] : Array Value)[j]? := fun j => by
      refine (hV.cell (p := ⟨w.heap.size, j, none⟩) (by simp)).trans ?_
      simp only [World.cell?]
      rw [World.alloc_heap_new]
      rfl
    exact ⟨k 0, k 1, k 2⟩
  have hs : (w.alloc (.cells #[.int .i64 e, .int .i64 c, .slice A xs.length cp] 26)).heap.size = w.heap.size + 1 := by simp
  have HS := Lib.hid hs
  unfold termP
  unfold viewV at H1 ⊢
  obtain ⟨⟨pt, pe⟩, hpk⟩ : ∃ r, (vmsg e c xs).pack = r := ⟨_, rfl⟩
  rw [hpk] at HP ⊢
  obtain ⟨r, hr⟩ : ∃ r, rightB e c xs = r := ⟨_, rfl⟩
  rw [hr] at H1 ⊢
  unfold vmsg msgCells at HP
  clear hI hpk hr hs
  cases r
  · rw [if_neg (by simp)]
    go_enter Try.func9, Try.ntmps9
    go_wp2_with (go_at_call 14; refine H1.mono ?_; rintro e' w1 ⟨rfl, b1⟩; have HB1 := Lib.hid (HB.out.trans (b1.mono HB.out.size)); clear b1)
    go_ret2
    exact ⟨rfl, HB1.out⟩
  · rw [if_pos rfl]
    go_enter Try.func9, Try.ntmps9
    go_wp2_with (first
      | (go_at_call 14; refine H1.mono ?_; rintro e' w1 ⟨rfl, b1⟩; have HB1 := Lib.hid (HB.out.trans (b1.mono HB.out.size)); obtain ⟨x0, x1, x2⟩ := HBx.out w1 (by rw [← HS.out]; exact b1); have hp := HP.out w1 HB1.out; clear b1)
      | (go_at_call 27; refine hp.mono ?_; rintro e' w2 ⟨rfl, b2⟩))
    go_ret2
    exact ⟨rfl, HB1.out.trans (b2.mono HB1.out.size)⟩
set_option maxHeartbeats 2000000 in
theorem rterm_calls (e c : Int) (vm : Value) (xs : List Int) (w : World) (hI : IntsA w vm xs) (hnil : ∀ n k, vm = .slice none n k → k = 0) : Calls Try.prog 10 #[viewV e c vm] w (Pair2 w (termP e c xs)) := by
  obtain ⟨A, cp, rfl, _⟩ := id hI.reads
  have HB := Lib.hid (below_one w (.cells #[.int .i64 e, .int .i64 c, .slice A xs.length cp] 26))
  have H1 := rright_calls e c _ xs _ (hI.below HB.out)
  have HP := Lib.hid (fun (V : World) (hb : Below w.heap.size w V) => L4.pack4_calls (vmsg e c xs) _ _ V (msg_of (hI.below hb) e c) hnil (fun n k h => by cases h; rfl) (by simp [vmsg]))
  have HBx : Hid (∀ V, Below (w.heap.size + 1) (w.alloc (.cells #[.int .i64 e, .int .i64 c, .slice A xs.length cp] 26)) V → V.cell? ⟨w.heap.size, 0, none⟩ = some (.int .i64 e) ∧ V.cell? ⟨w.heap.size, 1, none⟩ = some (.int .i64 c) ∧ V.cell? ⟨w.heap.size, 2, none⟩ = some (.slice A xs.length cp)) := by
    intro V hV
    have k : ∀ j, V.cell? ⟨w.heap.size, j, none⟩ = (#[.int .i64 e, .int .i64 c, .slice A xs.length cp] : Array Value)[j]? := fun j => by
      refine (hV.cell (p := ⟨w.heap.size, j, none⟩) (by simp)).trans ?_
      simp only [World.cell?]
      rw [World.alloc_heap_new]
      rfl
    exact ⟨k 0, k 1, k 2⟩
  have hs : (w.alloc (.cells #[.int .i64 e, .int .i64 c, .slice A xs.length cp] 26)).heap.size = w.heap.size + 1 := by simp
  have HS := Lib.hid hs
  unfold termP
  unfold viewV at H1 ⊢
  obtain ⟨⟨pt, pe⟩, hpk⟩ : ∃ r, (vmsg e c xs).pack = r := ⟨_, rfl⟩
  rw [hpk] at HP ⊢
  obtain ⟨r, hr⟩ : ∃ r, rightB e c xs = r := ⟨_, rfl⟩
  rw [hr] at H1 ⊢
  unfold vmsg msgCells at HP
  clear hI hpk hr hs hnil
  cases r
  · rw [if_neg (by simp)]
    go_enter Try.func10, Try.ntmps10
    go_wp2_with (go_at_call 15; refine H1.mono ?_; rintro e' w1 ⟨rfl, b1⟩; have HB1 := Lib.hid (HB.out.trans (b1.mono HB.out.size)); clear b1)
    go_ret2
    exact ⟨rfl, HB1.out⟩
  · rw [if_pos rfl]
    go_enter Try.func10, Try.ntmps10
    go_wp2_with (first
      | (go_at_call 15; refine H1.mono ?_; rintro e' w1 ⟨rfl, b1⟩; have HB1 := Lib.hid (HB.out.trans (b1.mono HB.out.size)); obtain ⟨x0, x1, x2⟩ := HBx.out w1 (by rw [← HS.out]; exact b1); have hp := HP.out w1 HB1.out; clear b1)
      | (go_at_call 28; refine hp.mono ?_; rintro e' w2 ⟨rfl, b2⟩))
    go_ret2
    exact ⟨rfl, HB1.out.trans (b2.mono HB1.out.size)⟩
end Go.Proofs.Ytkhiconkoldllaa.L10
end

section
namespace Go.Proofs.Ytkhiconkoldllaa.L10
open Go.ChangeShapes Go.WideShapes Go.ChangeAt Go.RowKit

def lessB (a b c d : Int) : Bool := decide (a < c) || (decide (a = c) && decide (b < d))
theorem lessB_iff (a b c d : Int) : lessB a b c d = true ↔ a < c ∨ a = c ∧ b < d := by simp [lessB]

theorem below_two (w : World) (o p : Obj) : Below w.heap.size w ((w.alloc o).alloc p) := ((Below.refl _ w).alloc (Nat.le_refl _) _).alloc (by simp) _

set_option maxHeartbeats 1000000 in
theorem less_calls (a b c d : Int) (w : World) : Calls Try.prog 12 #[.agg #[.int .i64 a, .int .i64 b], .agg #[.int .i64 c, .int .i64 d]] w (One w (.bool (lessB a b c d))) := by
  have HB := Lib.hid (below_two w (.cells #[.int .i64 a, .int .i64 b] 23) (.cells #[.int .i64 c, .int .i64 d] 23))
  by_cases h1 : a < c
  · have e : lessB a b c d = true := (lessB_iff _ _ _ _).2 (.inl h1)
    rw [e]
    clear e
    go_enter Try.func12, Try.ntmps12
    go_wp2
    go_ret
    exact ⟨rfl, HB.out⟩
  · by_cases h2 : a = c
    · subst h2
      have h3 : ¬ a < a := by omega
      have e : lessB a b a d = decide (b < d) := by simp [lessB]
      rw [e]
      clear e h1
      go_enter Try.func12, Try.ntmps12
      go_wp2
      go_ret
      exact ⟨rfl, HB.out⟩
    · have e : lessB a b c d = false := by simp [lessB, h1, h2]
      rw [e]
      clear e
      go_enter Try.func12, Try.ntmps12
      go_wp2
      go_ret
      exact ⟨rfl, HB.out⟩
set_option maxHeartbeats 1000000 in
theorem rless_calls (a b c d : Int) (w : World) : Calls Try.prog 13 #[.agg #[.int .i64 a, .int .i64 b], .agg #[.int .i64 c, .int .i64 d]] w (One w (.bool (lessB a b c d))) := by
  have HB := Lib.hid (below_two w (.cells #[.int .i64 a, .int .i64 b] 23) (.cells #[.int .i64 c, .int .i64 d] 23))
  by_cases h2 : a = c
  · subst h2
    have e : lessB a b a d = decide (b < d) := by simp [lessB]
    rw [e]
    clear e
    go_enter Try.func13, Try.ntmps13
    go_wp2
    go_ret
    exact ⟨rfl, HB.out⟩
  · have e : lessB a b c d = decide (a < c) := by simp [lessB, h2]
    rw [e]
    clear e
    go_enter Try.func13, Try.ntmps13
    go_wp2
    go_ret
    exact ⟨rfl, HB.out⟩
/-- One more than an epoch, as a machine counts. -/
def up (a : Int) : Int := wrap64 (a + 1)
theorem up_small {a : Int} (h : -9223372036854775809 ≤ a) (h2 : a < 9223372036854775807) : up a = a + 1 := by
  unfold up wrap64; omega
set_option maxHeartbeats 1000000 in
theorem next_calls (a b p : Int) (w : World) : Calls Try.prog 11 #[.agg #[.int .i64 a, .int .i64 b], .int .i64 p] w (One w (.agg #[.int .i64 (up a), .int .i64 p])) := by
  go_enter Try.func11, Try.ntmps11
  go_wp2
  have hl : ((w.alloc (.cells #[.int .i64 a, .int .i64 b] 23)).alloc (.cells #[.int .i64 (wrap64 (a + 1)), .int .i64 p] 23)).heap[w.heap.size + 1]? = some (.cells #[.int .i64 (wrap64 (a + 1)), .int .i64 p] 23 (0, 0)) := by
    have := World.alloc_heap_new (w.alloc (.cells #[.int .i64 a, .int .i64 b] 23)) (.cells #[.int .i64 (wrap64 (a + 1)), .int .i64 p] 23)
    rwa [World.size_alloc] at this
  refine bodyPost_ret (results_cell_row rfl _ _ (w.heap.size + 1) 23 _ (0, 0) _ rfl hl Try.underlying23 rfl (by kernel_rfl)) rfl ?_
  exact ⟨rfl, below_two _ _ _⟩
end Go.Proofs.Ytkhiconkoldllaa.L10
end

section
namespace Go.Proofs.Ytkhiconkoldllaa.L10
open Go.ChangeShapes Go.WideShapes Go.ChangeAt Go.RowKit Go.Shelf Go.Sort Go.Proofs.Ytkhiconkoldllaa.L4

def Fits (xs : List Int) : Prop := ∀ x ∈ xs, -9223372036854775808 ≤ x ∧ x ≤ 9223372036854775807
theorem ints_new (w : World) (xs : List Int) (hf : Fits xs) (hl : xs.length ≤ 1000000) : IntsA (w.alloc (.cells (xs.map (Value.int .i64)).toArray 3)) (.slice (some ⟨w.heap.size, 0, none⟩) xs.length xs.length) xs := by
  refine ⟨⟨_, _, rfl, fun j x hx => ⟨_, rfl, by simp, ?_⟩⟩, hf, by unfold maxLen; omega⟩
  have e : (⟨w.heap.size, 0, none⟩ : Addr).add j = ⟨w.heap.size, j, none⟩ := by unfold Addr.add; by_cases h : j = 0 <;> simp [h]
  rw [e]
  simp only [World.cell?]
  rw [World.alloc_heap_new]
  simp [hx]
theorem ints_own10 {W : World} {B : Nat} {v : Value} {xs : List Int} (h : W.ownsRow B 3 1 v xs.length (xs.map (Value.int .i64))) (hf : Fits xs) (hl : xs.length ≤ 1000000) : IntsA W v xs := by
  rcases h.2 with ⟨rfl, hz⟩ | ⟨gb, cap, cur, rfl, hbase, hgb, r1, r2, r3, r4⟩
  · have hx : xs = [] := List.eq_nil_of_length_eq_zero hz
    subst hx
    exact ⟨⟨none, 0, rfl, fun j x hx => by simp at hx⟩, by simp, by simp⟩
  · refine ⟨⟨_, _, rfl, fun j x hx => ⟨_, rfl, (Array.getElem?_eq_some_iff.1 hgb).1, ?_⟩⟩, hf, by unfold maxLen; omega⟩
    have hj : j < xs.length := (List.getElem?_eq_some_iff.1 hx).1
    have e : (⟨gb, 0, none⟩ : Addr).add j = ⟨gb, j, none⟩ := by unfold Addr.add; by_cases h : j = 0 <;> simp [h]
    rw [e, h.cellAt j (by omega), List.getElem?_map, hx]
    rfl
theorem fits_filter {xs : List Int} (h : Fits xs) (q : Int → Bool) : Fits (xs.filter q) := fun x hx => h x (List.mem_filter.1 hx).1

set_option maxHeartbeats 4000000 in
theorem shown_calls (w : World) : Calls Try.prog 8 #[] w (One w (.bool true)) := by
  have f124 : Fits [1, 2, 4] := by unfold Fits; decide
  have f234 : Fits [2, 3, 4] := by unfold Fits; decide
  have f24 : Fits [2, 4] := by unfold Fits; decide
  have f1 : Fits [1] := by unfold Fits; decide
  have hN : ∀ V : World, (IntsA (V.alloc (.cells #[.int .i64 1, .int .i64 2, .int .i64 4] 3)) (.slice (some ⟨V.heap.size, 0, none⟩) 3 3) [1, 2, 4]) ∧ (IntsA (V.alloc (.cells #[.int .i64 2, .int .i64 3, .int .i64 4] 3)) (.slice (some ⟨V.heap.size, 0, none⟩) 3 3) [2, 3, 4]) ∧
      (IntsA (V.alloc (.cells #[.int .i64 2, .int .i64 4] 3)) (.slice (some ⟨V.heap.size, 0, none⟩) 2 2) [2, 4]) ∧ (IntsA (V.alloc (.cells #[.int .i64 1] 3)) (.slice (some ⟨V.heap.size, 0, none⟩) 1 1) [1]) :=
    fun V => ⟨ints_new V [1, 2, 4] f124 (by simp), ints_new V [2, 3, 4] f234 (by simp), ints_new V [2, 4] f24 (by simp), ints_new V [1] f1 (by simp)⟩
  have HN := Lib.hid hN
  have e1 : [1, 2, 4].filter (fun p : Int => [2, 3, 4].contains p) = [2, 4] := by decide
  have e2 : [1, 2, 4].filter (fun p : Int => ![2, 3, 4].contains p) = [1] := by decide
  have H1 : Hid (∀ V : World, Below w.heap.size w V → Calls Try.prog 22 #[.slice (some ⟨V.heap.size, 0, none⟩) 3 3, .slice (some ⟨V.heap.size + 1, 0, none⟩) 3 3] ((V.alloc (.cells #[.int .i64 1, .int .i64 2, .int .i64 4] 3)).alloc (.cells #[.int .i64 2, .int .i64 3, .int .i64 4] 3)) (fun e W => ∃ A c, e = .returned (.slice A 2 c) ∧ IntsA W (.slice A 2 c) [2, 4] ∧ Below w.heap.size w W)) := by
    intro V hb
    have k := HN.out (V.alloc (.cells #[.int .i64 1, .int .i64 2, .int .i64 4] 3))
    rw [World.size_alloc] at k
    have b1 := below_one (V.alloc (.cells #[.int .i64 1, .int .i64 2, .int .i64 4] 3)) (.cells #[.int .i64 2, .int .i64 3, .int .i64 4] 3)
    have b2 := below_two V (.cells #[.int .i64 1, .int .i64 2, .int .i64 4] 3) (.cells #[.int .i64 2, .int .i64 3, .int .i64 4] 3)
    refine (both_calls _ _ [1, 2, 4] [2, 3, 4] _ ((HN.out V).1.below b1) k.2.1 (by simp) (by simp)).mono ?_
    rintro e W ⟨v, rfl, ho, hW⟩
    rw [e1] at ho
    obtain ⟨A, c, rfl⟩ := own_slice ho
    exact ⟨A, c, rfl, ints_own10 ho f24 (by simp), hb.trans ((b2.mono hb.size).trans (hW.mono (Nat.le_trans hb.size b2.size)))⟩
  have H2 : Hid (∀ V : World, Below w.heap.size w V → Calls Try.prog 24 #[.slice (some ⟨V.heap.size, 0, none⟩) 3 3, .slice (some ⟨V.heap.size + 1, 0, none⟩) 3 3] ((V.alloc (.cells #[.int .i64 1, .int .i64 2, .int .i64 4] 3)).alloc (.cells #[.int .i64 2, .int .i64 3, .int .i64 4] 3)) (fun e W => ∃ A c, e = .returned (.slice A 1 c) ∧ IntsA W (.slice A 1 c) [1] ∧ Below w.heap.size w W)) := by
    intro V hb
    have k := HN.out (V.alloc (.cells #[.int .i64 1, .int .i64 2, .int .i64 4] 3))
    rw [World.size_alloc] at k
    have b1 := below_one (V.alloc (.cells #[.int .i64 1, .int .i64 2, .int .i64 4] 3)) (.cells #[.int .i64 2, .int .i64 3, .int .i64 4] 3)
    have b2 := below_two V (.cells #[.int .i64 1, .int .i64 2, .int .i64 4] 3) (.cells #[.int .i64 2, .int .i64 3, .int .i64 4] 3)
    refine (without_calls _ _ [1, 2, 4] [2, 3, 4] _ ((HN.out V).1.below b1) k.2.1 (by simp) (by simp)).mono ?_
    rintro e W ⟨v, rfl, ho, hW⟩
    rw [e2] at ho
    obtain ⟨A, c, rfl⟩ := own_slice ho
    exact ⟨A, c, rfl, ints_own10 ho f1 (by simp), hb.trans ((b2.mono hb.size).trans (hW.mono (Nat.le_trans hb.size b2.size)))⟩
  have H3 : Hid (∀ (V : World) (v : Value), Below w.heap.size w V → IntsA V v [2, 4] → Calls Try.prog 21 #[v, .slice (some ⟨V.heap.size, 0, none⟩) 2 2] (V.alloc (.cells #[.int .i64 2, .int .i64 4] 3)) (fun e W => e = .returned (.bool true) ∧ Below w.heap.size w W)) := by
    intro V v hb hv
    have b1 := below_one V (.cells #[.int .i64 2, .int .i64 4] 3)
    refine (rsame_calls _ _ [2, 4] [2, 4] _ (hv.below b1) (HN.out V).2.2.1).mono ?_
    rintro e W ⟨rfl, hW⟩
    exact ⟨rfl, hb.trans ((b1.mono hb.size).trans (hW.mono (Nat.le_trans hb.size b1.size)))⟩
  have H4 : Hid (∀ (V : World) (v : Value), Below w.heap.size w V → IntsA V v [1] → Calls Try.prog 21 #[v, .slice (some ⟨V.heap.size, 0, none⟩) 1 1] (V.alloc (.cells #[.int .i64 1] 3)) (fun e W => e = .returned (.bool true) ∧ Below w.heap.size w W)) := by
    intro V v hb hv
    have b1 := below_one V (.cells #[.int .i64 1] 3)
    refine (rsame_calls _ _ [1] [1] _ (hv.below b1) (HN.out V).2.2.2).mono ?_
    rintro e W ⟨rfl, hW⟩
    exact ⟨rfl, hb.trans ((b1.mono hb.size).trans (hW.mono (Nat.le_trans hb.size b1.size)))⟩
  have H5 : Hid (∀ (V : World), Below w.heap.size w V → Calls Try.prog 18 #[.slice (some ⟨V.heap.size, 0, none⟩) 1 1, .int .i64 1] (V.alloc (.cells #[.int .i64 1] 3)) (fun e W => e = .returned (.bool true) ∧ Below w.heap.size w W)) := by
    intro V hb
    have b1 := below_one V (.cells #[.int .i64 1] 3)
    refine (has_calls _ [1] 1 _ (HN.out V).2.2.2 (by simp)).mono ?_
    rintro e W ⟨rfl, hW⟩
    exact ⟨rfl, hb.trans ((b1.mono hb.size).trans (hW.mono (Nat.le_trans hb.size b1.size)))⟩
  have h1 := H1.out w (Below.refl _ _)
  clear hN e1 e2 f124 f234 f24 f1
  go_enter Try.func8, Try.ntmps8
  go_wp2_with fail
  refine h1.mono ?_
  rintro e w1 ⟨A, c, rfl, i1, b1⟩
  have h3 := H3.out w1 _ b1 i1
  clear i1 b1
  go_wp2_with fail
  refine h3.mono ?_
  rintro e w2 ⟨rfl, b2⟩
  have h2 := H2.out w2 b2
  clear b2
  go_wp2_with fail
  refine h2.mono ?_
  rintro e w3 ⟨A, c, rfl, i3, b3⟩
  have h4 := H4.out w3 _ b3 i3
  clear i3 b3
  go_wp2_with fail
  refine h4.mono ?_
  rintro e w4 ⟨rfl, b4⟩
  have h5 := H5.out w4 b4
  clear b4
  go_wp2_with fail
  refine h5.mono ?_
  rintro e w5 ⟨rfl, b5⟩
  go_wp2
  go_ret
  exact ⟨rfl, b5⟩
end Go.Proofs.Ytkhiconkoldllaa.L10
end

section
namespace Go.Proofs.Ytkhiconkoldllaa.L10
open Go.ChangeShapes Go.WideShapes Go.ChangeAt Go.RowKit

theorem cells_at {w V : World} {b : Nat} {cs : Array Value} {t : TypeId} (h : w.heap[b]? = some (.cells cs t (0, 0))) (hb : Below w.heap.size w V) (j : Nat) : V.cell? ⟨b, j, none⟩ = cs[j]? := by
  refine (hb.cell (p := ⟨b, j, none⟩) (Array.getElem?_eq_some_iff.1 h).1).trans ?_
  simp only [World.cell?]
  rw [h]
  rfl
section
variable {H : Type} {enc : TypeId × Value → H} {W : World}
set_option maxRecDepth 100000 in
theorem trod_ints {n : Nat} {c : Value} {x : DataW H × List MemPlace} (h : DataW.trod enc Try.prog W 0 (fun _ => true) true n 24 [c] = some x) : ∃ xs, IntsA W c xs ∧ ∀ n k, c = .slice none n k → k = 0 := by
  rcases open_ints Try.underlying24 Try.underlying3 (by kernel_rfl) h with ⟨h0, _⟩ | ⟨a, len, cap, ss, hcs, _, hl, hm, hsl, _, hcell, hwf⟩
  · cases h0
    exact ⟨[], ⟨⟨none, 0, rfl, fun j x hx => by simp at hx⟩, by simp, by simp⟩, fun n k e => by cases e; rfl⟩
  · cases hcs
    simp only [if_true] at hsl
    have hlen : (ss.take len).length = len := by simp; omega
    refine ⟨ss.take len, ⟨⟨some a, cap, by rw [hlen], fun j x hx => ?_⟩, fun z hz => i64_of_wf (hwf z (List.mem_of_mem_take hz)), by rw [hlen]; omega⟩, fun n k e => by cases e⟩
    rw [List.getElem?_take] at hx
    have hjn : j < len := by
      rcases Nat.lt_or_ge j len with h | h
      · exact h
      · rw [if_neg (by omega)] at hx; cases hx
    rw [if_pos hjn] at hx
    have hc2 := hcell j (by omega)
    rw [List.getD, hx, Option.getD_some] at hc2
    have hlt := World.block_lt_of_cell? W _ hc2
    rw [addr_block] at hlt
    exact ⟨a, rfl, hlt, hc2⟩
theorem trod_num {n : Nat} {c : Value} {x : DataW H × List MemPlace} (h : DataW.trod enc Try.prog W 0 (fun _ => true) true n 3 [c] = some x) : ∃ k : Int, c = .int .i64 k := by
  obtain ⟨k, hk, _, hw⟩ := DataW.trod_int Try.underlying3 h
  cases hk
  exact ⟨k, rfl⟩
set_option maxRecDepth 100000 in
theorem trod_id {n : Nat} {c d : Value} {x : DataW H × List MemPlace} (h : DataW.trod enc Try.prog W 0 (fun _ => true) true n 23 [c, d] = some x) : (∃ k : Int, c = .int .i64 k) ∧ ∃ k : Int, d = .int .i64 k := by
  have hC : Try.prog.cellsOf 3 = 1 := by kernel_rfl
  obtain ⟨xs, n', _, _, _, hlen, hg⟩ := DataW.trod_struct Try.underlying23 h
  match xs, hlen with
  | [x0, x1], _ =>
    have h0 : DataW.trod enc Try.prog W 0 (fun _ => true) true n' 3 (([c, d].drop 0).take (Try.prog.cellsOf 3)) = some x0 := hg 0 _ rfl
    have h1 : DataW.trod enc Try.prog W 0 (fun _ => true) true n' 3 (([c, d].drop 1).take (Try.prog.cellsOf 3)) = some x1 := hg 1 _ rfl
    rw [hC] at h0 h1
    exact ⟨trod_num (c := c) h0, trod_num (c := d) h1⟩
set_option maxRecDepth 100000 in
theorem open_id {base : Nat} {v : Value} {d : DataW H} {ps : List MemPlace} (hval : Value.okWide Try.prog W .any base 23 v) (h : DataW.Trod enc Try.prog W 0 (fun _ => true) true 23 v d ps) : ∃ e c : Int, v = .agg #[.int .i64 e, .int .i64 c] := by
  have hC : Try.prog.cellsOf 23 = 2 := by kernel_rfl
  obtain ⟨cs, rfl, hsz⟩ := okWide_struct Try.underlying23 hval
  obtain ⟨l⟩ := cs
  match l, hsz.trans hC with
  | [c0, c1], _ =>
    obtain ⟨fuel, hf⟩ := h
    obtain ⟨⟨k0, rfl⟩, k1, rfl⟩ := trod_id (c := c0) (d := c1) hf
    exact ⟨k0, k1, rfl⟩
set_option maxRecDepth 100000 in
theorem open_view {base : Nat} {v : Value} {d : DataW H} {ps : List MemPlace} (hval : Value.okWide Try.prog W .any base 26 v) (h : DataW.Trod enc Try.prog W 0 (fun _ => true) true 26 v d ps) :
    ∃ (e c : Int) (vm : Value) (xs : List Int), v = viewV e c vm ∧ IntsA W vm xs ∧ (∀ n k, vm = .slice none n k → k = 0) := by
  have hC2 : Try.prog.cellsOf 23 = 2 := by kernel_rfl
  have hC3 : Try.prog.cellsOf 24 = 1 := by kernel_rfl
  have hC : Try.prog.cellsOf 26 = 3 := by kernel_rfl
  obtain ⟨cs, rfl, hsz⟩ := okWide_struct Try.underlying26 hval
  obtain ⟨l⟩ := cs
  match l, hsz.trans hC with
  | [c0, c1, c2], _ =>
    obtain ⟨fuel, hf⟩ := h
    obtain ⟨xs, n, _, _, _, hlen, hg⟩ := DataW.trod_struct Try.underlying26 hf
    match xs, hlen with
    | [x0, x1], _ =>
      have h0 : DataW.trod enc Try.prog W 0 (fun _ => true) true n 23 (([c0, c1, c2].drop 0).take (Try.prog.cellsOf 23)) = some x0 := hg 0 _ rfl
      have h1 : DataW.trod enc Try.prog W 0 (fun _ => true) true n 24 (([c0, c1, c2].drop 2).take (Try.prog.cellsOf 24)) = some x1 := hg 1 _ rfl
      rw [hC2] at h0
      rw [hC3] at h1
      obtain ⟨⟨k0, rfl⟩, k1, rfl⟩ := trod_id (c := c0) (d := c1) h0
      obtain ⟨ys, hI, hn⟩ := trod_ints (c := c2) h1
      exact ⟨k0, k1, c2, ys, rfl, hI, hn⟩
set_option maxRecDepth 100000 in
theorem open_irow {base : Nat} {v : Value} {d : DataW H} {ps : List MemPlace} (hval : Value.okWide Try.prog W .any base 24 v) (h : DataW.Trod enc Try.prog W 0 (fun _ => true) true 24 v d ps) : ∃ zs, IntsA W v zs := by
  obtain ⟨A, n, c, rfl⟩ := okWide_slice Try.underlying24 hval
  obtain ⟨fuel, hf⟩ := h
  obtain ⟨xs, hI, _⟩ := trod_ints (c := .slice A n c) hf
  exact ⟨xs, hI⟩
end
end Go.Proofs.Ytkhiconkoldllaa.L10
end

section
namespace Go.Proofs.Ytkhiconkoldllaa.L10
open Go.ChangeShapes Go.WideShapes Go.ChangeAt Go.RowKit

def SmallB (b : (List UInt8)) : Prop := Tm.depthOf b = 1 ∧ b.length ≤ 20
theorem deepR_flat : ∀ zs : List (List UInt8), (∀ z ∈ zs, Tm.depthOf z = 1) → Tm.deepR zs ≤ 1 + zs.length
  | [], _ => by rw [Tm.deepR_nil]; simp
  | z :: zs, h => by
    have h1 := h z (by simp)
    have h2 := deepR_flat zs (fun x hx => h x (by simp [hx]))
    rw [Tm.deepR_cons zs (by rw [h1]; decide), h1]
    simp only [List.length_cons]
    omega
theorem rowL_flat : ∀ zs : List (List UInt8), (∀ z ∈ zs, z.length ≤ 20) → (Tm.rowL zs).length ≤ 9 + 21 * zs.length
  | [], _ => by rw [Tm.rowL_len_nil]; simp
  | z :: zs, h => by
    have h1 := h z (by simp)
    have h2 := rowL_flat zs (fun x hx => h x (by simp [hx]))
    rw [Tm.rowL_cons]
    simp only [List.length_cons, List.length_append]
    omega
theorem wrongIn_flat (zs : List (List UInt8)) (h : ∀ z ∈ zs, Tm.depthOf z = 1) : Tm.wrongIn zs = false := by
  unfold Tm.wrongIn
  rw [List.any_eq_false]
  intro z hz
  rw [h z hz]
  decide
theorem measure_flat (zs : List (List UInt8)) (h : ∀ z ∈ zs, SmallB z) (hl : zs.length ≤ 20) : (Tm.measureL zs).2 = 0 := by
  have k1 := deepR_flat zs (fun z hz => (h z hz).1)
  have k2 := rowL_flat zs (fun z hz => (h z hz).2)
  have k3 := wrongIn_flat zs (fun z hz => (h z hz).1)
  unfold Tm.measureL
  rw [if_neg (by rw [k3]; simp; omega), if_neg (by omega), if_neg (by omega)]

theorem numL_flat (n : Int) : SmallB (Tm.numL n) := ⟨(Tm.depth_of_parse (p := Tm.numL n) (d := 1) (Tm.number_parse n.toNat) (by simp [Tm.numL, Tm.be8_length])).1, by rw [numL_len]; omega⟩
theorem rowB_iff (xs : List Int) : rowB xs = true ↔ riseB 0 xs = true ∧ xs ≠ [] := by
  unfold rowB
  cases xs <;> simp
theorem rightB_iff (e c : Int) (xs : List Int) : rightB e c xs = true ↔ 0 ≤ e ∧ e ≤ 2147483647 ∧ rowB xs = true ∧ c ∈ xs := by
  unfold rightB
  simp [and_assoc]
/-- A right view is packed as a message is. -/
theorem vpack_ok {e c : Int} {xs : List Int} (h : rightB e c xs = true) : ∃ t, (vmsg e c xs).pack = (t, 0) ∧ Tm.right t = true ∧ t.length ≤ 20000 := by
  obtain ⟨h1, h2, h3, h4⟩ := (rightB_iff _ _ _).1 h
  obtain ⟨h5, _⟩ := (rowB_iff _).1 h3
  have hc := riseB_bound h5 (by omega) c h4
  have hl := riseB_len h5 (by omega) (by omega)
  have hok : (vmsg e c xs).ok = true := by
    unfold Msg.ok Msg.okHead idB vmsg
    simp only [Bool.and_eq_true, decide_eq_true_eq, withinB_iff]
    refine ⟨⟨⟨⟨⟨?_, ?_⟩, ⟨?_, ?_⟩, ?_, ?_⟩, ?_, ?_⟩, ?_⟩, ?_⟩
    all_goals first | omega | exact h5 | skip
    all_goals first | exact ⟨by omega, by omega⟩ | exact measure_flat [] (by simp) (by simp) | skip
  have hr : ∀ z ∈ (vmsg e c xs).row, SmallB z := by
    intro z hz
    unfold Msg.row vmsg at hz
    rcases List.mem_append.1 hz with hz | hz
    · obtain ⟨k, _, rfl⟩ := List.mem_map.1 hz
      exact numL_flat k
    · simp at hz
  have hn : (vmsg e c xs).row.length ≤ 15 := by
    unfold Msg.row Msg.nums Msg.head vmsg
    simp
    omega
  have k1 := deepR_flat _ (fun z hz => (hr z hz).1)
  have k2 := rowL_flat _ (fun z hz => (hr z hz).2)
  have k3 := wrongIn_flat _ (fun z hz => (hr z hz).1)
  have hp := Tm.putRow_mk (zs := (vmsg e c xs).row) (by omega) k3 (by omega) (by omega)
  exact ⟨_, by unfold Msg.pack; rw [if_pos hok]; exact hp, Tm.row_right _ k3 (by omega) (by omega), by omega⟩
/-- What a view is as a term: a term, or nothing with one error. -/
theorem term_cases (e c : Int) (xs : List Int) : (rightB e c xs = true ∧ ∃ t, termP e c xs = (t, 0) ∧ (vmsg e c xs).pack = (t, 0) ∧ Tm.right t = true ∧ t.length ≤ 20000) ∨ (rightB e c xs = false ∧ termP e c xs = ([], 1)) := by
  cases h : rightB e c xs with
  | true =>
    obtain ⟨t, h1, h2, h3⟩ := vpack_ok h
    exact .inl ⟨rfl, t, by unfold termP; rw [if_pos h, h1], h1, h2, h3⟩
  | false => exact .inr ⟨rfl, by unfold termP; rw [if_neg (by rw [h]; simp)]⟩
theorem term_inj {e c : Int} {xs : List Int} {e' c' : Int} {ys : List Int} {s t : List UInt8} (h1 : (vmsg e c xs).pack = (s, 0)) (h2 : (vmsg e' c' ys).pack = (t, 0)) : s = t ↔ (e = e' ∧ c = c') ∧ xs = ys := by
  rw [Msg.pack_inj h1 h2]
  unfold vmsg
  constructor
  · intro h
    cases h
    exact ⟨⟨rfl, rfl⟩, rfl⟩
  · rintro ⟨⟨rfl, rfl⟩, rfl⟩
    rfl
end Go.Proofs.Ytkhiconkoldllaa.L10
end
