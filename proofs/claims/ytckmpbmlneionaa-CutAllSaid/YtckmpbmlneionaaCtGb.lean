/- Contracts of maps.Values at the map of the longest rows, of its iterator, of AppendSeq and Collect over it: all that the map holds, in some order. Contract of slices.SortedFunc over the map of the longest rows: the list that stands by keys, in a new row. Contract of cut.Begins. Contract of cut.longest: the map of the longest rows. Contract of cut.Cut: the longest rows, by keys, in memory of the call's own. -/
import Derived.Test.YtckmpbmlneionaaCtGa
import Derived.RangeFuncBox
import Derived.RangeFuncLeaves
import Derived.Shelf.Abstract
import Derived.Shelf.AbstractIn
import Derived.RangeFuncMany
import Derived.RangeFuncNested
import Derived.Sort.MapsRangeIn
import Derived.Sort.KeysCollected
import Derived.WalkKit
import Derived.OwnWalkIn
import Derived.TacticsInMore
import Derived.RegionIn
import Derived.LoopNIn
import Derived.LoopIn
import Derived.Maps.AppendAt
import Derived.Test.YtckmpbmlneionaaShelfC
import Derived.Laws.OwnMore
import Derived.Deep.AppendLies
import Derived.Deep.Onto
section
namespace Go.Proofs.Ytckmpbmlneionaa.L11
open Go.ChangeShapes Go.WideShapes Go.ChangeAt Go.RowKit Go.Shelf Go.Sort Go.Deep
open Go.Maps (Keyed has)

attribute [local go_sem] Oper.semAt_some

/-- What has come, and what is left. -/
structure Come (D : DataW Value) (ps : List Pt) (left : Lit → Bool) (qs : List Pt) : Prop where
  left : ∀ kl, left kl = true ↔ has D kl = true ∧ ∀ q ∈ qs, kl ≠ keyL (keyP q)
  sub : ∀ q ∈ qs, q ∈ ps
  nodup : qs.Pairwise (fun p q => keyP p ≠ keyP q)
theorem Come.start (D : DataW Value) (ps : List Pt) : Come D ps (has D) [] := ⟨by simp, by simp, List.Pairwise.nil⟩
theorem Come.done {D : DataW Value} {ps : List Pt} {left : Lit → Bool} {qs : List Pt} (m : MapOf D ps) (h : Come D ps left qs) (hl : ∀ kl, left kl = false) : qs.Perm ps := by
  have hsub : ∀ p ∈ ps, p ∈ qs := fun p hp => by
    have h1 := hl (keyL (keyP p))
    by_cases hq : ∃ q ∈ qs, keyL (keyP p) = keyL (keyP q)
    · obtain ⟨q, hq, e⟩ := hq
      rw [keyL_iff (m.ints p hp) (m.ints q (h.sub q hq))] at e
      rw [sorted_one m.sorted hp (h.sub q hq) e]
      exact hq
    · have := (h.left (keyL (keyP p))).2 ⟨(m.has _).2 ⟨p, hp, rfl⟩, fun q hq' e => hq ⟨q, hq', e⟩⟩
      rw [h1] at this; cases this
  have n1 : qs.Nodup := h.nodup.imp (fun h e => h (by rw [e]))
  have n2 : ps.Nodup := List.Pairwise.imp (fun h e => ahead_irrefl h (congrArg keyP e)) m.sorted
  exact (List.perm_ext_iff_of_nodup n1 n2).2 (fun a => ⟨h.sub a, hsub a⟩)
theorem Come.next {D : DataW Value} {ps : List Pt} {left : Lit → Bool} {qs : List Pt} {kl : Lit} (m : MapOf D ps) (h : Come D ps left qs) (hlk : left kl = true) :
    ∃ p ∈ ps, kl = keyL (keyP p) ∧ (∀ z, D.atKey kl z = .held p.val) ∧ Come D ps (fun x => left x && !x.sameKey kl) (qs ++ [p]) := by
  obtain ⟨h1, h2⟩ := (h.left kl).1 hlk
  obtain ⟨p, hp, rfl⟩ := (m.has kl).1 h1
  refine ⟨p, hp, rfl, m.at_ p hp, ⟨fun x => ?_, fun q hq => ?_, ?_⟩⟩
  · simp only [Bool.and_eq_true, Bool.not_eq_true']
    constructor
    · rintro ⟨a, b⟩
      obtain ⟨c, d⟩ := (h.left x).1 a
      refine ⟨c, fun q hq => ?_⟩
      rcases List.mem_append.1 hq with hq | hq
      · exact d q hq
      · simp at hq
        subst hq
        intro e
        rw [(WideAt.sameKey_iff (keyL_lit _)).2 e] at b
        cases b
    · rintro ⟨a, b⟩
      refine ⟨(h.left x).2 ⟨a, fun q hq => b q (by simp [hq])⟩, ?_⟩
      cases hs : x.sameKey (keyL (keyP p)) with
      | false => rfl
      | true => exact absurd (WideAt.sameKey_eq hs) (b p (by simp))
  · rcases List.mem_append.1 hq with hq | hq
    · exact h.sub q hq
    · simp at hq; subst hq; exact hp
  · refine List.pairwise_append.2 ⟨h.nodup, by simp, fun a ha b hb => ?_⟩
    simp at hb
    subst hb
    intro e
    exact h2 a ha (by rw [e])

set_option maxRecDepth 100000 in
set_option maxHeartbeats 2000000 in
theorem values1_in (n : Nat) (hn : 1 ≤ n) (l Bm b nn : Nat) (D : DataW Value) (ps : List Pt) (m : MapOf D ps) (J Jx : List Pt → World → Prop)
    (hY : ∀ pre x W, J pre W → x ∈ ps → pre.length < Maps.size D → YieldAt Fence.wide (n - 1) Try.prog l #[x.val] W fun e W' =>
      (e = .returned (.bool true) ∧ J (pre ++ [x]) W' ∧ KeepsWalks W W') ∨ (e = .returned (.bool false) ∧ Jx (pre ++ [x]) W'))
    (W : World) (hJ : AbidesFrom W.heap.size J) (hm : W.cell? ⟨Bm, 0, none⟩ = some (.map (some b))) (hown : W.ownsMap Try.prog 104 heldC b nn D) (h0 : J [] W) :
    CallsIn Fence.wide n Try.prog 65 #[.func (.yield l) #[] #[], .pointer (some ⟨Bm, 0, none⟩)] W fun e W' => (∃ v, e = .returned v) ∧
      ((∃ qs, qs.Perm ps ∧ J qs W') ∨ (∃ pre, (∀ q ∈ pre, q ∈ ps) ∧ Jx pre W')) := by
  refine callsIn_of_wp Try.func65 rfl trivial ?_ rfl
  simp only [Try.ntmps65, List.size_toArray, List.length_cons, List.length_nil, Nat.reduceAdd, Nat.reduceSub, Array.replicate_succ, Array.replicate_zero, List.push_toArray, List.append_toArray, List.nil_append, List.cons_append]
  gi_wp2_with (first
    | (gi_at_range; refine wpListIn_range_own _ rfl _ 102 rfl 104 60 keyed_w Try.underlying102 _ b nn _ rfl hown ?_; intro w0 hrg0 hg0 hs0)
    | gi_in)
  go_frame
  gi_loopw [4] (fun _ wr => ∃ (left : Lit → Bool) (cnt : Nat) (qs : List Pt), wr.ranges Try.prog 104 heldC b W.heap.size nn D left cnt ∧ qs.length + cnt ≤ Maps.size D ∧ Come D ps left qs ∧ J qs wr)
    (fun _ wr => wr.rangeLeft b W.heap.size)
  case atStart =>
    exact ⟨_, _, [], hrg0, by simp, Come.start D ps, hJ [] W w0 none h0 hg0 (fun r e => by cases e)⟩
  case round =>
    obtain ⟨left, cnt, qs, hrg, hcs, hC, hJs⟩ := hrel
    gi_wp2_with (first
      | (gi_at_next; refine wpListIn_next_ranges _ rfl _ rfl 104 keyed_w heldC id id (fun key kl hk => ⟨key, rfl⟩) (fun v y hv => ⟨v, rfl⟩) b W.heap.size nn _ _ _ rfl hrg ?_ ?_)
      | gi_in)
    · intro hc0 hl0
      gi_wp2
      go_end0
      exact ⟨⟨_, rfl⟩, .inl ⟨qs, hC.done m hl0, hJs⟩⟩
    · intro x c kl yd yp w2 cnt2 hkey hlk hv hat hrg2 hlt hg2 hs2 hen
      obtain ⟨p, hp, rfl, hat2, hC2⟩ := hC.next m hlk
      obtain rfl : c = p.val := by
        have e1 := hat (.held zeroPt)
        rw [hat2] at e1
        simp only [heldC, Option.some.injEq, Prod.mk.injEq] at hv
        rw [← hv.1] at e1
        simpa using e1.symm
      have hJ2 : J qs w2 := hJ _ wr w2 (some W.heap.size) hJs hg2 (fun r e => by cases e; exact ⟨Nat.le_refl _, hrg.iter_walk⟩)
      have hJ3 : J qs (w2.alloc (.cells p.cells.toArray 60)) := hJ _ w2 _ none hJ2 (World.grownBy_alloc _ _ _) (fun r e => by cases e)
      obtain ⟨fn, tmps, assign, body, hy, hR⟩ := hY qs p _ hJ3 hp (by omega)
      simp only [Pt.val, Pt.cells, It.v] at hen hy hR
      clear hs2
      have hrg2a := hrg2.alloc (.cells p.cells.toArray 60)
      simp only [Pt.cells, It.v] at hrg2a
      gi_wp2
      refine hR.mono ?_
      rintro e W3 (⟨rfl, hJ4, hk3⟩ | ⟨rfl, hJx3⟩)
      · gi_wp2
        have hrg3 := hrg2a.of_walks hk3
        go_roundw
        case rel => exact ⟨_, cnt2, qs ++ [p], hrg3, by simp; omega, hC2, hJ4⟩
        case measure => rw [hrg3.left_eq, hrg.left_eq]; exact hlt
      · gi_wp2
        refine bodyPost_ret (results_none rfl _ _ _) rfl ?_
        exact ⟨⟨_, rfl⟩, .inr ⟨qs ++ [p], hC2.sub, hJx3⟩⟩

set_option maxHeartbeats 1000000 in
/-- maps.Values(m): the map is boxed; the function value has the box. -/
theorem values_in (n : Nat) (mb : Option Nat) (w : World) :
    CallsIn Fence.wide n Try.prog 46 #[.map mb] w fun e w' => e = .returned (.func (.func 65) #[] #[.pointer (some ⟨w.heap.size, 0, none⟩)]) ∧ w' = w.alloc (.cells #[.map mb] 102) := by
  refine callsIn_of_wp Try.func46 rfl trivial ?_ rfl
  simp only [Try.ntmps46, List.size_toArray, List.length_cons, List.length_nil, Nat.reduceAdd, Nat.reduceSub, Array.replicate_succ, Array.replicate_zero, List.push_toArray, List.append_toArray, List.nil_append, List.cons_append]
  gi_wp2
  go_ret
  exact ⟨rfl, rfl⟩
theorem size_le {W : World} {b n : Nat} {D : DataW Value} (h : W.ownsMap Try.prog 104 heldC b n D) : Maps.size D ≤ n := by
  obtain ⟨es, clock, hb, F, hs, rfl⟩ := h
  simp only [Maps.size, Go.length_sorted, List.length_map, Array.length_toList]
  exact hs
theorem values_stops (n : Nat) (hn : 1 ≤ n) (Bm b nn : Nat) (D : DataW Value) (ps : List Pt) (m : MapOf D ps) (w1 : World) (hBm : Bm < w1.heap.size)
    (hm : w1.cell? ⟨Bm, 0, none⟩ = some (.map (some b))) (hown : w1.ownsMap Try.prog 104 heldC b nn D) :
    SeqStopsK Fence.wide n Try.prog 65 #[.pointer (some ⟨Bm, 0, none⟩)] (fun x : Pt => #[x.val]) KeepsWalks (fun qs => qs.Perm ps) (fun _ => True) (Maps.size D) w1 := fun l J Jx W hW hJ _ hY h0 => by
  have hown' : W.ownsMap Try.prog 104 heldC b nn D := by
    have hbl := hown.lt
    obtain ⟨es, clock, hb, Ft, hs, hD⟩ := hown
    exact ⟨es, clock, (hW.block b hbl).trans hb, Ft, hs, hD⟩
  refine (values1_in n hn l Bm b nn D ps m J Jx (fun pre x W1 hj _ hl => hY pre x W1 hj hl) W hJ ((hW.cell (p := ⟨Bm, 0, none⟩) hBm).trans hm) hown' h0).mono ?_
  rintro e W' ⟨hv, ⟨qs, h1, h2⟩ | ⟨pre, _, h2⟩⟩
  · exact ⟨hv, .inl ⟨qs, h1, h2⟩⟩
  · exact ⟨hv, .inr ⟨pre, trivial, h2⟩⟩

theorem info_part : (Try.prog.info? 60).map (fun i => (i.zero, i.size, i.bytes)) = some (some zeroPt, 4, 48) := by kernel_rfl
theorem info_partsC {e : TypeId} {z : Value} {s b : Nat} (h : (Try.prog.info? e).map (fun i => (i.zero, i.size, i.bytes)) = some (some z, s, b)) : ∃ i, Try.prog.info? e = some i ∧ i.zero = some z ∧ i.size = s ∧ i.bytes = b := by
  cases hi : Try.prog.info? e with
  | none => rw [hi] at h; cases h
  | some i => rw [hi] at h; simp at h; exact ⟨i, rfl, h.1, h.2.1, h.2.2⟩
/-- The box of the part that has come. -/
def Got (w : World) (Bm : Nat) (x : Pt) (a : Act) (W : World) : Prop :=
  ∃ q, a = { tmps := #[.slice none 0 0, .func (.func 65) #[] #[.pointer (some ⟨Bm, 0, none⟩)], .pointer (some ⟨w.heap.size, 0, none⟩), undef, .slice none 0 0, .pointer (some ⟨q, 0, none⟩), .func (.func 65) #[] #[.pointer (some ⟨Bm, 0, none⟩)], x.val, undef, undef, undef, undef, undef], defers := [] } ∧
    W.heap[q]? = some (.cells x.cells.toArray 60 (0, 0))

set_option maxRecDepth 100000 in
set_option maxHeartbeats 4000000 in
/-- slices.AppendSeq(nil, maps.Values(m)): all that the map holds, in some order. -/
theorem append_in (n : Nat) (hn : 3 ≤ n) (Bm b nn : Nat) (ps : List Pt) (w : World) (hm : MapW w b nn ps) (hBm : Bm < w.heap.size) (hcb : w.cell? ⟨Bm, 0, none⟩ = some (.map (some b))) (hlen : nn ≤ 1000000) :
    CallsIn Fence.wide n Try.prog 77 #[.slice none 0 0, .func (.func 65) #[] #[.pointer (some ⟨Bm, 0, none⟩)]] w fun e W' =>
      ∃ u qs, e = .returned u ∧ qs.Perm ps ∧ W'.ownsRow w.heap.size 60 4 u qs.length (flatP qs) ∧ Below w.heap.size w W' := by
  obtain ⟨D, hown, hmo⟩ := hm
  have hsz := size_le hown
  have h1 : 1 ≤ n := by omega
  obtain ⟨i0, hi, hz0, hz1, hz2⟩ := info_partsC info_part
  refine callsIn_of_wp_marks Try.func77 rfl trivial ?_ rfl
  simp only [Try.ntmps77, List.size_toArray, List.length_cons, List.length_nil, Nat.reduceAdd, Nat.reduceSub, Array.replicate_succ, Array.replicate_zero, List.push_toArray, List.append_toArray, List.nil_append, List.cons_append]
  gi_wp2
  have bO := Boxed.new w 23 (.slice none 0 0)
  have hB0 : Below w.heap.size w (w.alloc (.cells #[.slice none 0 0] 23)) := (Below.refl _ w).alloc (Nat.le_refl _) _
  have hown1 : (w.alloc (.cells #[.slice none 0 0] 23)).ownsMap Try.prog 104 heldC b nn D := hown.kept (World.grownBy_alloc _ _ none) (by simp)
  refine wpIn_rangeFunc_ownH rfl h1 (gf := 65) (lb := #[.pointer (some ⟨Bm, 0, none⟩)]) rfl trivial (enters_of Try.func65 (by kernel_rfl) rfl)
    (values_stops (n - 1) (by omega) Bm b nn D ps hmo _ (by simp; omega) ((hB0.cell (p := ⟨Bm, 0, none⟩) hBm).trans hcb) hown1) walksK_t walksK_b (Below.refl _ _) (fun _ => rfl)
    (fun pre W => (∃ v, Boxed W w.heap.size 23 v ∧ W.ownsRow w.heap.size 60 4 v pre.length (flatP pre) ∧ True) ∧ Below w.heap.size w W)
    (fun _ _ _ => False)
    (OwnFrom.and (Own.from (holdsRow_own w.heap.size w.heap.size 23 60 4 (fun pre : List Pt => pre.length) (fun pre => flatP pre) (fun _ _ => True)) _) (ownFrom_below (Nat.le_refl _) (by simp)))
    (fun _ _ _ _ _ hs _ _ => hs)
    ⟨⟨_, bO, World.ownsRow_nil _ _ _ _, trivial⟩, hB0⟩
    (Got w Bm) ?hax ?assign ?body ?done ?stop
  case hax =>
    rintro x a' _ W W' row ⟨q, ha, hq⟩ hg hr
    exact ⟨q, ha, (hg.block q (Array.getElem?_eq_some_iff.1 hq).1 (fun e => by obtain ⟨_, o, ho, hoc⟩ := hr q e.symm; rw [hq] at ho; cases ho; cases hoc)).trans hq⟩
  case assign =>
    intro l pre x W K hI hK
    simp only [Pt.val, Pt.cells, It.v] at hK ⊢
    obtain ⟨⟨u, hv, hrow, _⟩, hB⟩ := hI
    gi_wp2
    refine hK _ _ (KeepsFrom.of_grownBy (World.grownBy_alloc W _ none) (fun j e => by cases e)) (KeepsWalks.alloc W _) ⟨⟨u, hv.alloc _, hrow.alloc _, trivial⟩, hB.alloc hB.size _⟩ ⟨W.heap.size, rfl, World.alloc_heap_new W _⟩
  case body =>
    rintro l pre x a' W hl _ ⟨⟨u, hv, hrow, _⟩, hB⟩ ⟨q, rfl, hq⟩ hlt
    have hc := hv.cell
    have hcells : ∀ j, W.cell? ⟨q, j, none⟩ = x.cells[j]? := fun j => by
      simp only [World.cell?]; rw [hq]; simp
    have c0 : W.cell? ⟨q, 0, none⟩ = some (.int .i64 x.ep) := hcells 0
    have c1 : W.cell? ⟨q, 1, none⟩ = some (.int .i64 x.co) := hcells 1
    have c2 : W.cell? ⟨q, 2, none⟩ = some (.int .i64 x.se) := hcells 2
    have c3 : W.cell? ⟨q, 3, none⟩ = some (.slice x.it.a x.it.l.length x.it.c) := hcells 3
    have hone : ∀ u ∈ x.cells, u.oneCell' = true := fun u hu => flatP_one [x] u (by simpa [flatP] using hu)
    have hnew : ∀ (j : Nat) (u : Value), x.cells[j]? = some u → (W.alloc (.cells x.cells.toArray 60)).cell? ((⟨W.heap.size, 0, none⟩ : Addr).add j) = some u := fun j u hu => by
      rw [add_zeroC]
      simp only [World.cell?]
      rw [World.alloc_heap_new W _]
      simpa using hu
    simp only [Pt.cells, It.v] at hone hnew
    clear hcells hq
    gi_wp2_with (gi_at_builtin; refine wpListIn_append_own _ rfl _ _ 23 rfl w.heap.size 60 i0 zeroPt 4 48 Try.underlying23 hi hz0 hz1 hz2 rfl (by decide) _ _ _ rfl (hrow.alloc _) ⟨W.heap.size, 0, none⟩ 1 1 [.int .i64 x.ep, .int .i64 x.co, .int .i64 x.se, .slice x.it.a x.it.l.length x.it.c] rfl rfl hnew hone (by unfold maxLen; omega) (by omega) (by have := hB.size; simp; omega) ?_; intro v' w1 hown' hgrow _; obtain ⟨g', cap', rfl⟩ := ownsRow_succ hown'; obtain ⟨hv1, hv2, hr2, hk2, hb2⟩ := hv.appended (by decide) hrow hB.size (Nat.le_refl _) hown' hgrow; have hc1 := hv1.cell; have hf1 := hv1.frozen)
    exact ⟨hk2.from _, hk2.walks, ⟨_, hv2, by rw [flatP_snoc]; simpa [Pt.cells, It.v] using hr2, trivial⟩, hB.trans hb2⟩
  case done =>
    rintro D ys W hD hp ⟨⟨u, hv, hrow, _⟩, hB⟩ hK
    have hc := hv.cell
    gi_wp2
    refine ⟨by simp, .inl ⟨_, _, rfl, run_takeDeferred hK, ?_⟩⟩
    exact ⟨_, results_tmp rfl _ _ _, u, ys, rfl, hp, ownsRow_putObj hrow _ hK rfl, hB.trans (belowK_b (w := w) (Nat.le_refl _) W D _ _ (by simp at hD; omega) hK rfl rfl)⟩
  case stop =>
    rintro D c pre W _ _ h _
    exact h.elim

theorem collect_in (n : Nat) (hn : 4 ≤ n) (Bm b nn : Nat) (ps : List Pt) (w : World) (hm : MapW w b nn ps) (hBm : Bm < w.heap.size) (hcb : w.cell? ⟨Bm, 0, none⟩ = some (.map (some b))) (hlen : nn ≤ 1000000) :
    CallsIn Fence.wide n Try.prog 63 #[.func (.func 65) #[] #[.pointer (some ⟨Bm, 0, none⟩)]] w fun e W' =>
      ∃ u qs, e = .returned u ∧ qs.Perm ps ∧ W'.ownsRow w.heap.size 60 4 u qs.length (flatP qs) ∧ Below w.heap.size w W' := by
  have hA := append_in (n - 1) (by omega) Bm b nn ps w hm hBm hcb hlen
  have h1 : 1 ≤ n := by omega
  have hfA : Fence.wide.fn 77 := trivial
  refine callsIn_of_wp Try.func63 rfl trivial ?_ rfl
  simp only [Try.ntmps63, List.size_toArray, List.length_cons, List.length_nil, Nat.reduceAdd, Nat.reduceSub, Array.replicate_succ, Array.replicate_zero, List.push_toArray, List.append_toArray, List.nil_append, List.cons_append]
  gi_wp2_with (gi_at_call 77; refine hA.mono ?_; rintro e W ⟨u, qs, rfl, hp, hrow, hb⟩)
  go_ret
  exact ⟨_, qs, rfl, hp, hrow, hb⟩
end Go.Proofs.Ytckmpbmlneionaa.L11
end

section
namespace Go.Proofs.Ytckmpbmlneionaa.L11
open Go.ChangeShapes Go.WideShapes Go.ChangeAt Go.RowKit Go.Shelf Go.Sort Go.Deep

instance : Inhabited Pt := ⟨⟨0, 0, 0, ⟨none, 0, []⟩⟩⟩
theorem ltOf_iff (x y : Pt) : ltOf cfP x y = aheadP x y := by
  unfold ltOf
  rw [Bool.eq_iff_iff, decide_eq_true_eq, cfP_ahead]
theorem swo_cf : SWO (ltOf cfP) where
  irrefl x := by
    rw [ltOf_iff]
    cases h : aheadP x x with
    | false => rfl
    | true => exact absurd rfl (ahead_irrefl h)
  trans x y z h1 h2 := by rw [ltOf_iff] at *; exact ahead_trans h1 h2
  ntrans x y z h1 h2 := by
    rw [ltOf_iff] at *
    cases h : aheadP x z with
    | false => rfl
    | true =>
      rw [← Bool.not_eq_true, aheadP_iff] at h1 h2
      rw [aheadP_iff] at h
      omega
theorem cmp_lays (blk off size : Nat) (w : World) : CmpLays Try.prog 48 #[] Pt.cells 4 cfP blk off size w := by
  intro m os dk _ x y
  refine (order_calls x y _).mono ?_
  rintro e w' ⟨rfl, os', rfl⟩
  exact ⟨rfl, 0, os', rfl⟩
theorem flatP_len (l : List Pt) : (flatP l).length = l.length * 4 := by rw [flatP, flat_len (pt_four l), List.length_map]
theorem flatK_eq (l : List Pt) : flatK Pt.cells 4 l.toArray = (flatP l).toArray := by
  refine ext_get! (by simp [flatP_len]) fun t ht => ?_
  have ht' : t < l.toArray.size * 4 := by simpa using ht
  have ht2 : t < l.length * 4 := by simpa using ht'
  rw [get_flatK _ _ _ t ht']
  have hq : t / 4 < l.length := by omega
  have h1 : (l.map Pt.cells)[t / 4]? = some (l[t / 4]'hq).cells := by rw [List.getElem?_map, List.getElem?_eq_getElem hq]; rfl
  have h2 := flat_at (pt_four l) h1 (t % 4) (by omega)
  rw [show t / 4 * 4 + t % 4 = t by omega] at h2
  have h3 : l.toArray[t / 4]! = l[t / 4]'hq := by simp [hq]
  rw [h3]
  have h4 : (flatP l)[t]? = ((l[t / 4]'hq).cells)[t % 4]? := h2
  have h5 : t % 4 < ((l[t / 4]'hq).cells).length := by show t % 4 < 4; omega
  simp [h4, h5]
theorem holdsP {w : World} {g : Nat} {cur : Array Value} {e : TypeId} {l : List Pt} (hb : w.heap[g]? = some (.cells cur e (0, 0))) (ht : cur.toList.take (l.length * 4) = flatP l) : HoldsK Pt.cells 4 w g 0 l.toArray := by
  unfold HoldsK
  rw [flatK_eq]
  intro j hj
  have hj' : j < (flatP l).length := by simpa using hj
  refine ⟨?_, by simp [World.frozen?, hb]⟩
  have h1 : (cur.toList.take (l.length * 4))[j]? = (flatP l)[j]? := by rw [ht]
  rw [List.getElem?_take_of_lt (by rw [← flatP_len]; exact hj')] at h1
  simp only [World.cell?, hb, Nat.zero_add]
  simp only [Option.isSome_none, Bool.false_eq_true, if_false]
  rw [← Array.getElem?_toList, h1]
  simp [hj']
theorem heap_sortedP {w : World} {g n : Nat} {os : Array Obj} {cur : Array Value} {e : TypeId} {fr : Nat × Nat} (d : Array Value) (hb : w.heap[g]? = some (.cells cur e fr)) :
    (grow (putRow id (Sort.ahead w n) g 0 d) os).heap[g]? = some (.cells (putCells id 0 d cur) e fr) := by
  have hg : g < w.heap.size := (Array.getElem?_eq_some_iff.1 hb).1
  rw [heap_grow_old _ _ (by simpa using hg)]
  simp [putRow, mapBlock, Sort.ahead, Array.getElem?_modify, hb, onCells]
theorem grownBy_sortedP {w : World} {g n : Nat} {os : Array Obj} (d : Array Value) : w.grownBy (grow (putRow id (Sort.ahead w n) g 0 d) os) (some g) := by
  refine ⟨rfl, rfl, rfl, by simp, fun k hk hne => ?_⟩
  rw [heap_grow_old _ _ (by simpa using hk)]
  have : g ≠ k := fun e => hne (by rw [e])
  simp [putRow, mapBlock, Sort.ahead, Array.getElem?_modify, this]
theorem take_putCellsP (cur : Array Value) (ts : List Value) (h : ts.length ≤ cur.size) : (putCells id 0 ts.toArray cur).toList.take ts.length = ts := by
  apply List.ext_getElem?
  intro j
  by_cases hj : j < ts.length
  · rw [List.getElem?_take_of_lt hj, Array.getElem?_toList]
    simp [putCells, hj, show j < cur.size by omega]
  · rw [List.getElem?_take_eq_none (by omega), List.getElem?_eq_none (by omega)]

theorem sorted_row {ps qs : List Pt} {d : Array Pt} (hs : SortedP ps) (hp : qs.Perm ps) (h1 : PermIn 0 qs.length qs.toArray d) (h2 : SortedIn (ltOf cfP) 0 qs.length d) : d = ps.toArray := by
  obtain ⟨k1, _, k3⟩ := h1
  have ksz : d.size = qs.length := by simpa using k1
  have k4 : d.toList.Perm qs := by
    have e1 : d.extract 0 qs.length = d := by rw [← ksz]; simp
    have e2 : qs.toArray.extract 0 qs.length = qs.toArray := by simp
    rw [e1, e2] at k3
    simpa using k3
  have k5 : d.toList.Pairwise (fun x y => aheadP y x = false) := by
    rw [List.pairwise_iff_getElem]
    intro i j hi hj hij
    have := h2 i j (Nat.zero_le _) hij (by rw [← ksz]; simpa using hj)
    rw [ltOf_iff] at this
    simp only [Array.length_toList] at hi hj
    rw [getElem!_pos d i hi, getElem!_pos d j hj] at this
    simpa using this
  have := sorted_perm_eq hs (k4.trans hp) k5
  rw [← this]
set_option maxHeartbeats 1000000 in
/-- slices.SortedFunc(maps.Values(m), order): the list that stands by keys. -/
theorem sorted_in (n : Nat) (hn : 5 ≤ n) (Bm b nn : Nat) (ps : List Pt) (w : World) (hm : MapW w b nn ps) (hBm : Bm < w.heap.size) (hcb : w.cell? ⟨Bm, 0, none⟩ = some (.map (some b))) (hlen : nn ≤ 1000000) (hpl : ps.length ≤ 1000000) :
    CallsIn Fence.wide n Try.prog 45 #[.func (.func 65) #[] #[.pointer (some ⟨Bm, 0, none⟩)], .func (.func 48) #[] #[]] w fun e W' =>
      ∃ u, e = .returned u ∧ W'.ownsRow w.heap.size 60 4 u ps.length (flatP ps) ∧ Below w.heap.size w W' := by
  have hC := collect_in (n - 1) (by omega) Bm b nn ps w hm hBm hcb hlen
  have hsor : SortedP ps := by obtain ⟨D, _, h⟩ := hm; exact h.sorted
  have h1 : 1 ≤ n := by omega
  have hfA : Fence.wide.fn 63 := trivial
  have hfB : Fence.wide.fn 64 := trivial
  have eg : ∀ args w, (callFunc 48 args).run Try.prog w = .ok (.enter 48 args) w := enters_of Try.func48 (by kernel_rfl) rfl
  refine callsIn_of_wp Try.func45 rfl trivial ?_ rfl
  simp only [Try.ntmps45, List.size_toArray, List.length_cons, List.length_nil, Nat.reduceAdd, Nat.reduceSub, Array.replicate_succ, Array.replicate_zero, List.push_toArray, List.append_toArray, List.nil_append, List.cons_append]
  gi_wp2_with (gi_at_call 63; refine hC.mono ?_; rintro e W ⟨u, qs, rfl, hp, hrow, hb⟩)
  have hql : qs.length = ps.length := hp.length_eq
  rcases hrow.2 with ⟨rfl, hz⟩ | ⟨gb, cap, cur, rfl, hbase, hgb, r1, r2, r3, r4⟩
  · have hs := fun V => (callsIn_wide (n := n - 1)).2 (Try.slices_SortFunc_none none 0 (.func (.func 48) #[] #[]) V)
    have hx : ps = [] := List.eq_nil_of_length_eq_zero (by omega)
    have hy : qs = [] := List.eq_nil_of_length_eq_zero hz
    subst hx hy
    gi_wp2_with (gi_at_call 64; refine (hs _).mono ?_; rintro e w' ⟨rfl, rfl⟩)
    go_ret
    exact ⟨_, rfl, hrow, hb⟩
  · have hH : HoldsK Pt.cells 4 W gb 0 qs.toArray := holdsP hgb r4
    have hgl : gb < W.heap.size := (Array.getElem?_eq_some_iff.1 hgb).1
    have hs := AnyQ.slices_SortFunc Try.sortP 4 Try.isAgg60 Try.sizeOf60 Pt.cells (fun _ => rfl) (fun x v hv => flatP_one [x] v (by simpa [flatP] using hv)) cfP swo_cf 48 #[] gb 0 cap qs.toArray W eg (cmp_lays gb 0 _ W) hH hgl (by simp; omega)
    change Calls Try.prog 64 _ _ _ at hs
    have hs2 := (callsIn_wide (n := n - 1)).2 hs
    rw [List.size_toArray] at hs2
    gi_wp2_with (gi_at_call 64; refine hs2.mono ?_; rintro e w' ⟨rfl, d', nn', os, hperm, hsd, rfl⟩)
    go_ret
    have e := sorted_row hsor hp hperm hsd
    subst e
    have hw : sortWorldK Pt.cells 4 W gb 0 nn' ps.toArray os = grow (putRow id (Sort.ahead W nn') gb 0 (flatP ps).toArray) os := by
      unfold sortWorldK putRowK
      rw [flatK_eq]
    rw [hw]
    have hfl := flatP_len ps
    refine ⟨_, rfl, ⟨hfl, .inr ⟨gb, cap, _, rfl, hbase, heap_sortedP _ hgb, by omega, r2, by simp [putCells, r3], ?_⟩⟩, hb.grown (grownBy_sortedP _) hb.size (fun j hj => by cases hj; exact hbase)⟩
    rw [← hfl]
    exact take_putCellsP cur (flatP ps) (by rw [hfl, r3]; omega)
end Go.Proofs.Ytckmpbmlneionaa.L11
end

section
namespace Go.Proofs.Ytckmpbmlneionaa.L11
open Go.ChangeShapes Go.WideShapes Go.ChangeAt Go.RowKit Go.Deep

def beginsL (xs ys : List Bytes) : Bool := decide (xs.length ≤ ys.length) && decide (xs = ys.take xs.length)
theorem ItAt.take {w : World} {A : Option Addr} {c : Nat} {l : List Bytes} (h : ItAt w ⟨A, c, l⟩) {n : Nat} (hn : n ≤ l.length) : ItAt w ⟨A, c, l.take n⟩ := by
  have hl : (l.take n).length = n := by rw [List.length_take]; omega
  refine ⟨by have := h.le; simp only at this ⊢; omega, h.few, h.nil, fun z hz => h.short z (List.mem_of_mem_take hz), fun j z hz => ?_⟩
  rw [List.getElem?_take] at hz
  split at hz
  · exact h.reads j z hz
  · cases hz
set_option maxHeartbeats 1000000 in
theorem begins_calls (x y : It) (w : World) (hx : ItAt w x) (hy : ItAt w y) : Calls Try.prog 26 #[x.v, y.v] w (One w (.bool (beginsL x.l y.l))) := by
  obtain ⟨A, c, xs⟩ := x
  obtain ⟨A2, c2, ys⟩ := y
  have f1 := Nat.le_trans hx.le hx.few
  have f2 := Nat.le_trans hy.le hy.few
  have hle := hy.le
  have hnil := hy.nil
  have hfew := hy.few
  simp only at f1 f2 hle hnil hfew
  unfold maxLen at f1 f2 hfew
  by_cases hn : xs.length ≤ ys.length
  · have hE := equal_calls ⟨A, c, xs⟩ ⟨A2, c2, ys.take xs.length⟩ w hx (hy.take hn)
    have hl : (ys.take xs.length).length = xs.length := by rw [List.length_take]; omega
    simp only [It.v, hl] at hE ⊢
    have e : beginsL xs ys = decide (xs = ys.take xs.length) := by simp [beginsL, hn]
    rw [e]
    generalize decide (xs = ys.take xs.length) = b at *
    have HE := Lib.hid hE
    have j1 : (xs.length : Int) ≤ (ys.length : Int) := by omega
    have j2 : (0 : Int) ≤ (xs.length : Int) := by omega
    have j3 : (xs.length : Int) ≤ (c2 : Int) := by omega
    clear hx hy hE hl e hn
    generalize xs.length = n at *
    generalize ys.length = m at *
    go_enter Try.func26, Try.ntmps26
    go_wp2_with fail
    refine HE.out.mono ?_
    rintro e w1 ⟨rfl, b1⟩
    have HB := Lib.hid b1
    clear b1 HE
    go_wp2
    go_ret
    exact ⟨rfl, HB.out⟩
  · have e : beginsL xs ys = false := by simp [beginsL, hn]
    rw [e]
    simp only [It.v]
    have j1 : ¬ (xs.length : Int) ≤ (ys.length : Int) := by omega
    clear hx hy e hn hnil
    generalize xs.length = n at *
    generalize ys.length = m at *
    go_enter Try.func26, Try.ntmps26
    go_wp2
    go_ret
    exact ⟨rfl, Below.refl _ _⟩
end Go.Proofs.Ytckmpbmlneionaa.L11
end

section
namespace Go.Proofs.Ytckmpbmlneionaa.L11
open Go.ChangeShapes Go.WideShapes Go.ChangeAt Go.RowKit Go.Deep

theorem reps_read {w : World} {v : Value} {rs : List Rp} (h : RepsA w v rs) : ∃ A c, v = .slice A rs.length c ∧ rs.length ≤ maxLen ∧ ∀ j r, rs[j]? = some r → ∃ ad : Addr, A = some ad ∧ LogsA w r.lv r.lg ∧ isInt r.ep ∧ isInt r.co ∧ ∀ V, Below w.heap.size w V →
    V.cell? (ad.add (j * 4)) = some (.int .i64 r.fr) ∧ V.cell? ⟨(ad.add (j * 4)).block, (ad.add (j * 4)).off + 1, none⟩ = some (.int .i64 r.ep) ∧ V.cell? ⟨(ad.add (j * 4)).block, (ad.add (j * 4)).off + 2, none⟩ = some (.int .i64 r.co) ∧
    V.cell? ⟨(ad.add (j * 4)).block, (ad.add (j * 4)).off + 3, none⟩ = some r.lv := by
  obtain ⟨A, c, e, hf, hr⟩ := h.get
  refine ⟨A, c, e, hf, fun j r hj => ?_⟩
  obtain ⟨ad, e2, hb, c0, c1, c2, c3, hl, i1, i2⟩ := hr j r hj
  have hk : ∀ V, Below w.heap.size w V → ∀ o, V.cell? ⟨(ad.add (j * 4)).block, o, none⟩ = w.cell? ⟨(ad.add (j * 4)).block, o, none⟩ := fun V hV o => hV.cell (p := ⟨(ad.add (j * 4)).block, o, none⟩) (by rw [addr_blockC]; exact hb)
  exact ⟨ad, e2, hl, i1, i2, fun V hV => ⟨(hV.cell (p := ad.add (j * 4)) (by rw [addr_blockC]; exact hb)).trans c0, (hk V hV _).trans c1, (hk V hV _).trans c2, (hk V hV _).trans c3⟩⟩
theorem logs_read {w : World} {v : Value} {ls : List Lg} (h : LogsA w v ls) : ∃ A c, v = .slice A ls.length c ∧ ls.length ≤ maxLen ∧ ∀ j l, ls[j]? = some l → ∃ ad : Addr, A = some ad ∧ ItAt w l.it ∧ isInt l.se ∧ ∀ V, Below w.heap.size w V →
    V.cell? (ad.add (j * 2)) = some (.int .i64 l.se) ∧ V.cell? ⟨(ad.add (j * 2)).block, (ad.add (j * 2)).off + 1, none⟩ = some l.it.v := by
  obtain ⟨A, c, e, hf, hr⟩ := h.get
  refine ⟨A, c, e, hf, fun j r hj => ?_⟩
  obtain ⟨ad, e2, hb, c0, c1, hl, i1⟩ := hr j r hj
  exact ⟨ad, e2, hl, i1, fun V hV => ⟨(hV.cell (p := ad.add (j * 2)) (by rw [addr_blockC]; exact hb)).trans c0, (hV.cell (p := ⟨(ad.add (j * 2)).block, _, none⟩) (by rw [addr_blockC]; exact hb)).trans c1⟩⟩
theorem parts_read {w : World} {v : Value} {ps : List Pt} (h : PartsA w v ps) : ∃ A c, v = .slice A ps.length c ∧ ps.length ≤ maxLen ∧ ∀ j p, ps[j]? = some p → ∃ ad : Addr, A = some ad ∧ ItAt w p.it ∧ intsP p ∧ ∀ V, Below w.heap.size w V →
    V.cell? (ad.add (j * 4)) = some (.int .i64 p.ep) ∧ V.cell? ⟨(ad.add (j * 4)).block, (ad.add (j * 4)).off + 1, none⟩ = some (.int .i64 p.co) ∧ V.cell? ⟨(ad.add (j * 4)).block, (ad.add (j * 4)).off + 2, none⟩ = some (.int .i64 p.se) ∧
    V.cell? ⟨(ad.add (j * 4)).block, (ad.add (j * 4)).off + 3, none⟩ = some p.it.v := by
  obtain ⟨A, c, e, hf, hr⟩ := h.get
  refine ⟨A, c, e, hf, fun j r hj => ?_⟩
  obtain ⟨ad, e2, hb, c0, c1, c2, c3, hl, i1, i2, i3⟩ := hr j r hj
  have hk : ∀ V, Below w.heap.size w V → ∀ o, V.cell? ⟨(ad.add (j * 4)).block, o, none⟩ = w.cell? ⟨(ad.add (j * 4)).block, o, none⟩ := fun V hV o => hV.cell (p := ⟨(ad.add (j * 4)).block, o, none⟩) (by rw [addr_blockC]; exact hb)
  exact ⟨ad, e2, hl, ⟨i1, i2, i3⟩, fun V hV => ⟨(hV.cell (p := ad.add (j * 4)) (by rw [addr_blockC]; exact hb)).trans c0, (hk V hV _).trans c1, (hk V hV _).trans c2, (hk V hV _).trans c3⟩⟩

theorem field_items (a b c : Int) (A : Option Addr) (n k : Nat) (W : World) : (Instr.field 60 (.agg #[.int .i64 a, .int .i64 b, .int .i64 c, .slice A n k]) 2).run Try.prog W = .ok (.slice A n k) W := by kernel_rfl
/-- The map, when so many reports have been looked at. -/
def LongO (w : World) (rs : List Rp) (k : Nat) (vi : Value) (wr : World) : Prop :=
  ∃ i n : Nat, k + i = rs.length ∧ vi = .int .i64 i ∧ n ≤ ((rs.take i).flatMap ptsOf).length ∧ MapW wr w.heap.size n (cutP (rs.take i)) ∧ Below w.heap.size w wr
/-- .. and so many logs of the next one. -/
def LongI (w : World) (B : Nat) (W1 : World) (pre : List Rp) (r : Rp) (k : Nat) (vi : Value) (wr : World) : Prop :=
  ∃ j n : Nat, k + j = r.lg.length ∧ vi = .int .i64 j ∧ n ≤ (pre.flatMap ptsOf).length + j ∧ MapW wr B n (((ptsOf r).take j).foldl stepP (cutP pre)) ∧ W1.grownBy wr (some B) ∧ Below w.heap.size w wr
def LongOut (w : World) (rs : List Rp) (e : Ending) (w' : World) : Prop :=
  ∃ n, e = .returned (.map (some w.heap.size)) ∧ n ≤ (rs.flatMap ptsOf).length ∧ MapW w' w.heap.size n (cutP rs) ∧ Below w.heap.size w w'

theorem box_new {w W : World} {cs : Array Value} {t : TypeId} (h : w.alloc (.cells cs t) = W) : W.heap[w.heap.size]? = some (.cells cs t (0, 0)) ∧ Below w.heap.size w W ∧ W.heap.size = w.heap.size + 1 := by
  subst h
  exact ⟨World.alloc_heap_new w _, (Below.refl _ w).alloc (Nat.le_refl _) _, by simp⟩
theorem box_cell {W : World} {q : Nat} {cs : Array Value} {t : TypeId} (h : W.heap[q]? = some (.cells cs t (0, 0))) (j : Nat) : W.cell? ⟨q, j, none⟩ = cs[j]? := by
  simp only [World.cell?]; rw [h]; simp
theorem lookP_shape (ps : List Pt) (x : Pt) : ∃ (a b c : Int) (A : Option Addr) (k : Nat), lookP ps x = .agg #[.int .i64 a, .int .i64 b, .int .i64 c, .slice A (lenAt ps x) k] := by
  unfold lookP lenAt
  cases ps.find? (fun p => decide (keyP p = keyP x)) with
  | none => exact ⟨0, 0, 0, none, 0, rfl⟩
  | some p => exact ⟨p.ep, p.co, p.se, p.it.a, p.it.c, rfl⟩
theorem take_nextR {α : Type} (xs : List α) {k : Nat} {x : α} (h : xs[k]? = some x) : xs.take (k + 1) = xs.take k ++ [x] := by
  rw [List.take_add_one, h]; rfl
theorem grow_drew (w : World) (n : Nat) (row : Option Nat) : w.grownBy (w.drewN n) row := ⟨rfl, rfl, rfl, Nat.le_refl _, fun _ _ _ => rfl⟩

set_option maxRecDepth 100000 in
set_option maxHeartbeats 8000000 in
theorem longest_calls {v : Value} {rs : List Rp} (w : World) (h : RepsA w v rs) (htot : (rs.flatMap ptsOf).length ≤ 1000000) : Calls Try.prog 47 #[v] w (LongOut w rs) := by
  obtain ⟨A, c, rfl, hf, hr⟩ := reps_read h
  have HR := Lib.hid hr
  have HT := Lib.hid htot
  unfold maxLen at hf
  have H0 : Hid (LongO w rs rs.length (.int .i64 0) (w.alloc (.map #[] 0))) := ⟨0, 0, by omega, rfl, by simp, (by show MapW _ _ 0 []; exact MapW.made w), (Below.refl _ w).alloc (Nat.le_refl _) _⟩
  clear h hr htot
  have hmm := @run_makeMap Try.prog
  go_enter Try.func47, Try.ntmps47
  go_wp2
  clear hmm
  go_loopg [12] rs.length (fun k v12 wr => LongO w rs k v12 wr)
  case atStart => exact H0.out
  clear H0
  case round =>
    obtain ⟨i, n, hk, rfl, hn, hm, hB⟩ := hrel
    by_cases hil : i < rs.length
    · obtain ⟨r, hx⟩ : ∃ r, rs[i]? = some r := ⟨_, List.getElem?_eq_getElem hil⟩
      obtain ⟨ad, rfl, hl, i1, i2, hc⟩ := HR.out i r hx
      obtain ⟨c0, c1, c2, c3⟩ := hc wr hB
      obtain ⟨A2, cc2, elv, hf2, hlr⟩ := logs_read hl
      have j1 : (i : Int) < (rs.length : Int) := by omega
      have j2 : (0 : Int) ≤ (i : Int) := by omega
      rw [elv] at c3
      unfold maxLen at hf2
      have HLr := Lib.hid hlr
      have hgk := Lib.hid (show gk - 1 < gk by omega)
      have HI := Lib.hid (And.intro i1 i2)
      have hbs := hB.size
      have hml := hm.lt
      obtain ⟨W1, hW1⟩ : ∃ W1, wr.alloc (.cells #[.int .i64 r.fr, .int .i64 r.ep, .int .i64 r.co, .slice A2 r.lg.length cc2] 73) = W1 := ⟨_, rfl⟩
      obtain ⟨hq, hb1, hs1⟩ := box_new hW1
      have HQ := Lib.hid hq
      have d3 : W1.cell? ⟨wr.heap.size, 3, none⟩ = some (.slice A2 r.lg.length cc2) := box_cell hq 3
      have HTot : Hid (((rs.take i).flatMap ptsOf).length + r.lg.length ≤ 1000000) := by
        show ((rs.take i).flatMap ptsOf).length + r.lg.length ≤ 1000000
        have h1 := HT.out
        have h2 : rs = rs.take i ++ r :: rs.drop (i + 1) := by
          rw [← (List.getElem?_eq_some_iff.1 hx).2, ← List.drop_eq_getElem_cons hil, List.take_append_drop]
        rw [h2, List.flatMap_append, List.flatMap_cons, List.length_append, List.length_append] at h1
        have h3 : (ptsOf r).length = r.lg.length := by simp [ptsOf]
        rw [h3] at h1
        exact Nat.le_trans (by omega) h1
      have HStart : Hid (LongI w w.heap.size W1 (rs.take i) r r.lg.length (.int .i64 0) W1) := ⟨0, n, by omega, rfl, by omega, by simpa using hm.same (hb1.block _ hml), ⟨rfl, rfl, rfl, Nat.le_refl _, fun _ _ _ => rfl⟩, hB.trans (hb1.mono hbs)⟩
      have HEnd : Hid (∀ V vi, LongI w w.heap.size W1 (rs.take i) r 0 vi V → LongO w rs (gk - 1) (.int .i64 ((i + 1 : Nat) : Int)) V) := by
        rintro V vi ⟨j, n2, e1, _, e3, e4, _, e6⟩
        obtain rfl : j = r.lg.length := by omega
        have hpl : (ptsOf r).length = r.lg.length := by simp [ptsOf]
        rw [show (ptsOf r).take r.lg.length = ptsOf r from List.take_of_length_le (by omega)] at e4
        refine ⟨i + 1, n2, by omega, rfl, ?_, ?_, e6⟩
        · rw [take_nextR rs hx, List.flatMap_append, List.length_append]
          simpa [hpl] using e3
        · unfold cutP
          rw [take_nextR rs hx, List.flatMap_append, List.foldl_append]
          simpa [cutP] using e4
      have hqB : wr.heap.size ≠ w.heap.size := by omega
      obtain ⟨g0, hg0⟩ : ∃ g0, gk - 1 = g0 := ⟨_, rfl⟩
      rw [hg0] at HEnd hgk
      clear hg0
      clear hk hx hn hm hB hl hc hlr hil hq hb1 i1 i2 hbs hml HR HT elv
      generalize hqq : wr.heap.size = q at *
      generalize rs.take i = pre at *
      go_wp2
      clear c0 c1 c2 c3 d3 hW1 hqq j2 hs1
      go_loopg [19] r.lg.length (fun k v19 wr => LongI w w.heap.size W1 pre r k v19 wr)
      case atStart => exact HStart.out
      clear HStart
      case round =>
        obtain ⟨j, n2, hk, rfl, hn, hm, hg, hB⟩ := hrel
        have hqW := (hg.block q (Array.getElem?_eq_some_iff.1 HQ.out).1 (fun e => hqB (by cases e; rfl))).trans HQ.out
        by_cases hjl : j < r.lg.length
        · obtain ⟨l, hx⟩ : ∃ l, r.lg[j]? = some l := ⟨_, List.getElem?_eq_getElem hjl⟩
          obtain ⟨ad2, rfl, hit, i3, hc2⟩ := HLr.out j l hx
          obtain ⟨a0, a1⟩ := hc2 wr hB
          have j1 : (j : Int) < (r.lg.length : Int) := by omega
          have j2 : (0 : Int) ≤ (j : Int) := by omega
          obtain ⟨se, it⟩ := l
          obtain ⟨A3, c3, l3⟩ := it
          simp only [It.v] at a0 a1
          have hl3 := Nat.le_trans hit.le hit.few
          simp only at hl3
          unfold maxLen at hl3
          have hgk2 := Lib.hid (show gk - 1 < gk by omega)
          obtain ⟨W2, hW2⟩ : ∃ W2, wr.alloc (.cells #[.int .i64 se, .slice A3 l3.length c3] 76) = W2 := ⟨_, rfl⟩
          obtain ⟨W3, hW3⟩ : ∃ W3, W2.alloc (.cells #[.int .i64 r.ep, .int .i64 r.co, .int .i64 se] 104) = W3 := ⟨_, rfl⟩
          obtain ⟨p2, b2, s2⟩ := box_new hW2
          obtain ⟨p3, b3, s3⟩ := box_new hW3
          have hq2 := (b2.block _ (Array.getElem?_eq_some_iff.1 hqW).1).trans hqW
          have hq3 := (b3.block _ (Array.getElem?_eq_some_iff.1 hq2).1).trans hq2
          have p23 := (b3.block _ (Array.getElem?_eq_some_iff.1 p2).1).trans p2
          have hm3 : MapW W3 w.heap.size n2 (((ptsOf r).take j).foldl stepP (cutP pre)) := (hm.same (b2.block _ hm.lt)).same (b3.block _ (by have := hm.lt; have := b2.size; omega))
          have b13 := box_cell hq2 1
          have b14 := box_cell hq2 2
          have e20 := box_cell p2 0
          have f0 : W3.cell? ⟨q, 1, none⟩ = some (.int .i64 r.ep) := box_cell hq3 1
          have f1 : W3.cell? ⟨q, 2, none⟩ = some (.int .i64 r.co) := box_cell hq3 2
          have f2 : W3.cell? ⟨wr.heap.size, 0, none⟩ = some (.int .i64 se) := box_cell p23 0
          have f3 : W3.cell? ⟨wr.heap.size, 1, none⟩ = some (.slice A3 l3.length c3) := box_cell p23 1
          have f4 : W3.cell? ⟨W2.heap.size, 0, none⟩ = some (.int .i64 r.ep) := box_cell p3 0
          have f5 : W3.cell? ⟨W2.heap.size, 1, none⟩ = some (.int .i64 r.co) := box_cell p3 1
          have f6 : W3.cell? ⟨W2.heap.size, 2, none⟩ = some (.int .i64 se) := box_cell p3 2
          obtain ⟨x, hxx⟩ : ∃ x : Pt, x = ⟨r.ep, r.co, se, ⟨A3, c3, l3⟩⟩ := ⟨_, rfl⟩
          have hxi : intsP x := by rw [hxx]; exact ⟨HI.out.1, HI.out.2, i3⟩
          have hlook : ∀ m : Nat, (Instr.lookup 102 (.map (some w.heap.size)) (.agg #[.int .i64 r.ep, .int .i64 r.co, .int .i64 se]) false).run Try.prog (W3.drewN m) = .ok (lookP (((ptsOf r).take j).foldl stepP (cutP pre)) x) (W3.drewN m) := fun m => by
            have := (hm3.same (W' := W3.drewN m) rfl).look hxi
            rw [hxx] at this ⊢
            exact this
          obtain ⟨k0, k1, k2, A5, k5, hsh⟩ := lookP_shape (((ptsOf r).take j).foldl stepP (cutP pre)) x
          rw [hsh] at hlook
          have HM3 := Lib.hid hm3
          have HXX := Lib.hid hxx
          have HXI := Lib.hid hxi
          have HG3 : Hid (W1.grownBy W3 (some w.heap.size)) := by
            have g1 := World.grownBy_alloc wr (.cells #[.int .i64 se, .slice A3 l3.length c3] 76) (some w.heap.size)
            have g2 := World.grownBy_alloc W2 (.cells #[.int .i64 r.ep, .int .i64 r.co, .int .i64 se] 104) (some w.heap.size)
            rw [hW2] at g1
            rw [hW3] at g2
            exact (hg.trans g1).trans g2
          have HB3 : Hid (Below w.heap.size w W3) := (hB.trans (b2.mono hB.size)).trans (b3.mono (Nat.le_trans hB.size b2.size))
          have HK := Lib.hid (And.intro hk (And.intro hn hx))
          have HStepY : Hid (lenAt (((ptsOf r).take j).foldl stepP (cutP pre)) x < l3.length → ∀ m, ∃ W', (Instr.mapUpdate 102 (.map (some w.heap.size)) (.agg #[.int .i64 r.ep, .int .i64 r.co, .int .i64 se]) (.agg #[.int .i64 r.ep, .int .i64 r.co, .int .i64 se, .slice A3 l3.length c3])).run Try.prog (W3.drewN m) = .ok () W' ∧ LongI w w.heap.size W1 pre r (gk - 1) (.int .i64 ((j + 1 : Nat) : Int)) W') := fun hlt m => by
            have h2 : n2 < maxLen := by have := HTot.out; unfold maxLen; omega
            have h3 : lenAt (((ptsOf r).take j).foldl stepP (cutP pre)) x < x.it.l.length := by rw [hxx] at hlt ⊢; exact hlt
            obtain ⟨W', k1, k2, k3, k4⟩ := (hm3.same (W' := W3.drewN m) rfl).set h2 hxi h3
            refine ⟨W', ?_, j + 1, n2 + 1, by omega, rfl, by omega, ?_, (HG3.out.trans (grow_drew W3 m _)).trans k3, ((HB3.out.trans (L5.below_drewN (Below.refl _ _) m)).grown k3 (Nat.le_trans HB3.out.size (Nat.le_refl _)) (fun q e => by cases e; exact Nat.le_refl _))⟩
            · rw [hxx] at k1; exact k1
            · have e : (ptsOf r)[j]? = some x := by rw [ptsOf, List.getElem?_map, hx, hxx]; rfl
              rw [take_nextR _ e, List.foldl_append]
              exact k2
          have HStepN : Hid (¬ lenAt (((ptsOf r).take j).foldl stepP (cutP pre)) x < l3.length → ∀ m, LongI w w.heap.size W1 pre r (gk - 1) (.int .i64 ((j + 1 : Nat) : Int)) (W3.drewN m)) := fun hlt m => by
            have h3 : ¬ lenAt (((ptsOf r).take j).foldl stepP (cutP pre)) x < x.it.l.length := by rw [hxx] at hlt ⊢; exact hlt
            have hso : SortedP (((ptsOf r).take j).foldl stepP (cutP pre)) := fold_sorted (cutP_sorted pre)
            refine ⟨j + 1, n2, by omega, rfl, by omega, ?_, HG3.out.trans (grow_drew W3 m _), HB3.out.trans (L5.below_drewN (Below.refl _ _) m)⟩
            have e : (ptsOf r)[j]? = some x := by rw [ptsOf, List.getElem?_map, hx, hxx]; rfl
            rw [take_nextR _ e, List.foldl_append]
            show MapW _ _ _ (stepP _ x)
            rw [stepP_no hso h3]
            exact hm3.same rfl
          have hfi := field_items
          generalize lenAt (((ptsOf r).take j).foldl stepP (cutP pre)) x = L0 at *
          clear hm hg hB hk hn hx hit i3 hc2 hqW hxx hxi hm3 hq2 hq3 p2 p3 p23 b2 b3 s2 s3 hsh HM3 HXX HXI HG3 HB3 HK HTot HLr HQ
          by_cases hlt : L0 < l3.length
          · have m1 : (L0 : Int) < (l3.length : Int) := by omega
            have HY := Lib.hid (HStepY.out hlt)
            clear HStepY HStepN hlt
            go_wp2
            refine region_stillC (by kernel_rfl) (by kernel_rfl) ?_
            repeat
              (refine Quietly.step (fun K hK => ?_)
               go_simp
               refine hK _ ?_
               clear hK K)
            refine Quietly.none ?_
            rintro w5 ⟨nq, rfl⟩
            obtain ⟨W5, hset, hL⟩ := HY.out nq
            have HL := Lib.hid hL
            clear hL HY
            go_wp2
            go_roundg (gk - 1)
            case measure => exact hgk2.out
            case rel => exact HL.out
          · have m1 : ¬ (L0 : Int) < (l3.length : Int) := by omega
            have HY := Lib.hid (HStepN.out hlt)
            clear HStepY HStepN hlt
            go_wp2
            refine region_stillC (by kernel_rfl) (by kernel_rfl) ?_
            repeat
              (refine Quietly.step (fun K hK => ?_)
               go_simp
               refine hK _ ?_
               clear hK K)
            refine Quietly.none ?_
            rintro w5 ⟨nq, rfl⟩
            have HL := Lib.hid (HY.out nq)
            clear HY
            go_wp2
            go_roundg (gk - 1)
            case measure => exact hgk2.out
            case rel => exact HL.out
        · have HF := Lib.hid (HEnd.out wr _ ⟨j, n2, by omega, rfl, hn, hm, hg, hB⟩)
          have j1 : ¬ (j : Int) < (r.lg.length : Int) := by omega
          clear hk hn hm hg hB hqW hjl
          go_wp2
          go_roundg g0
          case measure => exact hgk.out
          case rel => exact HF.out
    · obtain rfl : i = rs.length := by omega
      have j1 : ¬ ((rs.length : Int) < (rs.length : Int)) := by omega
      rw [List.take_length] at hn hm
      have HF : Hid (LongOut w rs (.returned (.map (some w.heap.size))) wr) := ⟨n, rfl, hn, hm, hB⟩
      clear hk hn hm hB
      go_wp2
      go_ret
      exact HF.out
end Go.Proofs.Ytckmpbmlneionaa.L11
end

section
namespace Go.Proofs.Ytckmpbmlneionaa.L11
open Go.ChangeShapes Go.WideShapes Go.ChangeAt Go.RowKit Go.Deep

/-- What a part says. -/
abbrev Core := Int × Int × Int × List Bytes
def Pt.core (p : Pt) : Core := (p.ep, p.co, p.se, p.it.l)
def CutGo (w : World) (v : Value) (ps : List Pt) (k : Nat) (vi : Value) (wr : World) : Prop :=
  ∃ (i : Nat) (qs : List Pt), k + i = ps.length ∧ vi = .int .i64 i ∧ qs.map Pt.core = (ps.take i).map Pt.core ∧ (∀ q ∈ qs, ItAt wr q.it ∧ intsP q ∧ ∀ ad, q.it.a = some ad → v.ownBlock ≠ some ad.block) ∧
    wr.ownsRow w.heap.size 60 4 v ps.length (flatP (qs ++ ps.drop i)) ∧ Below w.heap.size w wr
/-- Parts in memory of the call's own, that say this. -/
def PartsOut (w : World) (cs : List Core) (e : Ending) (w' : World) : Prop :=
  ∃ (v : Value) (qs : List Pt), e = .returned v ∧ qs.map Pt.core = cs ∧ PartsA w' v qs ∧ Below w.heap.size w w'
theorem cut_its {w : World} {v : Value} {rs : List Rp} (h : RepsA w v rs) : ∀ p ∈ cutP rs, ItAt w p.it ∧ intsP p := fun p hp => by
  rcases fold_mem hp with hp | ⟨hp, _⟩
  · simp at hp
  · obtain ⟨r, hr, hp⟩ := List.mem_flatMap.1 hp
    obtain ⟨l, hl, rfl⟩ := List.mem_map.1 hp
    obtain ⟨h1, h2, h3⟩ := h.its r hr
    obtain ⟨h4, h5⟩ := h1.its l hl
    exact ⟨h4, h2, h3, h5⟩
theorem cut_len (rs : List Rp) : (cutP rs).length ≤ (rs.flatMap ptsOf).length := by
  have := fold_len (xs := rs.flatMap ptsOf) (l := [])
  simpa [cutP] using this
theorem flat_store {ps qs : List Pt} {i : Nat} {p : Pt} (hi : ps[i]? = some p) (hq : qs.length = i) (x : It) :
    (flatP (qs ++ ps.drop i)).set (i * 4 + 3) x.v = flatP ((qs ++ [⟨p.ep, p.co, p.se, x⟩]) ++ ps.drop (i + 1)) ∧ (flatP (qs ++ ps.drop i))[i * 4 + 3]? = some p.it.v := by
  have hlt := (List.getElem?_eq_some_iff.1 hi).1
  have e : ps.drop i = p :: ps.drop (i + 1) := by rw [List.drop_eq_getElem_cons hlt, (List.getElem?_eq_some_iff.1 hi).2]
  have hf : (flatP qs).length = i * 4 := by rw [flatP_len, hq]
  have e2 : flatP (qs ++ ps.drop i) = flatP qs ++ (p.cells ++ flatP (ps.drop (i + 1))) := by rw [e]; simp [flatP]
  have e3 : flatP ((qs ++ [⟨p.ep, p.co, p.se, x⟩]) ++ ps.drop (i + 1)) = flatP qs ++ ((⟨p.ep, p.co, p.se, x⟩ : Pt).cells ++ flatP (ps.drop (i + 1))) := by simp [flatP]
  rw [e2, e3]
  constructor
  · rw [List.set_append_right _ _ (by omega), hf, show i * 4 + 3 - i * 4 = 3 by omega]
    rfl
  · rw [List.getElem?_append_right (by omega), hf, show i * 4 + 3 - i * 4 = 3 by omega]
    rfl
theorem ItAt.other {w W : World} {x : It} (h : ItAt w x) (hz : w.heap.size ≤ W.heap.size) (hs : ∀ ad, x.a = some ad → ad.block < w.heap.size → W.heap[ad.block]? = w.heap[ad.block]?) : ItAt W x :=
  ⟨h.le, h.few, h.nil, h.short, fun j z hj => by
    obtain ⟨ad, e, h1, h2⟩ := h.reads j z hj
    refine ⟨ad, e, Nat.lt_of_lt_of_le h1 hz, ?_⟩
    rw [World.cell?_of_block (w := w) (by rw [addr_blockC]; exact hs ad e h1)]
    exact h2⟩
set_option maxRecDepth 100000 in
set_option maxHeartbeats 8000000 in
theorem cut_calls {v : Value} {rs : List Rp} (w : World) (h : RepsA w v rs) (htot : (rs.flatMap ptsOf).length ≤ 1000000) (hits : ∀ p ∈ cutP rs, p.it.l.length ≤ 4000000000) : Calls Try.prog 29 #[v] w (PartsOut w ((cutP rs).map Pt.core)) := by
  have HL := Lib.hid (longest_calls w h htot)
  have HI := Lib.hid (cut_its h)
  have HT := Lib.hid htot
  have HLen := Lib.hid (Nat.le_trans (cut_len rs) htot)
  have HS := Lib.hid hits
  obtain ⟨ps, hps⟩ : ∃ ps, cutP rs = ps := ⟨_, rfl⟩
  rw [hps] at HI HLen HS ⊢
  have HPs := Lib.hid hps
  clear h hits htot hps
  go_enter Try.func29, Try.ntmps29
  go_wp2_with fail
  refine HL.out.mono ?_
  rintro e w1 ⟨n, rfl, hn, hm, b1⟩
  rw [HPs.out] at hm
  have HV := Lib.hid ((callsIn_wide (n := 0)).1 (values_in 0 (some w.heap.size) w1))
  have HM := Lib.hid hm
  have HN := Lib.hid (Nat.le_trans hn HT.out)
  have HB1 := Lib.hid b1
  clear hn hm b1 HL
  go_wp2_with fail
  refine HV.out.mono ?_
  rintro e w2 ⟨rfl, hw2⟩
  obtain ⟨q1, b2, s2⟩ := box_new hw2.symm
  have hm2 : MapW w2 w.heap.size n ps := HM.out.same (b2.block _ HM.out.lt)
  have HSo := Lib.hid ((callsIn_wide (n := 5)).1 (sorted_in 5 (Nat.le_refl _) w1.heap.size w.heap.size n ps w2 hm2 (by omega) (box_cell q1 0) HN.out HLen.out))
  have HB2 : Hid (Below w.heap.size w w2) := HB1.out.trans (b2.mono HB1.out.size)
  clear hm2 b2 s2 q1 hw2 HV HM HB1
  go_wp2_with fail
  refine HSo.out.mono ?_
  rintro e w3 ⟨u, rfl, hrow, b3⟩
  have hrow0 : w3.ownsRow w.heap.size 60 4 u ps.length (flatP ps) := hrow.mono HB2.out.size
  obtain ⟨A, c, rfl⟩ := L5.own_slice hrow0
  have H0 : Hid (CutGo w (.slice A ps.length c) ps ps.length (.int .i64 0) w3) := ⟨0, [], by omega, rfl, rfl, by simp, hrow0, HB2.out.trans (b3.mono HB2.out.size)⟩
  have hpl := HLen.out
  clear hrow hrow0 b3 HSo HB2
  go_wp2
  go_loopg [11] ps.length (fun k v11 wr => CutGo w (.slice A ps.length c) ps k v11 wr)
  case atStart => exact H0.out
  clear H0
  case round =>
    obtain ⟨i, qs, hk, rfl, hco, hit, hrow, hB⟩ := hrel
    have hql : qs.length = i := by
      have := congrArg List.length hco
      simp only [List.length_map, List.length_take] at this
      omega
    by_cases hil : i < ps.length
    · obtain ⟨p, hx⟩ : ∃ p, ps[i]? = some p := ⟨_, List.getElem?_eq_getElem hil⟩
      have hpm : p ∈ ps := List.mem_of_getElem? hx
      obtain ⟨hpi, hpt⟩ := HI.out p hpm
      obtain ⟨g, rfl⟩ : ∃ g, A = some ⟨g, 0, none⟩ := by
        rcases hrow.2 with ⟨_, h0⟩ | ⟨g, cap, cur, e, _⟩
        · omega
        · cases e; exact ⟨g, rfl⟩
      have hlt := (hrow.lt g rfl)
      have hcl := clone_calls p.it wr (hpi.below hB) (HS.out p hpm)
      have hcell : wr.cell? ⟨g, i * 4 + 3, none⟩ = some p.it.v := by rw [hrow.cellAt _ (by omega)]; exact (flat_store hx hql p.it).2
      have j1 : (i : Int) < (ps.length : Int) := by omega
      have j2 : (0 : Int) ≤ (i : Int) := by omega
      have hgk := Lib.hid (show gk - 1 < gk by omega)
      have HStep : Hid (∀ w4 (x : It), x.l = p.it.l → ItAt w4 x → (∀ ad, x.a = some ad → g ≠ ad.block) → Below wr.heap.size wr w4 → (w4.cell? ⟨g, i * 4 + 3, none⟩ = some p.it.v ∧ w4.frozen? ⟨g, i * 4 + 3, none⟩ = false) ∧ CutGo w (.slice (some ⟨g, 0, none⟩) ps.length c) ps (gk - 1) (.int .i64 ((i + 1 : Nat) : Int)) (w4.setCell ⟨g, i * 4 + 3, none⟩ x.v)) := fun w4 x hxl hxi hxg b4 => by
        have hr4 := L5.own_below hrow b4
        have hb4 := hB.trans (b4.mono hB.size)
        obtain ⟨k1, k2⟩ := hr4.stored (i * 4 + 3) x.v
        obtain ⟨e1, e2⟩ := flat_store hx hql x
        refine ⟨⟨by rw [hr4.cellAt _ (by omega)]; exact e2, hr4.frozenAt _⟩, i + 1, qs ++ [⟨p.ep, p.co, p.se, x⟩], by omega, rfl, ?_, ?_, by rw [e1] at k1; exact k1, hb4.setCell hlt.1 _⟩
        · rw [List.map_append, hco, take_nextR ps hx, List.map_append]
          simp [Pt.core, hxl]
        · have hset : ∀ y : It, ItAt w4 y → (∀ ad, y.a = some ad → g ≠ ad.block) → ItAt (w4.setCell ⟨g, i * 4 + 3, none⟩ x.v) y := fun y hy hne =>
            hy.other k2.size (fun ad e h1 => k2.block _ h1 (fun e' => hne ad e (by cases e'; rfl)))
          intro q hq
          rcases List.mem_append.1 hq with hq | hq
          · obtain ⟨h1, h2, h3⟩ := hit q hq
            exact ⟨hset _ (h1.below b4) (fun ad e e' => h3 ad e (by rw [← e']; rfl)), h2, h3⟩
          · simp at hq
            subst hq
            exact ⟨hset _ hxi hxg, hpt, fun ad e e' => hxg ad e (by cases e'; rfl)⟩
      obtain ⟨ep, co, se, ⟨A3, c3, l3⟩⟩ := p
      simp only [It.v] at hcl hcell HStep
      have HCl := Lib.hid hcl
      have hgs := hlt.2
      clear hk hco hit hrow hB hil hx hpm hpi hpt hql hlt hcl
      go_wp2_with fail
      refine HCl.out.mono ?_
      rintro e w4 ⟨x, rfl, hxl, hxi, hxo, b4⟩
      obtain ⟨⟨c0, c1⟩, hF⟩ := HStep.out w4 x hxl hxi (fun ad e e' => by have := (hxo.lt ad.block (by rw [It.v, e]; rfl)).1; omega) b4
      have HF := Lib.hid hF
      simp only [It.v] at HF ⊢
      clear hF HStep hxl hxi hxo b4 HCl hcell
      go_wp2
      go_roundg (gk - 1)
      case measure => exact hgk.out
      case rel => exact HF.out
    · obtain rfl : i = ps.length := by omega
      have j1 : ¬ ((ps.length : Int) < (ps.length : Int)) := by omega
      have HF : Hid (PartsOut w (ps.map Pt.core) (.returned (.slice A ps.length c)) wr) := by
        rw [List.take_length] at hco
        rw [List.drop_length, List.append_nil, ← hql] at hrow
        refine ⟨_, qs, rfl, hco, ?_, hB⟩
        have := PartsA.of_own hrow (by rw [hql]; unfold maxLen; omega) (fun p hp => ⟨(hit p hp).1, (hit p hp).2.1⟩)
        rw [hql] at this
        exact this
      clear hk hco hit hrow hB hil hql
      go_wp2
      go_ret
      exact HF.out
end Go.Proofs.Ytckmpbmlneionaa.L11
end
