/- Contracts of maps.Values at the map of the longest rows, of its iterator, of AppendSeq and Collect over it: all that the map holds, in some order. -/
import Derived.Test.YtkalmfhebffklaaCtMap
import Derived.RangeFuncBox
import Derived.RangeFuncLeaves
import Derived.Shelf.Abstract
import Derived.Shelf.AbstractIn
import Derived.RangeFuncMany
import Derived.RangeFuncNested
import Derived.Sort.MapsRangeIn
import Derived.Sort.KeysCollected
import Derived.WalkKit
import Derived.OwnWalkIn
import Derived.TacticsInMore
import Derived.RegionIn
import Derived.LoopNIn
import Derived.LoopIn
import Derived.Maps.AppendAt
namespace Go.Proofs.Ytkalmfhebffklaa.L11
open Go.ChangeShapes Go.WideShapes Go.ChangeAt Go.RowKit Go.Shelf Go.Sort Go.Deep
open Go.Maps (Keyed has)

attribute [local go_sem] Oper.semAt_some

/-- What has come, and what is left. -/
structure Come (D : DataW Value) (ps : List Pt) (left : Lit → Bool) (qs : List Pt) : Prop where
  left : ∀ kl, left kl = true ↔ has D kl = true ∧ ∀ q ∈ qs, kl ≠ keyL (keyP q)
  sub : ∀ q ∈ qs, q ∈ ps
  nodup : qs.Pairwise (fun p q => keyP p ≠ keyP q)
theorem Come.start (D : DataW Value) (ps : List Pt) : Come D ps (has D) [] := ⟨by simp, by simp, List.Pairwise.nil⟩
theorem Come.done {D : DataW Value} {ps : List Pt} {left : Lit → Bool} {qs : List Pt} (m : MapOf D ps) (h : Come D ps left qs) (hl : ∀ kl, left kl = false) : qs.Perm ps := by
  have hsub : ∀ p ∈ ps, p ∈ qs := fun p hp => by
    have h1 := hl (keyL (keyP p))
    by_cases hq : ∃ q ∈ qs, keyL (keyP p) = keyL (keyP q)
    · obtain ⟨q, hq, e⟩ := hq
      rw [keyL_iff (m.ints p hp) (m.ints q (h.sub q hq))] at e
      rw [sorted_one m.sorted hp (h.sub q hq) e]
      exact hq
    · have := (h.left (keyL (keyP p))).2 ⟨(m.has _).2 ⟨p, hp, rfl⟩, fun q hq' e => hq ⟨q, hq', e⟩⟩
      rw [h1] at this; cases this
  have n1 : qs.Nodup := h.nodup.imp (fun h e => h (by rw [e]))
  have n2 : ps.Nodup := List.Pairwise.imp (fun h e => ahead_irrefl h (congrArg keyP e)) m.sorted
  exact (List.perm_ext_iff_of_nodup n1 n2).2 (fun a => ⟨h.sub a, hsub a⟩)
theorem Come.next {D : DataW Value} {ps : List Pt} {left : Lit → Bool} {qs : List Pt} {kl : Lit} (m : MapOf D ps) (h : Come D ps left qs) (hlk : left kl = true) :
    ∃ p ∈ ps, kl = keyL (keyP p) ∧ (∀ z, D.atKey kl z = .held p.val) ∧ Come D ps (fun x => left x && !x.sameKey kl) (qs ++ [p]) := by
  obtain ⟨h1, h2⟩ := (h.left kl).1 hlk
  obtain ⟨p, hp, rfl⟩ := (m.has kl).1 h1
  refine ⟨p, hp, rfl, m.at_ p hp, ⟨fun x => ?_, fun q hq => ?_, ?_⟩⟩
  · simp only [Bool.and_eq_true, Bool.not_eq_true']
    constructor
    · rintro ⟨a, b⟩
      obtain ⟨c, d⟩ := (h.left x).1 a
      refine ⟨c, fun q hq => ?_⟩
      rcases List.mem_append.1 hq with hq | hq
      · exact d q hq
      · simp at hq
        subst hq
        intro e
        rw [(WideAt.sameKey_iff (keyL_lit _)).2 e] at b
        cases b
    · rintro ⟨a, b⟩
      refine ⟨(h.left x).2 ⟨a, fun q hq => b q (by simp [hq])⟩, ?_⟩
      cases hs : x.sameKey (keyL (keyP p)) with
      | false => rfl
      | true => exact absurd (WideAt.sameKey_eq hs) (b p (by simp))
  · rcases List.mem_append.1 hq with hq | hq
    · exact h.sub q hq
    · simp at hq; subst hq; exact hp
  · refine List.pairwise_append.2 ⟨h.nodup, by simp, fun a ha b hb => ?_⟩
    simp at hb
    subst hb
    intro e
    exact h2 a ha (by rw [e])

set_option maxRecDepth 100000 in
set_option maxHeartbeats 2000000 in
theorem values1_in (n : Nat) (hn : 1 ≤ n) (l Bm b nn : Nat) (D : DataW Value) (ps : List Pt) (m : MapOf D ps) (J Jx : List Pt → World → Prop)
    (hY : ∀ pre x W, J pre W → x ∈ ps → pre.length < Maps.size D → YieldAt Fence.wide (n - 1) Try.prog l #[x.val] W fun e W' =>
      (e = .returned (.bool true) ∧ J (pre ++ [x]) W' ∧ KeepsWalks W W') ∨ (e = .returned (.bool false) ∧ Jx (pre ++ [x]) W'))
    (W : World) (hJ : AbidesFrom W.heap.size J) (hm : W.cell? ⟨Bm, 0, none⟩ = some (.map (some b))) (hown : W.ownsMap Try.prog 104 heldC b nn D) (h0 : J [] W) :
    CallsIn Fence.wide n Try.prog 65 #[.func (.yield l) #[] #[], .pointer (some ⟨Bm, 0, none⟩)] W fun e W' => (∃ v, e = .returned v) ∧
      ((∃ qs, qs.Perm ps ∧ J qs W') ∨ (∃ pre, (∀ q ∈ pre, q ∈ ps) ∧ Jx pre W')) := by
  refine callsIn_of_wp Try.func65 rfl trivial ?_ rfl
  simp only [Try.ntmps65, List.size_toArray, List.length_cons, List.length_nil, Nat.reduceAdd, Nat.reduceSub, Array.replicate_succ, Array.replicate_zero, List.push_toArray, List.append_toArray, List.nil_append, List.cons_append]
  gi_wp2_with (first
    | (gi_at_range; refine wpListIn_range_own _ rfl _ 102 rfl 104 60 keyed_w Try.underlying102 _ b nn _ rfl hown ?_; intro w0 hrg0 hg0 hs0)
    | gi_in)
  go_frame
  gi_loopw [4] (fun _ wr => ∃ (left : Lit → Bool) (cnt : Nat) (qs : List Pt), wr.ranges Try.prog 104 heldC b W.heap.size nn D left cnt ∧ qs.length + cnt ≤ Maps.size D ∧ Come D ps left qs ∧ J qs wr)
    (fun _ wr => wr.rangeLeft b W.heap.size)
  case atStart =>
    exact ⟨_, _, [], hrg0, by simp, Come.start D ps, hJ [] W w0 none h0 hg0 (fun r e => by cases e)⟩
  case round =>
    obtain ⟨left, cnt, qs, hrg, hcs, hC, hJs⟩ := hrel
    gi_wp2_with (first
      | (gi_at_next; refine wpListIn_next_ranges _ rfl _ rfl 104 keyed_w heldC id id (fun key kl hk => ⟨key, rfl⟩) (fun v y hv => ⟨v, rfl⟩) b W.heap.size nn _ _ _ rfl hrg ?_ ?_)
      | gi_in)
    · intro hc0 hl0
      gi_wp2
      go_end0
      exact ⟨⟨_, rfl⟩, .inl ⟨qs, hC.done m hl0, hJs⟩⟩
    · intro x c kl yd yp w2 cnt2 hkey hlk hv hat hrg2 hlt hg2 hs2 hen
      obtain ⟨p, hp, rfl, hat2, hC2⟩ := hC.next m hlk
      obtain rfl : c = p.val := by
        have e1 := hat (.held zeroPt)
        rw [hat2] at e1
        simp only [heldC, Option.some.injEq, Prod.mk.injEq] at hv
        rw [← hv.1] at e1
        simpa using e1.symm
      have hJ2 : J qs w2 := hJ _ wr w2 (some W.heap.size) hJs hg2 (fun r e => by cases e; exact ⟨Nat.le_refl _, hrg.iter_walk⟩)
      have hJ3 : J qs (w2.alloc (.cells p.cells.toArray 60)) := hJ _ w2 _ none hJ2 (World.grownBy_alloc _ _ _) (fun r e => by cases e)
      obtain ⟨fn, tmps, assign, body, hy, hR⟩ := hY qs p _ hJ3 hp (by omega)
      simp only [Pt.val, Pt.cells, It.v] at hen hy hR
      clear hs2
      have hrg2a := hrg2.alloc (.cells p.cells.toArray 60)
      simp only [Pt.cells, It.v] at hrg2a
      gi_wp2
      refine hR.mono ?_
      rintro e W3 (⟨rfl, hJ4, hk3⟩ | ⟨rfl, hJx3⟩)
      · gi_wp2
        have hrg3 := hrg2a.of_walks hk3
        go_roundw
        case rel => exact ⟨_, cnt2, qs ++ [p], hrg3, by simp; omega, hC2, hJ4⟩
        case measure => rw [hrg3.left_eq, hrg.left_eq]; exact hlt
      · gi_wp2
        refine bodyPost_ret (results_none rfl _ _ _) rfl ?_
        exact ⟨⟨_, rfl⟩, .inr ⟨qs ++ [p], hC2.sub, hJx3⟩⟩

set_option maxHeartbeats 1000000 in
/-- maps.Values(m): the map is boxed; the function value has the box. -/
theorem values_in (n : Nat) (mb : Option Nat) (w : World) :
    CallsIn Fence.wide n Try.prog 46 #[.map mb] w fun e w' => e = .returned (.func (.func 65) #[] #[.pointer (some ⟨w.heap.size, 0, none⟩)]) ∧ w' = w.alloc (.cells #[.map mb] 102) := by
  refine callsIn_of_wp Try.func46 rfl trivial ?_ rfl
  simp only [Try.ntmps46, List.size_toArray, List.length_cons, List.length_nil, Nat.reduceAdd, Nat.reduceSub, Array.replicate_succ, Array.replicate_zero, List.push_toArray, List.append_toArray, List.nil_append, List.cons_append]
  gi_wp2
  go_ret
  exact ⟨rfl, rfl⟩
theorem size_le {W : World} {b n : Nat} {D : DataW Value} (h : W.ownsMap Try.prog 104 heldC b n D) : Maps.size D ≤ n := by
  obtain ⟨es, clock, hb, F, hs, rfl⟩ := h
  simp only [Maps.size, Go.length_sorted, List.length_map, Array.length_toList]
  exact hs
theorem values_stops (n : Nat) (hn : 1 ≤ n) (Bm b nn : Nat) (D : DataW Value) (ps : List Pt) (m : MapOf D ps) (w1 : World) (hBm : Bm < w1.heap.size)
    (hm : w1.cell? ⟨Bm, 0, none⟩ = some (.map (some b))) (hown : w1.ownsMap Try.prog 104 heldC b nn D) :
    SeqStopsK Fence.wide n Try.prog 65 #[.pointer (some ⟨Bm, 0, none⟩)] (fun x : Pt => #[x.val]) KeepsWalks (fun qs => qs.Perm ps) (fun _ => True) (Maps.size D) w1 := fun l J Jx W hW hJ _ hY h0 => by
  have hown' : W.ownsMap Try.prog 104 heldC b nn D := by
    have hbl := hown.lt
    obtain ⟨es, clock, hb, Ft, hs, hD⟩ := hown
    exact ⟨es, clock, (hW.block b hbl).trans hb, Ft, hs, hD⟩
  refine (values1_in n hn l Bm b nn D ps m J Jx (fun pre x W1 hj _ hl => hY pre x W1 hj hl) W hJ ((hW.cell (p := ⟨Bm, 0, none⟩) hBm).trans hm) hown' h0).mono ?_
  rintro e W' ⟨hv, ⟨qs, h1, h2⟩ | ⟨pre, _, h2⟩⟩
  · exact ⟨hv, .inl ⟨qs, h1, h2⟩⟩
  · exact ⟨hv, .inr ⟨pre, trivial, h2⟩⟩

theorem info_part : (Try.prog.info? 60).map (fun i => (i.zero, i.size, i.bytes)) = some (some zeroPt, 4, 48) := by kernel_rfl
theorem info_partsC {e : TypeId} {z : Value} {s b : Nat} (h : (Try.prog.info? e).map (fun i => (i.zero, i.size, i.bytes)) = some (some z, s, b)) : ∃ i, Try.prog.info? e = some i ∧ i.zero = some z ∧ i.size = s ∧ i.bytes = b := by
  cases hi : Try.prog.info? e with
  | none => rw [hi] at h; cases h
  | some i => rw [hi] at h; simp at h; exact ⟨i, rfl, h.1, h.2.1, h.2.2⟩
/-- The box of the part that has come. -/
def Got (w : World) (Bm : Nat) (x : Pt) (a : Act) (W : World) : Prop :=
  ∃ q, a = { tmps := #[.slice none 0 0, .func (.func 65) #[] #[.pointer (some ⟨Bm, 0, none⟩)], .pointer (some ⟨w.heap.size, 0, none⟩), undef, .slice none 0 0, .pointer (some ⟨q, 0, none⟩), .func (.func 65) #[] #[.pointer (some ⟨Bm, 0, none⟩)], x.val, undef, undef, undef, undef, undef], defers := [] } ∧
    W.heap[q]? = some (.cells x.cells.toArray 60 (0, 0))

set_option maxRecDepth 100000 in
set_option maxHeartbeats 4000000 in
/-- slices.AppendSeq(nil, maps.Values(m)): all that the map holds, in some order. -/
theorem append_in (n : Nat) (hn : 3 ≤ n) (Bm b nn : Nat) (ps : List Pt) (w : World) (hm : MapW w b nn ps) (hBm : Bm < w.heap.size) (hcb : w.cell? ⟨Bm, 0, none⟩ = some (.map (some b))) (hlen : nn ≤ 1000000) :
    CallsIn Fence.wide n Try.prog 77 #[.slice none 0 0, .func (.func 65) #[] #[.pointer (some ⟨Bm, 0, none⟩)]] w fun e W' =>
      ∃ u qs, e = .returned u ∧ qs.Perm ps ∧ W'.ownsRow w.heap.size 60 4 u qs.length (flatP qs) ∧ Below w.heap.size w W' := by
  obtain ⟨D, hown, hmo⟩ := hm
  have hsz := size_le hown
  have h1 : 1 ≤ n := by omega
  obtain ⟨i0, hi, hz0, hz1, hz2⟩ := info_partsC info_part
  refine callsIn_of_wp_marks Try.func77 rfl trivial ?_ rfl
  simp only [Try.ntmps77, List.size_toArray, List.length_cons, List.length_nil, Nat.reduceAdd, Nat.reduceSub, Array.replicate_succ, Array.replicate_zero, List.push_toArray, List.append_toArray, List.nil_append, List.cons_append]
  gi_wp2
  have bO := Boxed.new w 23 (.slice none 0 0)
  have hB0 : Below w.heap.size w (w.alloc (.cells #[.slice none 0 0] 23)) := (Below.refl _ w).alloc (Nat.le_refl _) _
  have hown1 : (w.alloc (.cells #[.slice none 0 0] 23)).ownsMap Try.prog 104 heldC b nn D := hown.kept (World.grownBy_alloc _ _ none) (by simp)
  refine wpIn_rangeFunc_ownH rfl h1 (gf := 65) (lb := #[.pointer (some ⟨Bm, 0, none⟩)]) rfl trivial (enters_of Try.func65 (by kernel_rfl) rfl)
    (values_stops (n - 1) (by omega) Bm b nn D ps hmo _ (by simp; omega) ((hB0.cell (p := ⟨Bm, 0, none⟩) hBm).trans hcb) hown1) walksK_t walksK_b (Below.refl _ _) (fun _ => rfl)
    (fun pre W => (∃ v, Boxed W w.heap.size 23 v ∧ W.ownsRow w.heap.size 60 4 v pre.length (flatP pre) ∧ True) ∧ Below w.heap.size w W)
    (fun _ _ _ => False)
    (OwnFrom.and (Own.from (holdsRow_own w.heap.size w.heap.size 23 60 4 (fun pre : List Pt => pre.length) (fun pre => flatP pre) (fun _ _ => True)) _) (ownFrom_below (Nat.le_refl _) (by simp)))
    (fun _ _ _ _ _ hs _ _ => hs)
    ⟨⟨_, bO, World.ownsRow_nil _ _ _ _, trivial⟩, hB0⟩
    (Got w Bm) ?hax ?assign ?body ?done ?stop
  case hax =>
    rintro x a' _ W W' row ⟨q, ha, hq⟩ hg hr
    exact ⟨q, ha, (hg.block q (Array.getElem?_eq_some_iff.1 hq).1 (fun e => by obtain ⟨_, o, ho, hoc⟩ := hr q e.symm; rw [hq] at ho; cases ho; cases hoc)).trans hq⟩
  case assign =>
    intro l pre x W K hI hK
    simp only [Pt.val, Pt.cells, It.v] at hK ⊢
    obtain ⟨⟨u, hv, hrow, _⟩, hB⟩ := hI
    gi_wp2
    refine hK _ _ (KeepsFrom.of_grownBy (World.grownBy_alloc W _ none) (fun j e => by cases e)) (KeepsWalks.alloc W _) ⟨⟨u, hv.alloc _, hrow.alloc _, trivial⟩, hB.alloc hB.size _⟩ ⟨W.heap.size, rfl, World.alloc_heap_new W _⟩
  case body =>
    rintro l pre x a' W hl _ ⟨⟨u, hv, hrow, _⟩, hB⟩ ⟨q, rfl, hq⟩ hlt
    have hc := hv.cell
    have hcells : ∀ j, W.cell? ⟨q, j, none⟩ = x.cells[j]? := fun j => by
      simp only [World.cell?]; rw [hq]; simp
    have c0 : W.cell? ⟨q, 0, none⟩ = some (.int .i64 x.ep) := hcells 0
    have c1 : W.cell? ⟨q, 1, none⟩ = some (.int .i64 x.co) := hcells 1
    have c2 : W.cell? ⟨q, 2, none⟩ = some (.int .i64 x.se) := hcells 2
    have c3 : W.cell? ⟨q, 3, none⟩ = some (.slice x.it.a x.it.l.length x.it.c) := hcells 3
    have hone : ∀ u ∈ x.cells, u.oneCell' = true := fun u hu => flatP_one [x] u (by simpa [flatP] using hu)
    have hnew : ∀ (j : Nat) (u : Value), x.cells[j]? = some u → (W.alloc (.cells x.cells.toArray 60)).cell? ((⟨W.heap.size, 0, none⟩ : Addr).add j) = some u := fun j u hu => by
      rw [add_zeroC]
      simp only [World.cell?]
      rw [World.alloc_heap_new W _]
      simpa using hu
    simp only [Pt.cells, It.v] at hone hnew
    clear hcells hq
    gi_wp2_with (gi_at_builtin; refine wpListIn_append_own _ rfl _ _ 23 rfl w.heap.size 60 i0 zeroPt 4 48 Try.underlying23 hi hz0 hz1 hz2 rfl (by decide) _ _ _ rfl (hrow.alloc _) ⟨W.heap.size, 0, none⟩ 1 1 [.int .i64 x.ep, .int .i64 x.co, .int .i64 x.se, .slice x.it.a x.it.l.length x.it.c] rfl rfl hnew hone (by unfold maxLen; omega) (by omega) (by have := hB.size; simp; omega) ?_; intro v' w1 hown' hgrow _; obtain ⟨g', cap', rfl⟩ := ownsRow_succ hown'; obtain ⟨hv1, hv2, hr2, hk2, hb2⟩ := hv.appended (by decide) hrow hB.size (Nat.le_refl _) hown' hgrow; have hc1 := hv1.cell; have hf1 := hv1.frozen)
    exact ⟨hk2.from _, hk2.walks, ⟨_, hv2, by rw [flatP_snoc]; simpa [Pt.cells, It.v] using hr2, trivial⟩, hB.trans hb2⟩
  case done =>
    rintro D ys W hD hp ⟨⟨u, hv, hrow, _⟩, hB⟩ hK
    have hc := hv.cell
    gi_wp2
    refine ⟨by simp, .inl ⟨_, _, rfl, run_takeDeferred hK, ?_⟩⟩
    exact ⟨_, results_tmp rfl _ _ _, u, ys, rfl, hp, ownsRow_putObj hrow _ hK rfl, hB.trans (belowK_b (w := w) (Nat.le_refl _) W D _ _ (by simp at hD; omega) hK rfl rfl)⟩
  case stop =>
    rintro D c pre W _ _ h _
    exact h.elim

theorem collect_in (n : Nat) (hn : 4 ≤ n) (Bm b nn : Nat) (ps : List Pt) (w : World) (hm : MapW w b nn ps) (hBm : Bm < w.heap.size) (hcb : w.cell? ⟨Bm, 0, none⟩ = some (.map (some b))) (hlen : nn ≤ 1000000) :
    CallsIn Fence.wide n Try.prog 63 #[.func (.func 65) #[] #[.pointer (some ⟨Bm, 0, none⟩)]] w fun e W' =>
      ∃ u qs, e = .returned u ∧ qs.Perm ps ∧ W'.ownsRow w.heap.size 60 4 u qs.length (flatP qs) ∧ Below w.heap.size w W' := by
  have hA := append_in (n - 1) (by omega) Bm b nn ps w hm hBm hcb hlen
  have h1 : 1 ≤ n := by omega
  have hfA : Fence.wide.fn 77 := trivial
  refine callsIn_of_wp Try.func63 rfl trivial ?_ rfl
  simp only [Try.ntmps63, List.size_toArray, List.length_cons, List.length_nil, Nat.reduceAdd, Nat.reduceSub, Array.replicate_succ, Array.replicate_zero, List.push_toArray, List.append_toArray, List.nil_append, List.cons_append]
  gi_wp2_with (gi_at_call 77; refine hA.mono ?_; rintro e W ⟨u, qs, rfl, hp, hrow, hb⟩)
  go_ret
  exact ⟨_, qs, rfl, hp, hrow, hb⟩
end Go.Proofs.Ytkalmfhebffklaa.L11
