/- Contract of slices.SortedFunc over the map of the longest rows: the list that stands by keys, in a new row. -/
import Derived.Test.YtkalmfhebffklaaCtIter
import Derived.Test.YtkalmfhebffklaaShelfC
namespace Go.Proofs.Ytkalmfhebffklaa.L11
open Go.ChangeShapes Go.WideShapes Go.ChangeAt Go.RowKit Go.Shelf Go.Sort Go.Deep

instance : Inhabited Pt := ⟨⟨0, 0, 0, ⟨none, 0, []⟩⟩⟩
theorem ltOf_iff (x y : Pt) : ltOf cfP x y = aheadP x y := by
  unfold ltOf
  rw [Bool.eq_iff_iff, decide_eq_true_eq, cfP_ahead]
theorem swo_cf : SWO (ltOf cfP) where
  irrefl x := by
    rw [ltOf_iff]
    cases h : aheadP x x with
    | false => rfl
    | true => exact absurd rfl (ahead_irrefl h)
  trans x y z h1 h2 := by rw [ltOf_iff] at *; exact ahead_trans h1 h2
  ntrans x y z h1 h2 := by
    rw [ltOf_iff] at *
    cases h : aheadP x z with
    | false => rfl
    | true =>
      rw [← Bool.not_eq_true, aheadP_iff] at h1 h2
      rw [aheadP_iff] at h
      omega
theorem cmp_lays (blk off size : Nat) (w : World) : CmpLays Try.prog 48 #[] Pt.cells 4 cfP blk off size w := by
  intro m os dk _ x y
  refine (order_calls x y _).mono ?_
  rintro e w' ⟨rfl, os', rfl⟩
  exact ⟨rfl, 0, os', rfl⟩
theorem flatP_len (l : List Pt) : (flatP l).length = l.length * 4 := by rw [flatP, flat_len (pt_four l), List.length_map]
theorem flatK_eq (l : List Pt) : flatK Pt.cells 4 l.toArray = (flatP l).toArray := by
  refine ext_get! (by simp [flatP_len]) fun t ht => ?_
  have ht' : t < l.toArray.size * 4 := by simpa using ht
  have ht2 : t < l.length * 4 := by simpa using ht'
  rw [get_flatK _ _ _ t ht']
  have hq : t / 4 < l.length := by omega
  have h1 : (l.map Pt.cells)[t / 4]? = some (l[t / 4]'hq).cells := by rw [List.getElem?_map, List.getElem?_eq_getElem hq]; rfl
  have h2 := flat_at (pt_four l) h1 (t % 4) (by omega)
  rw [show t / 4 * 4 + t % 4 = t by omega] at h2
  have h3 : l.toArray[t / 4]! = l[t / 4]'hq := by simp [hq]
  rw [h3]
  have h4 : (flatP l)[t]? = ((l[t / 4]'hq).cells)[t % 4]? := h2
  have h5 : t % 4 < ((l[t / 4]'hq).cells).length := by show t % 4 < 4; omega
  simp [h4, h5]
theorem holdsP {w : World} {g : Nat} {cur : Array Value} {e : TypeId} {l : List Pt} (hb : w.heap[g]? = some (.cells cur e (0, 0))) (ht : cur.toList.take (l.length * 4) = flatP l) : HoldsK Pt.cells 4 w g 0 l.toArray := by
  unfold HoldsK
  rw [flatK_eq]
  intro j hj
  have hj' : j < (flatP l).length := by simpa using hj
  refine ⟨?_, by simp [World.frozen?, hb]⟩
  have h1 : (cur.toList.take (l.length * 4))[j]? = (flatP l)[j]? := by rw [ht]
  rw [List.getElem?_take_of_lt (by rw [← flatP_len]; exact hj')] at h1
  simp only [World.cell?, hb, Nat.zero_add]
  simp only [Option.isSome_none, Bool.false_eq_true, if_false]
  rw [← Array.getElem?_toList, h1]
  simp [hj']
theorem heap_sortedP {w : World} {g n : Nat} {os : Array Obj} {cur : Array Value} {e : TypeId} {fr : Nat × Nat} (d : Array Value) (hb : w.heap[g]? = some (.cells cur e fr)) :
    (grow (putRow id (Sort.ahead w n) g 0 d) os).heap[g]? = some (.cells (putCells id 0 d cur) e fr) := by
  have hg : g < w.heap.size := (Array.getElem?_eq_some_iff.1 hb).1
  rw [heap_grow_old _ _ (by simpa using hg)]
  simp [putRow, mapBlock, Sort.ahead, Array.getElem?_modify, hb, onCells]
theorem grownBy_sortedP {w : World} {g n : Nat} {os : Array Obj} (d : Array Value) : w.grownBy (grow (putRow id (Sort.ahead w n) g 0 d) os) (some g) := by
  refine ⟨rfl, rfl, rfl, by simp, fun k hk hne => ?_⟩
  rw [heap_grow_old _ _ (by simpa using hk)]
  have : g ≠ k := fun e => hne (by rw [e])
  simp [putRow, mapBlock, Sort.ahead, Array.getElem?_modify, this]
theorem take_putCellsP (cur : Array Value) (ts : List Value) (h : ts.length ≤ cur.size) : (putCells id 0 ts.toArray cur).toList.take ts.length = ts := by
  apply List.ext_getElem?
  intro j
  by_cases hj : j < ts.length
  · rw [List.getElem?_take_of_lt hj, Array.getElem?_toList]
    simp [putCells, hj, show j < cur.size by omega]
  · rw [List.getElem?_take_eq_none (by omega), List.getElem?_eq_none (by omega)]

theorem sorted_row {ps qs : List Pt} {d : Array Pt} (hs : SortedP ps) (hp : qs.Perm ps) (h1 : PermIn 0 qs.length qs.toArray d) (h2 : SortedIn (ltOf cfP) 0 qs.length d) : d = ps.toArray := by
  obtain ⟨k1, _, k3⟩ := h1
  have ksz : d.size = qs.length := by simpa using k1
  have k4 : d.toList.Perm qs := by
    have e1 : d.extract 0 qs.length = d := by rw [← ksz]; simp
    have e2 : qs.toArray.extract 0 qs.length = qs.toArray := by simp
    rw [e1, e2] at k3
    simpa using k3
  have k5 : d.toList.Pairwise (fun x y => aheadP y x = false) := by
    rw [List.pairwise_iff_getElem]
    intro i j hi hj hij
    have := h2 i j (Nat.zero_le _) hij (by rw [← ksz]; simpa using hj)
    rw [ltOf_iff] at this
    simp only [Array.length_toList] at hi hj
    rw [getElem!_pos d i hi, getElem!_pos d j hj] at this
    simpa using this
  have := sorted_perm_eq hs (k4.trans hp) k5
  rw [← this]
set_option maxHeartbeats 1000000 in
/-- slices.SortedFunc(maps.Values(m), order): the list that stands by keys. -/
theorem sorted_in (n : Nat) (hn : 5 ≤ n) (Bm b nn : Nat) (ps : List Pt) (w : World) (hm : MapW w b nn ps) (hBm : Bm < w.heap.size) (hcb : w.cell? ⟨Bm, 0, none⟩ = some (.map (some b))) (hlen : nn ≤ 1000000) (hpl : ps.length ≤ 1000000) :
    CallsIn Fence.wide n Try.prog 45 #[.func (.func 65) #[] #[.pointer (some ⟨Bm, 0, none⟩)], .func (.func 48) #[] #[]] w fun e W' =>
      ∃ u, e = .returned u ∧ W'.ownsRow w.heap.size 60 4 u ps.length (flatP ps) ∧ Below w.heap.size w W' := by
  have hC := collect_in (n - 1) (by omega) Bm b nn ps w hm hBm hcb hlen
  have hsor : SortedP ps := by obtain ⟨D, _, h⟩ := hm; exact h.sorted
  have h1 : 1 ≤ n := by omega
  have hfA : Fence.wide.fn 63 := trivial
  have hfB : Fence.wide.fn 64 := trivial
  have eg : ∀ args w, (callFunc 48 args).run Try.prog w = .ok (.enter 48 args) w := enters_of Try.func48 (by kernel_rfl) rfl
  refine callsIn_of_wp Try.func45 rfl trivial ?_ rfl
  simp only [Try.ntmps45, List.size_toArray, List.length_cons, List.length_nil, Nat.reduceAdd, Nat.reduceSub, Array.replicate_succ, Array.replicate_zero, List.push_toArray, List.append_toArray, List.nil_append, List.cons_append]
  gi_wp2_with (gi_at_call 63; refine hC.mono ?_; rintro e W ⟨u, qs, rfl, hp, hrow, hb⟩)
  have hql : qs.length = ps.length := hp.length_eq
  rcases hrow.2 with ⟨rfl, hz⟩ | ⟨gb, cap, cur, rfl, hbase, hgb, r1, r2, r3, r4⟩
  · have hs := fun V => (callsIn_wide (n := n - 1)).2 (Try.slices_SortFunc_none none 0 (.func (.func 48) #[] #[]) V)
    have hx : ps = [] := List.eq_nil_of_length_eq_zero (by omega)
    have hy : qs = [] := List.eq_nil_of_length_eq_zero hz
    subst hx hy
    gi_wp2_with (gi_at_call 64; refine (hs _).mono ?_; rintro e w' ⟨rfl, rfl⟩)
    go_ret
    exact ⟨_, rfl, hrow, hb⟩
  · have hH : HoldsK Pt.cells 4 W gb 0 qs.toArray := holdsP hgb r4
    have hgl : gb < W.heap.size := (Array.getElem?_eq_some_iff.1 hgb).1
    have hs := AnyQ.slices_SortFunc Try.sortP 4 Try.isAgg60 Try.sizeOf60 Pt.cells (fun _ => rfl) (fun x v hv => flatP_one [x] v (by simpa [flatP] using hv)) cfP swo_cf 48 #[] gb 0 cap qs.toArray W eg (cmp_lays gb 0 _ W) hH hgl (by simp; omega)
    change Calls Try.prog 64 _ _ _ at hs
    have hs2 := (callsIn_wide (n := n - 1)).2 hs
    rw [List.size_toArray] at hs2
    gi_wp2_with (gi_at_call 64; refine hs2.mono ?_; rintro e w' ⟨rfl, d', nn', os, hperm, hsd, rfl⟩)
    go_ret
    have e := sorted_row hsor hp hperm hsd
    subst e
    have hw : sortWorldK Pt.cells 4 W gb 0 nn' ps.toArray os = grow (putRow id (Sort.ahead W nn') gb 0 (flatP ps).toArray) os := by
      unfold sortWorldK putRowK
      rw [flatK_eq]
    rw [hw]
    have hfl := flatP_len ps
    refine ⟨_, rfl, ⟨hfl, .inr ⟨gb, cap, _, rfl, hbase, heap_sortedP _ hgb, by omega, r2, by simp [putCells, r3], ?_⟩⟩, hb.grown (grownBy_sortedP _) hb.size (fun j hj => by cases hj; exact hbase)⟩
    rw [← hfl]
    exact take_putCellsP cur (flatP ps) (by rw [hfl, r3]; omega)
end Go.Proofs.Ytkalmfhebffklaa.L11
