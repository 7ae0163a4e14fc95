/- Logs, parts and reports, as their cells lie in memory; parts by their keys. Contracts of view.Less (once more, to the block), cmp.Compare and cut.order: parts by their keys. The longest rows, by old view and sender: a list that stands by keys; what is put into it. The map of the longest rows: keyed by old view and sender; what it holds, as a list that stands by keys. Contracts of slices.Clone and slices.Equal at rows of terms, and of cut.Begins. -/
import Derived.Test.YtckmpbmlneionaaWBase
import Derived.Test.YtckmpbmlneionaaTop
import Derived.Deep.OwnRows
import Derived.Deep.Slices
import Derived.Sort.Grow
import Derived.Sort.Statements
import Derived.Lib.Small
import Derived.Maps.OwnSet
import Derived.Maps.Range
import Derived.DeepKeys4
import Derived.Test.YtckmpbmlneionaaExps
import Derived.Test.YtckmpbmlneionaaLater
import Derived.Maps.AppendAt
import Derived.Lib.SliceRun
import Derived.RangeFuncRecord
import Derived.Deep.QuietTactic
section
namespace Go.Proofs.Ytckmpbmlneionaa.L11
open Go.ChangeShapes Go.WideShapes Go.ChangeAt Go.RowKit Go.Deep

abbrev Bytes := List UInt8
def isInt (a : Int) : Prop := -9223372036854775808 ≤ a ∧ a ≤ 9223372036854775807
theorem addr_blockC (ad : Addr) (i : Nat) : (ad.add i).block = ad.block := by unfold Addr.add; split <;> rfl
theorem addr_offC (ad : Addr) (i : Nat) : (ad.add i).off = ad.off + i := by
  unfold Addr.add; split
  · subst_vars; rfl
  · rfl
theorem add_some (ad : Addr) (m i : Nat) (h : 0 < i) : ad.add (m + i) = ⟨(ad.add m).block, (ad.add m).off + i, none⟩ := by
  rw [addr_blockC, addr_offC]
  unfold Addr.add
  rw [if_neg (by omega), Nat.add_assoc]
def txt (l : List Bytes) : List Value := l.map fun z => .string ⟨z.toArray⟩

/-- A row of texts: where it lies, its room, and the texts. -/
structure It where
  a : Option Addr
  c : Nat
  l : List Bytes
def It.v (x : It) : Value := .slice x.a x.l.length x.c
structure ItAt (w : World) (x : It) : Prop where
  le : x.l.length ≤ x.c
  few : x.c ≤ maxLen
  nil : x.a = none → x.c = 0
  short : ∀ z ∈ x.l, z.length ≤ maxLen
  reads : ∀ (j : Nat) (z : Bytes), x.l[j]? = some z → ∃ ad : Addr, x.a = some ad ∧ ad.block < w.heap.size ∧ w.cell? (ad.add j) = some (.string ⟨z.toArray⟩)
theorem ItAt.below {w W : World} {x : It} (h : ItAt w x) (hb : Below w.heap.size w W) : ItAt W x :=
  ⟨h.le, h.few, h.nil, h.short, fun j z hz => by
    obtain ⟨ad, e, h1, h2⟩ := h.reads j z hz
    exact ⟨ad, e, Nat.lt_of_lt_of_le h1 hb.size, (hb.cell (p := ad.add j) (by rw [addr_blockC]; exact h1)).trans h2⟩⟩

structure Lg where
  se : Int
  it : It
structure Pt where
  ep : Int
  co : Int
  se : Int
  it : It
structure Rp where
  fr : Int
  ep : Int
  co : Int
  lv : Value
  lg : List Lg
def Lg.cells (g : Lg) : List Value := [.int .i64 g.se, g.it.v]
def Pt.cells (p : Pt) : List Value := [.int .i64 p.ep, .int .i64 p.co, .int .i64 p.se, p.it.v]
def Rp.cells (r : Rp) : List Value := [.int .i64 r.fr, .int .i64 r.ep, .int .i64 r.co, r.lv]

/-- Elements of k cells each, one behind the other. -/
def CellsA (k : Nat) (w : World) (v : Value) (cs : List (List Value)) : Prop :=
  ∃ A c, v = .slice A cs.length c ∧ cs.length ≤ maxLen ∧ ∀ j x, cs[j]? = some x → ∃ ad : Addr, A = some ad ∧ ad.block < w.heap.size ∧ ∀ i u, x[i]? = some u → w.cell? (ad.add (j * k + i)) = some u
theorem CellsA.below {k : Nat} {w W : World} {v : Value} {cs : List (List Value)} (h : CellsA k w v cs) (hb : Below w.heap.size w W) : CellsA k W v cs := by
  obtain ⟨A, c, e, hf, hr⟩ := h
  refine ⟨A, c, e, hf, fun j x hx => ?_⟩
  obtain ⟨ad, e2, h1, h2⟩ := hr j x hx
  exact ⟨ad, e2, Nat.lt_of_lt_of_le h1 hb.size, fun i u hu => (hb.cell (p := ad.add (j * k + i)) (by rw [addr_blockC]; exact h1)).trans (h2 i u hu)⟩
theorem flat_at {k : Nat} : ∀ {cs : List (List Value)}, (∀ x ∈ cs, x.length = k) → ∀ {j : Nat} {x : List Value}, cs[j]? = some x → ∀ i, i < k → cs.flatten[j * k + i]? = x[i]?
  | [], _, j, x, h => by simp at h
  | a :: l, hk, 0, x, h => by
    simp at h
    subst h
    intro i hi
    rw [List.flatten_cons, List.getElem?_append_left (by rw [hk a (by simp)]; omega)]
    congr 1
    omega
  | a :: l, hk, j + 1, x, h => by
    intro i hi
    have ha := hk a (by simp)
    have e : (j + 1) * k + i - k = j * k + i := by rw [Nat.succ_mul]; omega
    rw [List.flatten_cons, List.getElem?_append_right (by rw [ha, Nat.succ_mul]; omega), ha, e]
    exact flat_at (fun y hy => hk y (by simp [hy])) (by simpa using h) i hi
theorem flat_len {k : Nat} {cs : List (List Value)} (h : ∀ x ∈ cs, x.length = k) : cs.flatten.length = cs.length * k := by
  induction cs with
  | nil => simp
  | cons a l ih => rw [List.flatten_cons, List.length_append, h a (by simp), ih (fun y hy => h y (by simp [hy])), List.length_cons, Nat.succ_mul]; omega
theorem add_zeroC (g j : Nat) : (⟨g, 0, none⟩ : Addr).add j = ⟨g, j, none⟩ := by
  by_cases h : j = 0
  · subst h; simp [Addr.add]
  · simp [Addr.add, h]
theorem CellsA.of_own {k : Nat} {w : World} {B : Nat} {e : TypeId} {v : Value} {cs : List (List Value)} (h : w.ownsRow B e k v cs.length cs.flatten) (hk : ∀ x ∈ cs, x.length = k) (hf : cs.length ≤ maxLen) : CellsA k w v cs := by
  have h' := h
  rcases h.2 with ⟨rfl, h0⟩ | ⟨g, cap, cur, rfl, _, hg, _⟩
  · have : cs = [] := List.length_eq_zero_iff.1 h0
    subst this
    exact ⟨none, 0, rfl, hf, fun j x hx => by simp at hx⟩
  · refine ⟨some ⟨g, 0, none⟩, cap, rfl, hf, fun j x hx => ⟨_, rfl, (h'.lt g rfl).2, fun i u hu => ?_⟩⟩
    have hx2 : x.length = k := hk x (List.mem_of_getElem? hx)
    have hi : i < k := by rw [← hx2]; exact (List.getElem?_eq_some_iff.1 hu).1
    exact h'.cells (g := g) rfl (j * k + i) u (by rw [flat_at hk hx i hi]; exact hu)

structure LogsA (w : World) (v : Value) (ls : List Lg) : Prop where
  cells : CellsA 2 w v (ls.map Lg.cells)
  its : ∀ l ∈ ls, ItAt w l.it ∧ isInt l.se
structure PartsA (w : World) (v : Value) (ps : List Pt) : Prop where
  cells : CellsA 4 w v (ps.map Pt.cells)
  its : ∀ p ∈ ps, ItAt w p.it ∧ isInt p.ep ∧ isInt p.co ∧ isInt p.se
structure RepsA (w : World) (v : Value) (rs : List Rp) : Prop where
  cells : CellsA 4 w v (rs.map Rp.cells)
  its : ∀ r ∈ rs, LogsA w r.lv r.lg ∧ isInt r.ep ∧ isInt r.co
theorem LogsA.below {w W : World} {v : Value} {ls : List Lg} (h : LogsA w v ls) (hb : Below w.heap.size w W) : LogsA W v ls := ⟨h.cells.below hb, fun l hl => ⟨(h.its l hl).1.below hb, (h.its l hl).2⟩⟩
theorem PartsA.below {w W : World} {v : Value} {ls : List Pt} (h : PartsA w v ls) (hb : Below w.heap.size w W) : PartsA W v ls := ⟨h.cells.below hb, fun l hl => ⟨(h.its l hl).1.below hb, (h.its l hl).2⟩⟩
theorem RepsA.below {w W : World} {v : Value} {ls : List Rp} (h : RepsA w v ls) (hb : Below w.heap.size w W) : RepsA W v ls := ⟨h.cells.below hb, fun l hl => ⟨(h.its l hl).1.below hb, (h.its l hl).2⟩⟩

theorem LogsA.get {w : World} {v : Value} {ls : List Lg} (h : LogsA w v ls) : ∃ A c, v = .slice A ls.length c ∧ ls.length ≤ maxLen ∧ ∀ j l, ls[j]? = some l → ∃ ad : Addr, A = some ad ∧ ad.block < w.heap.size ∧
    w.cell? (ad.add (j * 2)) = some (.int .i64 l.se) ∧ w.cell? ⟨(ad.add (j * 2)).block, (ad.add (j * 2)).off + 1, none⟩ = some l.it.v ∧ ItAt w l.it ∧ isInt l.se := by
  obtain ⟨A, c, e, hf, hr⟩ := h.cells
  rw [List.length_map] at e hf
  refine ⟨A, c, e, hf, fun j l hl => ?_⟩
  obtain ⟨ad, e2, h1, h2⟩ := hr j l.cells (by rw [List.getElem?_map, hl]; rfl)
  refine ⟨ad, e2, h1, h2 0 _ rfl, ?_, h.its l (List.mem_of_getElem? hl)⟩
  rw [← add_some _ _ _ (by decide)]
  exact h2 1 _ rfl
theorem PartsA.get {w : World} {v : Value} {ls : List Pt} (h : PartsA w v ls) : ∃ A c, v = .slice A ls.length c ∧ ls.length ≤ maxLen ∧ ∀ j l, ls[j]? = some l → ∃ ad : Addr, A = some ad ∧ ad.block < w.heap.size ∧
    w.cell? (ad.add (j * 4)) = some (.int .i64 l.ep) ∧ w.cell? ⟨(ad.add (j * 4)).block, (ad.add (j * 4)).off + 1, none⟩ = some (.int .i64 l.co) ∧ w.cell? ⟨(ad.add (j * 4)).block, (ad.add (j * 4)).off + 2, none⟩ = some (.int .i64 l.se) ∧
    w.cell? ⟨(ad.add (j * 4)).block, (ad.add (j * 4)).off + 3, none⟩ = some l.it.v ∧ ItAt w l.it ∧ isInt l.ep ∧ isInt l.co ∧ isInt l.se := by
  obtain ⟨A, c, e, hf, hr⟩ := h.cells
  rw [List.length_map] at e hf
  refine ⟨A, c, e, hf, fun j l hl => ?_⟩
  obtain ⟨ad, e2, h1, h2⟩ := hr j l.cells (by rw [List.getElem?_map, hl]; rfl)
  refine ⟨ad, e2, h1, h2 0 _ rfl, ?_, ?_, ?_, h.its l (List.mem_of_getElem? hl)⟩
  · rw [← add_some _ _ _ (by decide)]; exact h2 1 _ rfl
  · rw [← add_some _ _ _ (by decide)]; exact h2 2 _ rfl
  · rw [← add_some _ _ _ (by decide)]; exact h2 3 _ rfl
theorem RepsA.get {w : World} {v : Value} {ls : List Rp} (h : RepsA w v ls) : ∃ A c, v = .slice A ls.length c ∧ ls.length ≤ maxLen ∧ ∀ j l, ls[j]? = some l → ∃ ad : Addr, A = some ad ∧ ad.block < w.heap.size ∧
    w.cell? (ad.add (j * 4)) = some (.int .i64 l.fr) ∧ w.cell? ⟨(ad.add (j * 4)).block, (ad.add (j * 4)).off + 1, none⟩ = some (.int .i64 l.ep) ∧ w.cell? ⟨(ad.add (j * 4)).block, (ad.add (j * 4)).off + 2, none⟩ = some (.int .i64 l.co) ∧
    w.cell? ⟨(ad.add (j * 4)).block, (ad.add (j * 4)).off + 3, none⟩ = some l.lv ∧ LogsA w l.lv l.lg ∧ isInt l.ep ∧ isInt l.co := by
  obtain ⟨A, c, e, hf, hr⟩ := h.cells
  rw [List.length_map] at e hf
  refine ⟨A, c, e, hf, fun j l hl => ?_⟩
  obtain ⟨ad, e2, h1, h2⟩ := hr j l.cells (by rw [List.getElem?_map, hl]; rfl)
  refine ⟨ad, e2, h1, h2 0 _ rfl, ?_, ?_, ?_, h.its l (List.mem_of_getElem? hl)⟩
  · rw [← add_some _ _ _ (by decide)]; exact h2 1 _ rfl
  · rw [← add_some _ _ _ (by decide)]; exact h2 2 _ rfl
  · rw [← add_some _ _ _ (by decide)]; exact h2 3 _ rfl

def flatG (l : List Lg) : List Value := (l.map Lg.cells).flatten
def flatP (l : List Pt) : List Value := (l.map Pt.cells).flatten
theorem flatG_snoc (l : List Lg) (x : Lg) : flatG (l ++ [x]) = flatG l ++ x.cells := by simp [flatG]
theorem flatP_snoc (l : List Pt) (x : Pt) : flatP (l ++ [x]) = flatP l ++ x.cells := by simp [flatP]
theorem lg_two (l : List Lg) : ∀ x ∈ l.map Lg.cells, x.length = 2 := fun x hx => by
  obtain ⟨g, _, rfl⟩ := List.mem_map.1 hx; rfl
theorem pt_four (l : List Pt) : ∀ x ∈ l.map Pt.cells, x.length = 4 := fun x hx => by
  obtain ⟨g, _, rfl⟩ := List.mem_map.1 hx; rfl
theorem rp_four (l : List Rp) : ∀ x ∈ l.map Rp.cells, x.length = 4 := fun x hx => by
  obtain ⟨g, _, rfl⟩ := List.mem_map.1 hx; rfl
theorem LogsA.of_own {w : World} {B : Nat} {e : TypeId} {v : Value} {ls : List Lg} (h : w.ownsRow B e 2 v ls.length (flatG ls)) (hf : ls.length ≤ maxLen) (hi : ∀ l ∈ ls, ItAt w l.it ∧ isInt l.se) : LogsA w v ls :=
  ⟨.of_own (B := B) (e := e) (by rw [List.length_map]; exact h) (lg_two ls) (by rw [List.length_map]; exact hf), hi⟩
theorem PartsA.of_own {w : World} {B : Nat} {e : TypeId} {v : Value} {ls : List Pt} (h : w.ownsRow B e 4 v ls.length (flatP ls)) (hf : ls.length ≤ maxLen) (hi : ∀ p ∈ ls, ItAt w p.it ∧ isInt p.ep ∧ isInt p.co ∧ isInt p.se) : PartsA w v ls :=
  ⟨.of_own (B := B) (e := e) (by rw [List.length_map]; exact h) (pt_four ls) (by rw [List.length_map]; exact hf), hi⟩
theorem flatG_one (l : List Lg) : ∀ u ∈ flatG l, u.oneCell' = true := by
  intro u hu
  obtain ⟨cs, hcs, h⟩ := List.mem_flatten.1 hu
  obtain ⟨d, _, rfl⟩ := List.mem_map.1 hcs
  simp only [Lg.cells, It.v, List.mem_cons, List.not_mem_nil, or_false] at h
  rcases h with rfl | rfl <;> rfl
theorem flatP_one (l : List Pt) : ∀ u ∈ flatP l, u.oneCell' = true := by
  intro u hu
  obtain ⟨cs, hcs, h⟩ := List.mem_flatten.1 hu
  obtain ⟨d, _, rfl⟩ := List.mem_map.1 hcs
  simp only [Pt.cells, It.v, List.mem_cons, List.not_mem_nil, or_false] at h
  rcases h with rfl | rfl | rfl | rfl <;> rfl
/-- A row of texts that the call owns. -/
theorem ItAt.of_own {w : World} {B : Nat} {e : TypeId} {v : Value} {zs : List Bytes} (h : w.ownsRow B e 1 v zs.length (txt zs)) (hs : ∀ z ∈ zs, z.length ≤ maxLen) (_hf : zs.length ≤ maxLen) : ∃ x : It, v = x.v ∧ x.l = zs ∧ (ItAt w x) := by
  have h' := h
  rcases h.2 with ⟨rfl, h0⟩ | ⟨g, cap, cur, rfl, _, hg, hc, h1, h2, h3⟩
  · have : zs = [] := List.length_eq_zero_iff.1 h0
    subst this
    exact ⟨⟨none, 0, []⟩, rfl, rfl, ⟨Nat.le_refl _, by simp, fun _ => rfl, by simp, fun j z hz => by simp at hz⟩⟩
  · exact ⟨⟨some ⟨g, 0, none⟩, cap, zs⟩, rfl, rfl, ⟨by simpa using hc, h1, (fun e => by cases e), hs, fun j z hz => ⟨_, rfl, (h'.lt g rfl).2, h'.cells (g := g) rfl j _ (by rw [txt, List.getElem?_map, hz]; rfl)⟩⟩⟩
end Go.Proofs.Ytckmpbmlneionaa.L11
end

section
namespace Go.Proofs.Ytckmpbmlneionaa.L11
open Go.ChangeShapes Go.WideShapes Go.ChangeAt Go.RowKit Go.Deep Go.Sort

def lessB (a b c d : Int) : Bool := decide (a < c) || (decide (a = c) && decide (b < d))
theorem lessB_iff (a b c d : Int) : lessB a b c d = true ↔ a < c ∨ a = c ∧ b < d := by simp [lessB]
theorem lessB_no (a b c d : Int) : lessB a b c d = false ↔ ¬ (a < c ∨ a = c ∧ b < d) := by
  rw [← lessB_iff]; cases lessB a b c d <;> simp
/-- A call that returned one value, and laid some blocks. -/
def Grown (w : World) (v : Value) (e : Ending) (w' : World) : Prop := e = .returned v ∧ ∃ os, w' = grow w os
theorem below_grow (w : World) (os : Array Obj) : Below w.heap.size w (grow w os) := by
  refine ⟨rfl, rfl, rfl, by simp [grow], fun k hk => ?_⟩
  simp only [grow]
  rw [Array.getElem?_append_left hk]
theorem Grown.below {w w' : World} {v : Value} {e : Ending} (h : Grown w v e w') : e = .returned v ∧ Below w.heap.size w w' := by
  obtain ⟨h1, os, rfl⟩ := h
  exact ⟨h1, below_grow w os⟩
theorem two_grown (w : World) (o p : Obj) : (w.alloc o).alloc p = grow w (#[o] ++ #[p]) := by rw [alloc_eq_grow, alloc_eq_grow, grow_grow]

set_option maxHeartbeats 1000000 in
theorem less_calls (a b c d : Int) (w : World) : Calls Try.prog 66 #[.agg #[.int .i64 a, .int .i64 b], .agg #[.int .i64 c, .int .i64 d]] w (Grown w (.bool (lessB a b c d))) := by
  by_cases h1 : a < c
  · have e : lessB a b c d = true := (lessB_iff _ _ _ _).2 (.inl h1)
    rw [e]
    clear e
    go_enter Try.func66, Try.ntmps66
    go_wp2
    go_ret
    exact ⟨rfl, _, two_grown _ _ _⟩
  · by_cases h2 : a = c
    · subst h2
      have h3 : ¬ a < a := by omega
      have e : lessB a b a d = decide (b < d) := by simp [lessB]
      rw [e]
      clear e h1
      go_enter Try.func66, Try.ntmps66
      go_wp2
      go_ret
      exact ⟨rfl, _, two_grown _ _ _⟩
    · have e : lessB a b c d = false := by simp [lessB, h1, h2]
      rw [e]
      clear e
      go_enter Try.func66, Try.ntmps66
      go_wp2
      go_ret
      exact ⟨rfl, _, two_grown _ _ _⟩
theorem nan_calls (a : Int) (w : World) : Calls Try.prog 80 #[.int .i64 a] w fun e w' => e = .returned (.bool false) ∧ w' = w := by
  go_enter Try.func80, Try.ntmps80
  go_wp2
  go_ret
  exact ⟨by simp, rfl⟩
set_option maxHeartbeats 1000000 in
theorem compare_calls (a b : Int) (w : World) : Calls Try.prog 67 #[.int .i64 a, .int .i64 b] w fun e w' => e = .returned (.int .i64 (Lib.compareInt a b)) ∧ w' = w := by
  have HN := Lib.hid (fun x => nan_calls x w)
  unfold Lib.compareInt
  by_cases h1 : a < b
  · rw [if_pos h1]
    go_enter Try.func67, Try.ntmps67
    go_wp2_with (go_at_call 80; refine (HN.out _).mono ?_; rintro e w' ⟨rfl, rfl⟩)
    go_ret
    exact ⟨rfl, rfl⟩
  · rw [if_neg h1]
    by_cases h2 : b < a
    · have h3 : a > b := h2
      rw [if_pos h3]
      go_enter Try.func67, Try.ntmps67
      go_wp2_with (go_at_call 80; refine (HN.out _).mono ?_; rintro e w' ⟨rfl, rfl⟩)
      go_ret
      exact ⟨rfl, rfl⟩
    · have h3 : ¬ a > b := h2
      rw [if_neg h3]
      go_enter Try.func67, Try.ntmps67
      go_wp2_with (go_at_call 80; refine (HN.out _).mono ?_; rintro e w' ⟨rfl, rfl⟩)
      go_ret
      exact ⟨rfl, rfl⟩
def keyP (p : Pt) : Int × Int × Int := (p.ep, p.co, p.se)
def aheadP (x y : Pt) : Bool := lessB x.ep x.co y.ep y.co || (decide (x.ep = y.ep ∧ x.co = y.co) && decide (x.se < y.se))
def cfP (x y : Pt) : Int := if lessB x.ep x.co y.ep y.co = true then -1 else if lessB y.ep y.co x.ep x.co = true then 1 else Lib.compareInt x.se y.se
theorem aheadP_iff (x y : Pt) : aheadP x y = true ↔ x.ep < y.ep ∨ x.ep = y.ep ∧ (x.co < y.co ∨ x.co = y.co ∧ x.se < y.se) := by
  simp only [aheadP, Bool.or_eq_true, lessB_iff, Bool.and_eq_true, decide_eq_true_eq]
  omega
theorem cfP_ahead (x y : Pt) : (cfP x y < 0) ↔ aheadP x y = true := by
  rw [aheadP_iff]
  unfold cfP Lib.compareInt
  by_cases h1 : lessB x.ep x.co y.ep y.co = true
  · rw [if_pos h1]
    have := (lessB_iff _ _ _ _).1 h1
    constructor
    · intro _; omega
    · intro _; decide
  · rw [if_neg h1]
    rw [lessB_iff] at h1
    by_cases h2 : lessB y.ep y.co x.ep x.co = true
    · rw [if_pos h2]
      rw [lessB_iff] at h2
      constructor
      · intro h; omega
      · intro h; omega
    · rw [if_neg h2]
      rw [lessB_iff] at h2
      split
      · constructor
        · intro _; omega
        · intro _; decide
      · split
        · constructor
          · intro h; omega
          · intro h; omega
        · constructor
          · intro h; omega
          · intro h; omega

/-- Two boxes, one behind the other, and what lies behind them. -/
theorem boxes_at (w : World) (xs ys : Array Value) (t u : TypeId) (os : Array Obj) : ∀ j, (grow ((w.alloc (.cells xs t)).alloc (.cells ys u)) os).cell? ⟨w.heap.size, j, none⟩ = xs[j]? ∧ (grow ((w.alloc (.cells xs t)).alloc (.cells ys u)) os).cell? ⟨w.heap.size + 1, j, none⟩ = ys[j]? := by
  intro j
  have e : grow ((w.alloc (.cells xs t)).alloc (.cells ys u)) os = grow w (#[.cells xs t (0, 0), .cells ys u (0, 0)] ++ os) := by
    rw [two_grown, grow_grow]; rfl
  rw [e]
  constructor
  · simp only [World.cell?, grow]
    rw [Array.getElem?_append_right (Nat.le_refl _), Nat.sub_self, Array.getElem?_append_left (by simp)]
    rfl
  · simp only [World.cell?, grow]
    rw [Array.getElem?_append_right (by omega), show w.heap.size + 1 - w.heap.size = 1 by omega, Array.getElem?_append_left (by simp)]
    rfl

set_option maxHeartbeats 2000000 in
theorem order_calls (x y : Pt) (w : World) : Calls Try.prog 48 #[.agg x.cells.toArray, .agg y.cells.toArray] w (Grown w (.int .i64 (cfP x y))) := by
  have HL := Lib.hid (fun a b c d W => less_calls a b c d W)
  have HC := Lib.hid (fun a b W => compare_calls a b W)
  obtain ⟨e1, c1, s1, i1⟩ := x
  obtain ⟨e2, c2, s2, i2⟩ := y
  simp only [Pt.cells, cfP]
  generalize i1.v = v1
  generalize i2.v = v2
  have HX := Lib.hid (boxes_at w #[.int .i64 e1, .int .i64 c1, .int .i64 s1, v1] #[.int .i64 e2, .int .i64 c2, .int .i64 s2, v2] 60 60)
  by_cases h1 : lessB e1 c1 e2 c2 = true
  · rw [if_pos h1]
    have HL1 := Lib.hid (HL.out e1 c1 e2 c2)
    rw [h1] at HL1
    clear h1 HL
    go_enter Try.func48, Try.ntmps48
    go_wp2_with fail
    refine (HL1.out _).mono ?_
    rintro e w' ⟨rfl, os, rfl⟩
    go_wp2
    go_ret
    exact ⟨rfl, _, by rw [alloc_eq_grow, alloc_eq_grow, grow_grow, grow_grow]⟩
  · have h1' : lessB e1 c1 e2 c2 = false := by simpa using h1
    rw [if_neg h1]
    have HL1 := Lib.hid (HL.out e1 c1 e2 c2)
    rw [h1'] at HL1
    by_cases h2 : lessB e2 c2 e1 c1 = true
    · rw [if_pos h2]
      have HL2 := Lib.hid (HL.out e2 c2 e1 c1)
      rw [h2] at HL2
      clear h1 h1' h2 HL
      go_enter Try.func48, Try.ntmps48
      go_wp2_with fail
      refine (HL1.out _).mono ?_
      rintro e w' ⟨rfl, os, hw'⟩
      have a0 : w'.cell? ⟨w.heap.size, 0, none⟩ = some (.int .i64 e1) := by rw [hw']; exact (HX.out os 0).1
      have a1 : w'.cell? ⟨w.heap.size, 1, none⟩ = some (.int .i64 c1) := by rw [hw']; exact (HX.out os 1).1
      have b0 : w'.cell? ⟨w.heap.size + 1, 0, none⟩ = some (.int .i64 e2) := by rw [hw']; exact (HX.out os 0).2
      have b1 : w'.cell? ⟨w.heap.size + 1, 1, none⟩ = some (.int .i64 c2) := by rw [hw']; exact (HX.out os 1).2
      have HF : Hid (∃ os, w' = grow w os) := ⟨_, by rw [hw', two_grown, grow_grow]⟩
      clear hw' HX HL1
      go_wp2_with fail
      refine (HL2.out _).mono ?_
      rintro e w2 ⟨rfl, os2, hw2⟩
      have HF2 : Hid (∃ os, w2 = grow w os) := by
        obtain ⟨os3, e3⟩ := HF.out
        exact ⟨_, by rw [hw2, e3, grow_grow]⟩
      clear hw2
      go_wp2
      go_ret
      exact ⟨rfl, HF2.out⟩
    · have h2' : lessB e2 c2 e1 c1 = false := by simpa using h2
      rw [if_neg h2]
      have HL2 := Lib.hid (HL.out e2 c2 e1 c1)
      rw [h2'] at HL2
      have HC1 := Lib.hid (HC.out s1 s2)
      generalize Lib.compareInt s1 s2 = r at *
      clear h1 h1' h2 h2' HL HC
      go_enter Try.func48, Try.ntmps48
      go_wp2_with fail
      refine (HL1.out _).mono ?_
      rintro e w' ⟨rfl, os, hw'⟩
      have a0 : w'.cell? ⟨w.heap.size, 0, none⟩ = some (.int .i64 e1) := by rw [hw']; exact (HX.out os 0).1
      have a1 : w'.cell? ⟨w.heap.size, 1, none⟩ = some (.int .i64 c1) := by rw [hw']; exact (HX.out os 1).1
      have b0 : w'.cell? ⟨w.heap.size + 1, 0, none⟩ = some (.int .i64 e2) := by rw [hw']; exact (HX.out os 0).2
      have b1 : w'.cell? ⟨w.heap.size + 1, 1, none⟩ = some (.int .i64 c2) := by rw [hw']; exact (HX.out os 1).2
      have HF : Hid (∃ os, w' = grow ((w.alloc (.cells #[.int .i64 e1, .int .i64 c1, .int .i64 s1, v1] 60)).alloc (.cells #[.int .i64 e2, .int .i64 c2, .int .i64 s2, v2] 60)) os) := ⟨_, hw'⟩
      clear hw' HL1
      go_wp2_with fail
      refine (HL2.out _).mono ?_
      rintro e w2 ⟨rfl, os2, hw2⟩
      have HF2 : Hid (∃ os, w2 = grow ((w.alloc (.cells #[.int .i64 e1, .int .i64 c1, .int .i64 s1, v1] 60)).alloc (.cells #[.int .i64 e2, .int .i64 c2, .int .i64 s2, v2] 60)) os) := by
        obtain ⟨os3, e3⟩ := HF.out
        exact ⟨_, by rw [hw2, e3, grow_grow]⟩
      have a2 : w2.cell? ⟨w.heap.size, 2, none⟩ = some (.int .i64 s1) := by
        obtain ⟨os3, e3⟩ := HF2.out
        rw [e3]; exact (HX.out os3 2).1
      have b2 : w2.cell? ⟨w.heap.size + 1, 2, none⟩ = some (.int .i64 s2) := by
        obtain ⟨os3, e3⟩ := HF2.out
        rw [e3]; exact (HX.out os3 2).2
      clear hw2 HX HL2 HF a0 a1 b0 b1
      go_wp2_with fail
      refine (HC1.out _).mono ?_
      rintro e w3 ⟨rfl, rfl⟩
      go_wp2
      go_ret
      obtain ⟨os3, e3⟩ := HF2.out
      exact ⟨rfl, _, by rw [e3, two_grown, grow_grow]⟩
end Go.Proofs.Ytckmpbmlneionaa.L11
end

section
namespace Go.Proofs.Ytckmpbmlneionaa.L11
open Go.ChangeShapes Go.WideShapes Go.ChangeAt Go.RowKit Go.Deep Go.Sort

theorem key_iff (x y : Pt) : keyP x = keyP y ↔ x.ep = y.ep ∧ x.co = y.co ∧ x.se = y.se := by simp [keyP]
theorem ahead_trans {x y z : Pt} (h : aheadP x y = true) (k : aheadP y z = true) : aheadP x z = true := by
  rw [aheadP_iff] at *; omega
theorem ahead_irrefl {x y : Pt} (h : aheadP x y = true) : keyP x ≠ keyP y := by
  rw [aheadP_iff] at h; rw [Ne, key_iff]; omega
theorem ahead_total {x y : Pt} (h : keyP x ≠ keyP y) : aheadP x y = true ∨ aheadP y x = true := by
  rw [Ne, key_iff] at h; rw [aheadP_iff, aheadP_iff]; omega
theorem ahead_not {x y : Pt} (h : aheadP x y = true) : ¬ aheadP y x = true := by
  rw [aheadP_iff] at *; omega
theorem ahead_congr {x y z : Pt} (h : keyP x = keyP y) : aheadP x z = aheadP y z := by
  rw [key_iff] at h; rw [Bool.eq_iff_iff, aheadP_iff, aheadP_iff, h.1, h.2.1, h.2.2]
theorem ahead_congr' {x y z : Pt} (h : keyP x = keyP y) : aheadP z x = aheadP z y := by
  rw [key_iff] at h; rw [Bool.eq_iff_iff, aheadP_iff, aheadP_iff, h.1, h.2.1, h.2.2]

def SortedP (l : List Pt) : Prop := l.Pairwise (fun x y => aheadP x y = true)
/-- A part into its place. -/
def insP : List Pt → Pt → List Pt
  | [], x => [x]
  | y :: l, x => if keyP y = keyP x then (if y.it.l.length < x.it.l.length then x else y) :: l else if aheadP x y = true then x :: y :: l else y :: insP l x
def stepP (l : List Pt) (x : Pt) : List Pt := if x.it.l = [] then l else insP l x
theorem insP_mem {l : List Pt} {x p : Pt} (h : p ∈ insP l x) : p ∈ l ∨ p = x := by
  induction l with
  | nil => simp [insP] at h; exact .inr h
  | cons y l ih =>
    unfold insP at h
    split at h
    · rcases List.mem_cons.1 h with rfl | h
      · split
        · exact .inr rfl
        · exact .inl (by simp)
      · exact .inl (by simp [h])
    · split at h
      · rcases List.mem_cons.1 h with rfl | h
        · exact .inr rfl
        · exact .inl h
      · rcases List.mem_cons.1 h with rfl | h
        · exact .inl (by simp)
        · exact (ih h).imp (fun h => by simp [h]) id
theorem insP_sorted {l : List Pt} (h : SortedP l) (x : Pt) : SortedP (insP l x) := by
  induction l with
  | nil => simp [insP, SortedP]
  | cons y l ih =>
    obtain ⟨h1, h2⟩ := List.pairwise_cons.1 h
    unfold insP
    split
    · rename_i hk
      refine List.pairwise_cons.2 ⟨fun z hz => ?_, h2⟩
      split
      · rw [← ahead_congr hk]; exact h1 z hz
      · exact h1 z hz
    · rename_i hk
      split
      · rename_i ha
        refine List.pairwise_cons.2 ⟨fun z hz => ?_, h⟩
        rcases List.mem_cons.1 hz with rfl | hz
        · exact ha
        · exact ahead_trans ha (h1 z hz)
      · rename_i ha
        refine List.pairwise_cons.2 ⟨fun z hz => ?_, ih h2⟩
        rcases insP_mem hz with hz | rfl
        · exact h1 z hz
        · exact (ahead_total hk).resolve_right ha
theorem sorted_one {l : List Pt} (h : SortedP l) {p q : Pt} (hp : p ∈ l) (hq : q ∈ l) (hk : keyP p = keyP q) : p = q := by
  induction l with
  | nil => simp at hp
  | cons y l ih =>
    obtain ⟨h1, h2⟩ := List.pairwise_cons.1 h
    rcases List.mem_cons.1 hp with rfl | hp2
    · rcases List.mem_cons.1 hq with rfl | hq
      · rfl
      · exact absurd hk (ahead_irrefl (h1 q hq))
    · rcases List.mem_cons.1 hq with e | hq2
      · subst e; exact absurd hk.symm (ahead_irrefl (h1 p (by assumption)))
      · exact ih h2 (by assumption) hq2
/-- One as long, or longer, is there: nothing turns. -/
theorem insP_keep {l : List Pt} (h : SortedP l) {x p : Pt} (hp : p ∈ l) (hk : keyP p = keyP x) (hl : ¬ p.it.l.length < x.it.l.length) : insP l x = l := by
  induction l with
  | nil => simp at hp
  | cons y l ih =>
    obtain ⟨h1, h2⟩ := List.pairwise_cons.1 h
    unfold insP
    rcases List.mem_cons.1 hp with rfl | hp
    · rw [if_pos hk, if_neg hl]
    · have hy := h1 p hp
      rw [if_neg (fun e => ahead_irrefl hy (e.trans hk.symm)), if_neg (fun e => by rw [← ahead_congr hk] at e; exact ahead_not hy e), ih h2 hp]
/-- It is put, and nothing of its key is left beside it. -/
theorem insP_put {l : List Pt} (h : SortedP l) {x : Pt} (hl : ∀ p ∈ l, keyP p = keyP x → p.it.l.length < x.it.l.length) (q : Pt) : q ∈ insP l x ↔ q = x ∨ q ∈ l ∧ keyP q ≠ keyP x := by
  induction l with
  | nil => simp [insP]
  | cons y l ih =>
    obtain ⟨h1, h2⟩ := List.pairwise_cons.1 h
    unfold insP
    split
    · rename_i hk
      rw [if_pos (hl y (by simp) hk)]
      constructor
      · intro hq
        rcases List.mem_cons.1 hq with rfl | hq
        · exact .inl rfl
        · exact .inr ⟨by simp [hq], fun e => ahead_irrefl (h1 q hq) (hk.trans e.symm)⟩
      · rintro (rfl | ⟨hq, hn⟩)
        · simp
        · rcases List.mem_cons.1 hq with rfl | hq
          · exact absurd hk hn
          · simp [hq]
    · rename_i hk
      split
      · rename_i ha
        constructor
        · intro hq
          rcases List.mem_cons.1 hq with rfl | hq
          · exact .inl rfl
          · refine .inr ⟨hq, fun e => ?_⟩
            rcases List.mem_cons.1 hq with rfl | hq
            · exact hk e
            · have := ahead_trans ha (h1 q hq)
              exact ahead_irrefl this e.symm
        · rintro (rfl | ⟨hq, _⟩)
          · simp
          · simp only [List.mem_cons] at hq ⊢
            exact .inr hq
      · have := ih h2 (fun p hp => hl p (by simp [hp]))
        constructor
        · intro hq
          rcases List.mem_cons.1 hq with rfl | hq
          · exact .inr ⟨by simp, hk⟩
          · exact (this.1 hq).imp id (fun h => ⟨by simp [h.1], h.2⟩)
        · rintro (rfl | ⟨hq, hn⟩)
          · exact List.mem_cons_of_mem _ (this.2 (.inl rfl))
          · rcases List.mem_cons.1 hq with rfl | hq
            · simp
            · exact List.mem_cons_of_mem _ (this.2 (.inr ⟨hq, hn⟩))
theorem stepP_sorted {l : List Pt} (h : SortedP l) (x : Pt) : SortedP (stepP l x) := by
  unfold stepP; split
  · exact h
  · exact insP_sorted h x
theorem stepP_mem {l : List Pt} {x p : Pt} (h : p ∈ stepP l x) : p ∈ l ∨ p = x ∧ x.it.l ≠ [] := by
  unfold stepP at h; split at h
  · exact .inl h
  · rename_i hx
    exact (insP_mem h).imp id (fun e => ⟨e, hx⟩)
/-- What the program looks up: how long the row is that is kept. -/
def lenAt (l : List Pt) (x : Pt) : Nat := match l.find? (fun p => decide (keyP p = keyP x)) with | some p => p.it.l.length | none => 0
theorem lenAt_some {l : List Pt} (h : SortedP l) {x p : Pt} (hp : p ∈ l) (hk : keyP p = keyP x) : lenAt l x = p.it.l.length := by
  unfold lenAt
  cases hf : l.find? (fun p => decide (keyP p = keyP x)) with
  | none => exact absurd (decide_eq_true hk) (by simpa using List.find?_eq_none.1 hf p hp)
  | some q =>
    have h1 := List.mem_of_find?_eq_some hf
    have h2 : keyP q = keyP x := by simpa using List.find?_some hf
    rw [sorted_one h hp h1 (hk.trans h2.symm)]
theorem lenAt_none {l : List Pt} {x : Pt} (hn : ∀ p ∈ l, keyP p ≠ keyP x) : lenAt l x = 0 := by
  unfold lenAt
  rw [List.find?_eq_none.2 (fun p hp => by simpa using hn p hp)]
/-- Not longer: as it was. -/
theorem stepP_no {l : List Pt} (h : SortedP l) {x : Pt} (hl : ¬ lenAt l x < x.it.l.length) : stepP l x = l := by
  unfold stepP
  split
  · rfl
  · rename_i hx
    by_cases hk : ∃ p ∈ l, keyP p = keyP x
    · obtain ⟨p, hp, hk⟩ := hk
      rw [lenAt_some h hp hk] at hl
      exact insP_keep h hp hk hl
    · rw [lenAt_none (fun p hp e => hk ⟨p, hp, e⟩)] at hl
      exact absurd (List.length_pos_iff.2 hx) hl
/-- Longer: put. -/
theorem stepP_yes {l : List Pt} (h : SortedP l) {x : Pt} (hl : lenAt l x < x.it.l.length) (q : Pt) : q ∈ stepP l x ↔ q = x ∨ q ∈ l ∧ keyP q ≠ keyP x := by
  unfold stepP
  rw [if_neg (fun e => by rw [e] at hl; simp at hl)]
  exact insP_put h (fun p hp hk => by rw [← lenAt_some h hp hk]; exact hl) q

def ptsOf (r : Rp) : List Pt := r.lg.map fun g => ⟨r.ep, r.co, g.se, g.it⟩
def cutP (rs : List Rp) : List Pt := (rs.flatMap ptsOf).foldl stepP []
theorem fold_sorted {xs l : List Pt} (h : SortedP l) : SortedP (xs.foldl stepP l) := by
  induction xs generalizing l with
  | nil => exact h
  | cons x xs ih => exact ih (stepP_sorted h x)
theorem fold_mem {xs l : List Pt} {p : Pt} (h : p ∈ xs.foldl stepP l) : p ∈ l ∨ p ∈ xs ∧ p.it.l ≠ [] := by
  induction xs generalizing l with
  | nil => exact .inl h
  | cons x xs ih =>
    rcases ih h with h | ⟨h, h2⟩
    · rcases stepP_mem h with h | ⟨rfl, h⟩
      · exact .inl h
      · exact .inr ⟨by simp, h⟩
    · exact .inr ⟨by simp [h], h2⟩
theorem cutP_sorted (rs : List Rp) : SortedP (cutP rs) := fold_sorted List.Pairwise.nil
theorem fold_len {xs l : List Pt} : (xs.foldl stepP l).length ≤ l.length + xs.length := by
  induction xs generalizing l with
  | nil => simp
  | cons x xs ih =>
    have h1 : (stepP l x).length ≤ l.length + 1 := by
      unfold stepP; split
      · omega
      · rename_i hx; clear hx ih
        induction l with
        | nil => simp [insP]
        | cons y l ih => unfold insP; split
                         · simp
                         · split
                           · simp
                           · simp; simpa using ih
    have := @ih (stepP l x)
    simp only [List.foldl_cons, List.length_cons]
    omega
/-- A sorted list is fixed by what stands in it. -/
theorem sorted_perm_eq {l k : List Pt} (hl : SortedP l) (hp : k.Perm l) (hk : k.Pairwise (fun x y => aheadP y x = false)) : k = l := by
  have hn : k.Pairwise (fun x y => keyP x ≠ keyP y) := by
    refine hp.symm.pairwise ?_ (fun {x y} h => Ne.symm h)
    exact hl.imp (fun h => ahead_irrefl h)
  have hs : k.Pairwise (fun x y => aheadP x y = true) := by
    refine (hk.and hn).imp ?_
    rintro x y ⟨h1, h2⟩
    rcases ahead_total h2 with h | h
    · exact h
    · rw [h] at h1; cases h1
  exact List.Perm.eq_of_pairwise (fun a b _ _ h1 h2 => absurd h2 (ahead_not h1)) hs hl hp
end Go.Proofs.Ytckmpbmlneionaa.L11
end

section
namespace Go.Proofs.Ytckmpbmlneionaa.L11
open Go.ChangeShapes Go.WideShapes Go.ChangeAt Go.RowKit Go.Deep Go.Sort
open Go.Maps (Keyed has)

def heldC (v : Value) : Option (DataW Value × List MemPlace) := some (.held v, [])
theorem keyed_w : Keyed Try.prog 104 := Keyed.of_law (deep_law_laid L5.laid_out (m := 4) (by omega) (of_decide_eq_true (by kernel_rfl)) (by kernel_rfl) (by kernel_rfl))
def keyV (e c s : Int) : Value := .agg #[.int .i64 e, .int .i64 c, .int .i64 s]
def keyL (k : Int × Int × Int) : Lit := .string (keyBytes [.int .i64 k.1, .int .i64 k.2.1, .int .i64 k.2.2])
theorem wf_of {a : Int} (h : isInt a) : (Lit.int .i64 a).wf = true := by
  have := h
  unfold isInt at this
  simpa [Lit.wf, IntKind.min, IntKind.max, IntKind.signed, IntKind.bits] using this
theorem lits_int {d : Nat} {a : Int} (h : isInt a) : Try.prog.keyLits (d + 1) 3 [.int .i64 a] = some [.int .i64 a] := by
  unfold Program.keyLits
  rw [Try.underlying3]
  simp [wf_of h]
theorem cells_int : Try.prog.cellsOf 3 = 1 := by kernel_rfl
theorem cells_id : Try.prog.cellsOf 55 = 2 := by kernel_rfl
theorem cells_w : Try.prog.cellsOf 104 = 3 := by kernel_rfl
theorem lits_id {d : Nat} {a b : Int} (h : isInt a) (k : isInt b) : Try.prog.keyLits (d + 2) 55 [.int .i64 a, .int .i64 b] = some [.int .i64 a, .int .i64 b] := by
  unfold Program.keyLits
  rw [Try.underlying55]
  simp [cells_int, cells_id, lits_int h, lits_int k, List.mapM_cons]
theorem lits_w {d : Nat} {a b c : Int} (h : isInt a) (k : isInt b) (l : isInt c) : Try.prog.keyLits (d + 3) 104 [.int .i64 a, .int .i64 b, .int .i64 c] = some [.int .i64 a, .int .i64 b, .int .i64 c] := by
  unfold Program.keyLits
  rw [Try.underlying104]
  simp [cells_int, cells_id, cells_w, lits_id h k, lits_int l, List.mapM_cons]
theorem key_w {a b c : Int} (h : isInt a) (k : isInt b) (l : isInt c) : keyOf Try.prog 104 (keyV a b c) = some (keyL (a, b, c)) := by
  unfold keyOf
  rw [Try.underlying104]
  have h1 : (Try.prog.keyType 104) = true := by kernel_rfl
  have h2 : (keyV a b c).formed Try.prog 104 = true := by simp [Value.formed, keyV, Try.underlying104, cells_w]
  have h10 : 10 ≤ Try.prog.types.size := of_decide_eq_true (by kernel_rfl)
  have h3 : Try.prog.keyLits (Try.prog.types.size + 1) 104 (keyV a b c).cells.toList = some [.int .i64 a, .int .i64 b, .int .i64 c] := by
    obtain ⟨d, hd⟩ : ∃ d, Try.prog.types.size + 1 = d + 3 := ⟨Try.prog.types.size - 2, by omega⟩
    rw [hd]
    exact lits_w h k l
  show (if (Try.prog.keyType 104 && (keyV a b c).formed Try.prog 104) = true then (Try.prog.keyLits (Try.prog.types.size + 1) 104 (keyV a b c).cells.toList).map fun ls => Lit.string (keyBytes ls) else none) = _
  rw [h1, h2, h3]
  rfl
theorem keyL_inj {a b c a' b' c' : Int} (h : isInt a) (k : isInt b) (l : isInt c) (h' : isInt a') (k' : isInt b') (l' : isInt c') (e : keyL (a, b, c) = keyL (a', b', c')) : (a, b, c) = (a', b', c') := by
  have h1 := key_w h k l
  rw [e] at h1
  have := keyed_w.inj h1 (key_w h' k' l')
  simp [keyV] at this
  simp [this]
theorem keyL_lit (k : Int × Int × Int) : WideAt.IsKeyLit (keyL k) := by simp [keyL, WideAt.IsKeyLit]

def Pt.val (p : Pt) : Value := .agg p.cells.toArray
def intsP (p : Pt) : Prop := isInt p.ep ∧ isInt p.co ∧ isInt p.se
theorem keyL_iff {p q : Pt} (hp : intsP p) (hq : intsP q) : keyL (keyP p) = keyL (keyP q) ↔ keyP p = keyP q :=
  ⟨fun e => keyL_inj hp.1 hp.2.1 hp.2.2 hq.1 hq.2.1 hq.2.2 e, fun e => by rw [e]⟩
/-- The map in memory: what stands in ps, each under its key. -/
structure MapOf (D : DataW Value) (ps : List Pt) : Prop where
  sorted : SortedP ps
  ints : ∀ p ∈ ps, intsP p
  has : ∀ kl, has D kl = true ↔ ∃ p ∈ ps, kl = keyL (keyP p)
  at_ : ∀ p ∈ ps, ∀ z, D.atKey (keyL (keyP p)) z = .held p.val
  none : ∀ x, intsP x → (∀ p ∈ ps, keyP p ≠ keyP x) → ∀ z, D.atKey (keyL (keyP x)) z = z
def MapW (W : World) (b n : Nat) (ps : List Pt) : Prop := ∃ D : DataW Value, W.ownsMap Try.prog 104 heldC b n D ∧ MapOf D ps
theorem MapW.made (W : World) : MapW (W.alloc (.map #[] 0)) W.heap.size 0 [] :=
  ⟨.map [], World.ownsMap_made W _ _ _, ⟨List.Pairwise.nil, by simp, by simp [Maps.has], by simp, fun x _ _ z => by simp [DataW.atKey]⟩⟩
theorem MapW.lt {W : World} {b n : Nat} {ps : List Pt} (h : MapW W b n ps) : b < W.heap.size := by
  obtain ⟨D, h1, _⟩ := h
  exact h1.lt
theorem MapW.same {W W' : World} {b n : Nat} {ps : List Pt} (h : MapW W b n ps) (hb : W'.heap[b]? = W.heap[b]?) : MapW W' b n ps := by
  obtain ⟨D, ⟨es, clock, h1, h2⟩, h3⟩ := h
  exact ⟨D, ⟨es, clock, hb.trans h1, h2⟩, h3⟩
def zeroPt : Value := .agg #[.int .i64 0, .int .i64 0, .int .i64 0, .slice none 0 0]
theorem zero_part (W : World) : (zeroValue 60).run Try.prog W = .ok zeroPt W := by kernel_rfl
def lookP (ps : List Pt) (x : Pt) : Value := match ps.find? (fun p => decide (keyP p = keyP x)) with | some p => p.val | none => zeroPt
theorem MapW.look {W : World} {b n : Nat} {ps : List Pt} (h : MapW W b n ps) {x : Pt} (hx : intsP x) :
    (Instr.lookup 102 (.map (some b)) (keyV x.ep x.co x.se) false).run Try.prog W = .ok (lookP ps x) W := by
  obtain ⟨D, h1, h2⟩ := h
  obtain ⟨v, q, hrun, hv⟩ := h1.lookup keyed_w Try.underlying102 (zero_part W) (zd := .held zeroPt) (zp := []) rfl (key_w hx.1 hx.2.1 hx.2.2)
  rw [hrun]
  simp only [heldC, Option.some.injEq, Prod.mk.injEq] at hv
  unfold lookP
  cases hf : ps.find? (fun p => decide (keyP p = keyP x)) with
  | none =>
    have hn : ∀ p ∈ ps, keyP p ≠ keyP x := fun p hp => by simpa using List.find?_eq_none.1 hf p hp
    have h3 := h2.none x hx hn (.held zeroPt)
    have h4 := hv.1
    rw [show (x.ep, x.co, x.se) = keyP x from rfl, h3] at h4
    simp at h4
    rw [h4]
  | some p =>
    have hp := List.mem_of_find?_eq_some hf
    have hk : keyP p = keyP x := by simpa using List.find?_some hf
    have h3 := h2.at_ p hp (.held zeroPt)
    have h4 := hv.1
    rw [show (x.ep, x.co, x.se) = keyP x from rfl, ← hk, h3] at h4
    simp at h4
    rw [h4]
theorem MapW.set {W : World} {b n : Nat} {ps : List Pt} (h : MapW W b n ps) (hn : n < maxLen) {x : Pt} (hx : intsP x) (hl : lenAt ps x < x.it.l.length) :
    ∃ W', (Instr.mapUpdate 102 (.map (some b)) (keyV x.ep x.co x.se) x.val).run Try.prog W = .ok () W' ∧ MapW W' b (n + 1) (stepP ps x) ∧ W.grownBy W' (some b) ∧ W'.heap.size = W.heap.size := by
  obtain ⟨D, h1, h2⟩ := h
  obtain ⟨W', hrun, h3, h4⟩ := h1.store keyed_w Try.underlying102 hn (key_w hx.1 hx.2.1 hx.2.2) (d := .held x.val) (ps := []) rfl
  rw [show (x.ep, x.co, x.se) = keyP x from rfl] at h3
  have hput := stepP_yes h2.sorted hl
  refine ⟨W', hrun, ⟨_, h3, ⟨stepP_sorted h2.sorted x, fun p hp => ?_, fun kl => ?_, fun p hp z => ?_, fun y hy hno z => ?_⟩⟩, h4.grown, ?_⟩
  · rcases (hput p).1 hp with rfl | ⟨hp, _⟩
    · exact hx
    · exact h2.ints p hp
  · by_cases hk : kl = keyL (keyP x)
    · subst hk
      rw [Maps.has_put_same h1.isMap (keyL_lit _)]
      simp only [true_iff]
      exact ⟨x, (hput x).2 (.inl rfl), rfl⟩
    · rw [Maps.has_put_other (by exact hk), h2.has kl]
      constructor
      · rintro ⟨p, hp, rfl⟩
        exact ⟨p, (hput p).2 (.inr ⟨hp, fun e => hk (by rw [e])⟩), rfl⟩
      · rintro ⟨p, hp, rfl⟩
        rcases (hput p).1 hp with rfl | ⟨hp, _⟩
        · exact absurd rfl hk
        · exact ⟨p, hp, rfl⟩
  · rcases (hput p).1 hp with rfl | ⟨hp, hne⟩
    · exact Maps.atKey_put_same h1.isMap (keyL_lit _) _ z
    · have : keyL (keyP p) ≠ keyL (keyP x) := fun e => hne ((keyL_iff (h2.ints p hp) hx).1 e)
      rw [Maps.atKey_put_other (by exact this)]
      exact h2.at_ p hp z
  · have hne : keyP y ≠ keyP x := fun e => hno x ((hput x).2 (.inl rfl)) e.symm
    have : keyL (keyP y) ≠ keyL (keyP x) := fun e => hne ((keyL_iff hy hx).1 e)
    rw [Maps.atKey_put_other (by exact this)]
    refine h2.none y hy (fun p hp e => ?_) z
    exact hno p ((hput p).2 (.inr ⟨hp, fun e' => hne (e.symm.trans e')⟩)) e
  · obtain ⟨es, clock, es', clock', _, rfl⟩ := h4
    simp [ChangeMaps.setBlock]
end Go.Proofs.Ytckmpbmlneionaa.L11
end

section
namespace Go.Proofs.Ytckmpbmlneionaa.L11
open Go.ChangeShapes Go.WideShapes Go.ChangeAt Go.RowKit Go.Deep

theorem region_stillC {P : Program} {id : Nat} {Q : Exit → Act → World → Prop} {a : Act} {w : World} {l : List Oper} (hm : P.follows .mixedOrders = true) (hB : Region.lexB .any l.toArray = true)
    (h : Quietly P l.toArray (fun w' => ∃ n : Nat, w' = w.drewN n) (fun a' => ∀ w', (∃ n : Nat, w' = w.drewN n) → Q .normal a' w') l a) : (Code.region id l.toArray true).wp P Q a w :=
  wp_region_quiet (C := fun w' => ∃ n : Nat, w' = w.drewN n) hm hB ⟨1, rfl⟩ (by simpa using h.out)
theorem txt_len (l : List Bytes) : (txt l).length = l.length := by simp [txt]
theorem txt_one (l : List Bytes) : ∀ u ∈ txt l, u.oneCell' = true := fun u hu => by
  obtain ⟨x, _, rfl⟩ := List.mem_map.1 hu
  rfl
theorem txt_append (a b : List Bytes) : txt (a ++ b) = txt a ++ txt b := by simp [txt]
def CloneOut (w : World) (l : List Bytes) (e : Ending) (w' : World) : Prop :=
  ∃ x : It, e = .returned x.v ∧ x.l = l ∧ ItAt w' x ∧ w'.ownsRow w.heap.size 31 1 x.v l.length (txt l) ∧ Below w.heap.size w w'
theorem CloneOut.mk' {w w' : World} {v : Value} {l : List Bytes} (h : w'.ownsRow w.heap.size 31 1 v l.length (txt l)) (hs : ∀ z ∈ l, z.length ≤ maxLen) (hf : l.length ≤ maxLen) (hb : Below w.heap.size w w') : CloneOut w l (.returned v) w' := by
  obtain ⟨x, rfl, h2, h3⟩ := ItAt.of_own h hs hf
  exact ⟨x, rfl, h2, h3, h, hb⟩
set_option maxRecDepth 100000 in
set_option maxHeartbeats 1000000 in
theorem clone_calls (x : It) (w : World) (h : ItAt w x) (hl : x.l.length ≤ 4000000000) : Calls Try.prog 49 #[x.v] w (CloneOut w x.l) := by
  obtain ⟨i0, hi, hz0, hz1, hz2⟩ := info_parts info_term
  obtain ⟨a, c, l⟩ := x
  have hle := h.le
  have hfew := h.few
  have hnil := h.nil
  have hsh := h.short
  have hr := h.reads
  simp only [It.v] at *
  have q22 : ∀ (w : World) (a : Option Addr) (n c n' c' : Nat), (binOp .eql 30 (.slice a n c) (.slice none n' c')).run Try.prog w = .ok (.bool a.isNone) w := fun w a n c n' c' => Lib.run_eql_slice_nil w _ _ a n c n' c' Try.underlying30
  cases a with
  | none =>
    have h0 := hnil rfl
    have hl0 : l = [] := List.eq_nil_of_length_eq_zero (by omega)
    subst hl0
    clear h hr hle hnil hsh
    go_enter Try.func49, Try.ntmps49
    go_wp2
    go_ret
    exact CloneOut.mk' ⟨rfl, .inl ⟨rfl, rfl⟩⟩ (by simp) (by simp) (Below.refl _ _)
  | some ad =>
    have hlit : (w.alloc (.cells #[] 31)).ownsRow w.heap.size 31 1 (.slice (some ⟨w.heap.size, 0, none⟩) 0 0) 0 [] :=
      ⟨rfl, .inr ⟨w.heap.size, 0, #[], rfl, Nat.le_refl _, World.alloc_heap_new _ _, Nat.le_refl _, by decide, rfl, rfl⟩⟩
    have hb : Below w.heap.size w (w.alloc (.cells #[] 31)) := (Below.refl _ w).alloc (Nat.le_refl _) _
    have HNews : Hid (∀ (j : Nat) (u : Value), (txt l)[j]? = some u → (w.alloc (.cells #[] 31)).cell? (ad.add j) = some u) := fun j u hu => by
      rw [txt, List.getElem?_map, Option.map_eq_some_iff] at hu
      obtain ⟨z, hz, rfl⟩ := hu
      obtain ⟨ad', e, h1, h2⟩ := hr j z hz
      cases e
      exact (hb.cell (p := ad.add j) (by rw [addr_blockC]; exact h1)).trans h2
    have HLit := Lib.hid hlit
    have HB := Lib.hid hb
    have HOne := Lib.hid (txt_one l)
    have HLen := Lib.hid (txt_len l)
    have HS := Lib.hid hsh
    have hsz : (w.alloc (.cells #[] 31)).heap.size = w.heap.size + 1 := by simp
    clear h hr hle hnil hsh hlit hb
    go_enter Try.func49, Try.ntmps49
    go_wp2_with (at_builtin; refine wpList_append_own _ rfl _ _ 30 rfl w.heap.size 31 i0 (.string ⟨#[]⟩) 1 16 Try.underlying30 hi hz0 hz1 hz2 rfl (by decide) _ _ _ rfl HLit.out ad l.length c (txt l) rfl (by rw [HLen.out]; omega) HNews.out HOne.out (by unfold maxLen; omega) (by omega) (by omega) ?_; intro v' w' hown hgrow _; have HF : Hid (CloneOut w l (.returned v') w') := (by refine CloneOut.mk' ?_ HS.out (by unfold maxLen; omega) (HB.out.grown hgrow (by omega) (fun k e => by cases e; exact Nat.le_refl _)); have := hown; simp only [Nat.zero_add, List.nil_append] at this; exact this); clear hown hgrow)
    go_ret
    exact HF.out

/-- The texts of a row, in whatever world is above. -/
theorem it_read {w : World} {x : It} (h : ItAt w x) : ∀ (j : Nat) (z : Bytes), x.l[j]? = some z → ∃ ad : Addr, x.a = some ad ∧ ∀ V : World, Below w.heap.size w V → V.cell? (ad.add j) = some (.string ⟨z.toArray⟩) := fun j z hz => by
  obtain ⟨ad, e, h1, h2⟩ := h.reads j z hz
  exact ⟨ad, e, fun V hV => (hV.cell (p := ad.add j) (by rw [addr_blockC]; exact h1)).trans h2⟩
theorem take_nextB (xs : List Bytes) {k : Nat} {x : Bytes} (h : xs[k]? = some x) : xs.take (k + 1) = xs.take k ++ [x] := by
  rw [List.take_add_one, h]; rfl
theorem str_ne {x y : Bytes} (h : x ≠ y) : (x == y) = false := by simpa using h
/-- Between two rounds: as far as one has come they are alike. -/
def SameLoop (w : World) (xs ys : List Bytes) (k : Nat) (v5 : Value) (wr : World) : Prop := ∃ i : Nat, k + i = xs.length ∧ v5 = .int .i64 i ∧ xs.take i = ys.take i ∧ Below w.heap.size w wr

set_option maxRecDepth 100000 in
set_option maxHeartbeats 2000000 in
theorem equal_calls (x y : It) (w : World) (hx : ItAt w x) (hy : ItAt w y) : Calls Try.prog 44 #[x.v, y.v] w (One w (.bool (decide (x.l = y.l)))) := by
  have H1 := Lib.hid (it_read hx)
  have H2 := Lib.hid (it_read hy)
  have f1 := Nat.le_trans hx.le hx.few
  have f2 := Nat.le_trans hy.le hy.few
  obtain ⟨A, c, xs⟩ := x
  obtain ⟨A2, c2, ys⟩ := y
  simp only [It.v] at *
  unfold maxLen at f1 f2
  clear hx hy
  by_cases hn : xs.length = ys.length
  · obtain ⟨r, hr⟩ : ∃ r, decide (xs = ys) = r := ⟨_, rfl⟩
    rw [hr]
    have HR := Lib.hid hr
    have HN := Lib.hid hn
    clear hr
    rw [← hn]
    clear hn f2
    go_enter Try.func44, Try.ntmps44
    go_wp2
    go_loopg [13] xs.length (fun k v5 wr => SameLoop w xs ys k v5 wr)
    case atStart => exact ⟨0, by omega, rfl, by simp, Below.refl _ _⟩
    case round =>
      obtain ⟨i, hk, rfl, hd, hB⟩ := hrel
      by_cases hil : i < xs.length
      · obtain ⟨x, hx⟩ : ∃ x, xs[i]? = some x := ⟨_, List.getElem?_eq_getElem hil⟩
        obtain ⟨y, hy⟩ : ∃ y, ys[i]? = some y := ⟨_, List.getElem?_eq_getElem (by rw [← HN.out]; exact hil)⟩
        obtain ⟨ad, rfl, hcx⟩ := H1.out i x hx
        obtain ⟨ad2, rfl, hcy⟩ := H2.out i y hy
        have c1 := hcx wr hB
        have c2' := hcy wr hB
        have hgk := Lib.hid (show gk - 1 < gk by omega)
        have j1 : (i : Int) < (xs.length : Int) := by omega
        have j2 : (0 : Int) ≤ (i : Int) := by omega
        by_cases hxy : x = y
        · subst hxy
          have HF : Hid (∀ q, SameLoop w xs ys (gk - 1) (.int .i64 ((i + 1 : Nat) : Int)) (wr.drewN q)) := fun q => ⟨i + 1, by omega, rfl, by rw [take_nextB xs hx, take_nextB ys hy, hd], hB.trans (L5.below_drewN (Below.refl _ _) _)⟩
          clear hk hd hx hy hB hcx hcy
          go_wp2
          refine region_stillC (by kernel_rfl) (by kernel_rfl) ?_
          repeat
            (refine Quietly.step (fun K hK => ?_)
             go_simp
             refine hK _ ?_
             clear hK K)
          refine Quietly.none ?_
          rintro w2 ⟨nq, rfl⟩
          go_wp2
          go_roundg (gk - 1)
          case measure => exact hgk.out
          case rel => exact HF.out _
        · have hrf : r = false := by
            rw [← HR.out]
            refine decide_eq_false (fun h => hxy ?_)
            rw [h, hy] at hx
            exact (Option.some.inj hx).symm
          subst hrf
          have HF : Hid (∀ q, Below w.heap.size w (wr.drewN q)) := fun q => hB.trans (L5.below_drewN (Below.refl _ _) _)
          have hne := str_ne hxy
          clear hk hd hx hy hB hcx hcy
          go_wp2
          refine region_stillC (by kernel_rfl) (by kernel_rfl) ?_
          repeat
            (refine Quietly.step (fun K hK => ?_)
             go_simp
             refine hK _ ?_
             clear hK K)
          refine Quietly.none ?_
          rintro w2 ⟨nq, rfl⟩
          go_wp2
          go_ret
          exact ⟨rfl, HF.out _⟩
      · have hrt : r = true := by
          rw [← HR.out]
          refine decide_eq_true ?_
          have hi : i = xs.length := by omega
          rw [hi, List.take_length, HN.out, List.take_length] at hd
          exact hd
        subst hrt
        have HB := Lib.hid hB
        have j1 : ¬ ((i : Int) < (xs.length : Int)) := by omega
        clear hk hd hB
        go_wp2
        go_ret
        exact ⟨rfl, HB.out⟩
  · have e : decide (xs = ys) = false := decide_eq_false (fun h => hn (by rw [h]))
    have hn2 : ¬ (xs.length : Int) = (ys.length : Int) := by omega
    rw [e]
    clear e
    generalize xs.length = n at *
    generalize ys.length = m at *
    go_enter Try.func44, Try.ntmps44
    go_wp2
    go_ret
    exact ⟨rfl, Below.refl _ _⟩
end Go.Proofs.Ytckmpbmlneionaa.L11
end
