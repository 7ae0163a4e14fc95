/- Logs, parts and reports, as their cells lie in memory; parts by their keys. -/
import Derived.Test.YtkalmfhebffklaaWBase
import Derived.Test.YtkalmfhebffklaaTop
import Derived.Deep.OwnRows
import Derived.Deep.Slices
namespace Go.Proofs.Ytkalmfhebffklaa.L11
open Go.ChangeShapes Go.WideShapes Go.ChangeAt Go.RowKit Go.Deep

abbrev Bytes := List UInt8
def isInt (a : Int) : Prop := -9223372036854775808 ≤ a ∧ a ≤ 9223372036854775807
theorem addr_blockC (ad : Addr) (i : Nat) : (ad.add i).block = ad.block := by unfold Addr.add; split <;> rfl
theorem addr_offC (ad : Addr) (i : Nat) : (ad.add i).off = ad.off + i := by
  unfold Addr.add; split
  · subst_vars; rfl
  · rfl
theorem add_some (ad : Addr) (m i : Nat) (h : 0 < i) : ad.add (m + i) = ⟨(ad.add m).block, (ad.add m).off + i, none⟩ := by
  rw [addr_blockC, addr_offC]
  unfold Addr.add
  rw [if_neg (by omega), Nat.add_assoc]
def txt (l : List Bytes) : List Value := l.map fun z => .string ⟨z.toArray⟩

/-- A row of texts: where it lies, its room, and the texts. -/
structure It where
  a : Option Addr
  c : Nat
  l : List Bytes
def It.v (x : It) : Value := .slice x.a x.l.length x.c
structure ItAt (w : World) (x : It) : Prop where
  le : x.l.length ≤ x.c
  few : x.c ≤ maxLen
  nil : x.a = none → x.c = 0
  short : ∀ z ∈ x.l, z.length ≤ maxLen
  reads : ∀ (j : Nat) (z : Bytes), x.l[j]? = some z → ∃ ad : Addr, x.a = some ad ∧ ad.block < w.heap.size ∧ w.cell? (ad.add j) = some (.string ⟨z.toArray⟩)
theorem ItAt.below {w W : World} {x : It} (h : ItAt w x) (hb : Below w.heap.size w W) : ItAt W x :=
  ⟨h.le, h.few, h.nil, h.short, fun j z hz => by
    obtain ⟨ad, e, h1, h2⟩ := h.reads j z hz
    exact ⟨ad, e, Nat.lt_of_lt_of_le h1 hb.size, (hb.cell (p := ad.add j) (by rw [addr_blockC]; exact h1)).trans h2⟩⟩

structure Lg where
  se : Int
  it : It
structure Pt where
  ep : Int
  co : Int
  se : Int
  it : It
structure Rp where
  fr : Int
  ep : Int
  co : Int
  lv : Value
  lg : List Lg
def Lg.cells (g : Lg) : List Value := [.int .i64 g.se, g.it.v]
def Pt.cells (p : Pt) : List Value := [.int .i64 p.ep, .int .i64 p.co, .int .i64 p.se, p.it.v]
def Rp.cells (r : Rp) : List Value := [.int .i64 r.fr, .int .i64 r.ep, .int .i64 r.co, r.lv]

/-- Elements of k cells each, one behind the other. -/
def CellsA (k : Nat) (w : World) (v : Value) (cs : List (List Value)) : Prop :=
  ∃ A c, v = .slice A cs.length c ∧ cs.length ≤ maxLen ∧ ∀ j x, cs[j]? = some x → ∃ ad : Addr, A = some ad ∧ ad.block < w.heap.size ∧ ∀ i u, x[i]? = some u → w.cell? (ad.add (j * k + i)) = some u
theorem CellsA.below {k : Nat} {w W : World} {v : Value} {cs : List (List Value)} (h : CellsA k w v cs) (hb : Below w.heap.size w W) : CellsA k W v cs := by
  obtain ⟨A, c, e, hf, hr⟩ := h
  refine ⟨A, c, e, hf, fun j x hx => ?_⟩
  obtain ⟨ad, e2, h1, h2⟩ := hr j x hx
  exact ⟨ad, e2, Nat.lt_of_lt_of_le h1 hb.size, fun i u hu => (hb.cell (p := ad.add (j * k + i)) (by rw [addr_blockC]; exact h1)).trans (h2 i u hu)⟩
theorem flat_at {k : Nat} : ∀ {cs : List (List Value)}, (∀ x ∈ cs, x.length = k) → ∀ {j : Nat} {x : List Value}, cs[j]? = some x → ∀ i, i < k → cs.flatten[j * k + i]? = x[i]?
  | [], _, j, x, h => by simp at h
  | a :: l, hk, 0, x, h => by
    simp at h
    subst h
    intro i hi
    rw [List.flatten_cons, List.getElem?_append_left (by rw [hk a (by simp)]; omega)]
    congr 1
    omega
  | a :: l, hk, j + 1, x, h => by
    intro i hi
    have ha := hk a (by simp)
    have e : (j + 1) * k + i - k = j * k + i := by rw [Nat.succ_mul]; omega
    rw [List.flatten_cons, List.getElem?_append_right (by rw [ha, Nat.succ_mul]; omega), ha, e]
    exact flat_at (fun y hy => hk y (by simp [hy])) (by simpa using h) i hi
theorem flat_len {k : Nat} {cs : List (List Value)} (h : ∀ x ∈ cs, x.length = k) : cs.flatten.length = cs.length * k := by
  induction cs with
  | nil => simp
  | cons a l ih => rw [List.flatten_cons, List.length_append, h a (by simp), ih (fun y hy => h y (by simp [hy])), List.length_cons, Nat.succ_mul]; omega
theorem add_zeroC (g j : Nat) : (⟨g, 0, none⟩ : Addr).add j = ⟨g, j, none⟩ := by
  by_cases h : j = 0
  · subst h; simp [Addr.add]
  · simp [Addr.add, h]
theorem CellsA.of_own {k : Nat} {w : World} {B : Nat} {e : TypeId} {v : Value} {cs : List (List Value)} (h : w.ownsRow B e k v cs.length cs.flatten) (hk : ∀ x ∈ cs, x.length = k) (hf : cs.length ≤ maxLen) : CellsA k w v cs := by
  have h' := h
  rcases h.2 with ⟨rfl, h0⟩ | ⟨g, cap, cur, rfl, _, hg, _⟩
  · have : cs = [] := List.length_eq_zero_iff.1 h0
    subst this
    exact ⟨none, 0, rfl, hf, fun j x hx => by simp at hx⟩
  · refine ⟨some ⟨g, 0, none⟩, cap, rfl, hf, fun j x hx => ⟨_, rfl, (h'.lt g rfl).2, fun i u hu => ?_⟩⟩
    have hx2 : x.length = k := hk x (List.mem_of_getElem? hx)
    have hi : i < k := by rw [← hx2]; exact (List.getElem?_eq_some_iff.1 hu).1
    exact h'.cells (g := g) rfl (j * k + i) u (by rw [flat_at hk hx i hi]; exact hu)

structure LogsA (w : World) (v : Value) (ls : List Lg) : Prop where
  cells : CellsA 2 w v (ls.map Lg.cells)
  its : ∀ l ∈ ls, ItAt w l.it ∧ isInt l.se
structure PartsA (w : World) (v : Value) (ps : List Pt) : Prop where
  cells : CellsA 4 w v (ps.map Pt.cells)
  its : ∀ p ∈ ps, ItAt w p.it ∧ isInt p.ep ∧ isInt p.co ∧ isInt p.se
structure RepsA (w : World) (v : Value) (rs : List Rp) : Prop where
  cells : CellsA 4 w v (rs.map Rp.cells)
  its : ∀ r ∈ rs, LogsA w r.lv r.lg ∧ isInt r.ep ∧ isInt r.co
theorem LogsA.below {w W : World} {v : Value} {ls : List Lg} (h : LogsA w v ls) (hb : Below w.heap.size w W) : LogsA W v ls := ⟨h.cells.below hb, fun l hl => ⟨(h.its l hl).1.below hb, (h.its l hl).2⟩⟩
theorem PartsA.below {w W : World} {v : Value} {ls : List Pt} (h : PartsA w v ls) (hb : Below w.heap.size w W) : PartsA W v ls := ⟨h.cells.below hb, fun l hl => ⟨(h.its l hl).1.below hb, (h.its l hl).2⟩⟩
theorem RepsA.below {w W : World} {v : Value} {ls : List Rp} (h : RepsA w v ls) (hb : Below w.heap.size w W) : RepsA W v ls := ⟨h.cells.below hb, fun l hl => ⟨(h.its l hl).1.below hb, (h.its l hl).2⟩⟩

theorem LogsA.get {w : World} {v : Value} {ls : List Lg} (h : LogsA w v ls) : ∃ A c, v = .slice A ls.length c ∧ ls.length ≤ maxLen ∧ ∀ j l, ls[j]? = some l → ∃ ad : Addr, A = some ad ∧ ad.block < w.heap.size ∧
    w.cell? (ad.add (j * 2)) = some (.int .i64 l.se) ∧ w.cell? ⟨(ad.add (j * 2)).block, (ad.add (j * 2)).off + 1, none⟩ = some l.it.v ∧ ItAt w l.it ∧ isInt l.se := by
  obtain ⟨A, c, e, hf, hr⟩ := h.cells
  rw [List.length_map] at e hf
  refine ⟨A, c, e, hf, fun j l hl => ?_⟩
  obtain ⟨ad, e2, h1, h2⟩ := hr j l.cells (by rw [List.getElem?_map, hl]; rfl)
  refine ⟨ad, e2, h1, h2 0 _ rfl, ?_, h.its l (List.mem_of_getElem? hl)⟩
  rw [← add_some _ _ _ (by decide)]
  exact h2 1 _ rfl
theorem PartsA.get {w : World} {v : Value} {ls : List Pt} (h : PartsA w v ls) : ∃ A c, v = .slice A ls.length c ∧ ls.length ≤ maxLen ∧ ∀ j l, ls[j]? = some l → ∃ ad : Addr, A = some ad ∧ ad.block < w.heap.size ∧
    w.cell? (ad.add (j * 4)) = some (.int .i64 l.ep) ∧ w.cell? ⟨(ad.add (j * 4)).block, (ad.add (j * 4)).off + 1, none⟩ = some (.int .i64 l.co) ∧ w.cell? ⟨(ad.add (j * 4)).block, (ad.add (j * 4)).off + 2, none⟩ = some (.int .i64 l.se) ∧
    w.cell? ⟨(ad.add (j * 4)).block, (ad.add (j * 4)).off + 3, none⟩ = some l.it.v ∧ ItAt w l.it ∧ isInt l.ep ∧ isInt l.co ∧ isInt l.se := by
  obtain ⟨A, c, e, hf, hr⟩ := h.cells
  rw [List.length_map] at e hf
  refine ⟨A, c, e, hf, fun j l hl => ?_⟩
  obtain ⟨ad, e2, h1, h2⟩ := hr j l.cells (by rw [List.getElem?_map, hl]; rfl)
  refine ⟨ad, e2, h1, h2 0 _ rfl, ?_, ?_, ?_, h.its l (List.mem_of_getElem? hl)⟩
  · rw [← add_some _ _ _ (by decide)]; exact h2 1 _ rfl
  · rw [← add_some _ _ _ (by decide)]; exact h2 2 _ rfl
  · rw [← add_some _ _ _ (by decide)]; exact h2 3 _ rfl
theorem RepsA.get {w : World} {v : Value} {ls : List Rp} (h : RepsA w v ls) : ∃ A c, v = .slice A ls.length c ∧ ls.length ≤ maxLen ∧ ∀ j l, ls[j]? = some l → ∃ ad : Addr, A = some ad ∧ ad.block < w.heap.size ∧
    w.cell? (ad.add (j * 4)) = some (.int .i64 l.fr) ∧ w.cell? ⟨(ad.add (j * 4)).block, (ad.add (j * 4)).off + 1, none⟩ = some (.int .i64 l.ep) ∧ w.cell? ⟨(ad.add (j * 4)).block, (ad.add (j * 4)).off + 2, none⟩ = some (.int .i64 l.co) ∧
    w.cell? ⟨(ad.add (j * 4)).block, (ad.add (j * 4)).off + 3, none⟩ = some l.lv ∧ LogsA w l.lv l.lg ∧ isInt l.ep ∧ isInt l.co := by
  obtain ⟨A, c, e, hf, hr⟩ := h.cells
  rw [List.length_map] at e hf
  refine ⟨A, c, e, hf, fun j l hl => ?_⟩
  obtain ⟨ad, e2, h1, h2⟩ := hr j l.cells (by rw [List.getElem?_map, hl]; rfl)
  refine ⟨ad, e2, h1, h2 0 _ rfl, ?_, ?_, ?_, h.its l (List.mem_of_getElem? hl)⟩
  · rw [← add_some _ _ _ (by decide)]; exact h2 1 _ rfl
  · rw [← add_some _ _ _ (by decide)]; exact h2 2 _ rfl
  · rw [← add_some _ _ _ (by decide)]; exact h2 3 _ rfl

def flatG (l : List Lg) : List Value := (l.map Lg.cells).flatten
def flatP (l : List Pt) : List Value := (l.map Pt.cells).flatten
theorem flatG_snoc (l : List Lg) (x : Lg) : flatG (l ++ [x]) = flatG l ++ x.cells := by simp [flatG]
theorem flatP_snoc (l : List Pt) (x : Pt) : flatP (l ++ [x]) = flatP l ++ x.cells := by simp [flatP]
theorem lg_two (l : List Lg) : ∀ x ∈ l.map Lg.cells, x.length = 2 := fun x hx => by
  obtain ⟨g, _, rfl⟩ := List.mem_map.1 hx; rfl
theorem pt_four (l : List Pt) : ∀ x ∈ l.map Pt.cells, x.length = 4 := fun x hx => by
  obtain ⟨g, _, rfl⟩ := List.mem_map.1 hx; rfl
theorem rp_four (l : List Rp) : ∀ x ∈ l.map Rp.cells, x.length = 4 := fun x hx => by
  obtain ⟨g, _, rfl⟩ := List.mem_map.1 hx; rfl
theorem LogsA.of_own {w : World} {B : Nat} {e : TypeId} {v : Value} {ls : List Lg} (h : w.ownsRow B e 2 v ls.length (flatG ls)) (hf : ls.length ≤ maxLen) (hi : ∀ l ∈ ls, ItAt w l.it ∧ isInt l.se) : LogsA w v ls :=
  ⟨.of_own (B := B) (e := e) (by rw [List.length_map]; exact h) (lg_two ls) (by rw [List.length_map]; exact hf), hi⟩
theorem PartsA.of_own {w : World} {B : Nat} {e : TypeId} {v : Value} {ls : List Pt} (h : w.ownsRow B e 4 v ls.length (flatP ls)) (hf : ls.length ≤ maxLen) (hi : ∀ p ∈ ls, ItAt w p.it ∧ isInt p.ep ∧ isInt p.co ∧ isInt p.se) : PartsA w v ls :=
  ⟨.of_own (B := B) (e := e) (by rw [List.length_map]; exact h) (pt_four ls) (by rw [List.length_map]; exact hf), hi⟩
theorem flatG_one (l : List Lg) : ∀ u ∈ flatG l, u.oneCell' = true := by
  intro u hu
  obtain ⟨cs, hcs, h⟩ := List.mem_flatten.1 hu
  obtain ⟨d, _, rfl⟩ := List.mem_map.1 hcs
  simp only [Lg.cells, It.v, List.mem_cons, List.not_mem_nil, or_false] at h
  rcases h with rfl | rfl <;> rfl
theorem flatP_one (l : List Pt) : ∀ u ∈ flatP l, u.oneCell' = true := by
  intro u hu
  obtain ⟨cs, hcs, h⟩ := List.mem_flatten.1 hu
  obtain ⟨d, _, rfl⟩ := List.mem_map.1 hcs
  simp only [Pt.cells, It.v, List.mem_cons, List.not_mem_nil, or_false] at h
  rcases h with rfl | rfl | rfl | rfl <;> rfl
/-- A row of texts that the call owns. -/
theorem ItAt.of_own {w : World} {B : Nat} {e : TypeId} {v : Value} {zs : List Bytes} (h : w.ownsRow B e 1 v zs.length (txt zs)) (hs : ∀ z ∈ zs, z.length ≤ maxLen) (_hf : zs.length ≤ maxLen) : ∃ x : It, v = x.v ∧ x.l = zs ∧ (ItAt w x) := by
  have h' := h
  rcases h.2 with ⟨rfl, h0⟩ | ⟨g, cap, cur, rfl, _, hg, hc, h1, h2, h3⟩
  · have : zs = [] := List.length_eq_zero_iff.1 h0
    subst this
    exact ⟨⟨none, 0, []⟩, rfl, rfl, ⟨Nat.le_refl _, by simp, fun _ => rfl, by simp, fun j z hz => by simp at hz⟩⟩
  · exact ⟨⟨some ⟨g, 0, none⟩, cap, zs⟩, rfl, rfl, ⟨by simpa using hc, h1, (fun e => by cases e), hs, fun j z hz => ⟨_, rfl, (h'.lt g rfl).2, h'.cells (g := g) rfl j _ (by rw [txt, List.getElem?_map, hz]; rfl)⟩⟩⟩
end Go.Proofs.Ytkalmfhebffklaa.L11
