/- A row of elements of two cells that may begin in the midst of its block (what is left of a row whose first ones were sliced off): append of elements, and its slice from 1. -/
import Derived.Test.YtlpabhgfmkilnaaPlEach
import Derived.ArgAppend
import Derived.Laws.Rows
import Derived.Deep.Slices
import Derived.Deep.Fields
import Derived.Deep.Onto
namespace Go.Proofs.Ytlpabhgfmkilnaa.L14
open Go.ChangeShapes Go.WideShapes Go.ChangeAt Go.RowKit Go.Deep

structure Rest (w : World) (B : Nat) (e : TypeId) (v : Value) (m : Nat) (xs : List Value) : Prop where
  len : xs.length = 2 * m
  lies : (v = .slice none 0 0 ∧ m = 0) ∨ ∃ g off cap cur, v = .slice (some ⟨g, off, none⟩) m cap ∧ B ≤ g ∧ w.heap[g]? = some (.cells cur e (0, 0)) ∧ m ≤ cap ∧ cap ≤ maxLen ∧ off + 2 * cap ≤ cur.size ∧ ∀ j u, xs[j]? = some u → cur[off + j]? = some u

theorem Rest.of_own {w : World} {B : Nat} {e : TypeId} {v : Value} {n : Nat} {xs : List Value} (h : w.ownsRow B e 2 v n xs) : Rest w B e v n xs := by
  have hl : xs.length = 2 * n := by have := h.1; omega
  refine ⟨hl, ?_⟩
  rcases h.2 with ⟨rfl, h0⟩ | ⟨g, cap, cur, rfl, h1, h2, h3, h4, h5, h6⟩
  · exact .inl ⟨rfl, h0⟩
  · refine .inr ⟨g, 0, cap, cur, rfl, h1, h2, by omega, h4, by omega, fun j u hu => ?_⟩
    have hjl := (List.getElem?_eq_some_iff.1 hu).1
    rw [← h6] at hu
    rw [List.getElem?_take, if_pos (by omega)] at hu
    rw [Nat.zero_add]
    simpa using hu
theorem Rest.slice {w : World} {B : Nat} {e : TypeId} {v : Value} {m : Nat} {xs : List Value} (h : Rest w B e v m xs) : ∃ A c, v = .slice A m c := by
  rcases h.lies with ⟨rfl, rfl⟩ | ⟨g, off, cap, cur, rfl, _⟩
  · exact ⟨none, 0, rfl⟩
  · exact ⟨_, _, rfl⟩
theorem Rest.lt {w : World} {B : Nat} {e : TypeId} {v : Value} {m : Nat} {xs : List Value} (h : Rest w B e v m xs) : ∀ q, v.ownBlock = some q → B ≤ q ∧ q < w.heap.size := by
  intro q hq
  rcases h.lies with ⟨rfl, rfl⟩ | ⟨g, off, cap, cur, rfl, h1, h2, _⟩
  · cases hq
  · cases hq
    exact ⟨h1, (Array.getElem?_eq_some_iff.1 h2).1⟩
theorem Rest.same {w w' : World} {B : Nat} {e : TypeId} {v : Value} {m : Nat} {xs : List Value} (h : Rest w B e v m xs) (hs : ∀ q, v.ownBlock = some q → w'.heap[q]? = w.heap[q]?) : Rest w' B e v m xs := by
  refine ⟨h.len, ?_⟩
  rcases h.lies with ⟨rfl, rfl⟩ | ⟨g, off, cap, cur, rfl, h1, h2, h3⟩
  · exact .inl ⟨rfl, rfl⟩
  · exact .inr ⟨g, off, cap, cur, rfl, h1, (hs g rfl).trans h2, h3⟩
theorem Rest.cells {w : World} {B : Nat} {e : TypeId} {v : Value} {m : Nat} {xs : List Value} (h : Rest w B e v m xs) (h0 : 0 < m) : ∃ g off cap, v = .slice (some ⟨g, off, none⟩) m cap ∧ B ≤ g ∧ g < w.heap.size ∧ m ≤ cap ∧ cap ≤ maxLen ∧ ∀ j u, xs[j]? = some u → w.cell? ⟨g, off + j, none⟩ = some u := by
  rcases h.lies with ⟨rfl, rfl⟩ | ⟨g, off, cap, cur, rfl, h1, h2, h3, h4, h5, h6⟩
  · omega
  · exact ⟨g, off, cap, rfl, h1, (Array.getElem?_eq_some_iff.1 h2).1, h3, h4, fun j u hu => by rw [cell_of_row w g (off + j) cur e (0, 0) h2]; exact h6 j u hu⟩
theorem addr_none (g off j : Nat) : (⟨g, off, none⟩ : Addr).add j = ⟨g, off + j, none⟩ := by
  unfold Addr.add
  split
  · simp_all
  · rfl
theorem setCells_get : ∀ (vs : List Value) (w : World) (g off : Nat) (cur : Array Value) (e : TypeId), w.heap[g]? = some (.cells cur e (0, 0)) → off + vs.length ≤ cur.size →
    ∃ cur', (w.setCells g off vs).heap[g]? = some (.cells cur' e (0, 0)) ∧ cur'.size = cur.size ∧ (∀ j, j < off ∨ off + vs.length ≤ j → cur'[j]? = cur[j]?) ∧ (∀ j u, vs[j]? = some u → cur'[off + j]? = some u) ∧
      (∀ q, q ≠ g → (w.setCells g off vs).heap[q]? = w.heap[q]?) ∧ (w.setCells g off vs).heap.size = w.heap.size ∧ (w.setCells g off vs).os = w.os ∧ (w.setCells g off vs).tape = w.tape ∧ (w.setCells g off vs).output = w.output
  | [], w, g, off, cur, e, h, hl => ⟨cur, h, rfl, fun _ _ => rfl, fun j u hu => by simp at hu, fun _ _ => rfl, rfl, rfl, rfl, rfl⟩
  | x :: vs, w, g, off, cur, e, h, hl => by
    simp only [List.length_cons] at hl
    have hh := heap_setCell_same w g off cur e x h
    obtain ⟨cur', e1, e2, e3, e4, e5, e6, e7, e8, e9⟩ := setCells_get vs (w.setCell ⟨g, off, none⟩ x) g (off + 1) _ e hh (by simp; omega)
    refine ⟨cur', e1, by simpa using e2, fun j hj => ?_, fun j u hu => ?_, fun q hq => (e5 q hq).trans (Below.heap_setCell _ _ _ _ (fun h => hq h)), e6.trans (by simp [World.setCell]), e7, e8, e9⟩
    · simp only [List.length_cons] at hj
      rw [e3 j (by omega), Array.getElem?_setIfInBounds_ne (by omega)]
    · cases j with
      | zero =>
        cases hu
        rw [Nat.add_zero, e3 off (by omega), Array.getElem?_setIfInBounds_self_of_lt (by omega)]
      | succ j =>
        have := e4 j u (by simpa using hu)
        rwa [show off + (j + 1) = off + 1 + j by omega]

/-- append of elements. -/
theorem run_append_rest {P : Program} {w : World} (B : Nat) (t ty e : TypeId) (i : TypeInfo) (z : Value) (bytes : Nat) (ht : P.underlying t = some (.slice e)) (hi : P.info? e = some i) (hz : i.zero = some z)
    (hsize : i.size = 2) (hby : i.bytes = bytes) (hzs : z.cells.size = 2) (v : Value) (m : Nat) (xs : List Value) (h : Rest w B e v m xs)
    (a : Addr) (k c : Nat) (news : List Value) (hl : news.length = 2 * k) (hx : ∀ j u, news[j]? = some u → w.cell? (a.add j) = some u) (h1 : ∀ u ∈ news, u.oneCell' = true) (h63 : m + k ≤ maxLen) (hbytes : (m + k) * bytes ≤ 140737488355328) (hbase : B ≤ w.heap.size) :
    ∃ v' w', (Builtin.append_ #[t, t] ty #[v, .slice (some a) k c]).run P w = .ok v' w' ∧ Rest w' B e v' (m + k) (xs ++ news) ∧ w.grownBy w' v.ownBlock ∧ (v'.ownBlock = v.ownBlock ∨ ∀ q, v'.ownBlock = some q → w.heap.size ≤ q) := by
  have hlx := h.len
  rcases h.lies with ⟨rfl, rfl⟩ | ⟨g, off, cap, cur, rfl, h2, h3, h4, h5, h6, h7⟩
  · have hxs : xs = [] := List.length_eq_zero_iff.1 (by omega)
    subst hxs
    obtain ⟨v', w', hr, ho, hg, _⟩ := run_append_own (P := P) w w.heap.size t ty e i z 2 bytes ht hi hz hsize hby hzs (by decide) (.slice none 0 0) 0 [] (World.ownsRow_nil _ _ _ _) a k c news (by omega) hx h1 h63 hbytes (Nat.le_refl _)
    exact ⟨v', w', hr, Rest.of_own (World.ownsRow.mono ho hbase), hg, .inr fun q hq => (ho.lt q hq).1⟩
  · by_cases hroom : m + k ≤ cap
    · have hr := run_append_room_cells (P := P) w t ty e i ht hi g off m cap a k c news (by rw [hsize]; omega) hx h1 hroom
        (fun j hj => by rw [hsize, cell_of_row w g _ cur e (0, 0) h3, Array.getElem?_eq_getElem (by omega)]; rfl)
        (fun j hj => frozen_of_row w g _ cur e h3)
      rw [hsize] at hr
      obtain ⟨cur', e1, e2, e3, e4, e5, e6, e7, e8, e9⟩ := setCells_get news w g (off + m * 2) cur e h3 (by omega)
      refine ⟨_, _, hr, ⟨by rw [List.length_append]; omega, .inr ⟨g, off, cap, cur', rfl, h2, e1, hroom, h5, by omega, fun j u hu => ?_⟩⟩, ⟨e7, e8, e9, by omega, fun q hq hne => e5 q (fun e => hne (by rw [Value.ownBlock, e]))⟩, .inl rfl⟩
      by_cases hj : j < xs.length
      · rw [List.getElem?_append_left hj] at hu
        rw [e3 _ (by omega)]
        exact h7 j u hu
      · rw [List.getElem?_append_right (by omega)] at hu
        have := e4 _ u hu
        rwa [show off + m * 2 + (j - xs.length) = off + j by omega] at this
    · have hholds : ∀ j u, xs[j]? = some u → w.cell? ((⟨g, off, none⟩ : Addr).add j) = some u := fun j u hu => by
        rw [addr_none, cell_of_row w g _ cur e (0, 0) h3]
        exact h7 j u hu
      obtain ⟨v', w', hr, ho, hg⟩ := run_append_arg_grows (P := P) w t ty e i z 2 bytes ht hi hz hsize hby hzs (by decide) ⟨g, off, none⟩ m cap xs (by omega) hholds a k c news (by omega) hx (by omega) h63 hbytes
      exact ⟨v', w', hr, Rest.of_own (World.ownsRow.mono ho hbase), ⟨hg.os, hg.tape, hg.output, hg.size, fun k hk _ => hg.block k hk (by simp)⟩, .inr fun q hq => (ho.lt q hq).1⟩

/-- .. for the walk. -/
theorem wpListIn_append_rest {P : Program} {F : Fence} {n : Nat} {w : World} {ops : Array Oper} {rest : List Oper} {o : Oper} {a : Act} {Q : Exit → Act → World → Prop} (hg : o.guard = none) (s x : Operand) (t : TypeId)
    (ho : o.op = .call { callee := .builtin .append, args := #[s, x], argTypes := #[t, t] })
    (B : Nat) (e : TypeId) (i : TypeInfo) (z : Value) (bytes : Nat) (ht : P.underlying t = some (.slice e)) (hi : P.info? e = some i) (hz : i.zero = some z)
    (hsize : i.size = 2) (hby : i.bytes = bytes) (hzs : z.cells.size = 2) (v : Value) (m : Nat) (xs : List Value) (hs : a.eval s = v) (h : Rest w B e v m xs)
    (ad : Addr) (k c : Nat) (news : List Value) (hx : a.eval x = .slice (some ad) k c) (hl : news.length = 2 * k) (hy : ∀ j u, news[j]? = some u → w.cell? (ad.add j) = some u) (h1 : ∀ u ∈ news, u.oneCell' = true) (h63 : m + k ≤ maxLen) (hbytes : (m + k) * bytes ≤ 140737488355328) (hbase : B ≤ w.heap.size)
    (hk : ∀ v' w', Rest w' B e v' (m + k) (xs ++ news) → w.grownBy w' v.ownBlock → (v'.ownBlock = v.ownBlock ∨ ∀ q, v'.ownBlock = some q → w.heap.size ≤ q) → wpListIn F n P ops Q rest (a.put o.dst v') w') :
    wpListIn F n P ops Q (o :: rest) a w := by
  refine wpListIn_plain hg fun K hK => ?_
  obtain ⟨v', w', hr, h2, h3, h4⟩ := run_append_rest (P := P) B t o.type e i z bytes ht hi hz hsize hby hzs v m xs h ad k c news hl hy h1 h63 hbytes hbase
  unfold Oper.wpIn
  refine ⟨?_, ?_⟩
  · simp [Oper.about, ho, resolve, Target.leads, Sem.run_pure]
  · rw [Oper.semAt_plain F _ _ (by rw [ho]; intro c hc'; cases hc')]
    simp [execOp, ho, resolve, invoke, builtin, hs, hx, hr, Result.andThen]
    exact hK _ _ (hk v' w' h2 h3 h4)

/-- The slice from 1. -/
theorem Rest.rest {w : World} {B : Nat} {e : TypeId} {g off cap m : Nat} {y1 y2 : Value} {xs : List Value} (h : Rest w B e (.slice (some ⟨g, off, none⟩) (m + 1) cap) (m + 1) (y1 :: y2 :: xs)) : m + 1 ≤ cap ∧ cap ≤ maxLen ∧ Rest w B e (.slice (some ⟨g, off + 2, none⟩) m (cap - 1)) m xs ∧ (cap = 1 → Rest w B e (.slice (some ⟨g, off, none⟩) 0 0) m xs) := by
  have hl := h.len
  simp only [List.length_cons] at hl
  rcases h.lies with ⟨h0, _⟩ | ⟨g', off', cap', cur, e1, h2, h3, h4, h5, h6, h7⟩
  · cases h0
  · cases e1
    refine ⟨h4, h5, ⟨by omega, .inr ⟨g, off + 2, cap - 1, cur, rfl, h2, h3, by omega, by omega, by omega, fun j u hu => ?_⟩⟩, fun hc => ?_⟩
    · have := h7 (j + 2) u (by simpa using hu)
      rwa [show off + 2 + j = off + (j + 2) by omega]
    · have hm : m = 0 := by omega
      subst hm
      refine ⟨by omega, .inr ⟨g, off, 0, cur, rfl, h2, h3, by omega, by omega, by omega, fun j u hu => ?_⟩⟩
      have hx : xs = [] := List.length_eq_zero_iff.1 (by omega)
      rw [hx] at hu
      simp at hu

end Go.Proofs.Ytlpabhgfmkilnaa.L14
