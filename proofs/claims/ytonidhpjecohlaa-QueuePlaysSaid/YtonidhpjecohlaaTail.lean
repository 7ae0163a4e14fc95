/- A row of one-cell elements that may begin in the midst of its block (what is left of a row whose first ones were sliced off): append of one element, and its slice from 1. -/
import Derived.Test.YtonidhpjecohlaaWBase
import Derived.ArgAppend
import Derived.Deep.Onto
namespace Go.Proofs.Ytonidhpjecohlaa.L5
open Go.ChangeShapes Go.WideShapes Go.ChangeAt Go.RowKit Go.Deep

structure Tail (w : World) (B : Nat) (e : TypeId) (v : Value) (xs : List Value) : Prop where
  lies : (v = .slice none 0 0 ∧ xs = []) ∨ ∃ g off cap cur, v = .slice (some ⟨g, off, none⟩) xs.length cap ∧ B ≤ g ∧ w.heap[g]? = some (.cells cur e (0, 0)) ∧ xs.length ≤ cap ∧ cap ≤ maxLen ∧ off + cap ≤ cur.size ∧ ∀ j u, xs[j]? = some u → cur[off + j]? = some u

theorem Tail.nil (w : World) (B : Nat) (e : TypeId) : Tail w B e (.slice none 0 0) [] := ⟨.inl ⟨rfl, rfl⟩⟩
theorem Tail.of_own {w : World} {B : Nat} {e : TypeId} {v : Value} {n : Nat} {xs : List Value} (h : w.ownsRow B e 1 v n xs) : Tail w B e v xs := by
  have hl : xs.length = n := by have := h.1; omega
  rcases h.2 with ⟨rfl, h0⟩ | ⟨g, cap, cur, rfl, h1, h2, h3, h4, h5, h6⟩
  · exact ⟨.inl ⟨rfl, List.length_eq_zero_iff.1 (by omega)⟩⟩
  · refine ⟨.inr ⟨g, 0, cap, cur, by rw [hl], h1, h2, by omega, h4, by omega, fun j u hu => ?_⟩⟩
    have hjl := (List.getElem?_eq_some_iff.1 hu).1
    rw [← h6] at hu
    rw [List.getElem?_take, if_pos (by omega)] at hu
    rw [Nat.zero_add]
    simpa using hu
theorem Tail.slice {w : World} {B : Nat} {e : TypeId} {v : Value} {xs : List Value} (h : Tail w B e v xs) : ∃ A c, v = .slice A xs.length c := by
  rcases h.lies with ⟨rfl, rfl⟩ | ⟨g, off, cap, cur, rfl, _⟩
  · exact ⟨none, 0, rfl⟩
  · exact ⟨_, _, rfl⟩
theorem Tail.lt {w : World} {B : Nat} {e : TypeId} {v : Value} {xs : List Value} (h : Tail w B e v xs) : ∀ q, v.ownBlock = some q → B ≤ q ∧ q < w.heap.size := by
  intro q hq
  rcases h.lies with ⟨rfl, rfl⟩ | ⟨g, off, cap, cur, rfl, h1, h2, _⟩
  · cases hq
  · cases hq
    exact ⟨h1, (Array.getElem?_eq_some_iff.1 h2).1⟩
theorem Tail.kind {w : World} {B : Nat} {e : TypeId} {v : Value} {xs : List Value} (h : Tail w B e v xs) : ∀ q, v.ownBlock = some q → ∃ cur, w.heap[q]? = some (.cells cur e (0, 0)) := by
  intro q hq
  rcases h.lies with ⟨rfl, rfl⟩ | ⟨g, off, cap, cur, rfl, h1, h2, _⟩
  · cases hq
  · cases hq
    exact ⟨cur, h2⟩
theorem Tail.same {w w' : World} {B : Nat} {e : TypeId} {v : Value} {xs : List Value} (h : Tail w B e v xs) (hs : ∀ q, v.ownBlock = some q → w'.heap[q]? = w.heap[q]?) : Tail w' B e v xs := by
  rcases h.lies with ⟨rfl, rfl⟩ | ⟨g, off, cap, cur, rfl, h1, h2, h3⟩
  · exact Tail.nil _ _ _
  · exact ⟨.inr ⟨g, off, cap, cur, rfl, h1, (hs g rfl).trans h2, h3⟩⟩
theorem Tail.below {w w' : World} {B : Nat} {e : TypeId} {v : Value} {xs : List Value} (h : Tail w B e v xs) (hb : Below w.heap.size w w') : Tail w' B e v xs := h.same (fun q hq => hb.block q (h.lt q hq).2)
theorem Tail.cellAt {w : World} {B : Nat} {e : TypeId} {v : Value} {xs : List Value} (h : Tail w B e v xs) {j : Nat} {u : Value} (hu : xs[j]? = some u) : ∃ ad : Addr, ∃ n c, v = .slice (some ad) n c ∧ ad.spot = none ∧ ad.block < w.heap.size ∧ w.cell? (ad.add j) = some u ∧ w.cell? ⟨ad.block, ad.off + j, none⟩ = some u := by
  rcases h.lies with ⟨rfl, rfl⟩ | ⟨g, off, cap, cur, rfl, h1, h2, h3, h4, h5, h6⟩
  · simp at hu
  · have hc : w.cell? ⟨g, off + j, none⟩ = some u := by
      rw [cell_of_row w g (off + j) cur e (0, 0) h2]
      exact h6 j u hu
    have e2 : (⟨g, off, none⟩ : Addr).add j = ⟨g, off + j, none⟩ := by
      unfold Addr.add
      split
      · simp_all
      · rfl
    exact ⟨⟨g, off, none⟩, _, cap, rfl, rfl, (Array.getElem?_eq_some_iff.1 h2).1, by rw [e2]; exact hc, hc⟩

/-- append of one element. -/
theorem run_append_tail {P : Program} {w : World} (B : Nat) (t ty e : TypeId) (i : TypeInfo) (z : Value) (bytes : Nat) (ht : P.underlying t = some (.slice e)) (hi : P.info? e = some i) (hz : i.zero = some z)
    (hsize : i.size = 1) (hby : i.bytes = bytes) (hzs : z.cells.size = 1) (v : Value) (xs : List Value) (h : Tail w B e v xs)
    (a : Addr) (c : Nat) (x : Value) (hx : w.cell? a = some x) (h1 : x.oneCell' = true) (h63 : xs.length + 1 ≤ maxLen) (hbytes : (xs.length + 1) * bytes ≤ 140737488355328) (hbase : B ≤ w.heap.size) :
    ∃ v' w', (Builtin.append_ #[t, t] ty #[v, .slice (some a) 1 c]).run P w = .ok v' w' ∧ Tail w' B e v' (xs ++ [x]) ∧ w.grownBy w' v.ownBlock ∧ (v'.ownBlock = v.ownBlock ∨ ∀ q, v'.ownBlock = some q → w.heap.size ≤ q) := by
  have hnews : ∀ j u, [x][j]? = some u → w.cell? (a.add j) = some u := fun j u hu => by
    cases j with
    | zero => cases hu; rw [Addr.add, if_pos rfl]; exact hx
    | succ j => simp at hu
  have hone : ∀ u ∈ [x], u.oneCell' = true := fun u hu => by simp at hu; rw [hu]; exact h1
  rcases h.lies with ⟨rfl, rfl⟩ | ⟨g, off, cap, cur, rfl, h2, h3, h4, h5, h6, h7⟩
  · obtain ⟨v', w', hr, ho, hg, _⟩ := run_append_own (P := P) w w.heap.size t ty e i z 1 bytes ht hi hz hsize hby hzs (by decide) (.slice none 0 0) 0 [] (World.ownsRow_nil _ _ _ _) a 1 c [x] rfl hnews hone (by simpa using h63) (by simpa using hbytes) (Nat.le_refl _)
    exact ⟨v', w', hr, Tail.of_own (World.ownsRow.mono ho hbase), hg, .inr fun q hq => (ho.lt q hq).1⟩
  · by_cases hroom : xs.length + 1 ≤ cap
    · have hlt : off + xs.length < cur.size := by omega
      have hcell : w.cell? ⟨g, off + xs.length, none⟩ = some cur[off + xs.length] := by
        rw [cell_of_row w g _ cur e (0, 0) h3]
        exact Array.getElem?_eq_getElem hlt
      have hr := run_append_room_cells (P := P) w t ty e i ht hi g off xs.length cap a 1 c [x] (by simp [hsize]) hnews hone hroom
        (fun j hj => by obtain rfl : j = 0 := by simpa using hj
                        rw [hsize]; simp only [Nat.mul_one, Nat.add_zero]; rw [hcell]; rfl)
        (fun j hj => frozen_of_row w g _ cur e h3)
      have hset : w.setCells g (off + xs.length * i.size) [x] = w.setCell ⟨g, off + xs.length, none⟩ x := by
        rw [hsize, Nat.mul_one]
        rfl
      rw [hset] at hr
      have hh := heap_setCell_same w g (off + xs.length) cur e x h3
      refine ⟨_, _, hr, ⟨.inr ⟨g, off, cap, _, by simp, h2, hh, by simpa using hroom, h5, by simpa using h6, fun j u hu => ?_⟩⟩, ?_, .inl rfl⟩
      · by_cases hj : j < xs.length
        · rw [List.getElem?_append_left hj] at hu
          rw [Array.getElem?_setIfInBounds_ne (by omega)]
          exact h7 j u hu
        · rw [List.getElem?_append_right (by omega)] at hu
          have hj0 : j - xs.length = 0 := by
            rcases Nat.eq_zero_or_pos (j - xs.length) with h0 | h0
            · exact h0
            · rw [List.getElem?_eq_none (by simp; omega)] at hu; cases hu
          rw [hj0] at hu
          cases hu
          rw [show off + j = off + xs.length by omega, Array.getElem?_setIfInBounds_self_of_lt hlt]
      · have hk := World.keptBut_setCell (may := fun p => p.block = g) w ⟨g, off + xs.length, none⟩ x rfl
        exact ⟨hk.1, rfl, hk.2.1, by simp, fun k hk2 hne => by
          refine hk.block hk2 (fun p hp e => hne ?_)
          rw [Value.ownBlock, ← hp, e]⟩
    · have hholds : ∀ j u, xs[j]? = some u → w.cell? ((⟨g, off, none⟩ : Addr).add j) = some u := fun j u hu => by
        obtain ⟨ad, n, c', e1, e2, e3, e4, _⟩ := h.cellAt hu
        cases e1
        exact e4
      obtain ⟨v', w', hr, ho, hg⟩ := run_append_arg_grows (P := P) w t ty e i z 1 bytes ht hi hz hsize hby hzs (by decide) ⟨g, off, none⟩ xs.length cap xs (by omega) hholds a 1 c [x] rfl hnews (by omega) h63 hbytes
      exact ⟨v', w', hr, Tail.of_own (World.ownsRow.mono ho hbase), ⟨hg.os, hg.tape, hg.output, hg.size, fun k hk _ => hg.block k hk (by simp)⟩, .inr fun q hq => (ho.lt q hq).1⟩

/-- .. for the walk, at whatever guard that stands. -/
theorem wpList_append_tail {P : Program} {w : World} {ops : Array Oper} {rest : List Oper} {o : Oper} {a : Act} {Q : Exit → Act → World → Prop} (hw : Region.wanted o (yielded ops a.tmps) = true) (s x : Operand) (t : TypeId)
    (ho : o.op = .call { callee := .builtin .append, args := #[s, x], argTypes := #[t, t] })
    (B : Nat) (e : TypeId) (i : TypeInfo) (z : Value) (bytes : Nat) (ht : P.underlying t = some (.slice e)) (hi : P.info? e = some i) (hz : i.zero = some z)
    (hsize : i.size = 1) (hby : i.bytes = bytes) (hzs : z.cells.size = 1) (v : Value) (xs : List Value) (hs : a.eval s = v) (h : Tail w B e v xs)
    (ad : Addr) (c : Nat) (y : Value) (hx : a.eval x = .slice (some ad) 1 c) (hy : w.cell? ad = some y) (h1 : y.oneCell' = true) (h63 : xs.length + 1 ≤ maxLen) (hbytes : (xs.length + 1) * bytes ≤ 140737488355328) (hbase : B ≤ w.heap.size)
    (hk : ∀ v' w', Tail w' B e v' (xs ++ [y]) → w.grownBy w' v.ownBlock → (v'.ownBlock = v.ownBlock ∨ ∀ q, v'.ownBlock = some q → w.heap.size ≤ q) → wpList P ops Q rest (a.put o.dst v') w') :
    wpList P ops Q (o :: rest) a w := by
  refine wpList_step fun K hK => ?_
  rw [if_pos hw]
  obtain ⟨v', w', hr, h2, h3, h4⟩ := run_append_tail (P := P) B t o.type e i z bytes ht hi hz hsize hby hzs v xs h ad c y hy h1 h63 hbytes hbase
  unfold Oper.wp execOp
  simp only [ho, resolve, invoke, builtin, Sem.run_bind, Sem.run_pure, Result.andThen_ok, List.map_toArray, List.map_cons, List.map_nil, hs, hx, hr]
  exact hK _ _ (hk v' w' h2 h3 h4)

/-- The slice from 1, its room known to be more than 1, or 1. -/
theorem Tail.rest {w : World} {B : Nat} {e : TypeId} {g off cap : Nat} {y : Value} {xs : List Value} (h : Tail w B e (.slice (some ⟨g, off, none⟩) (xs.length + 1) cap) (y :: xs)) : Tail w B e (.slice (some ⟨g, off + 1, none⟩) xs.length (cap - 1)) xs ∧ (cap = 1 → Tail w B e (.slice (some ⟨g, off, none⟩) 0 0) xs ∧ xs = []) ∧ xs.length + 1 ≤ cap ∧ cap ≤ maxLen := by
  rcases h.lies with ⟨h0, _⟩ | ⟨g', off', cap', cur, e1, h2, h3, h4, h5, h6, h7⟩
  · cases h0
  · cases e1
    simp only [List.length_cons] at h4
    refine ⟨⟨.inr ⟨g, off + 1, cap - 1, cur, rfl, h2, h3, by omega, by omega, by omega, fun j u hu => ?_⟩⟩, fun hc => ?_, h4, h5⟩
    · have := h7 (j + 1) u (by simpa using hu)
      rwa [show off + 1 + j = off + (j + 1) by omega]
    · have hx : xs = [] := List.length_eq_zero_iff.1 (by omega)
      subst hx
      exact ⟨⟨.inr ⟨g, off, 0, cur, rfl, h2, h3, by simp, by unfold maxLen; omega, by omega, fun j u hu => by simp at hu⟩⟩, rfl⟩

end Go.Proofs.Ytonidhpjecohlaa.L5
