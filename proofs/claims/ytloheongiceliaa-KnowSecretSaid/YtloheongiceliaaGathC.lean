/- A new lock: the gatherer while the rows by terms do not yet name it; opens in one. One more row names the new lock. A lock keeps one more text. Contract of (*gatherer).shut where the lock is there. Contract of (*gatherer).shut where there is no lock of the key yet. -/
import Derived.Test.YtloheongiceliaaGathB
section
namespace Go.Proofs.Ytloheongiceliaa
open Go.ChangeShapes Go.WideShapes Go.ChangeAt Go.RowKit

theorem MapAt.wide {W : World} {b n m : Nat} {F : List UInt8 → Option Value} (h : MapAt W b n F) (hn : n ≤ m) : MapAt W b m F := by
  obtain ⟨D, ⟨es, clock, h1, h2, h3, h4⟩, h5⟩ := h
  exact ⟨D, ⟨es, clock, h1, h2, Nat.le_trans h3 hn, h4⟩, h5⟩

/-- (*gatherer).opens where the key can be made. -/
theorem opens_yes {W : World} {T : Nat → Nat} {g r sm pm lm wm n N M : Nat} {K : List UInt8 → Prop} {fr : List (List UInt8)} {vf : Value} {L : List Lk} {wk : List Nat} {vw : Value} {Fl Hw : List UInt8 → Option Value} {ids : List UInt8 → List Nat}
    (h : GI W T g r sm pm lm wm n N M K fr vf L wk vw Fl Hw ids) {i : Nat} {k : Lk} (hi : L[i]? = some k) (hkr : Tm.right k.key = true) (hn : n + k.key.length ≤ roomK) (hN : N ≤ 1000000000) (hmk : Tm.Mk K k.key) (hfl : fr.length ≤ 1000000000) (htl : k.texts.length ≤ 1000000000) :
    Calls Try.prog 97 #[.pointer (some ⟨g, 0, none⟩), .pointer (some ⟨k.blk, 0, none⟩)] W (OpensYes W T g r sm pm lm wm n N M K fr L wk vw Fl Hw ids i k) := by
  by_cases hne : k.texts = []
  · exact opens_none h hi hkr hn hN hmk hne
  · exact opens_some h hi hkr hn hN hmk hne hfl htl

/-- A gatherer whose last lock is named by some rows only: by those of the terms in D. -/
structure GN (D : List UInt8 → Prop) (W : World) (T : Nat → Nat) (g r sm pm lm wm n N M m : Nat) (K : List UInt8 → Prop) (fr : List (List UInt8)) (vf : Value) (L : List Lk) (k : Lk) (wk : List Nat) (vw : Value) (Fl Hw : List UInt8 → Option Value) (ids : List UInt8 → List Nat) : Prop where
  block : W.heap[g]? = some (.cells (gCells r vf lm wm vw) 121 (0, 0))
  tags : T g = 2 ∧ T lm = 2 ∧ T wm = 2
  row : RowI W T r sm pm n N K
  fresh : W.ownsRow 0 24 1 vf fr.length (strs fr) ∧ ∀ q, vf.ownBlock = some q → T q = 3
  woken : W.ownsRow 0 153 1 vw wk.length (wk.map (ptrL (L ++ [k]))) ∧ ∀ q, vw.ownBlock = some q → T q = 4
  wkin : (∀ i ∈ wk, i < L.length) ∧ wk.Nodup
  lmap : MapAt W lm M Fl
  lfind : ∀ key, (Fl key = none ∧ ∀ k' ∈ L ++ [k], k'.key ≠ key) ∨ ∃ i k', (L ++ [k])[i]? = some k' ∧ k'.key = key ∧ Fl key = some (ptrL (L ++ [k]) i)
  wmap : MapAt W wm m Hw
  within : ∀ t, W.ownsRow 0 153 1 (slot0 Hw t) (ids t).length ((ids t).map (ptrL (L ++ [k]))) ∧ (∀ q, (slot0 Hw t).ownBlock = some q → T q = 5) ∧ (∀ i ∈ ids t, i < (L ++ [k]).length) ∧ (ids t).length ≤ M
  undone : ∀ t, ¬ D t → (ids t).length + 1 ≤ M
  wsep : ∀ t u q, (slot0 Hw t).ownBlock = some q → (slot0 Hw u).ownBlock = some q → t = u
  covers : ∀ (i : Nat) (k' : Lk), L[i]? = some k' → ∀ t, Tm.Sub k'.key t → i ∈ ids t
  done : ∀ t, D t → L.length ∈ ids t
  locks : ∀ (i : Nat) (k' : Lk), (L ++ [k])[i]? = some k' → LockI W T i k'
  zero : ∀ q, W.heap.size ≤ q → T q = 0

section
variable {W W' : World} {T : Nat → Nat} {g r sm pm lm wm n N M m : Nat} {K : List UInt8 → Prop} {fr : List (List UInt8)} {vf : Value} {L : List Lk} {wk : List Nat} {vw : Value} {Fl Hw : List UInt8 → Option Value} {ids : List UInt8 → List Nat}
theorem ptrL_more {L : List Lk} {k : Lk} {i : Nat} (hi : i < L.length) : ptrL (L ++ [k]) i = ptrL L i := by
  unfold ptrL
  rw [List.getElem?_append_left hi]
theorem ptrL_last (L : List Lk) (k : Lk) : ptrL (L ++ [k]) L.length = .pointer (some ⟨k.blk, 0, none⟩) := ptrL_at (by simp)
theorem map_more {L : List Lk} {k : Lk} {l : List Nat} (h : ∀ i ∈ l, i < L.length) : l.map (ptrL (L ++ [k])) = l.map (ptrL L) :=
  List.map_congr_left (fun i hi => ptrL_more (h i hi))
/-- All rows name it: it is a gatherer. -/
theorem GN.full {D : List UInt8 → Prop} {k : Lk} (h : GN D W T g r sm pm lm wm n N M m K fr vf L k wk vw Fl Hw ids) (hm : m ≤ 700001 * M) (hD : ∀ t, Tm.Sub k.key t → D t) : GI W T g r sm pm lm wm n N M K fr vf (L ++ [k]) wk vw Fl Hw ids := by
  refine ⟨h.block, h.tags, h.row, h.fresh, h.woken, ⟨fun i hi => by have := h.wkin.1 i hi; simp; omega, h.wkin.2⟩, h.lmap, h.lfind, h.wmap.wide hm, h.within, h.wsep, fun i k' hi t ht => ?_, h.locks, h.zero⟩
  rcases Nat.lt_or_ge i L.length with hlt | hge
  · rw [List.getElem?_append_left hlt] at hi
    exact h.covers i k' hi t ht
  · rw [List.getElem?_append_right hge] at hi
    have e : i - L.length = 0 := by
      rcases Nat.eq_zero_or_pos (i - L.length) with e | e
      · exact e
      · rw [List.getElem?_eq_none (by simp; omega)] at hi; cases hi
    rw [e] at hi
    cases hi
    rw [show i = L.length by omega]
    exact h.done t (hD t ht)
/-- A new lock is laid, and named by its key. -/
theorem GI.newLock {key : List UInt8} (h : GI W T g r sm pm lm wm n N M K fr vf L wk vw Fl Hw ids) (hlw : lm ≠ wm) (hno : Fl key = none) (b : Nat) (hb0 : W.heap.size ≤ b) (hb1 : b < W'.heap.size)
    (hs : ∀ q, q < W.heap.size → q ≠ lm → W'.heap[q]? = W.heap[q]?) (hb : W'.heap[b]? = some (.cells #[.string ⟨key.toArray⟩, .slice none 0 0, .bool false, .bool false] 170 (0, 0)))
    (hl : MapAt W' lm (M + 1) (setAt Fl key (.pointer (some ⟨b, 0, none⟩)))) :
    GN (fun _ => False) W' (fun q => if q = b then 6 + 2 * L.length else T q) g r sm pm lm wm n N (M + 1) (700001 * M) K fr vf L ⟨b, key, [], .slice none 0 0, false, false⟩ wk vw (setAt Fl key (.pointer (some ⟨b, 0, none⟩))) Hw ids := by
  have hT : ∀ q, q < W.heap.size → (if q = b then 6 + 2 * L.length else T q) = T q := fun q hq => if_neg (by omega)
  have hsz : W.heap.size ≤ W'.heap.size := by omega
  have hc := h.carry (T' := fun q => if q = b then 6 + 2 * L.length else T q) hsz (fun x => x = 2) (fun q hq hn => hs q hq (fun e => hn (by rw [e]; exact h.tags.2.1))) hT (fun q hq => by
    show (if q = b then 6 + 2 * L.length else T q) ≠ 1
    split
    · omega
    · rw [h.zero q hq]; omega)
  have hne := h.own_ne
  have lg := (Array.getElem?_eq_some_iff.1 h.block).1
  have hwm : MapAt W' wm (700001 * M) Hw := h.wmap.same (hs wm h.wmap.lt (fun e2 => hlw e2.symm))
  have hg : W'.heap[g]? = W.heap[g]? := hs g lg (fun e => hne.1 e.symm)
  obtain ⟨k, hk⟩ : ∃ k : Lk, k = ⟨b, key, [], .slice none 0 0, false, false⟩ := ⟨_, rfl⟩
  have hkb : k.blk = b := by rw [hk]
  have hkk : k.key = key := by rw [hk]
  have hkI : LockI W' (fun q => if q = b then 6 + 2 * L.length else T q) L.length k := by
    rw [hk]
    exact ⟨hb, if_pos rfl, World.ownsRow_nil _ _ _ _, fun q e => (by cases e), fun _ => rfl⟩
  rw [← hk]
  have hwo := hc.woken (by omega)
  refine ⟨hg.trans h.block, hc.tags, hc.row (by omega), hc.fresh (by omega), by rw [map_more h.wkin.1]; exact hwo, h.wkin, hl, fun x => ?_, hwm, fun t => ?_, fun t _ => ?_, h.wsep, h.covers, fun t ht => ht.elim, fun i k' hi => ?_, fun q hq => ?_⟩
  · by_cases hx : x = key
    · subst hx
      exact .inr ⟨L.length, k, by simp, hkk, by rw [setAt_same, ptrL_last, hkb]⟩
    · rw [setAt_other _ _ hx]
      rcases h.lfind x with ⟨h1, h2⟩ | ⟨i, k', h1, h2, h3⟩
      · refine .inl ⟨h1, fun k' hk' => ?_⟩
        rcases List.mem_append.1 hk' with m | m
        · exact h2 k' m
        · rw [List.mem_singleton.1 m, hkk]; exact fun e => hx e.symm
      · have hil := (List.getElem?_eq_some_iff.1 h1).1
        exact .inr ⟨i, k', by rw [List.getElem?_append_left hil]; exact h1, h2, by rw [ptrL_more hil]; exact h3⟩
  · obtain ⟨k1, k2, k3, k4⟩ := hc.within (by omega) t
    rw [map_more k3]
    exact ⟨k1, k2, fun i hi => by have := k3 i hi; simp; omega, by omega⟩
  · have := (h.within t).2.2.2
    omega
  · rcases Nat.lt_or_ge i L.length with hlt | hge
    · rw [List.getElem?_append_left hlt] at hi
      exact hc.locks i k' hi (by omega) (by omega)
    · rw [List.getElem?_append_right hge] at hi
      have e : i - L.length = 0 := by
        rcases Nat.eq_zero_or_pos (i - L.length) with e | e
        · exact e
        · rw [List.getElem?_eq_none (by simp; omega)] at hi; cases hi
      rw [e] at hi
      cases hi
      rw [show i = L.length by omega]
      exact hkI
  · show (if q = b then 6 + 2 * L.length else T q) = 0
    rw [if_neg (by omega)]
    exact h.zero q (by omega)
end

end Go.Proofs.Ytloheongiceliaa
end

section
namespace Go.Proofs.Ytloheongiceliaa
open Go.ChangeShapes Go.WideShapes Go.ChangeAt Go.RowKit

theorem slot_same (F : List UInt8 → Option Value) (t : List UInt8) (v : Value) : slot0 (setAt F t v) t = v := by simp [slot0, setAt]
theorem slot_other (F : List UInt8 → Option Value) {t x : List UInt8} (v : Value) (h : x ≠ t) : slot0 (setAt F t v) x = slot0 F x := by simp [slot0, setAt, h]

section
variable {D : List UInt8 → Prop} {W W' wA : World} {T : Nat → Nat} {g r sm pm lm wm n N M m : Nat} {K : List UInt8 → Prop} {fr : List (List UInt8)} {vf : Value} {L : List Lk} {k : Lk} {wk : List Nat} {vw : Value} {Fl Hw : List UInt8 → Option Value} {ids : List UInt8 → List Nat}
theorem GN.step {t : List UInt8} {v2 : Value} (h : GN D W T g r sm pm lm wm n N M m K fr vf L k wk vw Fl Hw ids) (hlw : lm ≠ wm) (hnd : ¬ D t) (hg : W.grownBy wA (slot0 Hw t).ownBlock)
    (hown : wA.ownsRow 0 153 1 v2 ((ids t).length + 1) ((ids t).map (ptrL (L ++ [k])) ++ [.pointer (some ⟨k.blk, 0, none⟩)])) (hat : v2.ownBlock = (slot0 Hw t).ownBlock ∨ ∃ q, v2.ownBlock = some q ∧ W.heap.size ≤ q)
    (hg2 : wA.grownBy W' (some wm)) (hm : MapAt W' wm (m + 1) (setAt Hw t v2)) :
    GN (fun x => D x ∨ x = t) W' (fun q => if v2.ownBlock = some q then 5 else T q) g r sm pm lm wm n N M (m + 1) K fr vf L k wk vw Fl (setAt Hw t v2) (fun x => if x = t then ids t ++ [L.length] else ids x) ∧ (∀ q, q < W.heap.size → (if v2.ownBlock = some q then 5 else T q) = T q) ∧ Touch T W W' := by
  have hw5 : ∀ x q, (slot0 Hw x).ownBlock = some q → T q = 5 := fun x => (h.within x).2.1
  have hsz : W.heap.size ≤ W'.heap.size := Nat.le_trans hg.size hg2.size
  have hT : ∀ q, q < W.heap.size → (if v2.ownBlock = some q then 5 else T q) = T q := fun q hq => by
    split
    · rename_i e
      rcases hat with h1 | ⟨q', h1, h2⟩
      · exact (hw5 t q (h1 ▸ e)).symm
      · rw [h1] at e; cases e; omega
    · rfl
  have hs0 : ∀ q, q < W.heap.size → q ≠ wm → (slot0 Hw t).ownBlock ≠ some q → W'.heap[q]? = W.heap[q]? := fun q hq h1 h2 =>
    (hg2.block q (Nat.lt_of_lt_of_le hq hg.size) (fun e => h1 (by cases e; rfl))).trans (hg.block q hq (fun e => h2 e.symm))
  have hs : ∀ q, q < W.heap.size → q ≠ wm → T q ≠ 5 → W'.heap[q]? = W.heap[q]? := fun q hq h1 h2 => hs0 q hq h1 (fun e => h2 (hw5 t q e))
  have hs2 : ∀ q, q < W.heap.size → T q ≠ 2 → T q ≠ 5 → W'.heap[q]? = W.heap[q]? := fun q hq h1 h2 => hs q hq (fun e => h1 (by rw [e]; exact h.tags.2.2)) h2
  have lg := (Array.getElem?_eq_some_iff.1 h.block).1
  have hgw : g ≠ wm := by
    rintro rfl
    obtain ⟨es, cl, hm⟩ := h.wmap.block
    rw [h.block] at hm; cases hm
  have t5 : ∀ {q}, T q = 2 → T q ≠ 5 := fun e => by omega
  have hwA : wm < wA.heap.size := Nat.lt_of_lt_of_le h.wmap.lt hg.size
  have hv2w : v2.ownBlock ≠ some wm := fun e => by
    rcases hat with h1 | ⟨q', h1, h2⟩
    · have := hw5 t wm (h1 ▸ e); rw [h.tags.2.2] at this; omega
    · rw [h1] at e
      have e4 : q' = wm := by simpa using e
      have := h.wmap.lt
      omega
  have hv2lt : ∀ q, v2.ownBlock = some q → q < W'.heap.size := fun q e => Nat.lt_of_lt_of_le (row_lt hown e) hg2.size
  have hown' : W'.ownsRow 0 153 1 v2 ((ids t).length + 1) ((ids t).map (ptrL (L ++ [k])) ++ [.pointer (some ⟨k.blk, 0, none⟩)]) :=
    row_same hown (fun q e => hg2.block q (row_lt hown e) (fun e2 => hv2w (by rw [e]; exact e2)))
  refine ⟨⟨(hs g lg hgw (t5 h.tags.1)).trans h.block, ⟨(hT g lg).trans h.tags.1, (hT lm h.lmap.lt).trans h.tags.2.1, (hT wm h.wmap.lt).trans h.tags.2.2⟩, ?_, ⟨row_same h.fresh.1 (fun q e => hs2 q (row_lt h.fresh.1 e) (by rw [h.fresh.2 q e]; omega) (by rw [h.fresh.2 q e]; omega)), fun q e => (hT q (row_lt h.fresh.1 e)).trans (h.fresh.2 q e)⟩,
    ⟨row_same h.woken.1 (fun q e => hs2 q (row_lt h.woken.1 e) (by rw [h.woken.2 q e]; omega) (by rw [h.woken.2 q e]; omega)), fun q e => (hT q (row_lt h.woken.1 e)).trans (h.woken.2 q e)⟩, h.wkin, h.lmap.same (hs lm h.lmap.lt hlw (t5 h.tags.2.1)), h.lfind, hm, fun x => ?_, fun x hx => ?_, fun x y q hx hy => ?_, fun i k' hi x hx => ?_, fun x hx => ?_, fun i k' hi => ?_, fun q hq => ?_⟩, hT, ⟨hg2.os.trans hg.os, hg2.tape.trans hg.tape, hg2.output.trans hg.output, hsz, fun q hq h0 => hs2 q hq (by rw [h0]; omega) (by rw [h0]; omega)⟩⟩
  · refine (h.row.retag hT (fun q hq => ?_)).keep hsz (fun q hq hl => hs2 q hl (by rw [← hT q hl, hq]; omega) (by rw [← hT q hl, hq]; omega))
    show (if v2.ownBlock = some q then 5 else T q) ≠ 1
    split
    · omega
    · rw [h.zero q hq]; omega
  · by_cases hx : x = t
    · subst hx
      rw [slot_same, if_pos rfl]
      refine ⟨?_, fun q e => if_pos e, fun i hi => ?_, ?_⟩
      · rw [List.map_append, List.length_append]
        have : [L.length].map (ptrL (L ++ [k])) = [.pointer (some ⟨k.blk, 0, none⟩)] := by rw [List.map_cons, List.map_nil, ptrL_last]
        rw [this]
        exact hown'
      · rcases List.mem_append.1 hi with hi | hi
        · exact (h.within x).2.2.1 i hi
        · rw [List.mem_singleton.1 hi]; simp
      · have := h.undone x hnd
        simpa using this
    · rw [slot_other _ _ hx, if_neg hx]
      obtain ⟨k1, k2, k3, k4⟩ := h.within x
      refine ⟨row_same k1 (fun q e => hs0 q (row_lt k1 e) (fun e2 => ?_) (fun e2 => hx (h.wsep x t q e e2))), fun q e => (hT q (row_lt k1 e)).trans (k2 q e), k3, k4⟩
      have := k2 q e
      rw [e2, h.tags.2.2] at this; omega
  · have hx1 : ¬ D x := fun e => hx (.inl e)
    have hx2 : x ≠ t := fun e => hx (.inr e)
    show (if x = t then ids t ++ [L.length] else ids x).length + 1 ≤ M
    rw [if_neg hx2]
    exact h.undone x hx1
  · have far : ∀ y, y ≠ t → (slot0 Hw y).ownBlock = some q → v2.ownBlock = some q → False := fun y hyt e1 e2 => by
      rcases hat with h1 | ⟨q', h1, h2⟩
      · exact hyt (h.wsep y t q e1 (h1 ▸ e2))
      · rw [h1] at e2
        have e4 : q' = q := by simpa using e2
        have := row_lt (h.within y).1 e1
        omega
    by_cases h1 : x = t <;> by_cases h2 : y = t
    · rw [h1, h2]
    · rw [h1, slot_same] at hx
      rw [slot_other _ _ h2] at hy
      exact (far y h2 hy hx).elim
    · rw [h2, slot_same] at hy
      rw [slot_other _ _ h1] at hx
      exact (far x h1 hx hy).elim
    · rw [slot_other _ _ h1] at hx
      rw [slot_other _ _ h2] at hy
      exact h.wsep x y q hx hy
  · have := h.covers i k' hi x hx
    show i ∈ (if x = t then ids t ++ [L.length] else ids x)
    split
    · rename_i e
      rw [e] at this
      exact List.mem_append_left _ this
    · exact this
  · show L.length ∈ (if x = t then ids t ++ [L.length] else ids x)
    split
    · simp
    · rename_i e
      exact h.done x (hx.resolve_right e)
  · have hk := h.locks i k' hi
    have lb := (Array.getElem?_eq_some_iff.1 hk.block).1
    exact ⟨(hs2 k'.blk lb (by rw [hk.tag]; omega) (by rw [hk.tag]; omega)).trans hk.block, (hT k'.blk lb).trans hk.tag, row_same hk.row (fun q e => hs2 q (row_lt hk.row e) (by rw [hk.trow q e]; omega) (by rw [hk.trow q e]; omega)), fun q e => (hT q (row_lt hk.row e)).trans (hk.trow q e), hk.empty⟩
  · show (if v2.ownBlock = some q then 5 else T q) = 0
    rw [if_neg (fun e => by have := hv2lt q e; omega)]
    exact h.zero q (by omega)
end

end Go.Proofs.Ytloheongiceliaa
end

section
namespace Go.Proofs.Ytloheongiceliaa
open Go.ChangeShapes Go.WideShapes Go.ChangeAt Go.RowKit

section
variable {W wA : World} {T : Nat → Nat} {g r sm pm lm wm n N M : Nat} {K : List UInt8 → Prop} {fr : List (List UInt8)} {vf : Value} {L : List Lk} {wk : List Nat} {vw : Value} {Fl Hw : List UInt8 → Option Value} {ids : List UInt8 → List Nat}
theorem GI.kept {i : Nat} {k : Lk} {p : List UInt8} {v2 : Value} (h : GI W T g r sm pm lm wm n N M K fr vf L wk vw Fl Hw ids) (hi : L[i]? = some k) (hg : W.grownBy wA k.vt.ownBlock) (hown : wA.ownsRow 0 24 1 v2 (k.texts ++ [p]).length (strs (k.texts ++ [p]))) (hat : v2.ownBlock = k.vt.ownBlock ∨ ∃ q, v2.ownBlock = some q ∧ W.heap.size ≤ q) :
    GI (wA.setCell ⟨k.blk, 1, none⟩ v2) (fun q => if v2.ownBlock = some q then 7 + 2 * i else T q) g r sm pm lm wm n N M K fr vf (L.set i { k with texts := k.texts ++ [p], vt := v2 }) wk vw Fl Hw ids ∧ (∀ q, q < W.heap.size → (if v2.ownBlock = some q then 7 + 2 * i else T q) = T q) ∧ Touch T W (wA.setCell ⟨k.blk, 1, none⟩ v2) := by
  have hk := h.locks i k hi
  have lb := (Array.getElem?_eq_some_iff.1 hk.block).1
  have htr := hk.trow
  have hgv : k.vt.ownBlock ≠ some k.blk := fun e => by have := htr k.blk e; rw [hk.tag] at this; omega
  have hsz : W.heap.size ≤ (wA.setCell ⟨k.blk, 1, none⟩ v2).heap.size := by simp [World.setCell]; exact hg.size
  have hT : ∀ q, q < W.heap.size → (if v2.ownBlock = some q then 7 + 2 * i else T q) = T q := fun q hq => by
    split
    · rename_i e
      rcases hat with h1 | ⟨q', h1, h2⟩
      · exact (htr q (h1 ▸ e)).symm
      · rw [h1] at e; cases e; omega
    · rfl
  have hsame : ∀ q, q < W.heap.size → q ≠ k.blk → T q ≠ 7 + 2 * i → (wA.setCell ⟨k.blk, 1, none⟩ v2).heap[q]? = W.heap[q]? := fun q hq h1 h2 =>
    (Below.heap_setCell _ _ _ _ h1).trans (hg.block q hq (fun e => h2 (htr q e.symm)))
  have hm : Marked W (wA.setCell ⟨k.blk, 1, none⟩ v2) T (fun q => if v2.ownBlock = some q then 7 + 2 * i else T q) := ⟨hsz, hT, fun q hq => by
      show (if v2.ownBlock = some q then 7 + 2 * i else T q) ≠ 1
      split
      · omega
      · rw [h.zero q hq]; omega, fun q hq => by
      show (if v2.ownBlock = some q then 7 + 2 * i else T q) = 0
      have : (wA.setCell ⟨k.blk, 1, none⟩ v2).heap.size = wA.heap.size := by simp [World.setCell]
      rw [this] at hq
      rw [if_neg (fun e => by have := row_lt hown e; omega)]
      exact h.zero q (by have := hg.size; omega)⟩
  refine ⟨h.lockTurn hi hm rfl rfl hsame ⟨?_, (hT k.blk lb).trans hk.tag, ?_, fun q e => if_pos e, fun e => by simp at e⟩, hT, ⟨hg.os, hg.tape, hg.output, hsz, fun q hq h0 => hsame q hq (fun e => by rw [e, hk.tag] at h0; omega) (by rw [h0]; omega)⟩⟩
  · rw [show ({ k with texts := k.texts ++ [p], vt := v2 } : Lk).blk = k.blk from rfl, set_block ((hg.block k.blk lb (fun e => hgv e.symm)).trans hk.block)]
    rfl
  · refine row_same hown (fun q e => Below.heap_setCell _ _ _ _ (fun e2 => ?_))
    have e3 : q = k.blk := e2
    rw [e3] at e
    rcases hat with h1 | ⟨q', h1, h2⟩
    · exact hgv (h1 ▸ e)
    · rw [h1] at e
      have e4 : q' = k.blk := by simpa using e
      omega
end

end Go.Proofs.Ytloheongiceliaa
end

section
namespace Go.Proofs.Ytloheongiceliaa
open Go.ChangeShapes Go.WideShapes Go.ChangeAt Go.RowKit

def ShutOld (W : World) (T : Nat → Nat) (g r sm pm lm wm n N M : Nat) (K : List UInt8 → Prop) (fr : List (List UInt8)) (L : List Lk) (wk : List Nat) (vw : Value) (Fl Hw : List UInt8 → Option Value) (ids : List UInt8 → List Nat) (i : Nat) (k : Lk) (p : List UInt8) (e : Ending) (W' : World) : Prop :=
  e = .returned (.tuple #[]) ∧ ∃ T' fr' vf' L', GI W' T' g r sm pm lm wm n N M K fr' vf' L' wk vw Fl Hw ids ∧ ((k.opened = true ∧ fr' = fr ++ [p] ∧ L' = L) ∨ (k.opened = false ∧ fr' = fr ∧ ∃ v, L' = L.set i { k with texts := k.texts ++ [p], vt := v })) ∧ (∀ q, q < W.heap.size → T' q = T q) ∧ Touch T W W'

set_option maxRecDepth 100000 in
set_option maxHeartbeats 4000000 in
theorem shut_kept {W : World} {T : Nat → Nat} {g r sm pm lm wm n N M : Nat} {K : List UInt8 → Prop} {fr : List (List UInt8)} {vf : Value} {L : List Lk} {wk : List Nat} {vw : Value} {Fl Hw : List UInt8 → Option Value} {ids : List UInt8 → List Nat}
    (h : GI W T g r sm pm lm wm n N M K fr vf L wk vw Fl Hw ids) {i : Nat} {k : Lk} (p : List UInt8) (hi : L[i]? = some k) (hF : Fl k.key = some (ptrL L i)) (hkl : k.key.length ≤ 20000) (hop : k.opened = false) (htl : k.texts.length ≤ 1000000000) :
    Calls Try.prog 112 #[.pointer (some ⟨g, 0, none⟩), .string ⟨k.key.toArray⟩, .string ⟨p.toArray⟩] W (ShutOld W T g r sm pm lm wm n N M K fr L wk vw Fl Hw ids i k p) := by
  obtain ⟨i0, hii, hz0, hz1, hz2⟩ := info_parts info_term
  have hk := h.locks i k hi
  obtain ⟨_, c1, c2, _, cf⟩ := hk.cell
  obtain ⟨_, _, g2, _, _, gf⟩ := h.gcell
  rw [hop] at c2
  have hlook := h.lmap.look Try.underlying117 (zero_lock W) hkl
  rw [hF, Option.getD_some, ptrL_at hi] at hlook
  have hrow := hk.row
  have HNew : Hid (∀ (j : Nat) (u : Value), [Value.string ⟨p.toArray⟩][j]? = some u → (W.alloc (.cells #[.string ⟨p.toArray⟩] 24)).cell? ((⟨W.heap.size, 0, none⟩ : Addr).add j) = some u) := cell_one_new W (.string ⟨p.toArray⟩) 24
  have lb := (Array.getElem?_eq_some_iff.1 hk.block).1
  have HAft : Hid (∀ w2 : World, (W.alloc (.cells #[.string ⟨p.toArray⟩] 24)).grownBy w2 k.vt.ownBlock → w2.cell? ⟨k.blk, 1, none⟩ = some k.vt ∧ w2.frozen? ⟨k.blk, 1, none⟩ = false) := fun w2 hg => by
    have hg2 := grown_trans (World.grownBy_alloc W (.cells #[.string ⟨p.toArray⟩] 24) k.vt.ownBlock) hg
    have hb : w2.heap[k.blk]? = W.heap[k.blk]? := hg2.block k.blk lb (fun e => by
      have := hk.trow k.blk e.symm
      rw [hk.tag] at this
      omega)
    exact ⟨(World.cell?_of_block (a := ⟨k.blk, 1, none⟩) hb).trans c1, (World.frozen?_of_block (a := ⟨k.blk, 1, none⟩) hb).trans (cf 1)⟩
  have HFin : Hid (∀ (v2 : Value) (w2 : World), w2.ownsRow 0 24 1 v2 (k.texts.length + 1) (strs k.texts ++ [.string ⟨p.toArray⟩]) → (W.alloc (.cells #[.string ⟨p.toArray⟩] 24)).grownBy w2 k.vt.ownBlock → (v2.ownBlock = k.vt.ownBlock ∨ v2.ownBlock = some (W.alloc (.cells #[.string ⟨p.toArray⟩] 24)).heap.size) →
      ShutOld W T g r sm pm lm wm n N M K fr L wk vw Fl Hw ids i k p (.returned (.tuple #[])) (w2.setCell ⟨k.blk, 1, none⟩ v2)) := fun v2 w2 k1 k2 k3 => by
    have hg2 := grown_trans (World.grownBy_alloc W (.cells #[.string ⟨p.toArray⟩] 24) k.vt.ownBlock) k2
    obtain ⟨m1, m2, m3⟩ := h.kept (p := p) hi hg2 (by simpa [strs] using k1) (k3.imp id (fun e => ⟨_, e, by rw [World.size_alloc]; omega⟩))
    exact ⟨rfl, _, _, _, _, m1, .inr ⟨hop, rfl, _, rfl⟩, m2, m3⟩
  clear h hi hop hk hF cf
  go_enter Try.func112, Try.ntmps112
  go_wp2_with (at_builtin; refine wpList_append_own_at _ rfl _ _ 38 rfl 0 24 i0 _ 1 16 Try.underlying38 hii hz0 hz1 hz2 rfl (by decide) _ _ _ rfl (hrow.alloc _) ⟨W.heap.size, 0, none⟩ 1 1 [.string ⟨p.toArray⟩] rfl rfl HNew.out (by simp [Value.oneCell']) (by unfold maxLen; omega) (by omega) (by simp) ?_; intro v2 w2 hown' hgrow hnil hat; obtain ⟨g2, cap2, rfl⟩ := ownsRow_succ hown'; have hc4 := (HAft.out w2 hgrow).1; have hf4 := (HAft.out w2 hgrow).2)
  refine bodyPost_end (results_none rfl _ _ _) rfl ?_
  exact HFin.out _ w2 hown' hgrow hat

set_option maxRecDepth 100000 in
set_option maxHeartbeats 4000000 in
theorem shut_open {W : World} {T : Nat → Nat} {g r sm pm lm wm n N M : Nat} {K : List UInt8 → Prop} {fr : List (List UInt8)} {vf : Value} {L : List Lk} {wk : List Nat} {vw : Value} {Fl Hw : List UInt8 → Option Value} {ids : List UInt8 → List Nat}
    (h : GI W T g r sm pm lm wm n N M K fr vf L wk vw Fl Hw ids) {i : Nat} {k : Lk} (p : List UInt8) (hi : L[i]? = some k) (hF : Fl k.key = some (ptrL L i)) (hkl : k.key.length ≤ 20000) (hop : k.opened = true) (hfl : fr.length ≤ 1000000000) :
    Calls Try.prog 112 #[.pointer (some ⟨g, 0, none⟩), .string ⟨k.key.toArray⟩, .string ⟨p.toArray⟩] W (ShutOld W T g r sm pm lm wm n N M K fr L wk vw Fl Hw ids i k p) := by
  obtain ⟨i0, hii, hz0, hz1, hz2⟩ := info_parts info_term
  have hk := h.locks i k hi
  obtain ⟨_, _, c2, _, _⟩ := hk.cell
  obtain ⟨_, g1, g2, _, _, gf⟩ := h.gcell
  rw [hop] at c2
  have hlook := h.lmap.look Try.underlying117 (zero_lock W) hkl
  rw [hF, Option.getD_some, ptrL_at hi] at hlook
  have hrow := h.fresh.1
  have HNew : Hid (∀ (j : Nat) (u : Value), [Value.string ⟨p.toArray⟩][j]? = some u → (W.alloc (.cells #[.string ⟨p.toArray⟩] 24)).cell? ((⟨W.heap.size, 0, none⟩ : Addr).add j) = some u) := cell_one_new W (.string ⟨p.toArray⟩) 24
  have lg := (Array.getElem?_eq_some_iff.1 h.block).1
  have HAft : Hid (∀ w2 : World, (W.alloc (.cells #[.string ⟨p.toArray⟩] 24)).grownBy w2 vf.ownBlock → w2.cell? ⟨g, 1, none⟩ = some vf ∧ w2.frozen? ⟨g, 1, none⟩ = false) := fun w2 hg => by
    have hg2 := grown_trans (World.grownBy_alloc W (.cells #[.string ⟨p.toArray⟩] 24) vf.ownBlock) hg
    have hb : w2.heap[g]? = W.heap[g]? := hg2.block g lg (fun e => by
      have := h.fresh.2 g e.symm
      rw [h.tags.1] at this
      omega)
    exact ⟨(World.cell?_of_block (a := ⟨g, 1, none⟩) hb).trans g1, (World.frozen?_of_block (a := ⟨g, 1, none⟩) hb).trans (gf 1)⟩
  have HFin : Hid (∀ (v2 : Value) (w2 : World), w2.ownsRow 0 24 1 v2 (fr.length + 1) (strs fr ++ [.string ⟨p.toArray⟩]) → (W.alloc (.cells #[.string ⟨p.toArray⟩] 24)).grownBy w2 vf.ownBlock → (v2.ownBlock = vf.ownBlock ∨ v2.ownBlock = some (W.alloc (.cells #[.string ⟨p.toArray⟩] 24)).heap.size) →
      ShutOld W T g r sm pm lm wm n N M K fr L wk vw Fl Hw ids i k p (.returned (.tuple #[])) (w2.setCell ⟨g, 1, none⟩ v2)) := fun v2 w2 k1 k2 k3 => by
    have hg2 := grown_trans (World.grownBy_alloc W (.cells #[.string ⟨p.toArray⟩] 24) vf.ownBlock) k2
    obtain ⟨m1, m2, m3⟩ := h.pushed (ps := [p]) hg2 (by simpa [strs] using k1) (k3.imp id (fun e => ⟨_, e, by rw [World.size_alloc]; omega⟩))
    exact ⟨rfl, _, _, _, _, m1, .inl ⟨hop, rfl, rfl⟩, m2, m3⟩
  clear h hi hop hk hF gf
  go_enter Try.func112, Try.ntmps112
  go_wp2_with (at_builtin; refine wpList_append_own_at _ rfl _ _ 38 rfl 0 24 i0 _ 1 16 Try.underlying38 hii hz0 hz1 hz2 rfl (by decide) _ _ _ rfl (hrow.alloc _) ⟨W.heap.size, 0, none⟩ 1 1 [.string ⟨p.toArray⟩] rfl rfl HNew.out (by simp [Value.oneCell']) (by unfold maxLen; omega) (by omega) (by simp) ?_; intro v2 w2 hown' hgrow hnil hat; obtain ⟨g2, cap2, rfl⟩ := ownsRow_succ hown'; have hc4 := (HAft.out w2 hgrow).1; have hf4 := (HAft.out w2 hgrow).2)
  first
    | (refine bodyPost_end (results_none rfl _ _ _) rfl ?_
       exact HFin.out _ w2 hown' hgrow hat)
    | (go_ret
       exact HFin.out _ w2 hown' hgrow hat)

end Go.Proofs.Ytloheongiceliaa
end

section
namespace Go.Proofs.Ytloheongiceliaa
open Go.ChangeShapes Go.WideShapes Go.ChangeAt Go.RowKit

def ShutNew (W : World) (T : Nat → Nat) (g r sm pm lm wm n N M : Nat) (K : List UInt8 → Prop) (fr : List (List UInt8)) (vf : Value) (L : List Lk) (wk : List Nat) (key p : List UInt8) (e : Ending) (W' : World) : Prop :=
  e = .returned (.tuple #[]) ∧ ∃ T' vw' Fl' Hw' ids' b v, GI W' T' g r sm pm lm wm n N (M + 1) K fr vf (L ++ [⟨b, key, [p], v, false, true⟩]) (wk ++ [L.length]) vw' Fl' Hw' ids' ∧ (∀ q, q < W.heap.size → T' q = T q) ∧ Touch T W W'
theorem GN.than {D D' : List UInt8 → Prop} {W : World} {T : Nat → Nat} {g r sm pm lm wm n N M m : Nat} {K : List UInt8 → Prop} {fr : List (List UInt8)} {vf : Value} {L : List Lk} {k : Lk} {wk : List Nat} {vw : Value} {Fl Hw : List UInt8 → Option Value} {ids : List UInt8 → List Nat}
    (h : GN D W T g r sm pm lm wm n N M m K fr vf L k wk vw Fl Hw ids) (hD : ∀ x, D x ↔ D' x) : GN D' W T g r sm pm lm wm n N M m K fr vf L k wk vw Fl Hw ids := by
  have : D = D' := funext fun x => propext (hD x)
  rw [← this]; exact h
def Naming (w2 : World) (T1 : Nat → Nat) (g r sm pm lm wm n N M : Nat) (K : List UInt8 → Prop) (fr : List (List UInt8)) (vf : Value) (L : List Lk) (k : Lk) (wk : List Nat) (vw : Value) (Fl : List UInt8 → Option Value) (xs : List (List UInt8)) (kk : Nat) (v29 : Value) (wr : World) : Prop :=
  ∃ (j : Nat) (T' : Nat → Nat) (Hw' : List UInt8 → Option Value) (ids' : List UInt8 → List Nat), kk + j = xs.length ∧ v29 = .int .i64 j ∧ GN (fun x => x ∈ xs.take j) wr T' g r sm pm lm wm n N (M + 1) (700001 * M + j) K fr vf L k wk vw Fl Hw' ids' ∧ (∀ q, q < w2.heap.size → T' q = T1 q) ∧ Touch T1 w2 wr

theorem GN.below {D : List UInt8 → Prop} {W W' : World} {T : Nat → Nat} {g r sm pm lm wm n N M m : Nat} {K : List UInt8 → Prop} {fr : List (List UInt8)} {vf : Value} {L : List Lk} {k : Lk} {wk : List Nat} {vw : Value} {Fl Hw : List UInt8 → Option Value} {ids : List UInt8 → List Nat}
    (h : GN D W T g r sm pm lm wm n N M m K fr vf L k wk vw Fl Hw ids) (hb : Below W.heap.size W W') : GN D W' T g r sm pm lm wm n N M m K fr vf L k wk vw Fl Hw ids := by
  have hs : ∀ q, q < W.heap.size → W'.heap[q]? = W.heap[q]? := fun q hq => hb.block q hq
  have lg := (Array.getElem?_eq_some_iff.1 h.block).1
  refine ⟨(hs g lg).trans h.block, h.tags, h.row.below hb, ⟨row_same h.fresh.1 (fun q e => hs q (row_lt h.fresh.1 e)), h.fresh.2⟩, ⟨row_same h.woken.1 (fun q e => hs q (row_lt h.woken.1 e)), h.woken.2⟩, h.wkin, h.lmap.same (hs lm h.lmap.lt), h.lfind, h.wmap.same (hs wm h.wmap.lt), fun t => ?_, h.undone, h.wsep, h.covers, h.done, fun i k' hi => ?_, fun q hq => h.zero q (Nat.le_trans hb.size hq)⟩
  · obtain ⟨k1, k2⟩ := h.within t
    exact ⟨row_same k1 (fun q e => hs q (row_lt k1 e)), k2⟩
  · have hk := h.locks i k' hi
    have lb := (Array.getElem?_eq_some_iff.1 hk.block).1
    exact ⟨(hs k'.blk lb).trans hk.block, hk.tag, row_same hk.row (fun q e => hs q (row_lt hk.row e)), hk.trow, hk.empty⟩

set_option maxRecDepth 100000 in
set_option maxHeartbeats 8000000 in
theorem shut_new {W : World} {T : Nat → Nat} {g r sm pm lm wm n N M : Nat} {K : List UInt8 → Prop} {fr : List (List UInt8)} {vf : Value} {L : List Lk} {wk : List Nat} {vw : Value} {Fl Hw : List UInt8 → Option Value} {ids : List UInt8 → List Nat}
    (h : GI W T g r sm pm lm wm n N M K fr vf L wk vw Fl Hw ids) (hlw : lm ≠ wm) (key p : List UInt8) (hF : Fl key = none) (hkr : Tm.right key = true) (hM : M ≤ 1000000) (hLl : L.length ≤ 1000000) :
    Calls Try.prog 112 #[.pointer (some ⟨g, 0, none⟩), .string ⟨key.toArray⟩, .string ⟨p.toArray⟩] W (ShutNew W T g r sm pm lm wm n N M K fr vf L wk key p) := by
  obtain ⟨i0, hi, hz0, hz1, hz2⟩ := info_parts info_lock
  obtain ⟨t0, ht0, tz0, tz1, tz2⟩ := info_parts info_term
  have hkl : key.length ≤ 20000 := (Tm.ofL_ok hkr).2.2.2.2.2
  obtain ⟨_, _, g2, g3, _, gf⟩ := h.gcell
  have hlook := h.lmap.look Try.underlying117 (zero_lock W) hkl
  rw [hF, Option.getD_none] at hlook
  have lg := (Array.getElem?_eq_some_iff.1 h.block).1
  have hlm0 : MapAt (W.alloc (.cells #[.string ⟨key.toArray⟩, .slice none 0 0, .bool false, .bool false] 170)) lm M Fl := h.lmap.kept (World.grownBy_alloc _ _ none) (by simp)
  obtain ⟨w1, hrun, hm1, hg1⟩ := hlm0.set Try.underlying117 (by unfold maxLen; omega) hkl (.pointer (some ⟨W.heap.size, 0, none⟩))
  have HAll := Lib.hid (All_right ⟨key.toArray⟩ (by simpa using hkr) w1)
  have g2b : (W.alloc (.cells #[.string ⟨key.toArray⟩, .slice none 0 0, .bool false, .bool false] 170)).cell? ⟨g, 2, none⟩ = some (.map (some lm)) := ((World.grownBy_alloc W (.cells #[.string ⟨key.toArray⟩, .slice none 0 0, .bool false, .bool false] 170) none).cell_far ⟨g, 2, none⟩ lg (by simp)).trans g2
  have HH := Lib.hid h
  have HM1 := Lib.hid hm1
  have HG1 := Lib.hid hg1
  have HB0 := Lib.hid (World.alloc_heap_new W (.cells #[.string ⟨key.toArray⟩, .slice none 0 0, .bool false, .bool false] 170))
  have HF := Lib.hid (And.intro hlw (And.intro hF hkr))
  clear h hm1 hg1 hlm0 hF hkr gf
  go_enter Try.func112, Try.ntmps112
  go_wp2_with fail
  refine HAll.out.mono ?_
  rintro e2 w2 ⟨v27, xs, rfl, hrow27, hst, hmem, hxl, b2⟩
  obtain ⟨k, hkd⟩ : ∃ k : Lk, k = ⟨W.heap.size, key, [], .slice none 0 0, false, false⟩ := ⟨_, rfl⟩
  obtain ⟨T1, hT1⟩ : ∃ T1 : Nat → Nat, T1 = fun q => if q = W.heap.size then 6 + 2 * L.length else T q := ⟨_, rfl⟩
  obtain ⟨Fl1, hFl1⟩ : ∃ Fl1, Fl1 = setAt Fl key (.pointer (some ⟨W.heap.size, 0, none⟩)) := ⟨_, rfl⟩
  have hs1 : W.heap.size + 1 ≤ w1.heap.size := by have := HG1.out.size; rw [World.size_alloc] at this; exact this
  have hGN1 : GN (fun _ => False) w1 T1 g r sm pm lm wm n N (M + 1) (700001 * M) K fr vf L k wk vw Fl1 Hw ids := by
    rw [hkd, hT1, hFl1]
    refine HH.out.newLock HF.out.1 HF.out.2.1 W.heap.size (Nat.le_refl _) (by omega) (fun q hq hne => ?_) ?_ HM1.out
    · refine (HG1.out.block q (by rw [World.size_alloc]; omega) (fun e => hne (by cases e; rfl))).trans ?_
      exact (World.grownBy_alloc W _ none).block q hq (by simp)
    · refine (HG1.out.block W.heap.size (by rw [World.size_alloc]; omega) (fun e => ?_)).trans HB0.out
      have e2 : W.heap.size = lm := by cases e; rfl
      have := HH.out.lmap.lt
      omega
  have hGN := hGN1.below b2
  have hs2 := b2.size
  have hT1z : Hid (∀ q, w1.heap.size ≤ q → T1 q = 0) := hGN1.zero
  have hT1T : Hid (∀ q, q < W.heap.size → T1 q = T q) := fun q hq => by rw [hT1]; exact if_neg (by omega)
  have HTo2 : Hid (Touch T W w2) := ⟨b2.os.trans HG1.out.os, b2.tape.trans HG1.out.tape, b2.output.trans HG1.out.output, by omega, fun q hq h0 => by
    refine (b2.block q (by omega)).trans ((HG1.out.block q (by rw [World.size_alloc]; omega) (fun e => ?_)).trans ((World.grownBy_alloc W _ none).block q hq (by simp)))
    have e2 : q = lm := by cases e; rfl
    rw [e2, HH.out.tags.2.1] at h0
    omega⟩
  have H0 : Hid (Naming w2 T1 g r sm pm lm wm n N M K fr vf L k wk vw Fl1 xs xs.length (.int .i64 0) w2) :=
    ⟨0, T1, Hw, ids, by omega, rfl, hGN.than (fun x => by simp), fun _ _ => rfl, Touch.refl _ _⟩
  obtain ⟨A27, c27, e27, hc27⟩ := reads_terms hrow27
  subst e27
  have HC27 := Lib.hid hc27
  have HRow27 := Lib.hid hrow27
  have HSt := Lib.hid (And.intro hst hmem)
  have HKd := Lib.hid (And.intro hkd hFl1)
  have hkb : Hid (k.blk = W.heap.size) := by rw [hkd]; exact rfl
  clear hGN1 hGN hkd hT1 hFl1 hc27 hrow27 hst hmem b2 HG1 HM1 HB0 HAll hlook hrun g2 g3 g2b
  go_wp2
  go_loopg [29] xs.length (fun kk v29 wr => Naming w2 T1 g r sm pm lm wm n N M K fr vf L k wk vw Fl1 xs kk v29 wr)
  case atStart => exact H0.out
  case round =>
    obtain ⟨j, T', Hw', ids', hk, rfl, hG, hT, hTo⟩ := hrel
    have HK := Lib.hid hk
    have hszr := hTo.size
    by_cases hj : j < xs.length
    · obtain ⟨x, hx⟩ : ∃ x, xs[j]? = some x := ⟨_, List.getElem?_eq_getElem hj⟩
      have hnx : ¬ x ∈ xs.take j := by
        intro hm
        obtain ⟨i, hi, e⟩ := List.getElem_of_mem hm
        rw [List.getElem_take] at e
        rw [List.length_take] at hi
        have h1 := List.pairwise_iff_getElem.1 HSt.out.1 i j (by omega) hj (by omega)
        rw [e, (List.getElem?_eq_some_iff.1 hx).2] at h1
        unfold Tm.strict at h1
        have h2 := Tm.less_irr x
        rw [h1] at h2
        cases h2
      have hxs : x.length ≤ 20000 := by
        have := (Tm.ofL_ok (((HSt.out.2 x).1 (List.mem_of_getElem? hx)).right HF.out.2.2).1).2.2.2.2.2
        exact this
      obtain ⟨g27, rfl, hg27, hc27⟩ := HC27.out j x hx
      have hcell27 : wr.cell? ⟨g27, j, none⟩ = some (.string ⟨x.toArray⟩) := by
        have hlo := (HRow27.out.lt g27 rfl).1
        exact (World.cell?_of_block (hTo.same g27 hg27 (hT1z.out g27 hlo))).trans hc27
      have lg := (Array.getElem?_eq_some_iff.1 hG.block).1
      have hcg3 : wr.cell? ⟨g, 3, none⟩ = some (.map (some wm)) := by have := hG.block; simp [World.cell?, this, gCells]
      have hvals := (hG.within x).1
      have htag := (hG.within x).2.1
      have hLN : (ids' x).length ≤ M + 1 := (hG.within x).2.2.2
      have hlookR : Hid (∀ y : World, y.heap[wm]? = wr.heap[wm]? → (Instr.lookup 118 (.map (some wm)) (.string ⟨x.toArray⟩) false).run Try.prog y = .ok (slot0 Hw' x) y) := fun y hy =>
        (hG.wmap.same hy).look Try.underlying118 (zero_locks y) hxs
      have hset : Hid (∀ (v : Value) (y : World), y.heap[wm]? = wr.heap[wm]? → ∃ w5, (Instr.mapUpdate 118 (.map (some wm)) (.string ⟨x.toArray⟩) v).run Try.prog y = .ok () w5 ∧ MapAt w5 wm (700001 * M + j + 1) (setAt Hw' x v) ∧ y.grownBy w5 (some wm)) := fun v y hy =>
        (hG.wmap.same hy).set Try.underlying118 (by unfold maxLen; omega) hxs v
      have hwmlt := hG.wmap.lt
      have hwmT : T' wm = 2 := hG.tags.2.2
      have hwmA : Hid (∀ y : World, ((wr.alloc (.cells #[(.pointer (some ⟨W.heap.size, 0, none⟩))] 153)).drew).grownBy y (slot0 Hw' x).ownBlock → y.heap[wm]? = wr.heap[wm]?) := fun y hg => by
        refine (hg.block wm (by simp [World.drew]; omega) (fun e => ?_)).trans ?_
        · have := htag wm e.symm
          omega
        · exact (World.grownBy_alloc wr (.cells #[(.pointer (some ⟨W.heap.size, 0, none⟩))] 153) none).block wm hwmlt (by simp)
      have hgne : Hid ((slot0 Hw' x).ownBlock ≠ some g) := fun e => by
        have := htag g e
        rw [hG.tags.1] at this
        omega
      have hgwm : ¬ g = wm := by
        rintro rfl
        obtain ⟨es, cl, hm⟩ := hG.wmap.block
        rw [hG.block] at hm; cases hm
      obtain ⟨vs, hvs⟩ : ∃ vs, slot0 Hw' x = vs := ⟨_, rfl⟩
      obtain ⟨Ln, hLn⟩ : ∃ Ln, (ids' x).length = Ln := ⟨_, rfl⟩
      obtain ⟨vals, hvl⟩ : ∃ vals, (ids' x).map (ptrL (L ++ [k])) = vals := ⟨_, rfl⟩
      have HStep : Hid (∀ (gg cap : Nat) (wA w5 : World), wA.ownsRow 0 153 1 (.slice (some ⟨gg, 0, none⟩) (Ln + 1) cap) (Ln + 1) (vals ++ [.pointer (some ⟨W.heap.size, 0, none⟩)]) → ((wr.alloc (.cells #[(.pointer (some ⟨W.heap.size, 0, none⟩))] 153)).drew).grownBy wA vs.ownBlock → (vs.ownBlock = some gg ∨ gg = wr.heap.size + 1) → gg < wA.heap.size →
          wA.grownBy w5 (some wm) → MapAt w5 wm (700001 * M + j + 1) (setAt Hw' x (.slice (some ⟨gg, 0, none⟩) (Ln + 1) cap)) → Naming w2 T1 g r sm pm lm wm n N M K fr vf L k wk vw Fl1 xs (gk - 1) (.int .i64 ((j + 1 : Nat) : Int)) w5) := by
        intro gg cap wA w5 k1 k2 k3 k3b k4 k5
        subst hvs hLn hvl
        have hgA : wr.grownBy wA (slot0 Hw' x).ownBlock := grown_trans (World.grownBy_alloc wr (.cells #[(.pointer (some ⟨W.heap.size, 0, none⟩))] 153) _) ⟨k2.os, k2.tape, k2.output, k2.size, k2.block⟩
        rw [← hkb.out] at k1
        obtain ⟨s1, s2, s3⟩ := hG.step HF.out.1 hnx hgA k1 (k3.imp (fun e => e.symm) (fun e => ⟨gg, rfl, by omega⟩)) k4 k5
        refine ⟨j + 1, _, _, _, by have := HK.out; omega, rfl, s1.than (fun y => ?_), fun q hq => (s2 q (by omega)).trans (hT q hq), hTo.trans s3 hT⟩
        have e := List.take_add_one (l := xs) (i := j)
        rw [hx] at e
        rw [e]
        simp
      rw [hvs] at hlookR hwmA hgne hvals
      rw [hLn] at hvals hLN
      rw [hvl] at hvals
      have HRow0 := Lib.hid hvals
      have hgk : gk - 1 < gk := by omega
      have j1 : (j : Int) < (xs.length : Int) := by omega
      have j2 : (0 : Int) ≤ (j : Int) := by omega
      have hlk := hlookR.out wr rfl
      have hlk1 := hlookR.out wr.drew rfl
      have hlk2 := hlookR.out ((wr.alloc (.cells #[.pointer (some ⟨W.heap.size, 0, none⟩)] 153)).drew) ((World.grownBy_alloc wr (.cells #[.pointer (some ⟨W.heap.size, 0, none⟩)] 153) none).block wm (by omega) (by simp))
      clear hx hc27 hnx hxs htag hG hT hTo hk hvs hLn hvl hvals hwmT H0
      go_wp2
      go_region_held3 (fun w' => w'.cell? ⟨g, 3, none⟩ = some (.map (some wm)))
        (first
          | go_keep
          | (rw [hgrow.cell_far _ (by simp; omega) (Ne.symm hgne.out)]; assumption)
          | (rw [hg5.cell_far ⟨g, 3, none⟩ (by simp; have := hgrow.size; simp at this; omega) (by simp; exact hgwm)]; assumption))
        ((refine step_append_lies _ (by rfl) _ _ _ (by rfl) 0 153 i0 _ 1 8 Try.underlying119 hi hz0 hz1 hz2 rfl (by omega) vs Ln vals (by rfl) ((HRow0.out.alloc _).drew)
            ⟨wr.heap.size, 0, none⟩ 1 1 [(.pointer (some ⟨W.heap.size, 0, none⟩))] (by rfl) (by rfl) (World.news_of_block (cs := #[(.pointer (some ⟨W.heap.size, 0, none⟩))]) (t := 153) (fr := (0, 0)) (heap_alloc_new wr _)) (by simp [Value.oneCell'])
            (by omega) (by unfold maxLen; omega) (by omega) (by simp) (wr.heap.size + 1) (by simp) ?_; intro gg cap wA hown1 hgrow hat hlt; obtain ⟨w5, hrun5, hm5, hg5⟩ := hset.out (.slice (some ⟨gg, 0, none⟩) (Ln + 1) cap) wA (hwmA.out _ hgrow)))
      all_goals
        have hRel := Lib.hid (HStep.out gg cap wA w5 hown1 hgrow hat hlt hg5 hm5)
        clear hown1 hgrow hat hlt hg5 hm5 hrun5 hlk hlk1 hlk2
        go_wp2
        go_roundg (gk - 1)
        case measure => exact hgk
        case rel => exact hRel.out
    · obtain rfl : j = xs.length := by omega
      have j1 : ¬ ((xs.length : Int) < (xs.length : Int)) := by omega
      rw [List.take_length] at hG
      have hGI := hG.full (by omega) (fun t ht => (HSt.out.2 t).2 (by rw [HKd.out.1] at ht; exact ht))
      have hik : (L ++ [k])[L.length]? = some k := by simp
      have hop : k.opened = false ∧ k.woken = false ∧ k.texts = [] ∧ k.vt = .slice none 0 0 ∧ k.key = key := by rw [HKd.out.1]; exact ⟨rfl, rfl, rfl, rfl, rfl⟩
      have HRo := rouse_calls hGI hik (by rw [hop.2.1]; constructor; · intro h; cases h
                                          · intro h; have := hG.wkin.1 _ h; omega) (by simp; omega)
      rw [hkb.out] at HRo
      have HRo := Lib.hid HRo
      have HT' := Lib.hid (And.intro hT hTo)
      clear hG hT hTo hk hGI hik H0
      go_wp2_with fail
      refine HRo.out.mono ?_
      rintro e w3 ⟨rfl, T3, L3, wk3, vw3, hG3, hor, hT3, hTo3⟩
      obtain ⟨rfl, rfl, _, _⟩ := hor.resolve_left (by rintro ⟨_, _, h | h⟩ <;> simp [hop] at h)
      have eset : (L ++ [k]).set L.length { k with woken := true } = L ++ [{ k with woken := true }] := by
        rw [List.set_append_right _ _ (Nat.le_refl _), Nat.sub_self]; rfl
      rw [eset] at hG3
      obtain ⟨k2, hk2⟩ : ∃ k2 : Lk, ({ k with woken := true } : Lk) = k2 := ⟨_, rfl⟩
      rw [hk2] at hG3
      have hop2 : k2.opened = false ∧ k2.texts = [] ∧ k2.vt = .slice none 0 0 ∧ k2 = ⟨W.heap.size, key, [], .slice none 0 0, false, true⟩ := by rw [← hk2, HKd.out.1]; exact ⟨rfl, rfl, rfl, rfl⟩
      have hik3 : (L ++ [k2])[L.length]? = some k2 := by simp
      have hk3 := hG3.locks L.length _ hik3
      obtain ⟨_, c1, c2, _, cf⟩ := hk3.cell
      have hbk : k2.blk = W.heap.size := by rw [hop2.2.2.2]
      rw [hbk] at c1 c2 cf
      have c1' : w3.cell? ⟨W.heap.size, 1, none⟩ = some (.slice none 0 0) := by rw [c1]; exact congrArg some hop2.2.2.1
      have c2' : w3.cell? ⟨W.heap.size, 2, none⟩ = some (.bool false) := by rw [c2]; exact congrArg (fun b => some (Value.bool b)) hop2.1
      have lb := (Array.getElem?_eq_some_iff.1 hk3.block).1
      rw [hbk] at lb
      have hrow : w3.ownsRow 0 24 1 (.slice none 0 0) 0 [] := World.ownsRow_nil _ _ _ _
      have HNew : Hid (∀ (j : Nat) (u : Value), [Value.string ⟨p.toArray⟩][j]? = some u → (w3.alloc (.cells #[.string ⟨p.toArray⟩] 24)).cell? ((⟨w3.heap.size, 0, none⟩ : Addr).add j) = some u) := cell_one_new w3 (.string ⟨p.toArray⟩) 24
      have HAft : Hid (∀ w4 : World, (w3.alloc (.cells #[.string ⟨p.toArray⟩] 24)).grownBy w4 (Value.slice none 0 0).ownBlock → w4.cell? ⟨W.heap.size, 1, none⟩ = some (.slice none 0 0) ∧ w4.frozen? ⟨W.heap.size, 1, none⟩ = false) := fun w4 hg => by
        have hg2 := grown_trans (World.grownBy_alloc w3 (.cells #[.string ⟨p.toArray⟩] 24) (Value.slice none 0 0).ownBlock) hg
        have hb : w4.heap[W.heap.size]? = w3.heap[W.heap.size]? := hg2.block W.heap.size lb (fun e => by cases e)
        exact ⟨(World.cell?_of_block (a := ⟨W.heap.size, 1, none⟩) hb).trans c1', (World.frozen?_of_block (a := ⟨W.heap.size, 1, none⟩) hb).trans (cf 1)⟩
      have HFin : Hid (∀ (v2 : Value) (w4 : World), w4.ownsRow 0 24 1 v2 (0 + 1) ([] ++ [.string ⟨p.toArray⟩]) → (w3.alloc (.cells #[.string ⟨p.toArray⟩] 24)).grownBy w4 (Value.slice none 0 0).ownBlock → (v2.ownBlock = (Value.slice none 0 0).ownBlock ∨ v2.ownBlock = some (w3.alloc (.cells #[.string ⟨p.toArray⟩] 24)).heap.size) →
          ShutNew W T g r sm pm lm wm n N M K fr vf L wk key p (.returned (.tuple #[])) (w4.setCell ⟨W.heap.size, 1, none⟩ v2)) := fun v2 w4 j1 j2 j3 => by
        have hg2 := grown_trans (World.grownBy_alloc w3 (.cells #[.string ⟨p.toArray⟩] 24) (Value.slice none 0 0).ownBlock) j2
        have ev : k2.vt = .slice none 0 0 := hop2.2.2.1
        have et : k2.texts = [] := hop2.2.1
        obtain ⟨m1, m2, m3⟩ := hG3.kept (p := p) (v2 := v2) hik3 (by rw [ev]; exact hg2) (by rw [et]; exact j1) (by rw [ev]; exact j3.imp id (fun e => ⟨_, e, by rw [World.size_alloc]; omega⟩))
        have e5 : (L ++ [k2]).set L.length { k2 with texts := k2.texts ++ [p], vt := v2 } = L ++ [⟨W.heap.size, key, [p], v2, false, true⟩] := by
          rw [List.set_append_right _ _ (Nat.le_refl _), Nat.sub_self, hop2.2.2.2]
          rfl
        rw [e5, hbk] at m1
        rw [hbk] at m3
        obtain ⟨t1, t2⟩ := HT'.out
        have hTr : ∀ q, q < W.heap.size → T' q = T q := fun q hq => (t1 q (Nat.lt_of_lt_of_le hq HTo2.out.size)).trans (hT1T.out q hq)
        have hszW : W.heap.size ≤ wr.heap.size := Nat.le_trans HTo2.out.size hszr
        have hT3r : ∀ q, q < W.heap.size → T3 q = T q := fun q hq => (hT3 q (Nat.lt_of_lt_of_le hq hszW)).trans (hTr q hq)
        have hToR : Touch T W wr := HTo2.out.trans t2 (fun q hq => hT1T.out q hq)
        have hTo3r : Touch T W w3 := hToR.trans hTo3 hTr
        exact ⟨rfl, _, _, _, _, _, _, _, m1, fun q hq => (m2 q (Nat.lt_of_lt_of_le hq hTo3r.size)).trans (hT3r q hq), hTo3r.trans m3 hT3r⟩
      clear hG3 hT3 hTo3 hor hk3 c1 c2 cf hik3 eset HRo HT' HTo2 hT1T hT1z HKd hop HC27 HSt hop2 hk2
      go_wp2_with (at_builtin; refine wpList_append_own_at _ rfl _ _ 38 rfl 0 24 t0 _ 1 16 Try.underlying38 ht0 tz0 tz1 tz2 rfl (by decide) _ _ _ rfl (hrow.alloc _) ⟨w3.heap.size, 0, none⟩ 1 1 [.string ⟨p.toArray⟩] rfl rfl HNew.out (by simp [Value.oneCell']) (by unfold maxLen; omega) (by omega) (by simp) ?_; intro v2 w4 hown' hgrow hnil hat; obtain ⟨g2, cap2, rfl⟩ := ownsRow_succ hown'; have hc4 := (HAft.out w4 hgrow).1; have hf4 := (HAft.out w4 hgrow).2)
      refine bodyPost_end (results_none rfl _ _ _) rfl ?_
      exact HFin.out _ w4 hown' hgrow hat

end Go.Proofs.Ytloheongiceliaa
end
