/- Contract of (*gatherer).opens: a lock is tried. know.pop over a gatherer: of what is fresh, of who is to be tried. Contract of (*gatherer).opens where the key can be made. Contract of (*gatherer).opens where the key can be made, and nothing is kept. -/
import Derived.Test.YtloheongiceliaaGathA
import Derived.Deep.RegionHeld3
import Derived.Deep.AppendLies
import Derived.Laws.OwnMore
section
namespace Go.Proofs.Ytloheongiceliaa
open Go.ChangeShapes Go.WideShapes Go.ChangeAt Go.RowKit

/-- A lock whose last field is set. -/
theorem GI.quiet {W : World} {T : Nat → Nat} {g r sm pm lm wm n N M : Nat} {K : List UInt8 → Prop} {fr : List (List UInt8)} {vf : Value} {L : List Lk} {wk : List Nat} {vw : Value} {Fl Hw : List UInt8 → Option Value} {ids : List UInt8 → List Nat}
    (h : GI W T g r sm pm lm wm n N M K fr vf L wk vw Fl Hw ids) {i : Nat} {k : Lk} (hi : L[i]? = some k) : GI (W.setCell ⟨k.blk, 3, none⟩ (.bool false)) T g r sm pm lm wm n N M K fr vf (L.set i { k with woken := false }) wk vw Fl Hw ids := by
  have hk := h.locks i k hi
  refine h.lockTurn hi (h.marked (by simp [World.setCell])) rfl rfl (fun q _ hne _ => Below.heap_setCell _ _ _ _ hne) ⟨?_, hk.tag, ?_, hk.trow, hk.empty⟩
  · rw [show ({ k with woken := false } : Lk).blk = k.blk from rfl, set_block hk.block]
    rfl
  · exact row_same hk.row (fun q e => Below.heap_setCell _ _ _ _ (fun e2 => by
      have e3 : q = k.blk := e2
      have := hk.trow q e
      rw [e3, hk.tag] at this
      omega))

def OpensNo (W : World) (T : Nat → Nat) (g r sm pm lm wm n N M : Nat) (K : List UInt8 → Prop) (fr : List (List UInt8)) (vf : Value) (L : List Lk) (wk : List Nat) (vw : Value) (Fl Hw : List UInt8 → Option Value) (ids : List UInt8 → List Nat) (i : Nat) (k : Lk) (e : Ending) (W' : World) : Prop :=
  e = .returned (.bool false) ∧ GI W' T g r sm pm lm wm (n + k.key.length) N M K fr vf (L.set i { k with woken := false }) wk vw Fl Hw ids ∧ Touch T W W'

set_option maxRecDepth 100000 in
set_option maxHeartbeats 4000000 in
theorem opens_no {W : World} {T : Nat → Nat} {g r sm pm lm wm n N M : Nat} {K : List UInt8 → Prop} {fr : List (List UInt8)} {vf : Value} {L : List Lk} {wk : List Nat} {vw : Value} {Fl Hw : List UInt8 → Option Value} {ids : List UInt8 → List Nat}
    (h : GI W T g r sm pm lm wm n N M K fr vf L wk vw Fl Hw ids) {i : Nat} {k : Lk} (hi : L[i]? = some k) (hkr : Tm.right k.key = true) (hn : n + k.key.length ≤ roomK) (hN : N ≤ 1000000000) (hmk : ¬ Tm.Mk K k.key) :
    Calls Try.prog 97 #[.pointer (some ⟨g, 0, none⟩), .pointer (some ⟨k.blk, 0, none⟩)] W (OpensNo W T g r sm pm lm wm n N M K fr vf L wk vw Fl Hw ids i k) := by
  have hk := h.locks i k hi
  have hf3 := hk.cell.2.2.2.2 3
  have hc3 := hk.cell.2.2.2.1
  have h1 := h.quiet hi
  have hk1 : LockI (W.setCell ⟨k.blk, 3, none⟩ (.bool false)) T i { k with woken := false } := h1.locks i _ (List.getElem?_set_self (List.getElem?_eq_some_iff.1 hi).1)
  have cg0 := h1.gcell.1
  have ck0 : (W.setCell ⟨k.blk, 3, none⟩ (.bool false)).cell? ⟨k.blk, 0, none⟩ = some (.string ⟨k.key.toArray⟩) := hk1.cell.1
  obtain ⟨W1, hW1⟩ : ∃ W1, W.setCell ⟨k.blk, 3, none⟩ (.bool false) = W1 := ⟨_, rfl⟩
  have hs1 : W1.heap.size = W.heap.size := by rw [← hW1]; simp [World.setCell]
  have hw1o : Touch T W W1 := by
    rw [← hW1]
    exact ⟨rfl, rfl, rfl, by simp [World.setCell], fun q _ h0 => Below.heap_setCell _ _ _ _ (fun e => by have e2 : q = k.blk := e; rw [e2, hk.tag] at h0; omega)⟩
  rw [hW1] at h1 cg0 ck0
  have hsm := h1.row.map
  have hsml := h1.row.lt.2.1
  have HMk : Hid (∀ Y : World, Y.heap = W1.heap → Calls Try.prog 73 #[.pointer (some ⟨r, 0, none⟩), .string ⟨k.key.toArray⟩] Y (MakesOut Y T r sm pm n N K k.key)) := fun Y hY =>
    makes_calls hN k.key.length k.key (Nat.le_refl _) hkr Y n (h1.row.keep (by rw [hY]; exact Nat.le_refl _) (fun q _ _ => by rw [hY])) hn
  have HKeep : Hid (∀ Y w2 : World, Y.heap = W1.heap → Y.grownBy w2 (some sm) → w2.cell? ⟨g, 0, none⟩ = some (.pointer (some ⟨r, 0, none⟩)) ∧ w2.cell? ⟨k.blk, 0, none⟩ = some (.string ⟨k.key.toArray⟩)) := fun Y w2 hY hg => by
    obtain ⟨es, cl, hm⟩ := hsm
    have far : ∀ (q : Addr) (v : Value), W1.cell? q = some v → w2.cell? q = some v := fun q v hv => by
      obtain ⟨o, ho, hoc⟩ := cells_of_cell hv
      have hne : q.block ≠ sm := fun e => by rw [e, hm] at ho; cases ho; cases hoc
      have hlt := (Array.getElem?_eq_some_iff.1 ho).1
      have : w2.heap[q.block]? = W1.heap[q.block]? := (hg.block q.block (by rw [hY]; exact hlt) (fun e => hne (by cases e; rfl))).trans (by rw [hY])
      exact (World.cell?_of_block this).trans hv
    exact ⟨far _ _ cg0, far _ _ ck0⟩
  have HFin : Hid (∀ Y w2 : World, Y.heap = W1.heap → Y.os = W1.os → Y.tape = W1.tape → Y.output = W1.output → MakesOut Y T r sm pm n N K k.key (.returned (.bool false)) w2 → OpensNo W T g r sm pm lm wm n N M K fr vf L wk vw Fl Hw ids i k (.returned (.bool false)) w2) := fun Y w2 hY o1 o2 o3 ⟨b, _, _, hI, hg⟩ => by
    have hsz : W1.heap.size ≤ w2.heap.size := by have := hg.size; rw [hY] at this; exact this
    have hsame : ∀ q, q < W1.heap.size → T q ≠ 1 → w2.heap[q]? = W1.heap[q]? := fun q hq hne => (hg.block q (by rw [hY]; exact hq) (fun e => by cases e; exact hne h1.row.tags.2.1)).trans (by rw [hY])
    refine ⟨rfl, h1.rowTurn hI hsame (fun _ _ => rfl) (fun q hq => h1.zero q (by omega)), hw1o.trans (T' := T) ⟨hg.os.trans o1, hg.tape.trans o2, hg.output.trans o3, hsz, fun q hq h0 => hsame q hq (by rw [h0]; omega)⟩ (fun _ _ => rfl)⟩
  have HM2 : Hid (Calls Try.prog 73 #[.pointer (some ⟨r, 0, none⟩), .string ⟨k.key.toArray⟩] W1.drew fun e w2 => e = .returned (.bool false) ∧ w2.cell? ⟨g, 0, none⟩ = some (.pointer (some ⟨r, 0, none⟩)) ∧ w2.cell? ⟨k.blk, 0, none⟩ = some (.string ⟨k.key.toArray⟩) ∧ Hid (OpensNo W T g r sm pm lm wm n N M K fr vf L wk vw Fl Hw ids i k (.returned (.bool false)) w2)) := by
    refine (HMk.out W1.drew rfl).mono ?_
    rintro e w2 ⟨b, rfl, hb, hI, hg⟩
    cases b with
    | true => exact absurd (hb.1 rfl) hmk
    | false =>
      obtain ⟨q1, q2⟩ := HKeep.out W1.drew w2 rfl hg
      exact ⟨rfl, q1, q2, HFin.out W1.drew w2 rfl rfl rfl rfl ⟨false, rfl, hb, hI, hg⟩⟩
  clear h hi h1 hk hk1 hkr hsm hs1 hw1o HFin HKeep HMk hmk
  go_enter Try.func97, Try.ntmps97
  go_wp2
  clear hW1
  go_region_held3 (fun w' => w'.cell? ⟨g, 0, none⟩ = some (.pointer (some ⟨r, 0, none⟩)) ∧ w'.cell? ⟨k.blk, 0, none⟩ = some (.string ⟨k.key.toArray⟩)) (go_keep) (first
    | (go_at_call 73; refine HM2.out.mono ?_; rintro e' w2 ⟨rfl, hq1, hq2, HO⟩))
  go_wp2
  go_ret
  exact HO.out

end Go.Proofs.Ytloheongiceliaa
end

section
namespace Go.Proofs.Ytloheongiceliaa
open Go.ChangeShapes Go.WideShapes Go.ChangeAt Go.RowKit

theorem row_first {W : World} {B : Nat} {e : TypeId} {b cap m : Nat} {xs : List Value} {x : Value} (h : W.ownsRow B e 1 (.slice (some ⟨b, 0, none⟩) (m + 1) cap) (m + 1) (xs ++ [x])) (hm : xs.length = m) : W.ownsRow B e 1 (.slice (some ⟨b, 0, none⟩) m cap) m xs := by
  rcases h.2 with ⟨h1, _⟩ | ⟨g, cap', cur, h1, h2, h3, h4, h5, h6, h7⟩
  · cases h1
  · cases h1
    refine ⟨by omega, .inr ⟨b, cap, cur, rfl, h2, h3, by omega, h5, h6, ?_⟩⟩
    have := congrArg (List.take m) h7
    rw [List.take_take] at this
    rw [Nat.mul_one] at *
    rw [show min m (m + 1) = m by omega] at this
    rw [this, List.take_left' hm]

def PopLock (W : World) (g b m cap : Nat) (u : Value) (e : Ending) (W' : World) : Prop := e = .returned u ∧ W.setCell ⟨g, 4, none⟩ (.slice (some ⟨b, 0, none⟩) m cap) = W'
set_option maxRecDepth 100000 in
set_option maxHeartbeats 1000000 in
theorem popLock_calls (W : World) (g b m cap kb : Nat) (hc : W.cell? ⟨g, 4, none⟩ = some (.slice (some ⟨b, 0, none⟩) (m + 1) cap)) (hf : W.frozen? ⟨g, 4, none⟩ = false) (hx : W.cell? ⟨b, m, none⟩ = some (.pointer (some ⟨kb, 0, none⟩))) (hcap : m + 1 ≤ cap) (hlen : m ≤ 1000000000) :
    Calls Try.prog 98 #[.pointer (some ⟨g, 4, none⟩)] W (PopLock W g b m cap (.pointer (some ⟨kb, 0, none⟩))) := by
  have j1 : (m : Int) ≤ (cap : Int) := by omega
  have j2 : (m : Int) ≤ (m : Int) + 1 := by omega
  have j3 : (0 : Int) ≤ (m : Int) := by omega
  have j4 : (m : Int) < (m : Int) + 1 := by omega
  have j5 : IntKind.i64.wrap (m : Int) = (m : Int) := by rw [IntKind.wrap_i64]; omega
  go_enter Try.func98, Try.ntmps98
  go_wp2
  go_ret
  exact ⟨rfl, rfl⟩

section
variable {W : World} {T : Nat → Nat} {g r sm pm lm wm n N M : Nat} {K : List UInt8 → Prop} {fr : List (List UInt8)} {vf : Value} {L : List Lk} {wk : List Nat} {vw : Value} {Fl Hw : List UInt8 → Option Value} {ids : List UInt8 → List Nat}
theorem GI.popWoken {i b cap : Nat} (h : GI W T g r sm pm lm wm n N M K fr vf L (wk ++ [i]) (.slice (some ⟨b, 0, none⟩) (wk.length + 1) cap) Fl Hw ids) :
    GI (W.setCell ⟨g, 4, none⟩ (.slice (some ⟨b, 0, none⟩) wk.length cap)) T g r sm pm lm wm n N M K fr vf L wk (.slice (some ⟨b, 0, none⟩) wk.length cap) Fl Hw ids := by
  have hw := h.woken.1
  rw [List.length_append, List.map_append] at hw
  have ht := h.woken.2 b rfl
  refine h.wokenTurn (h.marked (by simp [World.setCell])) (fun q _ hne _ => Below.heap_setCell _ _ _ _ hne) ?_ ?_ (fun q e => by cases e; exact ht) ⟨fun j hj => h.wkin.1 j (List.mem_append_left _ hj), (List.nodup_append.1 h.wkin.2).1⟩
  · rw [set_block h.block]
    rfl
  · refine row_same (row_first hw (by simp)) (fun q e => Below.heap_setCell _ _ _ _ (fun e2 => ?_))
    have e3 : q = g := e2
    have e4 : b = q := by simpa [Value.ownBlock] using e
    rw [e4, e3, h.tags.1] at ht
    omega
theorem GI.popFresh {x : List UInt8} {b cap : Nat} (h : GI W T g r sm pm lm wm n N M K (fr ++ [x]) (.slice (some ⟨b, 0, none⟩) (fr.length + 1) cap) L wk vw Fl Hw ids) :
    GI (W.setCell ⟨g, 1, none⟩ (.slice (some ⟨b, 0, none⟩) fr.length cap)) T g r sm pm lm wm n N M K fr (.slice (some ⟨b, 0, none⟩) fr.length cap) L wk vw Fl Hw ids := by
  have hf := h.fresh.1
  rw [List.length_append] at hf
  have ht := h.fresh.2 b rfl
  refine h.freshTurn (h.marked (by simp [World.setCell])) (fun q _ hne _ => Below.heap_setCell _ _ _ _ hne) ?_ ?_ (fun q e => by cases e; exact ht)
  · rw [set_block h.block]
    rfl
  · refine row_same (row_init hf) (fun q e => Below.heap_setCell _ _ _ _ (fun e2 => ?_))
    have e3 : q = g := e2
    have e4 : b = q := by simpa [Value.ownBlock] using e
    rw [e4, e3, h.tags.1] at ht
    omega
theorem GI.touch_own {j : Nat} (v : Value) (h : GI W T g r sm pm lm wm n N M K fr vf L wk vw Fl Hw ids) : Touch T W (W.setCell ⟨g, j, none⟩ v) :=
  ⟨rfl, rfl, rfl, by simp [World.setCell], fun q _ h0 => Below.heap_setCell _ _ _ _ (fun e => by have e2 : q = g := e; rw [e2, h.tags.1] at h0; omega)⟩
end

end Go.Proofs.Ytloheongiceliaa
end

section
namespace Go.Proofs.Ytloheongiceliaa
open Go.ChangeShapes Go.WideShapes Go.ChangeAt Go.RowKit

def OpensYes (W : World) (T : Nat → Nat) (g r sm pm lm wm n N M : Nat) (K : List UInt8 → Prop) (fr : List (List UInt8)) (L : List Lk) (wk : List Nat) (vw : Value) (Fl Hw : List UInt8 → Option Value) (ids : List UInt8 → List Nat) (i : Nat) (k : Lk) (e : Ending) (W' : World) : Prop :=
  e = .returned (.bool true) ∧ ∃ T' vf', GI W' T' g r sm pm lm wm (n + k.key.length) N M K (fr ++ k.texts) vf' (L.set i { k with woken := false, opened := true, texts := [], vt := .slice none 0 0 }) wk vw Fl Hw ids ∧ (∀ q, q < W.heap.size → T' q = T q) ∧ Touch T W W'

section
variable {W : World} {T : Nat → Nat} {g r sm pm lm wm n N M : Nat} {K : List UInt8 → Prop} {fr : List (List UInt8)} {vf : Value} {L : List Lk} {wk : List Nat} {vw : Value} {Fl Hw : List UInt8 → Option Value} {ids : List UInt8 → List Nat}
/-- What is fresh has got more. -/
theorem GI.pushed {wA : World} {ps : List (List UInt8)} {v2 : Value} (h : GI W T g r sm pm lm wm n N M K fr vf L wk vw Fl Hw ids) (hg : W.grownBy wA vf.ownBlock) (hown : wA.ownsRow 0 24 1 v2 (fr ++ ps).length (strs (fr ++ ps))) (hat : v2.ownBlock = vf.ownBlock ∨ ∃ q, v2.ownBlock = some q ∧ W.heap.size ≤ q) :
    GI (wA.setCell ⟨g, 1, none⟩ v2) (fun q => if v2.ownBlock = some q then 3 else T q) g r sm pm lm wm n N M K (fr ++ ps) v2 L wk vw Fl Hw ids ∧ (∀ q, q < W.heap.size → (if v2.ownBlock = some q then 3 else T q) = T q) ∧ Touch T W (wA.setCell ⟨g, 1, none⟩ v2) := by
  have lg := (Array.getElem?_eq_some_iff.1 h.block).1
  have hvf := h.fresh.2
  have hgv : vf.ownBlock ≠ some g := fun e => by have := hvf g e; rw [h.tags.1] at this; omega
  have hsz : W.heap.size ≤ (wA.setCell ⟨g, 1, none⟩ v2).heap.size := by simp [World.setCell]; exact hg.size
  have hT : ∀ q, q < W.heap.size → (if v2.ownBlock = some q then 3 else T q) = T q := fun q hq => by
    split
    · rename_i e
      rcases hat with h1 | ⟨q', h1, h2⟩
      · exact (hvf q (h1 ▸ e)).symm
      · rw [h1] at e; cases e; omega
    · rfl
  have hsame : ∀ q, q < W.heap.size → q ≠ g → T q ≠ 3 → (wA.setCell ⟨g, 1, none⟩ v2).heap[q]? = W.heap[q]? := fun q hq h1 h2 =>
    (Below.heap_setCell _ _ _ _ h1).trans (hg.block q hq (fun e => h2 (hvf q e.symm)))
  have hm : Marked W (wA.setCell ⟨g, 1, none⟩ v2) T (fun q => if v2.ownBlock = some q then 3 else T q) := ⟨hsz, hT, fun q hq => by
      show (if v2.ownBlock = some q then 3 else T q) ≠ 1
      split
      · omega
      · rw [h.zero q hq]; omega, fun q hq => by
      show (if v2.ownBlock = some q then 3 else T q) = 0
      have : (wA.setCell ⟨g, 1, none⟩ v2).heap.size = wA.heap.size := by simp [World.setCell]
      rw [this] at hq
      rw [if_neg (fun e => by have := row_lt hown e; omega)]
      exact h.zero q (by have := hg.size; omega)⟩
  refine ⟨h.freshTurn hm hsame ?_ ?_ (fun q e => by simp [e]), hT, ⟨hg.os, hg.tape, hg.output, hsz, fun q hq h0 => hsame q hq (fun e => by rw [e, h.tags.1] at h0; omega) (by rw [h0]; omega)⟩⟩
  · rw [set_block ((hg.block g lg (fun e => hgv e.symm)).trans h.block)]
    rfl
  · refine row_same hown (fun q e => Below.heap_setCell _ _ _ _ (fun e2 => ?_))
    have e3 : q = g := e2
    rw [e3] at e
    rcases hat with h1 | ⟨q', h1, h2⟩
    · exact hgv (h1 ▸ e)
    · rw [h1] at e
      have e4 : q' = g := by simpa using e
      omega
/-- A lock stands open. -/
theorem GI.opened {i : Nat} {k : Lk} (h : GI W T g r sm pm lm wm n N M K fr vf L wk vw Fl Hw ids) (hi : L[i]? = some k) :
    GI ((W.setCell ⟨k.blk, 2, none⟩ (.bool true)).setCell ⟨k.blk, 1, none⟩ (.slice none 0 0)) T g r sm pm lm wm n N M K fr vf (L.set i { k with opened := true, texts := [], vt := .slice none 0 0 }) wk vw Fl Hw ids ∧ Touch T W ((W.setCell ⟨k.blk, 2, none⟩ (.bool true)).setCell ⟨k.blk, 1, none⟩ (.slice none 0 0)) := by
  have hk := h.locks i k hi
  have hsame : ∀ q, q ≠ k.blk → ((W.setCell ⟨k.blk, 2, none⟩ (.bool true)).setCell ⟨k.blk, 1, none⟩ (.slice none 0 0)).heap[q]? = W.heap[q]? := fun q hq => (Below.heap_setCell _ _ _ _ hq).trans (Below.heap_setCell _ _ _ _ hq)
  refine ⟨h.lockTurn hi (h.marked (by simp [World.setCell])) rfl rfl (fun q _ hne _ => hsame q hne) ⟨?_, hk.tag, World.ownsRow_nil _ _ _ _, fun q e => (by cases e), fun _ => rfl⟩, ⟨rfl, rfl, rfl, by simp [World.setCell], fun q _ h0 => hsame q (fun e => by rw [e, hk.tag] at h0; omega)⟩⟩
  rw [show ({ k with opened := true, texts := [], vt := .slice none 0 0 } : Lk).blk = k.blk from rfl, set_block (set_block hk.block _)]
  rfl
end

set_option maxRecDepth 100000 in
set_option maxHeartbeats 8000000 in
theorem opens_some {W : World} {T : Nat → Nat} {g r sm pm lm wm n N M : Nat} {K : List UInt8 → Prop} {fr : List (List UInt8)} {vf : Value} {L : List Lk} {wk : List Nat} {vw : Value} {Fl Hw : List UInt8 → Option Value} {ids : List UInt8 → List Nat}
    (h : GI W T g r sm pm lm wm n N M K fr vf L wk vw Fl Hw ids) {i : Nat} {k : Lk} (hi : L[i]? = some k) (hkr : Tm.right k.key = true) (hn : n + k.key.length ≤ roomK) (hN : N ≤ 1000000000) (hmk : Tm.Mk K k.key) (hne : k.texts ≠ []) (hfl : fr.length ≤ 1000000000) (htl : k.texts.length ≤ 1000000000) :
    Calls Try.prog 97 #[.pointer (some ⟨g, 0, none⟩), .pointer (some ⟨k.blk, 0, none⟩)] W (OpensYes W T g r sm pm lm wm n N M K fr L wk vw Fl Hw ids i k) := by
  obtain ⟨i0, hii, hz0, hz1, hz2⟩ := info_parts info_term
  have hk := h.locks i k hi
  have hf3 := hk.cell.2.2.2.2 3
  have hc3 := hk.cell.2.2.2.1
  have h1 := h.quiet hi
  have hil := (List.getElem?_eq_some_iff.1 hi).1
  have hk1 : LockI (W.setCell ⟨k.blk, 3, none⟩ (.bool false)) T i { k with woken := false } := h1.locks i _ (List.getElem?_set_self hil)
  have cg0 := h1.gcell.1
  have ck0 : (W.setCell ⟨k.blk, 3, none⟩ (.bool false)).cell? ⟨k.blk, 0, none⟩ = some (.string ⟨k.key.toArray⟩) := hk1.cell.1
  obtain ⟨W1, hW1⟩ : ∃ W1, W.setCell ⟨k.blk, 3, none⟩ (.bool false) = W1 := ⟨_, rfl⟩
  have hs1 : W1.heap.size = W.heap.size := by rw [← hW1]; simp [World.setCell]
  have hw1o : Touch T W W1 := by
    rw [← hW1]
    exact ⟨rfl, rfl, rfl, by simp [World.setCell], fun q _ h0 => Below.heap_setCell _ _ _ _ (fun e => by have e2 : q = k.blk := e; rw [e2, hk.tag] at h0; omega)⟩
  rw [hW1] at h1 cg0 ck0
  have HM2 : Hid (Calls Try.prog 73 #[.pointer (some ⟨r, 0, none⟩), .string ⟨k.key.toArray⟩] W1.drew fun e w2 => e = .returned (.bool true) ∧ w2.cell? ⟨g, 0, none⟩ = some (.pointer (some ⟨r, 0, none⟩)) ∧ w2.cell? ⟨k.blk, 0, none⟩ = some (.string ⟨k.key.toArray⟩) ∧ Hid (GI w2 T g r sm pm lm wm (n + k.key.length) N M K fr vf (L.set i { k with woken := false }) wk vw Fl Hw ids ∧ Touch T W w2)) := by
    refine (makes_calls hN k.key.length k.key (Nat.le_refl _) hkr W1.drew n (h1.row.keep (Nat.le_refl _) (fun q _ _ => rfl)) hn).mono ?_
    rintro e w2 ⟨b, rfl, hb, hI, hg⟩
    have hbt : b = true := hb.2 hmk
    subst hbt
    have hsz : W1.heap.size ≤ w2.heap.size := hg.size
    have hsame : ∀ q, q < W1.heap.size → T q ≠ 1 → w2.heap[q]? = W1.heap[q]? := fun q hq hne => hg.block q hq (fun e => by cases e; exact hne h1.row.tags.2.1)
    have hG2 := h1.rowTurn hI hsame (fun _ _ => rfl) (fun q hq => h1.zero q (by omega))
    have hk2 := hG2.locks i _ (List.getElem?_set_self hil)
    exact ⟨rfl, hG2.gcell.1, hk2.cell.1, hG2, hw1o.trans (T' := T) ⟨hg.os, hg.tape, hg.output, hsz, fun q hq h0 => hsame q hq (by rw [h0]; omega)⟩ (fun _ _ => rfl)⟩
  have htk := hk.trow
  clear h h1 hk hk1 hkr hs1 hw1o hmk
  have HI := Lib.hid hi
  have HL := Lib.hid hil
  clear hi hil
  go_enter Try.func97, Try.ntmps97
  go_wp2
  clear hW1
  go_region_held3 (fun w' => w'.cell? ⟨g, 0, none⟩ = some (.pointer (some ⟨r, 0, none⟩)) ∧ w'.cell? ⟨k.blk, 0, none⟩ = some (.string ⟨k.key.toArray⟩)) (go_keep) (first
    | (go_at_call 73; refine HM2.out.mono ?_; rintro e' w2 ⟨rfl, hq1, hq2, HO⟩))
  obtain ⟨hG2, hTo2⟩ := HO.out
  have hi2 : (L.set i { k with woken := false })[i]? = some { k with woken := false } := List.getElem?_set_self HL.out
  have hk2 := hG2.locks i _ hi2
  have cvf := hG2.gcell.2.1
  have cvt : w2.cell? ⟨k.blk, 1, none⟩ = some k.vt := hk2.cell.2.1
  have hrowt : w2.ownsRow 0 24 1 k.vt k.texts.length (strs k.texts) := hk2.row
  obtain ⟨bt, ct, hvt, hTx, hbl⟩ := row_slice hrowt hne
  rw [hvt] at cvt
  have hfr := hG2.fresh.1
  have HFr := Lib.hid hfr
  have hnews : Hid (∀ (j : Nat) (u : Value), (strs k.texts)[j]? = some u → w2.drew.cell? ((⟨bt, 0, none⟩ : Addr).add j) = some u) := fun j u hu => by
    unfold strs at hu
    rw [List.getElem?_map, Option.map_eq_some_iff] at hu
    obtain ⟨z, hz, rfl⟩ := hu
    have e : (⟨bt, 0, none⟩ : Addr).add j = ⟨bt, j, none⟩ := by
      by_cases hj : j = 0
      · subst hj; simp [Addr.add]
      · simp [Addr.add, hj]
    rw [e]
    exact hTx j z hz
  have hone : Hid (∀ u ∈ strs k.texts, u.oneCell' = true) := fun u hu => by
    unfold strs at hu
    obtain ⟨z, _, rfl⟩ := List.mem_map.1 hu
    rfl
  have hpos : 0 < k.texts.length := List.length_pos_iff.2 hne
  have HG2 := Lib.hid (And.intro hG2 hTo2)
  clear hG2 hTo2 hk2 hrowt hTx HO hq1 hq2 HM2 hi2
  have HAft : Hid (∀ wA : World, w2.drew.grownBy wA vf.ownBlock → (wA.cell? ⟨g, 1, none⟩ = some vf ∧ wA.frozen? ⟨g, 1, none⟩ = false) ∧ wA.heap[k.blk]? = w2.heap[k.blk]?) := fun wA hg => by
    obtain ⟨hG, _⟩ := HG2.out
    have hkk := hG.locks i _ (List.getElem?_set_self HL.out)
    have hb : wA.heap[g]? = w2.heap[g]? := hg.block g (Array.getElem?_eq_some_iff.1 hG.block).1 (fun e => by have := hG.fresh.2 g e.symm; rw [hG.tags.1] at this; omega)
    refine ⟨⟨(World.cell?_of_block (a := ⟨g, 1, none⟩) hb).trans hG.gcell.2.1, (World.frozen?_of_block (a := ⟨g, 1, none⟩) hb).trans (hG.gcell.2.2.2.2.2 1)⟩, hg.block k.blk (Array.getElem?_eq_some_iff.1 hkk.block).1 (fun e => ?_)⟩
    have e1 := hG.fresh.2 k.blk e.symm
    have e2 : T k.blk = 6 + 2 * i := hkk.tag
    omega
  have HFin : Hid (∀ (gg cap : Nat) (wA : World), wA.ownsRow 0 24 1 (.slice (some ⟨gg, 0, none⟩) (fr.length + k.texts.length) cap) (fr.length + k.texts.length) (strs fr ++ strs k.texts) → w2.drew.grownBy wA vf.ownBlock → (vf.ownBlock = some gg ∨ gg = w2.heap.size) →
      OpensYes W T g r sm pm lm wm n N M K fr L wk vw Fl Hw ids i k (.returned (.bool true)) (((wA.setCell ⟨g, 1, none⟩ (.slice (some ⟨gg, 0, none⟩) (fr.length + k.texts.length) cap)).setCell ⟨k.blk, 2, none⟩ (.bool true)).setCell ⟨k.blk, 1, none⟩ (.slice none 0 0))) := fun gg cap wA k1 k2 k3 => by
    obtain ⟨hG, hTo⟩ := HG2.out
    have hg2 : w2.grownBy wA vf.ownBlock := ⟨k2.os, k2.tape, k2.output, k2.size, k2.block⟩
    have e1 : (fr ++ k.texts).length = fr.length + k.texts.length := by simp
    have e2 : strs (fr ++ k.texts) = strs fr ++ strs k.texts := by simp [strs]
    obtain ⟨m1, m2, m3⟩ := hG.pushed (ps := k.texts) (v2 := .slice (some ⟨gg, 0, none⟩) (fr.length + k.texts.length) cap) hg2 (by rw [e1, e2]; exact k1) (k3.imp (fun e => e.symm) (fun e => ⟨gg, rfl, by omega⟩))
    have hi3 : (L.set i { k with woken := false })[i]? = some { k with woken := false } := List.getElem?_set_self HL.out
    obtain ⟨m4, m5⟩ := m1.opened hi3
    rw [List.set_set] at m4
    refine ⟨rfl, _, _, m4, fun q hq => m2 q (Nat.lt_of_lt_of_le hq hTo.size), ?_⟩
    exact (hTo.trans m3 (fun _ _ => rfl)).trans m5 (fun q hq => m2 q (Nat.lt_of_lt_of_le hq hTo.size))
  have HBlk : Hid (∃ a b c d, w2.heap[k.blk]? = some (.cells #[a, b, c, d] 170 (0, 0))) := by
    obtain ⟨hG, _⟩ := HG2.out
    exact ⟨_, _, _, _, (hG.locks i _ (List.getElem?_set_self HL.out)).block⟩
  have hgkb : g ≠ k.blk := fun e => by
    obtain ⟨hG, _⟩ := HG2.out
    obtain ⟨a, b, c, d, hb⟩ := HBlk.out
    have := hG.block
    rw [e, hb] at this
    simp at this
  go_wp2
  go_region_law (first
    | (refine step_append_lies _ (by rfl) _ _ _ (by rfl) 0 24 i0 _ 1 16 Try.underlying38 hii hz0 hz1 hz2 rfl (by omega) vf fr.length (strs fr) (by rfl) (HFr.out.drew)
            ⟨bt, 0, none⟩ k.texts.length ct (strs k.texts) (by rfl) (by simp [strs]) hnews.out hone.out
            hpos (by unfold maxLen; omega) (by omega) (by simp) w2.heap.size rfl ?_
       intro gg cap wA hown1 hgrow hat hlt
       obtain ⟨⟨hA1, hA2⟩, hA3⟩ := HAft.out wA hgrow))
  all_goals
    obtain ⟨qa, qb, qc, qd, hq⟩ := HBlk.out
    have hb3 : (wA.setCell ⟨g, 1, none⟩ (.slice (some ⟨gg, 0, none⟩) (fr.length + k.texts.length) cap)).heap[k.blk]? = some (.cells #[qa, qb, qc, qd] 170 (0, 0)) := (Below.heap_setCell _ _ _ _ (fun e => hgkb e.symm)).trans (hA3.trans hq)
    have hb4 := set_block (i := 2) hb3 (.bool true)
    have s1 : (wA.setCell ⟨g, 1, none⟩ (.slice (some ⟨gg, 0, none⟩) (fr.length + k.texts.length) cap)).cell? ⟨k.blk, 2, none⟩ = some qc := by simp [World.cell?, hb3]
    have s2 : (wA.setCell ⟨g, 1, none⟩ (.slice (some ⟨gg, 0, none⟩) (fr.length + k.texts.length) cap)).frozen? ⟨k.blk, 2, none⟩ = false := by simp [World.frozen?, hb3]
    have s3 : ((wA.setCell ⟨g, 1, none⟩ (.slice (some ⟨gg, 0, none⟩) (fr.length + k.texts.length) cap)).setCell ⟨k.blk, 2, none⟩ (.bool true)).cell? ⟨k.blk, 1, none⟩ = some qb := by simp [World.cell?, hb4]
    have s4 : ((wA.setCell ⟨g, 1, none⟩ (.slice (some ⟨gg, 0, none⟩) (fr.length + k.texts.length) cap)).setCell ⟨k.blk, 2, none⟩ (.bool true)).frozen? ⟨k.blk, 1, none⟩ = false := by simp [World.frozen?, hb4]
    have hfin := Lib.hid (HFin.out gg cap wA hown1 hgrow hat)
    obtain ⟨w3, hw3⟩ : ∃ w3, wA.setCell ⟨g, 1, none⟩ (.slice (some ⟨gg, 0, none⟩) (fr.length + k.texts.length) cap) = w3 := ⟨_, rfl⟩
    rw [hw3] at s1 s2 s3 s4 hfin ⊢
    obtain ⟨w4, hw4⟩ : ∃ w4, w3.setCell ⟨k.blk, 2, none⟩ (.bool true) = w4 := ⟨_, rfl⟩
    rw [hw4] at s3 s4 hfin
    clear hb3 hb4 hq hA1 hA2 hA3 hown1 hgrow hat hlt hw3 HFin HAft HG2 HFr hfr cvf cvt hnews
    go_wp2
    go_ret
    exact hfin.out

end Go.Proofs.Ytloheongiceliaa
end

section
namespace Go.Proofs.Ytloheongiceliaa
open Go.ChangeShapes Go.WideShapes Go.ChangeAt Go.RowKit

theorem size_setCell' (w : World) (a : Addr) (v : Value) : (w.setCell a v).heap.size = w.heap.size := by simp [World.setCell]
/-- Append of no text at a step of a region that draws its order. -/
theorem step_append_none {P : Program} (w : World) {ops : Array Oper} {o : Oper} {a : Act} {K : Act → World → Prop} {Q : Exit → Act → World → Prop} {E : Prop} (hgd : o.guard = none) (s x : Operand) (t : TypeId)
    (ho : o.op = .call { callee := .builtin .append, args := #[s, x], argTypes := #[t, t] })
    (base : Nat) (e : TypeId) (i : TypeInfo) (size : Nat) (ht : P.underlying t = some (.slice e)) (hi : P.info? e = some i)
    (v : Value) (n : Nat) (xs : List Value) (hs : a.eval s = v) (hown : w.ownsRow base e size v n xs) (hx : a.eval x = .slice none 0 0)
    (h : K (a.put o.dst v) w) :
    if Region.wanted o (yielded ops a.tmps) = true then Oper.wp P o a w K Q else E := by
  have hw : Region.wanted o (yielded ops a.tmps) = true := by simp [Region.wanted, hgd]
  rw [if_pos hw]
  have hrun := run_append_owned_none (P := P) (w := w) base t o.type e i size ht hi v n xs hown
  unfold Oper.wp
  simp [execOp, ho, resolve, invoke, builtin, hs, hx, hrun, Result.andThen]
  exact h

set_option maxRecDepth 100000 in
set_option maxHeartbeats 8000000 in
theorem opens_none {W : World} {T : Nat → Nat} {g r sm pm lm wm n N M : Nat} {K : List UInt8 → Prop} {fr : List (List UInt8)} {vf : Value} {L : List Lk} {wk : List Nat} {vw : Value} {Fl Hw : List UInt8 → Option Value} {ids : List UInt8 → List Nat}
    (h : GI W T g r sm pm lm wm n N M K fr vf L wk vw Fl Hw ids) {i : Nat} {k : Lk} (hi : L[i]? = some k) (hkr : Tm.right k.key = true) (hn : n + k.key.length ≤ roomK) (hN : N ≤ 1000000000) (hmk : Tm.Mk K k.key) (hte : k.texts = []) :
    Calls Try.prog 97 #[.pointer (some ⟨g, 0, none⟩), .pointer (some ⟨k.blk, 0, none⟩)] W (OpensYes W T g r sm pm lm wm n N M K fr L wk vw Fl Hw ids i k) := by
  obtain ⟨pf, af, bf, rfl⟩ : ∃ p a b, vf = .slice p a b := by
    rcases h.fresh.1.2 with ⟨e, _⟩ | ⟨q, c, cur, e, _⟩
    · exact ⟨_, _, _, e⟩
    · exact ⟨_, _, _, e⟩
  obtain ⟨i0, hii, hz0, hz1, hz2⟩ := info_parts info_term
  have hk := h.locks i k hi
  have hf3 := hk.cell.2.2.2.2 3
  have hc3 := hk.cell.2.2.2.1
  have h1 := h.quiet hi
  have hil := (List.getElem?_eq_some_iff.1 hi).1
  have hk1 : LockI (W.setCell ⟨k.blk, 3, none⟩ (.bool false)) T i { k with woken := false } := h1.locks i _ (List.getElem?_set_self hil)
  have cg0 := h1.gcell.1
  have ck0 : (W.setCell ⟨k.blk, 3, none⟩ (.bool false)).cell? ⟨k.blk, 0, none⟩ = some (.string ⟨k.key.toArray⟩) := hk1.cell.1
  obtain ⟨W1, hW1⟩ : ∃ W1, W.setCell ⟨k.blk, 3, none⟩ (.bool false) = W1 := ⟨_, rfl⟩
  have hs1 : W1.heap.size = W.heap.size := by rw [← hW1]; simp [World.setCell]
  have hw1o : Touch T W W1 := by
    rw [← hW1]
    exact ⟨rfl, rfl, rfl, by simp [World.setCell], fun q _ h0 => Below.heap_setCell _ _ _ _ (fun e => by have e2 : q = k.blk := e; rw [e2, hk.tag] at h0; omega)⟩
  rw [hW1] at h1 cg0 ck0
  have HM2 : Hid (Calls Try.prog 73 #[.pointer (some ⟨r, 0, none⟩), .string ⟨k.key.toArray⟩] W1.drew fun e w2 => e = .returned (.bool true) ∧ w2.cell? ⟨g, 0, none⟩ = some (.pointer (some ⟨r, 0, none⟩)) ∧ w2.cell? ⟨k.blk, 0, none⟩ = some (.string ⟨k.key.toArray⟩) ∧ Hid (GI w2 T g r sm pm lm wm (n + k.key.length) N M K fr (.slice pf af bf) (L.set i { k with woken := false }) wk vw Fl Hw ids ∧ Touch T W w2)) := by
    refine (makes_calls hN k.key.length k.key (Nat.le_refl _) hkr W1.drew n (h1.row.keep (Nat.le_refl _) (fun q _ _ => rfl)) hn).mono ?_
    rintro e w2 ⟨b, rfl, hb, hI, hg⟩
    have hbt : b = true := hb.2 hmk
    subst hbt
    have hsz : W1.heap.size ≤ w2.heap.size := hg.size
    have hsame : ∀ q, q < W1.heap.size → T q ≠ 1 → w2.heap[q]? = W1.heap[q]? := fun q hq hne => hg.block q hq (fun e => by cases e; exact hne h1.row.tags.2.1)
    have hG2 := h1.rowTurn hI hsame (fun _ _ => rfl) (fun q hq => h1.zero q (by omega))
    have hk2 := hG2.locks i _ (List.getElem?_set_self hil)
    exact ⟨rfl, hG2.gcell.1, hk2.cell.1, hG2, hw1o.trans (T' := T) ⟨hg.os, hg.tape, hg.output, hsz, fun q hq h0 => hsame q hq (by rw [h0]; omega)⟩ (fun _ _ => rfl)⟩
  have htk := hk.trow
  clear h h1 hk hk1 hkr hs1 hw1o hmk
  have HI := Lib.hid hi
  have HL := Lib.hid hil
  clear hi hil
  go_enter Try.func97, Try.ntmps97
  go_wp2
  clear hW1
  go_region_held3 (fun w' => w'.cell? ⟨g, 0, none⟩ = some (.pointer (some ⟨r, 0, none⟩)) ∧ w'.cell? ⟨k.blk, 0, none⟩ = some (.string ⟨k.key.toArray⟩)) (go_keep) (first
    | (go_at_call 73; refine HM2.out.mono ?_; rintro e' w2 ⟨rfl, hq1, hq2, HO⟩))
  obtain ⟨hG2, hTo2⟩ := HO.out
  have hi2 : (L.set i { k with woken := false })[i]? = some { k with woken := false } := List.getElem?_set_self HL.out
  have hk2 := hG2.locks i _ hi2
  have cvf := hG2.gcell.2.1
  have cvt : w2.cell? ⟨k.blk, 1, none⟩ = some k.vt := hk2.cell.2.1
  have hvt : k.vt = .slice none 0 0 := hk2.empty hte
  rw [hvt] at cvt
  have hfr := hG2.fresh.1
  have HFr := Lib.hid hfr
  have hfz := hG2.gcell.2.2.2.2.2 1
  have HBlk : Hid (∃ a b c d, w2.heap[k.blk]? = some (.cells #[a, b, c, d] 170 (0, 0))) := ⟨_, _, _, _, hk2.block⟩
  have hgkb : g ≠ k.blk := fun e => by
    obtain ⟨a, b, c, d, hb⟩ := HBlk.out
    have := hG2.block
    rw [e, hb] at this
    simp at this
  have HFin : Hid (OpensYes W T g r sm pm lm wm n N M K fr L wk vw Fl Hw ids i k (.returned (.bool true)) (((w2.drew.setCell ⟨g, 1, none⟩ (.slice pf af bf)).setCell ⟨k.blk, 2, none⟩ (.bool true)).setCell ⟨k.blk, 1, none⟩ (.slice none 0 0))) := by
    have hm1 : GI (w2.drew.setCell ⟨g, 1, none⟩ (.slice pf af bf)) T g r sm pm lm wm (n + k.key.length) N M K fr (.slice pf af bf) (L.set i { k with woken := false }) wk vw Fl Hw ids := by
      refine hG2.freshTurn (hG2.marked (Nat.le_of_eq (size_setCell' w2.drew _ _).symm)) (fun q _ hne _ => (Below.heap_setCell _ _ _ _ hne)) ?_ ?_ hG2.fresh.2
      · rw [set_block (W := w2.drew) hG2.block]
        rfl
      · exact row_same hG2.fresh.1 (fun q e => (Below.heap_setCell w2.drew _ _ _ (fun e2 => by
          have e3 : q = g := e2
          have := hG2.fresh.2 q e
          rw [e3, hG2.tags.1] at this
          omega)))
    obtain ⟨m4, m5⟩ := hm1.opened hi2
    rw [List.set_set] at m4
    have hT3 : Touch T w2 (w2.drew.setCell ⟨g, 1, none⟩ (.slice pf af bf)) := ⟨rfl, rfl, rfl, Nat.le_of_eq (size_setCell' w2.drew _ _).symm, fun q _ h0 => Below.heap_setCell w2.drew _ _ _ (fun e => by have e2 : q = g := e; rw [e2, hG2.tags.1] at h0; omega)⟩
    refine ⟨rfl, T, (.slice pf af bf), ?_, fun _ _ => rfl, (hTo2.trans hT3 (fun _ _ => rfl)).trans m5 (fun _ _ => rfl)⟩
    rw [hte, List.append_nil]
    exact m4
  clear hG2 hTo2 hk2 HO hq1 hq2 HM2 hi2 hfr
  go_wp2
  go_region_law (refine step_append_none _ (by rfl) _ _ _ (by rfl) 0 24 i0 1 Try.underlying38 hii (.slice pf af bf) fr.length (strs fr) (by rfl) (HFr.out.drew) (by rfl) ?_)
  all_goals
    obtain ⟨qa, qb, qc, qd, hq⟩ := HBlk.out
    have hb3 : (w2.drew.setCell ⟨g, 1, none⟩ (.slice pf af bf)).heap[k.blk]? = some (.cells #[qa, qb, qc, qd] 170 (0, 0)) := (Below.heap_setCell w2.drew _ _ _ (fun e => hgkb e.symm)).trans hq
    have hb4 := set_block (i := 2) hb3 (.bool true)
    have s1 : (w2.drew.setCell ⟨g, 1, none⟩ (.slice pf af bf)).cell? ⟨k.blk, 2, none⟩ = some qc := by simp [World.cell?, hb3]
    have s2 : (w2.drew.setCell ⟨g, 1, none⟩ (.slice pf af bf)).frozen? ⟨k.blk, 2, none⟩ = false := by simp [World.frozen?, hb3]
    have s3 : ((w2.drew.setCell ⟨g, 1, none⟩ (.slice pf af bf)).setCell ⟨k.blk, 2, none⟩ (.bool true)).cell? ⟨k.blk, 1, none⟩ = some qb := by simp [World.cell?, hb4]
    have s4 : ((w2.drew.setCell ⟨g, 1, none⟩ (.slice pf af bf)).setCell ⟨k.blk, 2, none⟩ (.bool true)).frozen? ⟨k.blk, 1, none⟩ = false := by simp [World.frozen?, hb4]
    obtain ⟨w3, hw3⟩ : ∃ w3, w2.drew.setCell ⟨g, 1, none⟩ (.slice pf af bf) = w3 := ⟨_, rfl⟩
    rw [hw3] at s1 s2 s3 s4 HFin
    rw [show (w2.setCell ⟨g, 1, none⟩ (.slice pf af bf)).drew = w2.drew.setCell ⟨g, 1, none⟩ (.slice pf af bf) from rfl, hw3]
    obtain ⟨w4, hw4⟩ : ∃ w4, w3.setCell ⟨k.blk, 2, none⟩ (.bool true) = w4 := ⟨_, rfl⟩
    rw [hw4] at s3 s4 HFin
    clear hb3 hb4 hq hw3 cvf cvt hfz
    go_wp2
    go_ret
    exact HFin.out

end Go.Proofs.Ytloheongiceliaa
end
