/- The document's own net in memory, and contracts of its Double. -/
import Derived.Test.YtildapcdkipakaaNtLost
import Derived.Test.YtildapcdkipakaaNtPut
import Derived.Test.YtildapcdkipakaaRef1
namespace Go.Proofs.Ytildapcdkipakaa.L8
open Go.ChangeShapes Go.WideShapes Go.ChangeAt Go.RowKit Go.Deep

structure RfAt (W : World) (B h : Nat) (l : List Dg) (vL : Value) (ys : List Bytes) (vH : Value) : Prop where
  own : W.heap[h]? = some (.cells #[vL, vH] 30 (0, 0))
  base : B ≤ h
  row : W.ownsRow B 41 3 vL l.length (flat l)
  heard : W.ownsRow B 9 1 vH ys.length (strs ys)
def RfIn (h : Nat) (vL vH : Value) (k : Nat) : Prop := k = h ∨ vL.ownBlock = some k ∨ vH.ownBlock = some k
section
variable {W W' w : World} {B h : Nat} {l : List Dg} {vL vH : Value} {ys : List Bytes}
theorem RfAt.lt (a : RfAt W B h l vL ys vH) : h < W.heap.size := (Array.getElem?_eq_some_iff.1 a.own).1
theorem RfAt.inlt (a : RfAt W B h l vL ys vH) {k : Nat} (hk : RfIn h vL vH k) : B ≤ k ∧ k < W.heap.size := by
  rcases hk with rfl | e | e
  · exact ⟨a.base, a.lt⟩
  · exact a.row.lt k e
  · exact a.heard.lt k e
theorem RfAt.same (a : RfAt W B h l vL ys vH) (hs : ∀ k, RfIn h vL vH k → W'.heap[k]? = W.heap[k]?) : RfAt W' B h l vL ys vH :=
  ⟨(hs h (.inl rfl)).trans a.own, a.base, L5.own_same a.row (fun q e => hs q (.inr (.inl e))), L5.own_same a.heard (fun q e => hs q (.inr (.inr e)))⟩
theorem RfAt.below (a : RfAt W B h l vL ys vH) (hb : Below W.heap.size W W') : RfAt W' B h l vL ys vH := a.same fun k hk => hb.block k (a.inlt hk).2
theorem RfAt.cells (a : RfAt W B h l vL ys vH) : W.cell? ⟨h, 0, none⟩ = some vL ∧ W.cell? ⟨h, 1, none⟩ = some vH ∧ W.frozen? ⟨h, 0, none⟩ = false ∧ W.frozen? ⟨h, 1, none⟩ = false :=
  ⟨blk_cell8 a.own, blk_cell8 a.own, blk_frozen8 a.own, blk_frozen8 a.own⟩
/-- Rows of one kind lie in no block of another one. -/
theorem row_kind {W : World} {B n size : Nat} {e t : TypeId} {v : Value} {xs : List Value} {cs : Array Value} {k : Nat} (r : W.ownsRow B e size v n xs) (hb : W.heap[k]? = some (.cells cs t (0, 0))) (he : e ≠ t) : v.ownBlock ≠ some k := by
  intro e'
  rcases r.2 with ⟨e3, _⟩ | ⟨g, cap, cur, e3, _, e4, _⟩
  · rw [e3] at e'; cases e'
  · rw [e3] at e'
    obtain rfl : g = k := by cases e'; rfl
    rw [hb] at e4
    cases e4
    exact he rfl
theorem rows_apart {W : World} {B B' n n' size size' : Nat} {e e' : TypeId} {v v' : Value} {xs xs' : List Value} (r : W.ownsRow B e size v n xs) (r' : W.ownsRow B' e' size' v' n' xs') (he : e ≠ e') : ∀ k, v.ownBlock = some k → v'.ownBlock ≠ some k := by
  intro k hk hk'
  rcases r'.2 with ⟨e3, _⟩ | ⟨g, cap, cur, e3, _, e4, _⟩
  · rw [e3] at hk'; cases hk'
  · rw [e3] at hk'
    obtain rfl : g = k := by cases hk'; rfl
    exact row_kind r e4 he hk
theorem rf_ne : 41 ≠ 30 ∧ 9 ≠ 30 ∧ 41 ≠ 9 := ⟨by decide, by decide, by decide⟩
theorem info_rdg : (Try.prog.info? 41).map (fun i => (i.zero, i.size, i.bytes)) = some (some (.agg #[.int .i64 0, .int .i64 0, .string ⟨#[]⟩]), 3, 32) := by kernel_rfl
/-- The document's net was changed. -/
def Rfd (w : World) (B h : Nat) (vL vH : Value) (l' : List Dg) (ys' : List Bytes) (w' : World) : Prop :=
  ∃ vL' vH', RfAt w' B h l' vL' ys' vH' ∧ Only (RfIn h vL vH) w w' ∧ ∀ q, RfIn h vL' vH' q → RfIn h vL vH q ∨ w.heap.size ≤ q
/-- One more was laid behind the row, and the row into its field. -/
theorem rf_append {W1 : World} (a : RfAt W1 B h l vL ys vH) (d : Dg) {g cc : Nat} {w6 : World} (k1 : w6.ownsRow B 41 3 (.slice (some ⟨g, 0, none⟩) (l.length + 1) cc) (l.length + 1) (flat l ++ d.cells)) (k2 : (W1.drew.alloc (.cells #[.int .i64 d.src, .int .i64 d.dst, .string ⟨d.fr.toArray⟩] 41)).grownBy w6 vL.ownBlock) (k3 : vL.ownBlock = some g ∨ g = W1.heap.size + 1) :
    w6.cell? ⟨h, 0, none⟩ = some vL ∧ w6.frozen? ⟨h, 0, none⟩ = false ∧ Rfd W1 B h vL vH (l ++ [d]) ys (w6.setCell ⟨h, 0, none⟩ (.slice (some ⟨g, 0, none⟩) (l.length + 1) cc)) := by
  have bC : W1.grownBy (W1.drew.alloc (.cells #[.int .i64 d.src, .int .i64 d.dst, .string ⟨d.fr.toArray⟩] 41)) vL.ownBlock := L5.grow_trans (w := W1.drew) ⟨rfl, rfl, rfl, Nat.le_refl _, fun _ _ _ => rfl⟩ (World.grownBy_alloc W1.drew (.cells #[.int .i64 d.src, .int .i64 d.dst, .string ⟨d.fr.toArray⟩] 41) _)
  have k4 := L5.grow_trans bC k2
  have p2 := row_kind a.row a.own rf_ne.1
  have o6 : w6.heap[h]? = some (.cells #[vL, vH] 30 (0, 0)) := (k4.block h a.lt (fun e => p2 e.symm)).trans a.own
  have hv6 := row_kind k1 o6 rf_ne.1
  have h6 : w6.ownsRow B 9 1 vH ys.length (strs ys) := L5.own_same a.heard (fun q e => k4.block q (a.heard.lt q e).2 (fun e' => rows_apart a.row a.heard rf_ne.2.2 q e'.symm e))
  have hvh := row_kind h6 o6 rf_ne.2.1
  have oW : Only (RfIn h vL vH) W1 w6 := Only.of_grown k4 (fun k e => .inr (.inl e))
  refine ⟨blk_cell8 o6, blk_frozen8 o6, .slice (some ⟨g, 0, none⟩) (l.length + 1) cc, vH, ⟨?_, a.base, ?_, ?_⟩, oW.setCell (.inl (.inl rfl)) _, ?_⟩
  · have := blk_setj (j := 0) o6 (.slice (some ⟨g, 0, none⟩) (l.length + 1) cc)
    rw [pair_set0] at this
    exact this
  · rw [List.length_append, flat_append, flat_one]
    exact L5.own_same k1 (fun q e => Below.heap_setCell _ _ _ _ (by show q ≠ h; intro e'; exact hv6 (by rw [e, e'])))
  · exact L5.own_same h6 (fun q e => Below.heap_setCell _ _ _ _ (by show q ≠ h; intro e'; exact hvh (by rw [e, e'])))
  · intro q hq
    rcases hq with e | e | e
    · exact .inl (.inl e)
    · rcases k3 with k3 | k3
      · exact .inl (.inr (.inl (by rw [k3]; exact e)))
      · right
        cases e
        show W1.heap.size ≤ g
        omega
    · exact .inl (.inr (.inr e))
theorem rdg_cells {w : World} {B g cap : Nat} {l : List Dg} (r : w.ownsRow B 41 3 (.slice (some ⟨g, 0, none⟩) l.length cap) l.length (flat l)) {i : Nat} {d : Dg} (hd : l[i]? = some d) :
    w.cell? ⟨g, i * 3, none⟩ = some (.int .i64 d.src) ∧ w.cell? ⟨g, i * 3 + 1, none⟩ = some (.int .i64 d.dst) ∧ w.cell? ⟨g, i * 3 + 2, none⟩ = some (.string ⟨d.fr.toArray⟩) := by
  have key : ∀ j u, (flat l)[j]? = some u → w.cell? ⟨g, j, none⟩ = some u := fun j u hu => by
    have := r.cells (g := g) rfl j u hu
    rw [add_zero8] at this
    exact this
  exact ⟨key _ _ (flat_get hd 0 (by omega)), key _ _ (flat_get hd 1 (by omega)), key _ _ (flat_get hd 2 (by omega))⟩
theorem rdg_shape {w : World} {B : Nat} {l : List Dg} {v : Value} (r : w.ownsRow B 41 3 v l.length (flat l)) (h : 0 < l.length) : ∃ g cap, v = .slice (some ⟨g, 0, none⟩) l.length cap ∧ g < w.heap.size ∧ l.length ≤ cap ∧ B ≤ g ∧ cap ≤ maxLen := by
  have r' := r
  rcases r.2 with ⟨_, h0⟩ | ⟨g, cap, cur, rfl, h2, _, h4, h5, _⟩
  · omega
  · exact ⟨g, cap, rfl, (r'.lt g rfl).2, h4, h2, h5⟩
set_option maxHeartbeats 1000000 in
theorem rdouble_no (a : RfAt w B h l vL ys vH) {i : Int} (hi : ¬ (0 ≤ i ∧ i < l.length)) : Calls Try.prog 13 #[.pointer (some ⟨h, 0, none⟩), .int .i64 i] w (DoubleNo w) := by
  obtain ⟨c0, _, _, _⟩ := a.cells
  obtain ⟨A, c, rfl⟩ := L5.own_slice a.row
  clear a
  by_cases h0 : i < 0
  · clear hi
    go_enter Try.func13, Try.ntmps13
    go_wp2
    go_ret
    exact ⟨rfl, rfl⟩
  · have h1 : (l.length : Int) ≤ i := by omega
    clear hi
    go_enter Try.func13, Try.ntmps13
    go_wp2
    go_ret
    exact ⟨rfl, rfl⟩
def RLayOut (w : World) (B h : Nat) (l : List Dg) (vL vH : Value) (ys : List Bytes) (d : Dg) (e : Ending) (w' : World) : Prop :=
  e = .returned (.int .i64 (layC l)) ∧ Rfd w B h vL vH (layL l d) ys w'
set_option maxRecDepth 100000 in
set_option maxHeartbeats 4000000 in
theorem rdouble_yes (a : RfAt w B h l vL ys vH) (hB : B ≤ w.heap.size) {i : Nat} {d : Dg} (hd : l[i]? = some d) (hl : l.length ≤ 1000000) : Calls Try.prog 13 #[.pointer (some ⟨h, 0, none⟩), .int .i64 i] w (RLayOut w B h l vL vH ys d) := by
  obtain ⟨i0, hi, hz0, hz1, hz2⟩ := info_parts8 info_rdg
  have hil := (List.getElem?_eq_some_iff.1 hd).1
  obtain ⟨c0, _, _, _⟩ := a.cells
  have HA := Lib.hid a
  obtain ⟨g, cap, rfl, hg, hc, _⟩ := rdg_shape a.row (by omega)
  obtain ⟨x0, x1, x2⟩ := rdg_cells a.row hd
  have s1 : ¬ (i : Int) < 0 := by omega
  have s2 : ¬ (l.length : Int) ≤ (i : Int) := by omega
  have s3 : (i : Int) < (l.length : Int) := by omega
  have s4 : (0 : Int) ≤ (i : Int) := by omega
  by_cases hf : 400 ≤ l.length
  · have j1 : (400 : Int) ≤ (l.length : Int) := by omega
    have HF : Hid (RLayOut w B h l (.slice (some ⟨g, 0, none⟩) l.length cap) vH ys d (.returned (.int .i64 5)) w) := by
      refine ⟨by unfold layC; rw [if_pos hf]; rfl, _, vH, ?_, Only.refl _ _, fun q hq => .inl hq⟩
      unfold layL
      rw [if_pos hf]
      exact a
    clear a hd hil hB hl hc hf
    go_enter Try.func13, Try.ntmps13
    go_wp2
    go_ret
    exact HF.out
  · have j1 : ¬ (400 : Int) ≤ (l.length : Int) := by omega
    have hhl := a.lt
    have bB : Below w.heap.size w (w.alloc (.cells #[.int .i64 d.src, .int .i64 d.dst, .string ⟨d.fr.toArray⟩] 41)) := (Below.refl _ w).alloc (Nat.le_refl _) _
    have m0' := (bB.cell (p := ⟨h, 0, none⟩) hhl).trans c0
    have y0 := (bB.cell (p := ⟨g, i * 3, none⟩) hg).trans x0
    have y1 := (bB.cell (p := ⟨g, i * 3 + 1, none⟩) hg).trans x1
    have y2 := (bB.cell (p := ⟨g, i * 3 + 2, none⟩) hg).trans x2
    have HR : Hid ((w.drew.alloc (.cells #[.int .i64 d.src, .int .i64 d.dst, .string ⟨d.fr.toArray⟩] 41)).ownsRow B 41 3 (.slice (some ⟨g, 0, none⟩) l.length cap) l.length (flat l)) := L5.own_below a.row ((Below.refl _ w).drew.alloc (Nat.le_refl _) _)
    have HNews : Hid (∀ (j : Nat) (u : Value), (Dg.cells d)[j]? = some u → (w.drew.alloc (.cells #[.int .i64 d.src, .int .i64 d.dst, .string ⟨d.fr.toArray⟩] 41)).cell? ((⟨w.heap.size, 0, none⟩ : Addr).add j) = some u) :=
      World.news_of_block (cs := #[.int .i64 d.src, .int .i64 d.dst, .string ⟨d.fr.toArray⟩]) (t := 41) (fr := (0, 0)) (heap_alloc_new w.drew _)
    have hzA : (w.drew.alloc (.cells #[.int .i64 d.src, .int .i64 d.dst, .string ⟨d.fr.toArray⟩] 41)).heap.size = w.heap.size + 1 := by rw [World.size_alloc]; rfl
    have hBA : B ≤ (w.drew.alloc (.cells #[.int .i64 d.src, .int .i64 d.dst, .string ⟨d.fr.toArray⟩] 41)).heap.size := by omega
    have HEnd : Hid (∀ g2 cc w6, w6.ownsRow B 41 3 (.slice (some ⟨g2, 0, none⟩) (l.length + 1) cc) (l.length + 1) (flat l ++ Dg.cells d) → (w.drew.alloc (.cells #[.int .i64 d.src, .int .i64 d.dst, .string ⟨d.fr.toArray⟩] 41)).grownBy w6 (Value.slice (some ⟨g, 0, none⟩) l.length cap).ownBlock → ((Value.slice (some ⟨g, 0, none⟩) l.length cap).ownBlock = some g2 ∨ g2 = w.heap.size + 1) →
        w6.cell? ⟨h, 0, none⟩ = some (.slice (some ⟨g, 0, none⟩) l.length cap) ∧ w6.frozen? ⟨h, 0, none⟩ = false ∧ RLayOut w B h l (.slice (some ⟨g, 0, none⟩) l.length cap) vH ys d (.returned (.int .i64 0)) (w6.setCell ⟨h, 0, none⟩ (.slice (some ⟨g2, 0, none⟩) (l.length + 1) cc))) := fun g2 cc w6 k1 k2 k3 => by
      obtain ⟨e1, e2, e3⟩ := rf_append HA.out d k1 k2 k3
      refine ⟨e1, e2, by unfold layC; rw [if_neg hf]; rfl, ?_⟩
      unfold layL
      rw [if_neg hf]
      exact e3
    have hll : l.length ≤ 1000000 := hl
    obtain ⟨src, dst, fr⟩ := d
    dsimp only at x0 x1 x2 y0 y1 y2
    clear a hd hil hB hl hc hf bB
    go_enter Try.func13, Try.ntmps13
    go_wp2
    go_region_law (first
      | (refine step_append_lies _ rfl (.tmp 26) (.tmp 34) 27 rfl B 41 i0 (.agg #[.int .i64 0, .int .i64 0, .string ⟨#[]⟩]) 3 32 Try.underlying27 hi hz0 hz1 hz2 rfl (by decide) (.slice (some ⟨g, 0, none⟩) l.length cap) l.length (flat l) (by simp [Act.eval]) HR.out ⟨w.heap.size, 0, none⟩ 1 1 (Dg.cells ⟨src, dst, fr⟩) (by simp [Act.eval]) rfl HNews.out (by simp [Dg.cells, Value.oneCell']) (by decide) (by unfold maxLen; omega) (by omega) hBA (w.heap.size + 1) hzA ?_
         intro gg cc w6 k1 k2 k3 k4
         obtain ⟨j4, jf, jr⟩ := HEnd.out gg cc w6 k1 k2 k3
         have HJ := Lib.hid jr
         clear k1 k2 k3 k4 jr))
    all_goals
      clear HEnd HNews HR
      go_wp2
      go_ret
      exact HJ.out
end
end Go.Proofs.Ytildapcdkipakaa.L8
