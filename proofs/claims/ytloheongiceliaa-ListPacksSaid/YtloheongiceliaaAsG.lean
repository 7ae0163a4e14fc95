/- Contract of the laws' asMsg: a message, as the reference has it. Contract of the laws' sameMsg: are both messages one? -/
import Derived.Test.YtloheongiceliaaShort
import Derived.Test.YtloheongiceliaaListPure
import Derived.Deep.AppendLies
import Derived.Laws.Rows
import Derived.Laws.Cover1
import Derived.Deep.RegionHeld3
section
namespace Go.Proofs.Ytloheongiceliaa.L4
open Go.ChangeShapes Go.WideShapes Go.ChangeAt Go.RowKit

theorem info_str4 : (Try.prog.info? 9).map (fun i => (i.zero, i.size, i.bytes)) = some (some (.string ⟨#[]⟩), 1, 16) := by kernel_rfl
theorem set_blk {W : World} {b i : Nat} {cs : Array Value} {t : TypeId} {fr : Nat × Nat} (h : W.heap[b]? = some (.cells cs t fr)) (v : Value) : (W.setCell ⟨b, i, none⟩ v).heap[b]? = some (.cells (cs.setIfInBounds i v) t fr) := by
  obtain ⟨hlt, hk⟩ := Array.getElem?_eq_some_iff.1 h
  show (W.heap.modify b _)[b]? = _
  rw [Array.getElem?_eq_getElem (by rw [Array.size_modify]; exact hlt), Array.getElem_modify_self, hk]
  rfl
theorem blk_cell {W : World} {b i : Nat} {cs : Array Value} {t : TypeId} (h : W.heap[b]? = some (.cells cs t (0, 0))) : W.cell? ⟨b, i, none⟩ = cs[i]? := by
  simp only [World.cell?]
  rw [h]
  rfl
theorem blk_frozen {W : World} {b i : Nat} {cs : Array Value} {t : TypeId} (h : W.heap[b]? = some (.cells cs t (0, 0))) : W.frozen? ⟨b, i, none⟩ = false := by simp [World.frozen?, h]
/-- Eight stores into one block. -/
theorem store8 {W : World} {b : Nat} {t : TypeId} {o0 o1 o2 o3 o4 o5 o6 o7 : Value} (n0 n1 n2 n3 n4 n5 n6 n7 : Value) (h : W.heap[b]? = some (.cells #[o0, o1, o2, o3, o4, o5, o6, o7] t (0, 0))) :
    ∃ u1 u2 u3 u4 u5 u6 u7 u8 : World, (W.setCell ⟨b, 0, none⟩ n0 = u1 ∧ W.cell? ⟨b, 0, none⟩ = some o0 ∧ W.frozen? ⟨b, 0, none⟩ = false) ∧ (u1.setCell ⟨b, 1, none⟩ n1 = u2 ∧ u1.cell? ⟨b, 1, none⟩ = some o1 ∧ u1.frozen? ⟨b, 1, none⟩ = false) ∧ (u2.setCell ⟨b, 2, none⟩ n2 = u3 ∧ u2.cell? ⟨b, 2, none⟩ = some o2 ∧ u2.frozen? ⟨b, 2, none⟩ = false) ∧ (u3.setCell ⟨b, 3, none⟩ n3 = u4 ∧ u3.cell? ⟨b, 3, none⟩ = some o3 ∧ u3.frozen? ⟨b, 3, none⟩ = false) ∧ (u4.setCell ⟨b, 4, none⟩ n4 = u5 ∧ u4.cell? ⟨b, 4, none⟩ = some o4 ∧ u4.frozen? ⟨b, 4, none⟩ = false) ∧ (u5.setCell ⟨b, 5, none⟩ n5 = u6 ∧ u5.cell? ⟨b, 5, none⟩ = some o5 ∧ u5.frozen? ⟨b, 5, none⟩ = false) ∧ (u6.setCell ⟨b, 6, none⟩ n6 = u7 ∧ u6.cell? ⟨b, 6, none⟩ = some o6 ∧ u6.frozen? ⟨b, 6, none⟩ = false) ∧ (u7.setCell ⟨b, 7, none⟩ n7 = u8 ∧ u7.cell? ⟨b, 7, none⟩ = some o7 ∧ u7.frozen? ⟨b, 7, none⟩ = false) ∧ u8.heap[b]? = some (.cells #[n0, n1, n2, n3, n4, n5, n6, n7] t (0, 0)) ∧ Below b W u8 ∧ (∀ k, k ≠ b → u8.heap[k]? = W.heap[k]?) := by
  have h1 : (W.setCell ⟨b, 0, none⟩ n0).heap[b]? = some (.cells #[n0, o1, o2, o3, o4, o5, o6, o7] t (0, 0)) := set_blk h n0
  have hB1 : Below b W (W.setCell ⟨b, 0, none⟩ n0) := (Below.refl b W).setCell (by simp) n0
  have hk1 : ∀ k, k ≠ b → (W.setCell ⟨b, 0, none⟩ n0).heap[k]? = W.heap[k]? := fun k hk => (Below.heap_setCell _ _ _ _ (by simpa using hk))
  obtain ⟨x1, hx1⟩ : ∃ x, W.setCell ⟨b, 0, none⟩ n0 = x := ⟨_, rfl⟩
  rw [hx1] at h1 hB1 hk1
  have h2 : (x1.setCell ⟨b, 1, none⟩ n1).heap[b]? = some (.cells #[n0, n1, o2, o3, o4, o5, o6, o7] t (0, 0)) := set_blk h1 n1
  have hB2 : Below b W (x1.setCell ⟨b, 1, none⟩ n1) := hB1.setCell (by simp) n1
  have hk2 : ∀ k, k ≠ b → (x1.setCell ⟨b, 1, none⟩ n1).heap[k]? = W.heap[k]? := fun k hk => (Below.heap_setCell _ _ _ _ (by simpa using hk)).trans (hk1 k hk)
  obtain ⟨x2, hx2⟩ : ∃ x, x1.setCell ⟨b, 1, none⟩ n1 = x := ⟨_, rfl⟩
  rw [hx2] at h2 hB2 hk2
  have h3 : (x2.setCell ⟨b, 2, none⟩ n2).heap[b]? = some (.cells #[n0, n1, n2, o3, o4, o5, o6, o7] t (0, 0)) := set_blk h2 n2
  have hB3 : Below b W (x2.setCell ⟨b, 2, none⟩ n2) := hB2.setCell (by simp) n2
  have hk3 : ∀ k, k ≠ b → (x2.setCell ⟨b, 2, none⟩ n2).heap[k]? = W.heap[k]? := fun k hk => (Below.heap_setCell _ _ _ _ (by simpa using hk)).trans (hk2 k hk)
  obtain ⟨x3, hx3⟩ : ∃ x, x2.setCell ⟨b, 2, none⟩ n2 = x := ⟨_, rfl⟩
  rw [hx3] at h3 hB3 hk3
  have h4 : (x3.setCell ⟨b, 3, none⟩ n3).heap[b]? = some (.cells #[n0, n1, n2, n3, o4, o5, o6, o7] t (0, 0)) := set_blk h3 n3
  have hB4 : Below b W (x3.setCell ⟨b, 3, none⟩ n3) := hB3.setCell (by simp) n3
  have hk4 : ∀ k, k ≠ b → (x3.setCell ⟨b, 3, none⟩ n3).heap[k]? = W.heap[k]? := fun k hk => (Below.heap_setCell _ _ _ _ (by simpa using hk)).trans (hk3 k hk)
  obtain ⟨x4, hx4⟩ : ∃ x, x3.setCell ⟨b, 3, none⟩ n3 = x := ⟨_, rfl⟩
  rw [hx4] at h4 hB4 hk4
  have h5 : (x4.setCell ⟨b, 4, none⟩ n4).heap[b]? = some (.cells #[n0, n1, n2, n3, n4, o5, o6, o7] t (0, 0)) := set_blk h4 n4
  have hB5 : Below b W (x4.setCell ⟨b, 4, none⟩ n4) := hB4.setCell (by simp) n4
  have hk5 : ∀ k, k ≠ b → (x4.setCell ⟨b, 4, none⟩ n4).heap[k]? = W.heap[k]? := fun k hk => (Below.heap_setCell _ _ _ _ (by simpa using hk)).trans (hk4 k hk)
  obtain ⟨x5, hx5⟩ : ∃ x, x4.setCell ⟨b, 4, none⟩ n4 = x := ⟨_, rfl⟩
  rw [hx5] at h5 hB5 hk5
  have h6 : (x5.setCell ⟨b, 5, none⟩ n5).heap[b]? = some (.cells #[n0, n1, n2, n3, n4, n5, o6, o7] t (0, 0)) := set_blk h5 n5
  have hB6 : Below b W (x5.setCell ⟨b, 5, none⟩ n5) := hB5.setCell (by simp) n5
  have hk6 : ∀ k, k ≠ b → (x5.setCell ⟨b, 5, none⟩ n5).heap[k]? = W.heap[k]? := fun k hk => (Below.heap_setCell _ _ _ _ (by simpa using hk)).trans (hk5 k hk)
  obtain ⟨x6, hx6⟩ : ∃ x, x5.setCell ⟨b, 5, none⟩ n5 = x := ⟨_, rfl⟩
  rw [hx6] at h6 hB6 hk6
  have h7 : (x6.setCell ⟨b, 6, none⟩ n6).heap[b]? = some (.cells #[n0, n1, n2, n3, n4, n5, n6, o7] t (0, 0)) := set_blk h6 n6
  have hB7 : Below b W (x6.setCell ⟨b, 6, none⟩ n6) := hB6.setCell (by simp) n6
  have hk7 : ∀ k, k ≠ b → (x6.setCell ⟨b, 6, none⟩ n6).heap[k]? = W.heap[k]? := fun k hk => (Below.heap_setCell _ _ _ _ (by simpa using hk)).trans (hk6 k hk)
  obtain ⟨x7, hx7⟩ : ∃ x, x6.setCell ⟨b, 6, none⟩ n6 = x := ⟨_, rfl⟩
  rw [hx7] at h7 hB7 hk7
  have h8 : (x7.setCell ⟨b, 7, none⟩ n7).heap[b]? = some (.cells #[n0, n1, n2, n3, n4, n5, n6, n7] t (0, 0)) := set_blk h7 n7
  have hB8 : Below b W (x7.setCell ⟨b, 7, none⟩ n7) := hB7.setCell (by simp) n7
  have hk8 : ∀ k, k ≠ b → (x7.setCell ⟨b, 7, none⟩ n7).heap[k]? = W.heap[k]? := fun k hk => (Below.heap_setCell _ _ _ _ (by simpa using hk)).trans (hk7 k hk)
  obtain ⟨x8, hx8⟩ : ∃ x, x7.setCell ⟨b, 7, none⟩ n7 = x := ⟨_, rfl⟩
  rw [hx8] at h8 hB8 hk8
  exact ⟨x1, x2, x3, x4, x5, x6, x7, x8, ⟨hx1, blk_cell h, blk_frozen h⟩, ⟨hx2, blk_cell h1, blk_frozen h1⟩, ⟨hx3, blk_cell h2, blk_frozen h2⟩, ⟨hx4, blk_cell h3, blk_frozen h3⟩, ⟨hx5, blk_cell h4, blk_frozen h4⟩, ⟨hx6, blk_cell h5, blk_frozen h5⟩, ⟨hx7, blk_cell h6, blk_frozen h6⟩, ⟨hx8, blk_cell h7, blk_frozen h7⟩, h8, hB8, hk8⟩
def AsOut (w : World) (m : Msg) (vm : Value) (e : Ending) (w' : World) : Prop := ∃ vt, e = .returned (.agg (msgCells m vm vt)) ∧ w'.ownsRow w.heap.size 9 1 vt m.terms.length (strs m.terms) ∧ Below w.heap.size w w'
def AsGo (W1 : World) (b : Nat) (m : Msg) (vm : Value) (k : Nat) (v4 : Value) (wr : World) : Prop :=
  ∃ (i : Nat) (vt : Value), k + i = m.terms.length ∧ v4 = .int .i64 i ∧ wr.heap[b]? = some (.cells (msgCells m vm vt) 55 (0, 0)) ∧ wr.ownsRow (b + 1) 9 1 vt i (strs (m.terms.take i)) ∧ Below b W1 wr

set_option maxRecDepth 100000 in
set_option maxHeartbeats 4000000 in
theorem asMsg_calls (m : Msg) (vm vt : Value) (w : World) (h : MsgA w m vm vt) (h200 : m.terms.length < 200) : Calls Try.prog 28 #[.agg (msgCells m vm vt)] w (AsOut w m vm) := by
  obtain ⟨i0, hii, hz0, hz1, hz2⟩ := info_parts info_str4
  obtain ⟨A6, c6, rfl⟩ : ∃ A c, vt = .slice A m.terms.length c := by obtain ⟨⟨A, c, e, k⟩, f⟩ := h.terms; exact ⟨A, c, e⟩
  obtain ⟨A5, c5, rfl⟩ : ∃ A c, vm = .slice A m.mem.length c := by obtain ⟨⟨A, c, e, k⟩, f⟩ := h.mem; exact ⟨A, c, e⟩
  have hbx := boxed_new w m (.slice A5 m.mem.length c5) (.slice A6 m.terms.length c6) 51
  unfold msgCells at hbx ⊢
  obtain ⟨W0, hW0⟩ : ∃ W0, w.alloc (.cells #[.int .i64 m.kind, .int .i64 m.e1, .int .i64 m.c1, .int .i64 m.e2, .int .i64 m.c2, .int .i64 m.num, .slice A5 m.mem.length c5, .slice A6 m.terms.length c6] 51) = W0 := ⟨_, rfl⟩
  have hs0 : W0.heap.size = w.heap.size + 1 := by rw [← hW0]; simp
  have hB : Below w.heap.size w W0 := by rw [← hW0]; exact (Below.refl _ w).alloc (Nat.le_refl _) _
  rw [hW0] at hbx
  obtain ⟨W1, hW1⟩ : ∃ W1, W0.alloc (.cells #[.int .i64 0, .int .i64 0, .int .i64 0, .int .i64 0, .int .i64 0, .int .i64 0, .slice none 0 0, .slice none 0 0] 55) = W1 := ⟨_, rfl⟩
  have hs1 : W1.heap.size = w.heap.size + 1 + 1 := by rw [← hW1]; simp [hs0]
  have hB1 : Below w.heap.size w W1 := by rw [← hW1]; exact hB.alloc (by omega) _
  have hR1 : W1.heap[w.heap.size + 1]? = some (.cells #[.int .i64 0, .int .i64 0, .int .i64 0, .int .i64 0, .int .i64 0, .int .i64 0, .slice none 0 0, .slice none 0 0] 55 (0, 0)) := by
    rw [← hW1, ← hs0]
    exact World.alloc_heap_new _ _
  obtain ⟨y0, y1, y2, y3, y4, y5, y6, y7⟩ : Boxed W1 w.heap.size m (.slice A5 m.mem.length c5) (.slice A6 m.terms.length c6) := by
    rw [← hW1]
    exact Boxed.below hbx ((Below.refl W0.heap.size W0).alloc (Nat.le_refl _) _) (by omega)
  have x7 := y7
  have HT : Hid (∀ j z, m.terms[j]? = some z → ∃ ad : Addr, A6 = some ad ∧ ad.block < w.heap.size ∧ W1.cell? (ad.add j) = some (.string ⟨z.toArray⟩)) := by
    intro j z hz
    obtain ⟨A, c, e, k⟩ := h.terms.reads
    cases e
    obtain ⟨ad, e2, b1, _, b2⟩ := k j z hz
    exact ⟨ad, e2, b1, (hB1.cell (p := ad.add j) (by rw [addr_block]; exact b1)).trans b2⟩
  have HStart : Hid (AsGo W1 (w.heap.size + 1 + 1) m (.slice A5 m.mem.length c5) m.terms.length (.int .i64 0) (W1.alloc (.cells #[.int .i64 m.kind, .int .i64 m.e1, .int .i64 m.c1, .int .i64 m.e2, .int .i64 m.c2, .int .i64 m.num, .slice A5 m.mem.length c5, .slice none 0 0] 55))) :=
    ⟨0, .slice none 0 0, rfl, rfl, by rw [← hs1]; exact World.alloc_heap_new _ _, World.ownsRow_nil _ _ _ _, (Below.refl _ W1).alloc (by omega) _⟩
  have HX7 := Lib.hid x7
  have HR1 := Lib.hid hR1
  have HB1 := Lib.hid hB1
  clear hB h x7 hR1 hB1
  go_enter Try.func28, Try.ntmps28
  go_wp2
  clear hW0 hW1 y0 y1 y2 y3 y4 y5 y6 y7 hs0
  go_loopg [4] m.terms.length (fun k v4 wr => AsGo W1 (w.heap.size + 1 + 1) m (.slice A5 m.mem.length c5) k v4 wr)
  case atStart => exact HStart.out
  case round =>
    clear HStart
    obtain ⟨i, v5, hk, rfl, hbk, hown, hBl⟩ := hrel
    have hlb : w.heap.size + 1 + 1 < wr.heap.size := (Array.getElem?_eq_some_iff.1 hbk).1
    have z7 := (hBl.cell (p := ⟨w.heap.size, 7, none⟩) (by simp; omega)).trans HX7.out
    obtain ⟨A4, c4, rfl⟩ := own_slice hown
    by_cases hlt : i < m.terms.length
    · obtain ⟨z, hz⟩ : ∃ z, m.terms[i]? = some z := ⟨_, List.getElem?_eq_getElem hlt⟩
      obtain ⟨ad, rfl, b1, b2⟩ := HT.out i z hz
      have a4 := (hBl.cell (p := ad.add i) (by rw [addr_block]; omega)).trans b2
      have q7 : wr.cell? ⟨w.heap.size + 1 + 1, 7, none⟩ = some (.slice A4 i c4) := blk_cell hbk
      have j1 : (i : Int) < (m.terms.length : Int) := by omega
      have j2 : (0 : Int) ≤ (i : Int) := by omega
      have HK := Lib.hid hk
      have HOwn := Lib.hid hown
      have HAft : Hid (∀ (gg cap : Nat) (wA : World), wA.ownsRow (w.heap.size + 1 + 1 + 1) 9 1 (.slice (some ⟨gg, 0, none⟩) (i + 1) cap) (i + 1) (strs (m.terms.take i) ++ [.string ⟨z.toArray⟩]) → ((wr.alloc (.cells #[.string ⟨z.toArray⟩] 9)).drew).grownBy wA (Value.slice A4 i c4).ownBlock →
          (wA.cell? ⟨w.heap.size + 1 + 1, 7, none⟩ = some (.slice A4 i c4) ∧ wA.frozen? ⟨w.heap.size + 1 + 1, 7, none⟩ = false) ∧
          Hid (AsGo W1 (w.heap.size + 1 + 1) m (.slice A5 m.mem.length c5) (m.terms.length - (i + 1)) (.int .i64 ((i + 1 : Nat) : Int)) (wA.setCell ⟨w.heap.size + 1 + 1, 7, none⟩ (.slice (some ⟨gg, 0, none⟩) (i + 1) cap)))) := by
        intro gg cap wA k1 k2
        have k2' := grow_trans (World.grownBy_alloc wr (.cells #[.string ⟨z.toArray⟩] 9) (Value.slice A4 i c4).ownBlock) (⟨k2.os, k2.tape, k2.output, k2.size, k2.block⟩ : (wr.alloc (.cells #[.string ⟨z.toArray⟩] 9)).grownBy wA (Value.slice A4 i c4).ownBlock)
        have hbA : wA.heap[w.heap.size + 1 + 1]? = some (.cells (msgCells m (.slice A5 m.mem.length c5) (.slice A4 i c4)) 55 (0, 0)) := by
          rw [k2'.block _ hlb (fun e => by have := (hown.lt _ e.symm).1; omega)]
          exact hbk
        have htk : m.terms.take (i + 1) = m.terms.take i ++ [z] := by rw [List.take_add_one, hz]; rfl
        have hB2 : Below (w.heap.size + 1 + 1) W1 wA := hBl.grown k2' (by omega) (fun q e => by have := (hown.lt q e).1; omega)
        refine ⟨⟨blk_cell hbA, blk_frozen hbA⟩, i + 1, .slice (some ⟨gg, 0, none⟩) (i + 1) cap, by omega, rfl, set_blk hbA _, ?_, hB2.setCell (by simp) _⟩
        rw [htk]
        refine own_same (W := wA) (by simpa [strs] using k1) (fun q e => ?_)
        refine Below.heap_setCell _ _ _ _ ?_
        have := (k1.lt q e).1
        simp
        omega
      have q7' : ∀ o, (wr.alloc o).cell? ⟨w.heap.size + 1 + 1, 7, none⟩ = some (.slice A4 i c4) := fun o => ((World.grownBy_alloc wr o none).cell_far ⟨w.heap.size + 1 + 1, 7, none⟩ hlb (by simp)).trans q7
      have hi200 : i < 200 := by omega
      have hlen : (strs (m.terms.take i)).length = i := by simp [strs]; omega
      clear hown hbk hBl hk hz b2 hlen
      go_wp2
      go_region_law (first
        | (refine step_append_lies _ (by rfl) _ _ _ (by rfl) (w.heap.size + 1 + 1 + 1) 9 i0 _ 1 16 Try.underlying53 hii hz0 hz1 hz2 rfl (by omega) (.slice A4 i c4) i (strs (m.terms.take i)) (by rfl) ((HOwn.out.alloc _).drew)
                ⟨wr.heap.size, 0, none⟩ 1 1 [.string ⟨z.toArray⟩] (by rfl) (by rfl) (World.news_of_block (cs := #[.string ⟨z.toArray⟩]) (t := 9) (fr := (0, 0)) (World.alloc_heap_new wr _)) (by simp [Value.oneCell'])
                (by omega) (by unfold maxLen; omega) (by omega) (by simp; omega) (wr.heap.size + 1) (by simp) ?_
           intro gg cap wA hown1 hgrow hat hlt9
           obtain ⟨⟨hA1, hA2⟩, HA4⟩ := HAft.out gg cap wA hown1 hgrow))
      all_goals
        obtain ⟨w5, hw5⟩ : ∃ w5, wA.setCell ⟨w.heap.size + 1 + 1, 7, none⟩ (.slice (some ⟨gg, 0, none⟩) (i + 1) cap) = w5 := ⟨_, rfl⟩
        rw [hw5] at HA4 ⊢
        clear hA1 hA2 hown1 hgrow hat hlt9 hw5 HAft HOwn q7 q7' a4 z7
        go_wp2
        go_roundg (m.terms.length - (i + 1))
        case measure => have := HK.out; omega
        case rel => exact HA4.out
    · obtain rfl : i = m.terms.length := by omega
      have j1 : ¬ ((m.terms.length : Int) < (m.terms.length : Int)) := by omega
      have p0 : wr.cell? ⟨w.heap.size + 1 + 1, 0, none⟩ = _ := blk_cell hbk
      have p1 : wr.cell? ⟨w.heap.size + 1 + 1, 1, none⟩ = _ := blk_cell hbk
      have p2 : wr.cell? ⟨w.heap.size + 1 + 1, 2, none⟩ = _ := blk_cell hbk
      have p3 : wr.cell? ⟨w.heap.size + 1 + 1, 3, none⟩ = _ := blk_cell hbk
      have p4 : wr.cell? ⟨w.heap.size + 1 + 1, 4, none⟩ = _ := blk_cell hbk
      have p5 : wr.cell? ⟨w.heap.size + 1 + 1, 5, none⟩ = _ := blk_cell hbk
      have p6 : wr.cell? ⟨w.heap.size + 1 + 1, 6, none⟩ = _ := blk_cell hbk
      have p7 : wr.cell? ⟨w.heap.size + 1 + 1, 7, none⟩ = _ := blk_cell hbk
      simp [msgCells] at p0 p1 p2 p3 p4 p5 p6 p7
      have hr2 := (hBl.block (w.heap.size + 1) (by omega)).trans HR1.out
      have HFin : Hid (∀ w5, w5.ownsRow (w.heap.size + 1 + 1 + 1) 9 1 (.slice A4 m.terms.length c4) m.terms.length (strs m.terms) → Below w.heap.size w w5 → AsOut w m (.slice A5 m.mem.length c5) (.returned (.agg (msgCells m (.slice A5 m.mem.length c5) (.slice A4 m.terms.length c4)))) w5) := fun w5 k1 k2 => ⟨_, rfl, ⟨k1.1, k1.2.imp id (fun ⟨g, cap, cur, a, b, c⟩ => ⟨g, cap, cur, a, by omega, c⟩)⟩, k2⟩
      rw [List.take_length] at hown
      have HOwn := Lib.hid hown
      have HBw := Lib.hid (HB1.out.trans (hBl.mono (by omega)))
      obtain ⟨u1, u2, u3, u4, u5, u6, u7, u8, ⟨e0, d0, f0⟩, ⟨e1, d1, f1⟩, ⟨e2, d2, f2⟩, ⟨e3, d3, f3⟩, ⟨e4, d4, f4⟩, ⟨e5, d5, f5⟩, ⟨e6, d6, f6⟩, ⟨e7, d7, f7⟩, hlast, hBlast, hklast⟩ := store8 (.int .i64 m.kind) (.int .i64 m.e1) (.int .i64 m.c1) (.int .i64 m.e2) (.int .i64 m.c2) (.int .i64 m.num) (.slice A5 m.mem.length c5) (.slice A4 m.terms.length c4) hr2
      have HF := Lib.hid (HFin.out u8 (own_same HOwn.out (fun q e => hklast q (by have := (HOwn.out.lt q e).1; omega))) (HBw.out.trans (hBlast.mono (by omega))))
      have HL := Lib.hid hlast
      clear hk hown hbk hBl hr2 HT HX7 hlast hBlast hklast HFin HOwn HBw
      go_wp2
      refine bodyPost_ret (results_cell_row rfl _ _ (w.heap.size + 1) 55 _ (0, 0) _ rfl HL.out Try.underlying55 rfl (by kernel_rfl)) rfl ?_
      exact HF.out
end Go.Proofs.Ytloheongiceliaa.L4
end

section
namespace Go.Proofs.Ytloheongiceliaa.L4
open Go.ChangeShapes Go.WideShapes Go.ChangeAt Go.RowKit

theorem msg_ext {a b : Msg} (h1 : a.kind = b.kind) (h2 : a.e1 = b.e1) (h3 : a.c1 = b.c1) (h4 : a.e2 = b.e2) (h5 : a.c2 = b.c2) (h6 : a.num = b.num) (h7 : a.mem = b.mem) (h8 : a.terms = b.terms) : a = b := by
  cases a; cases b; simp_all
def SameOut (w : World) (a b : Msg) (e : Ending) (w' : World) : Prop := ∃ r, e = .returned (.bool r) ∧ (r = true ↔ a = b) ∧ Below w.heap.size w w'

def Going {α : Type} (W1 : World) (xs ys : List α) (n k : Nat) (v : Value) (wr : World) : Prop := ∃ i : Nat, k + i = n ∧ v = .int .i64 i ∧ xs.take i = ys.take i ∧ Below W1.heap.size W1 wr

set_option maxRecDepth 100000 in
set_option maxHeartbeats 8000000 in
theorem sameMsg_calls (a b : Msg) (vm vt um ut : Value) (w : World) (ha : MsgA w a vm vt) (hb : MsgA w b um ut) : Calls Try.prog 35 #[.agg (msgCells a vm vt), .agg (msgCells b um ut)] w (SameOut w a b) := by
  obtain ⟨A5, c5, rfl⟩ : ∃ A c, vm = .slice A a.mem.length c := by obtain ⟨⟨A, c, e, k⟩, f⟩ := ha.mem; exact ⟨A, c, e⟩
  obtain ⟨A6, c6, rfl⟩ : ∃ A c, vt = .slice A a.terms.length c := by obtain ⟨⟨A, c, e, k⟩, f⟩ := ha.terms; exact ⟨A, c, e⟩
  obtain ⟨B5, d5, rfl⟩ : ∃ A c, um = .slice A b.mem.length c := by obtain ⟨⟨A, c, e, k⟩, f⟩ := hb.mem; exact ⟨A, c, e⟩
  obtain ⟨B6, d6, rfl⟩ : ∃ A c, ut = .slice A b.terms.length c := by obtain ⟨⟨A, c, e, k⟩, f⟩ := hb.terms; exact ⟨A, c, e⟩
  have hbx := boxed_new w a (.slice A5 a.mem.length c5) (.slice A6 a.terms.length c6) 51
  unfold msgCells at hbx ⊢
  obtain ⟨W0, hW0⟩ : ∃ W0, w.alloc (.cells #[.int .i64 a.kind, .int .i64 a.e1, .int .i64 a.c1, .int .i64 a.e2, .int .i64 a.c2, .int .i64 a.num, .slice A5 a.mem.length c5, .slice A6 a.terms.length c6] 51) = W0 := ⟨_, rfl⟩
  have hs0 : W0.heap.size = w.heap.size + 1 := by rw [← hW0]; simp
  have hB0 : Below w.heap.size w W0 := by rw [← hW0]; exact (Below.refl _ w).alloc (Nat.le_refl _) _
  rw [hW0] at hbx
  have hby := boxed_new W0 b (.slice B5 b.mem.length d5) (.slice B6 b.terms.length d6) 55
  unfold msgCells at hby
  obtain ⟨W1, hW1⟩ : ∃ W1, W0.alloc (.cells #[.int .i64 b.kind, .int .i64 b.e1, .int .i64 b.c1, .int .i64 b.e2, .int .i64 b.c2, .int .i64 b.num, .slice B5 b.mem.length d5, .slice B6 b.terms.length d6] 55) = W1 := ⟨_, rfl⟩
  rw [hW1, hs0] at hby
  have hB1 : Below w.heap.size w W1 := by rw [← hW1]; exact hB0.alloc (by omega) _
  obtain ⟨y0, y1, y2, y3, y4, y5, y6, y7⟩ : Boxed W1 w.heap.size a (.slice A5 a.mem.length c5) (.slice A6 a.terms.length c6) := by
    rw [← hW1]
    exact Boxed.below hbx ((Below.refl W0.heap.size W0).alloc (Nat.le_refl _) _) (by omega)
  obtain ⟨z0, z1, z2, z3, z4, z5, z6, z7⟩ := hby
  have HIa : Hid (∀ (j : Nat) (x : Int), a.mem[j]? = some x → ∃ ad : Addr, A5 = some ad ∧ ∀ V : World, Below W1.heap.size W1 V → V.cell? (ad.add j) = some (.int .i64 x)) := by
    intro j x hx
    obtain ⟨⟨A, c, e, k⟩, _⟩ := ha.mem
    cases e
    obtain ⟨ad, e2, b1, b2⟩ := k j x hx
    exact ⟨ad, e2, fun V hV => (hV.cell (p := ad.add j) (by rw [addr_block]; have := hB1.size; omega)).trans ((hB1.cell (p := ad.add j) (by rw [addr_block]; exact b1)).trans b2)⟩
  have HIb : Hid (∀ (j : Nat) (x : Int), b.mem[j]? = some x → ∃ ad : Addr, B5 = some ad ∧ ∀ V : World, Below W1.heap.size W1 V → V.cell? (ad.add j) = some (.int .i64 x)) := by
    intro j x hx
    obtain ⟨⟨A, c, e, k⟩, _⟩ := hb.mem
    cases e
    obtain ⟨ad, e2, b1, b2⟩ := k j x hx
    exact ⟨ad, e2, fun V hV => (hV.cell (p := ad.add j) (by rw [addr_block]; have := hB1.size; omega)).trans ((hB1.cell (p := ad.add j) (by rw [addr_block]; exact b1)).trans b2)⟩
  have HTa : Hid (∀ (j : Nat) (z : List UInt8), a.terms[j]? = some z → ∃ ad : Addr, A6 = some ad ∧ ∀ V : World, Below W1.heap.size W1 V → V.cell? (ad.add j) = some (.string ⟨z.toArray⟩)) := by
    intro j x hx
    obtain ⟨A, c, e, k⟩ := ha.terms.reads
    cases e
    obtain ⟨ad, e2, b1, _, b2⟩ := k j x hx
    exact ⟨ad, e2, fun V hV => (hV.cell (p := ad.add j) (by rw [addr_block]; have := hB1.size; omega)).trans ((hB1.cell (p := ad.add j) (by rw [addr_block]; exact b1)).trans b2)⟩
  have HTb : Hid (∀ (j : Nat) (z : List UInt8), b.terms[j]? = some z → ∃ ad : Addr, B6 = some ad ∧ ∀ V : World, Below W1.heap.size W1 V → V.cell? (ad.add j) = some (.string ⟨z.toArray⟩)) := by
    intro j x hx
    obtain ⟨A, c, e, k⟩ := hb.terms.reads
    cases e
    obtain ⟨ad, e2, b1, _, b2⟩ := k j x hx
    exact ⟨ad, e2, fun V hV => (hV.cell (p := ad.add j) (by rw [addr_block]; have := hB1.size; omega)).trans ((hB1.cell (p := ad.add j) (by rw [addr_block]; exact b1)).trans b2)⟩
  have f5 := ha.mem.few
  have f6 := ha.terms.few
  unfold maxLen at f5 f6
  have HB1 := Lib.hid hB1
  clear hB0 hB1 ha hb hbx
  have HSame : Hid (a.kind = b.kind → a.e1 = b.e1 → a.c1 = b.c1 → a.e2 = b.e2 → a.c2 = b.c2 → a.num = b.num → a.mem = b.mem → a.terms = b.terms → a = b) := by
    intro h1 h2 h3 h4 h5 h6 h7 h8
    exact msg_ext h1 h2 h3 h4 h5 h6 h7 h8
  obtain ⟨la, hla⟩ : ∃ la, a.mem.length = la := ⟨_, rfl⟩
  obtain ⟨lb, hlb⟩ : ∃ lb, b.mem.length = lb := ⟨_, rfl⟩
  obtain ⟨na, hna⟩ : ∃ na, a.terms.length = na := ⟨_, rfl⟩
  obtain ⟨nb, hnb⟩ : ∃ nb, b.terms.length = nb := ⟨_, rfl⟩
  rw [hla, hna] at hW0
  rw [hlb, hnb] at hW1
  rw [hla] at y6 f5
  rw [hlb] at z6
  rw [hna] at y7 f6
  rw [hnb] at z7
  rw [hla, hlb, hna, hnb]
  have HL : Hid (a.mem.length = la ∧ b.mem.length = lb ∧ a.terms.length = na ∧ b.terms.length = nb) := ⟨hla, hlb, hna, hnb⟩
  clear hla hlb hna hnb
  by_cases q1 : a.kind = b.kind
  case neg =>
    have g1 : (a.kind != b.kind) = true := by rw [bne_iff_ne]; exact q1
    clear HSame
    go_enter Try.func35, Try.ntmps35
    go_wp2
    go_ret
    exact ⟨false, rfl, ⟨(fun h => nomatch h), fun h => absurd (by rw [h]) q1⟩, HB1.out⟩
  have g1 : (a.kind != b.kind) = false := by rw [q1]; simp
  by_cases q2 : a.e1 = b.e1
  case neg =>
    have g2 : ((a.e1 == b.e1)) = false := by rw [beq_eq_false_iff_ne]; exact q2
    clear HSame q1
    go_enter Try.func35, Try.ntmps35
    go_wp2
    go_ret
    exact ⟨false, rfl, ⟨(fun h => nomatch h), fun h => absurd (by rw [h]) q2⟩, HB1.out⟩
  have g2 : ((a.e1 == b.e1)) = true := by rw [beq_iff_eq]; exact q2
  by_cases q3 : a.c1 = b.c1
  case neg =>
    have g3 : ((a.c1 == b.c1)) = false := by rw [beq_eq_false_iff_ne]; exact q3
    clear HSame q1 q2
    go_enter Try.func35, Try.ntmps35
    go_wp2
    go_ret
    exact ⟨false, rfl, ⟨(fun h => nomatch h), fun h => absurd (by rw [h]) q3⟩, HB1.out⟩
  have g3 : ((a.c1 == b.c1)) = true := by rw [beq_iff_eq]; exact q3
  by_cases q4 : a.e2 = b.e2
  case neg =>
    have g4 : ((a.e2 == b.e2)) = false := by rw [beq_eq_false_iff_ne]; exact q4
    clear HSame q1 q2 q3
    go_enter Try.func35, Try.ntmps35
    go_wp2
    go_ret
    exact ⟨false, rfl, ⟨(fun h => nomatch h), fun h => absurd (by rw [h]) q4⟩, HB1.out⟩
  have g4 : ((a.e2 == b.e2)) = true := by rw [beq_iff_eq]; exact q4
  by_cases q5 : a.c2 = b.c2
  case neg =>
    have g5 : ((a.c2 == b.c2)) = false := by rw [beq_eq_false_iff_ne]; exact q5
    clear HSame q1 q2 q3 q4
    go_enter Try.func35, Try.ntmps35
    go_wp2
    go_ret
    exact ⟨false, rfl, ⟨(fun h => nomatch h), fun h => absurd (by rw [h]) q5⟩, HB1.out⟩
  have g5 : ((a.c2 == b.c2)) = true := by rw [beq_iff_eq]; exact q5
  by_cases q6 : a.num = b.num
  case neg =>
    have g6 : (a.num != b.num) = true := by rw [bne_iff_ne]; exact q6
    clear HSame q1 q2 q3 q4 q5
    go_enter Try.func35, Try.ntmps35
    go_wp2
    go_ret
    exact ⟨false, rfl, ⟨(fun h => nomatch h), fun h => absurd (by rw [h]) q6⟩, HB1.out⟩
  have g6 : (a.num != b.num) = false := by rw [q6]; simp
  by_cases q7 : la = lb
  case neg =>
    have g7 : ((la : Int) != (lb : Int)) = true := by rw [bne_iff_ne]; omega
    clear HSame q1 q2 q3 q4 q5 q6
    go_enter Try.func35, Try.ntmps35
    go_wp2
    go_ret
    exact ⟨false, rfl, ⟨(fun h => nomatch h), fun h => absurd (by rw [← HL.out.1, ← HL.out.2.1, h]) q7⟩, HB1.out⟩
  subst q7
  by_cases q8 : na = nb
  case neg =>
    have g8 : ((na : Int) != (nb : Int)) = true := by rw [bne_iff_ne]; omega
    clear HSame q1 q2 q3 q4 q5 q6
    go_enter Try.func35, Try.ntmps35
    go_wp2
    go_ret
    exact ⟨false, rfl, ⟨(fun h => nomatch h), fun h => absurd (by rw [← HL.out.2.2.1, ← HL.out.2.2.2, h]) q8⟩, HB1.out⟩
  subst q8
  have HEq : Hid (a.mem = b.mem → a.terms = b.terms → a = b) := HSame.out q1 q2 q3 q4 q5 q6
  clear HSame q1 q2 q3 q4 q5 q6
  go_enter Try.func35, Try.ntmps35
  go_wp2
  have hs1 : W1.heap.size = w.heap.size + 2 := by rw [← hW1]; simp [hs0]
  have HY : Hid (∀ V : World, Below W1.heap.size W1 V → V.cell? ⟨w.heap.size, 6, none⟩ = some (.slice A5 la c5) ∧ V.cell? ⟨w.heap.size, 7, none⟩ = some (.slice A6 na c6) ∧ V.cell? ⟨w.heap.size + 1, 6, none⟩ = some (.slice B5 la d5) ∧ V.cell? ⟨w.heap.size + 1, 7, none⟩ = some (.slice B6 na d6)) := fun V hV =>
    ⟨(hV.cell (p := ⟨w.heap.size, 6, none⟩) (by simp; omega)).trans y6, (hV.cell (p := ⟨w.heap.size, 7, none⟩) (by simp; omega)).trans y7, (hV.cell (p := ⟨w.heap.size + 1, 6, none⟩) (by simp; omega)).trans z6, (hV.cell (p := ⟨w.heap.size + 1, 7, none⟩) (by simp; omega)).trans z7⟩
  clear hW0 hW1 g1 g2 g3 g4 g5 g6 y0 y1 y2 y3 y4 y5 z0 z1 z2 z3 z4 z5 y6 y7 z6 z7
  go_loopg [5] la (fun k v5 wr => Going W1 a.mem b.mem la k v5 wr)
  case atStart => exact ⟨0, rfl, rfl, rfl, Below.refl _ _⟩
  case round =>
    obtain ⟨i, hk, rfl, hpre, hB⟩ := hrel
    obtain ⟨y6, y7, z6, z7⟩ := HY.out wr hB
    by_cases hlt : i < la
    · obtain ⟨x, hx⟩ : ∃ x, a.mem[i]? = some x := ⟨_, List.getElem?_eq_getElem (by rw [HL.out.1]; exact hlt)⟩
      obtain ⟨y, hy⟩ : ∃ y, b.mem[i]? = some y := ⟨_, List.getElem?_eq_getElem (by rw [HL.out.2.1]; exact hlt)⟩
      obtain ⟨ad, rfl, a4'⟩ := HIa.out i x hx
      obtain ⟨bd, rfl, b4'⟩ := HIb.out i y hy
      have a4 := a4' wr hB
      have b4 := b4' wr hB
      clear a4' b4'
      have j1 : (i : Int) < (la : Int) := by omega
      have j2 : (0 : Int) ≤ (i : Int) := by omega
      have HBd : Hid (Below W1.heap.size W1 wr.drew) := ⟨hB.os, hB.tape, hB.output, hB.size, hB.block⟩
      by_cases hxy : x = y
      · have hRel : Hid (Going W1 a.mem b.mem la (la - (i + 1)) (.int .i64 ((i + 1 : Nat) : Int)) wr.drew) := ⟨i + 1, by omega, rfl, by rw [List.take_add_one, List.take_add_one, hpre, hx, hy, hxy], HBd.out⟩
        subst hxy
        have HK := Lib.hid hk
        clear hk hpre hx hy hB y7 z7
        go_wp2
        go_region_held3 (fun w' => w'.cell? ⟨w.heap.size, 6, none⟩ = some (.slice (some ad) la c5) ∧ w'.cell? ⟨w.heap.size + 1, 6, none⟩ = some (.slice (some bd) la d5) ∧ w'.cell? (ad.add i) = some (.int .i64 x) ∧ w'.cell? (bd.add i) = some (.int .i64 x)) (go_keep) (fail)
        all_goals
          go_wp2
          go_roundg (la - (i + 1))
          case measure => have := HK.out; omega
          case rel => exact hRel.out
      · have hne : (x != y) = true := by rw [bne_iff_ne]; exact hxy
        have hfin : Hid (SameOut w a b (.returned (.bool false)) wr.drew) := ⟨false, rfl, ⟨(fun h => nomatch h), fun h => by
          rw [h, hy] at hx
          exact absurd (Option.some.inj hx).symm hxy⟩, HB1.out.trans (HBd.out.mono (by omega))⟩
        clear hk hpre hx hy hB y7 z7 hxy HBd
        go_wp2
        go_region_held3 (fun w' => w'.cell? ⟨w.heap.size, 6, none⟩ = some (.slice (some ad) la c5) ∧ w'.cell? ⟨w.heap.size + 1, 6, none⟩ = some (.slice (some bd) la d5) ∧ w'.cell? (ad.add i) = some (.int .i64 x) ∧ w'.cell? (bd.add i) = some (.int .i64 y)) (go_keep) (fail)
        all_goals
          go_wp2
          go_ret
          exact hfin.out
    · have hmem : Hid (a.mem = b.mem) := by
        have h1 : a.mem.take i = a.mem := List.take_of_length_le (by rw [HL.out.1]; omega)
        have h2 : b.mem.take i = b.mem := List.take_of_length_le (by rw [HL.out.2.1]; omega)
        show a.mem = b.mem
        rw [← h1, ← h2]
        exact hpre
      have HStart : Hid (Going W1 a.terms b.terms na na (.int .i64 0) wr) := ⟨0, rfl, rfl, rfl, hB⟩
      have j1 : ¬ ((i : Int) < (la : Int)) := by omega
      clear hk hpre hB y7 z7 z6 HIa HIb
      go_wp2
      clear y6
      go_loopg [6] na (fun k v6 wr => Going W1 a.terms b.terms na k v6 wr)
      case atStart => exact HStart.out
      case round =>
        clear HStart
        obtain ⟨i, hk, rfl, hpre, hB⟩ := hrel
        obtain ⟨y6, y7, z6, z7⟩ := HY.out wr hB
        by_cases hlt : i < na
        · obtain ⟨x, hx⟩ : ∃ x, a.terms[i]? = some x := ⟨_, List.getElem?_eq_getElem (by rw [HL.out.2.2.1]; exact hlt)⟩
          obtain ⟨y, hy⟩ : ∃ y, b.terms[i]? = some y := ⟨_, List.getElem?_eq_getElem (by rw [HL.out.2.2.2]; exact hlt)⟩
          obtain ⟨ad, rfl, a4'⟩ := HTa.out i x hx
          obtain ⟨bd, rfl, b4'⟩ := HTb.out i y hy
          have a4 := a4' wr hB
          have b4 := b4' wr hB
          clear a4' b4'
          have j1 : (i : Int) < (na : Int) := by omega
          have j2 : (0 : Int) ≤ (i : Int) := by omega
          have HBd : Hid (Below W1.heap.size W1 wr.drew) := ⟨hB.os, hB.tape, hB.output, hB.size, hB.block⟩
          by_cases hxy : x = y
          · have hRel : Hid (Going W1 a.terms b.terms na (na - (i + 1)) (.int .i64 ((i + 1 : Nat) : Int)) wr.drew) := ⟨i + 1, by omega, rfl, by rw [List.take_add_one, List.take_add_one, hpre, hx, hy, hxy], HBd.out⟩
            subst hxy
            have HK := Lib.hid hk
            clear hk hpre hx hy hB y6 z6
            go_wp2
            go_region_held3 (fun w' => w'.cell? ⟨w.heap.size, 7, none⟩ = some (.slice (some ad) na c6) ∧ w'.cell? ⟨w.heap.size + 1, 7, none⟩ = some (.slice (some bd) na d6) ∧ w'.cell? (ad.add i) = some (.string ⟨x.toArray⟩) ∧ w'.cell? (bd.add i) = some (.string ⟨x.toArray⟩)) (go_keep) (fail)
            all_goals
              go_wp2
              go_roundg (na - (i + 1))
              case measure => have := HK.out; omega
              case rel => exact hRel.out
          · have hne : (x == y) = false := by rw [beq_eq_false_iff_ne]; exact hxy
            have hfin : Hid (SameOut w a b (.returned (.bool false)) wr.drew) := ⟨false, rfl, ⟨(fun h => nomatch h), fun h => by
              rw [h, hy] at hx
              exact absurd (Option.some.inj hx).symm hxy⟩, HB1.out.trans (HBd.out.mono (by omega))⟩
            clear hk hpre hx hy hB y6 z6 hxy HBd
            go_wp2
            go_region_held3 (fun w' => w'.cell? ⟨w.heap.size, 7, none⟩ = some (.slice (some ad) na c6) ∧ w'.cell? ⟨w.heap.size + 1, 7, none⟩ = some (.slice (some bd) na d6) ∧ w'.cell? (ad.add i) = some (.string ⟨x.toArray⟩) ∧ w'.cell? (bd.add i) = some (.string ⟨y.toArray⟩)) (go_keep) (fail)
            all_goals
              go_wp2
              go_ret
              exact hfin.out
        · have hterms : a.terms = b.terms := by
            have h1 : a.terms.take i = a.terms := List.take_of_length_le (by rw [HL.out.2.2.1]; omega)
            have h2 : b.terms.take i = b.terms := List.take_of_length_le (by rw [HL.out.2.2.2]; omega)
            rw [← h1, ← h2]
            exact hpre
          have hfin : Hid (SameOut w a b (.returned (.bool true)) wr) := ⟨true, rfl, ⟨fun _ => HEq.out hmem.out hterms, fun _ => rfl⟩, HB1.out.trans (hB.mono (by omega))⟩
          have j1 : ¬ ((i : Int) < (na : Int)) := by omega
          clear hk hpre hB hterms
          go_wp2
          go_ret
          exact hfin.out
end Go.Proofs.Ytloheongiceliaa.L4
end
