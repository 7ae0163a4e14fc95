/- Contract of the laws' asMsg: a message, as the reference has it. -/
import Derived.Test.YtiodphkmllcjdaaGreatShort
import Derived.Test.YtiodphkmllcjdaaGreatListPure
import Derived.Deep.AppendLies
import Derived.Laws.Rows
namespace Go.Proofs.YtiodphkmllcjdaaGreat.L4
open Go.ChangeShapes Go.WideShapes Go.ChangeAt Go.RowKit

theorem info_str4 : (Tryz.prog.info? 9).map (fun i => (i.zero, i.size, i.bytes)) = some (some (.string ⟨#[]⟩), 1, 16) := by kernel_rfl
theorem set_blk {W : World} {b i : Nat} {cs : Array Value} {t : TypeId} {fr : Nat × Nat} (h : W.heap[b]? = some (.cells cs t fr)) (v : Value) : (W.setCell ⟨b, i, none⟩ v).heap[b]? = some (.cells (cs.setIfInBounds i v) t fr) := by
  obtain ⟨hlt, hk⟩ := Array.getElem?_eq_some_iff.1 h
  show (W.heap.modify b _)[b]? = _
  rw [Array.getElem?_eq_getElem (by rw [Array.size_modify]; exact hlt), Array.getElem_modify_self, hk]
  rfl
theorem blk_cell {W : World} {b i : Nat} {cs : Array Value} {t : TypeId} (h : W.heap[b]? = some (.cells cs t (0, 0))) : W.cell? ⟨b, i, none⟩ = cs[i]? := by
  simp only [World.cell?]
  rw [h]
  rfl
theorem blk_frozen {W : World} {b i : Nat} {cs : Array Value} {t : TypeId} (h : W.heap[b]? = some (.cells cs t (0, 0))) : W.frozen? ⟨b, i, none⟩ = false := by simp [World.frozen?, h]
/-- Eight stores into one block. -/
theorem store8 {W : World} {b : Nat} {t : TypeId} {o0 o1 o2 o3 o4 o5 o6 o7 : Value} (n0 n1 n2 n3 n4 n5 n6 n7 : Value) (h : W.heap[b]? = some (.cells #[o0, o1, o2, o3, o4, o5, o6, o7] t (0, 0))) :
    ∃ u1 u2 u3 u4 u5 u6 u7 u8 : World, (W.setCell ⟨b, 0, none⟩ n0 = u1 ∧ W.cell? ⟨b, 0, none⟩ = some o0 ∧ W.frozen? ⟨b, 0, none⟩ = false) ∧ (u1.setCell ⟨b, 1, none⟩ n1 = u2 ∧ u1.cell? ⟨b, 1, none⟩ = some o1 ∧ u1.frozen? ⟨b, 1, none⟩ = false) ∧ (u2.setCell ⟨b, 2, none⟩ n2 = u3 ∧ u2.cell? ⟨b, 2, none⟩ = some o2 ∧ u2.frozen? ⟨b, 2, none⟩ = false) ∧ (u3.setCell ⟨b, 3, none⟩ n3 = u4 ∧ u3.cell? ⟨b, 3, none⟩ = some o3 ∧ u3.frozen? ⟨b, 3, none⟩ = false) ∧ (u4.setCell ⟨b, 4, none⟩ n4 = u5 ∧ u4.cell? ⟨b, 4, none⟩ = some o4 ∧ u4.frozen? ⟨b, 4, none⟩ = false) ∧ (u5.setCell ⟨b, 5, none⟩ n5 = u6 ∧ u5.cell? ⟨b, 5, none⟩ = some o5 ∧ u5.frozen? ⟨b, 5, none⟩ = false) ∧ (u6.setCell ⟨b, 6, none⟩ n6 = u7 ∧ u6.cell? ⟨b, 6, none⟩ = some o6 ∧ u6.frozen? ⟨b, 6, none⟩ = false) ∧ (u7.setCell ⟨b, 7, none⟩ n7 = u8 ∧ u7.cell? ⟨b, 7, none⟩ = some o7 ∧ u7.frozen? ⟨b, 7, none⟩ = false) ∧ u8.heap[b]? = some (.cells #[n0, n1, n2, n3, n4, n5, n6, n7] t (0, 0)) ∧ Below b W u8 ∧ (∀ k, k ≠ b → u8.heap[k]? = W.heap[k]?) := by
  have h1 : (W.setCell ⟨b, 0, none⟩ n0).heap[b]? = some (.cells #[n0, o1, o2, o3, o4, o5, o6, o7] t (0, 0)) := set_blk h n0
  have hB1 : Below b W (W.setCell ⟨b, 0, none⟩ n0) := (Below.refl b W).setCell (by simp) n0
  have hk1 : ∀ k, k ≠ b → (W.setCell ⟨b, 0, none⟩ n0).heap[k]? = W.heap[k]? := fun k hk => (Below.heap_setCell _ _ _ _ (by simpa using hk))
  obtain ⟨x1, hx1⟩ : ∃ x, W.setCell ⟨b, 0, none⟩ n0 = x := ⟨_, rfl⟩
  rw [hx1] at h1 hB1 hk1
  have h2 : (x1.setCell ⟨b, 1, none⟩ n1).heap[b]? = some (.cells #[n0, n1, o2, o3, o4, o5, o6, o7] t (0, 0)) := set_blk h1 n1
  have hB2 : Below b W (x1.setCell ⟨b, 1, none⟩ n1) := hB1.setCell (by simp) n1
  have hk2 : ∀ k, k ≠ b → (x1.setCell ⟨b, 1, none⟩ n1).heap[k]? = W.heap[k]? := fun k hk => (Below.heap_setCell _ _ _ _ (by simpa using hk)).trans (hk1 k hk)
  obtain ⟨x2, hx2⟩ : ∃ x, x1.setCell ⟨b, 1, none⟩ n1 = x := ⟨_, rfl⟩
  rw [hx2] at h2 hB2 hk2
  have h3 : (x2.setCell ⟨b, 2, none⟩ n2).heap[b]? = some (.cells #[n0, n1, n2, o3, o4, o5, o6, o7] t (0, 0)) := set_blk h2 n2
  have hB3 : Below b W (x2.setCell ⟨b, 2, none⟩ n2) := hB2.setCell (by simp) n2
  have hk3 : ∀ k, k ≠ b → (x2.setCell ⟨b, 2, none⟩ n2).heap[k]? = W.heap[k]? := fun k hk => (Below.heap_setCell _ _ _ _ (by simpa using hk)).trans (hk2 k hk)
  obtain ⟨x3, hx3⟩ : ∃ x, x2.setCell ⟨b, 2, none⟩ n2 = x := ⟨_, rfl⟩
  rw [hx3] at h3 hB3 hk3
  have h4 : (x3.setCell ⟨b, 3, none⟩ n3).heap[b]? = some (.cells #[n0, n1, n2, n3, o4, o5, o6, o7] t (0, 0)) := set_blk h3 n3
  have hB4 : Below b W (x3.setCell ⟨b, 3, none⟩ n3) := hB3.setCell (by simp) n3
  have hk4 : ∀ k, k ≠ b → (x3.setCell ⟨b, 3, none⟩ n3).heap[k]? = W.heap[k]? := fun k hk => (Below.heap_setCell _ _ _ _ (by simpa using hk)).trans (hk3 k hk)
  obtain ⟨x4, hx4⟩ : ∃ x, x3.setCell ⟨b, 3, none⟩ n3 = x := ⟨_, rfl⟩
  rw [hx4] at h4 hB4 hk4
  have h5 : (x4.setCell ⟨b, 4, none⟩ n4).heap[b]? = some (.cells #[n0, n1, n2, n3, n4, o5, o6, o7] t (0, 0)) := set_blk h4 n4
  have hB5 : Below b W (x4.setCell ⟨b, 4, none⟩ n4) := hB4.setCell (by simp) n4
  have hk5 : ∀ k, k ≠ b → (x4.setCell ⟨b, 4, none⟩ n4).heap[k]? = W.heap[k]? := fun k hk => (Below.heap_setCell _ _ _ _ (by simpa using hk)).trans (hk4 k hk)
  obtain ⟨x5, hx5⟩ : ∃ x, x4.setCell ⟨b, 4, none⟩ n4 = x := ⟨_, rfl⟩
  rw [hx5] at h5 hB5 hk5
  have h6 : (x5.setCell ⟨b, 5, none⟩ n5).heap[b]? = some (.cells #[n0, n1, n2, n3, n4, n5, o6, o7] t (0, 0)) := set_blk h5 n5
  have hB6 : Below b W (x5.setCell ⟨b, 5, none⟩ n5) := hB5.setCell (by simp) n5
  have hk6 : ∀ k, k ≠ b → (x5.setCell ⟨b, 5, none⟩ n5).heap[k]? = W.heap[k]? := fun k hk => (Below.heap_setCell _ _ _ _ (by simpa using hk)).trans (hk5 k hk)
  obtain ⟨x6, hx6⟩ : ∃ x, x5.setCell ⟨b, 5, none⟩ n5 = x := ⟨_, rfl⟩
  rw [hx6] at h6 hB6 hk6
  have h7 : (x6.setCell ⟨b, 6, none⟩ n6).heap[b]? = some (.cells #[n0, n1, n2, n3, n4, n5, n6, o7] t (0, 0)) := set_blk h6 n6
  have hB7 : Below b W (x6.setCell ⟨b, 6, none⟩ n6) := hB6.setCell (by simp) n6
  have hk7 : ∀ k, k ≠ b → (x6.setCell ⟨b, 6, none⟩ n6).heap[k]? = W.heap[k]? := fun k hk => (Below.heap_setCell _ _ _ _ (by simpa using hk)).trans (hk6 k hk)
  obtain ⟨x7, hx7⟩ : ∃ x, x6.setCell ⟨b, 6, none⟩ n6 = x := ⟨_, rfl⟩
  rw [hx7] at h7 hB7 hk7
  have h8 : (x7.setCell ⟨b, 7, none⟩ n7).heap[b]? = some (.cells #[n0, n1, n2, n3, n4, n5, n6, n7] t (0, 0)) := set_blk h7 n7
  have hB8 : Below b W (x7.setCell ⟨b, 7, none⟩ n7) := hB7.setCell (by simp) n7
  have hk8 : ∀ k, k ≠ b → (x7.setCell ⟨b, 7, none⟩ n7).heap[k]? = W.heap[k]? := fun k hk => (Below.heap_setCell _ _ _ _ (by simpa using hk)).trans (hk7 k hk)
  obtain ⟨x8, hx8⟩ : ∃ x, x7.setCell ⟨b, 7, none⟩ n7 = x := ⟨_, rfl⟩
  rw [hx8] at h8 hB8 hk8
  exact ⟨x1, x2, x3, x4, x5, x6, x7, x8, ⟨hx1, blk_cell h, blk_frozen h⟩, ⟨hx2, blk_cell h1, blk_frozen h1⟩, ⟨hx3, blk_cell h2, blk_frozen h2⟩, ⟨hx4, blk_cell h3, blk_frozen h3⟩, ⟨hx5, blk_cell h4, blk_frozen h4⟩, ⟨hx6, blk_cell h5, blk_frozen h5⟩, ⟨hx7, blk_cell h6, blk_frozen h6⟩, ⟨hx8, blk_cell h7, blk_frozen h7⟩, h8, hB8, hk8⟩
def AsOut (w : World) (m : Msg) (vm : Value) (e : Ending) (w' : World) : Prop := ∃ vt, e = .returned (.agg (msgCells m vm vt)) ∧ w'.ownsRow w.heap.size 9 1 vt m.terms.length (strs m.terms) ∧ Below w.heap.size w w'
def AsGo (W1 : World) (b : Nat) (m : Msg) (vm : Value) (k : Nat) (v4 : Value) (wr : World) : Prop :=
  ∃ (i : Nat) (vt : Value), k + i = m.terms.length ∧ v4 = .int .i64 i ∧ wr.heap[b]? = some (.cells (msgCells m vm vt) 52 (0, 0)) ∧ wr.ownsRow (b + 1) 9 1 vt i (strs (m.terms.take i)) ∧ Below b W1 wr

end Go.Proofs.YtiodphkmllcjdaaGreat.L4
