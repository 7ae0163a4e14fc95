/- Contracts of watch.told, New, Hear, Tick and There. -/
import Derived.Test.YtildapcdkipakaaWtPure
namespace Go.Proofs.Ytildapcdkipakaa.L9
open Go.ChangeShapes Go.WideShapes Go.ChangeAt Go.RowKit Go.Deep

theorem set_blk {W : World} {b i : Nat} {cs : Array Value} {t : TypeId} {fr : Nat × Nat} (h : W.heap[b]? = some (.cells cs t fr)) (v : Value) : (W.setCell ⟨b, i, none⟩ v).heap[b]? = some (.cells (cs.setIfInBounds i v) t fr) := by
  obtain ⟨hlt, hk⟩ := Array.getElem?_eq_some_iff.1 h
  show (W.heap.modify b _)[b]? = _
  rw [Array.getElem?_eq_getElem (by rw [Array.size_modify]; exact hlt), Array.getElem_modify_self, hk]
  rfl
theorem other_blk {W : World} {b i k : Nat} (hk : k ≠ b) (v : Value) : (W.setCell ⟨b, i, none⟩ v).heap[k]? = W.heap[k]? := Below.heap_setCell _ _ _ _ (by simpa using hk)
/-- A block of three cells, as they are read. -/
theorem cells3 {W : World} {b : Nat} {t : TypeId} {a0 a1 a2 : Value} (h : W.heap[b]? = some (.cells #[a0, a1, a2] t (0, 0))) : W.cell? ⟨b, 0, none⟩ = some a0 ∧ W.cell? ⟨b, 1, none⟩ = some a1 ∧ W.cell? ⟨b, 2, none⟩ = some a2 ∧ W.frozen? ⟨b, 0, none⟩ = false ∧ W.frozen? ⟨b, 1, none⟩ = false ∧ W.frozen? ⟨b, 2, none⟩ = false := by
  refine ⟨?_, ?_, ?_, by simp [World.frozen?, h], by simp [World.frozen?, h], by simp [World.frozen?, h]⟩
  all_goals
    simp only [World.cell?]
    rw [h]
    rfl
/-- Three stores into one block. -/
theorem store3 {W : World} {b : Nat} {t : TypeId} {o0 o1 o2 : Value} (n0 n1 n2 : Value) (h : W.heap[b]? = some (.cells #[o0, o1, o2] t (0, 0))) :
    ∃ u1 u2 u3 : World, (W.setCell ⟨b, 0, none⟩ n0 = u1 ∧ W.cell? ⟨b, 0, none⟩ = some o0 ∧ W.frozen? ⟨b, 0, none⟩ = false) ∧ (u1.setCell ⟨b, 1, none⟩ n1 = u2 ∧ u1.cell? ⟨b, 1, none⟩ = some o1 ∧ u1.frozen? ⟨b, 1, none⟩ = false) ∧ (u2.setCell ⟨b, 2, none⟩ n2 = u3 ∧ u2.cell? ⟨b, 2, none⟩ = some o2 ∧ u2.frozen? ⟨b, 2, none⟩ = false) ∧
      u3.heap[b]? = some (.cells #[n0, n1, n2] t (0, 0)) ∧ Below b W u3 ∧ ∀ k, k ≠ b → u3.heap[k]? = W.heap[k]? := by
  have h1 : (W.setCell ⟨b, 0, none⟩ n0).heap[b]? = some (.cells #[n0, o1, o2] t (0, 0)) := set_blk h n0
  have hB1 : Below b W (W.setCell ⟨b, 0, none⟩ n0) := (Below.refl b W).setCell (by simp) n0
  have hk1 : ∀ k, k ≠ b → (W.setCell ⟨b, 0, none⟩ n0).heap[k]? = W.heap[k]? := fun k hk => other_blk hk n0
  obtain ⟨x1, hx1⟩ : ∃ x, W.setCell ⟨b, 0, none⟩ n0 = x := ⟨_, rfl⟩
  rw [hx1] at h1 hB1 hk1
  have h2 : (x1.setCell ⟨b, 1, none⟩ n1).heap[b]? = some (.cells #[n0, n1, o2] t (0, 0)) := set_blk h1 n1
  have hB2 : Below b W (x1.setCell ⟨b, 1, none⟩ n1) := hB1.setCell (by simp) n1
  have hk2 : ∀ k, k ≠ b → (x1.setCell ⟨b, 1, none⟩ n1).heap[k]? = W.heap[k]? := fun k hk => (other_blk hk n1).trans (hk1 k hk)
  obtain ⟨x2, hx2⟩ : ∃ x, x1.setCell ⟨b, 1, none⟩ n1 = x := ⟨_, rfl⟩
  rw [hx2] at h2 hB2 hk2
  have h3 : (x2.setCell ⟨b, 2, none⟩ n2).heap[b]? = some (.cells #[n0, n1, n2] t (0, 0)) := set_blk h2 n2
  have hB3 : Below b W (x2.setCell ⟨b, 2, none⟩ n2) := hB2.setCell (by simp) n2
  have hk3 : ∀ k, k ≠ b → (x2.setCell ⟨b, 2, none⟩ n2).heap[k]? = W.heap[k]? := fun k hk => (other_blk hk n2).trans (hk2 k hk)
  exact ⟨x1, x2, _, ⟨hx1, (cells3 h).1, (cells3 h).2.2.2.1⟩, ⟨hx2, (cells3 h1).2.1, (cells3 h1).2.2.2.2.1⟩, ⟨rfl, (cells3 h2).2.2.1, (cells3 h2).2.2.2.2.2⟩, h3, hB3, hk3⟩
theorem own_base {W : World} {B B' : Nat} {e : TypeId} {size n : Nat} {v : Value} {xs : List Value} (h : W.ownsRow B e size v n xs) (hb : B' ≤ B) : W.ownsRow B' e size v n xs := by
  refine ⟨h.1, ?_⟩
  rcases h.2 with hn | ⟨g, cap, cur, rfl, h1, h2⟩
  · exact .inl hn
  · exact .inr ⟨g, cap, cur, rfl, by omega, h2⟩
/-- Where a row of eight lies. -/
theorem own_eight {W : World} {B : Nat} {v : Value} {L : List Int} (h : W.ownsRow B 3 1 v 8 (ints L)) : ∃ q c, v = .slice (some ⟨q, 0, none⟩) 8 c ∧ B ≤ q ∧ q < W.heap.size ∧ W.heap[q]? ≠ none := by
  rcases h.2 with ⟨_, h0⟩ | ⟨g, cap, cur, rfl, h1, h2, h3⟩
  · omega
  · exact ⟨g, cap, rfl, h1, (Array.getElem?_eq_some_iff.1 h2).1, by rw [h2]; simp⟩
theorem own_cell {W : World} {B q c : Nat} {L : List Int} (h : W.ownsRow B 3 1 (.slice (some ⟨q, 0, none⟩) 8 c) 8 (ints L)) {i : Nat} (hi : i < 8) (hl : L.length = 8) : W.cell? ⟨q, i, none⟩ = some (.int .i64 (L.getD i 0)) ∧ W.frozen? ⟨q, i, none⟩ = false := by
  rcases h.2 with ⟨_, h0⟩ | ⟨g, cap, cur, e, h1, h2, h3, h4, h5, h6⟩
  · omega
  · cases e
    refine ⟨?_, by simp [World.frozen?, h2]⟩
    simp only [World.cell?]
    rw [h2]
    have : cur.toList[i]? = some (.int .i64 (L.getD i 0)) := by
      rw [← List.getElem?_take_of_lt (show i < 8 * 1 by omega), h6]
      simp [ints, List.getD, List.getElem?_eq_getElem (show i < L.length by omega)]
    simpa using this
theorem ints_set (L : List Int) (i : Nat) (x : Int) : ints (L.set i x) = (ints L).set i (.int .i64 x) := by simp [ints, List.map_set]
/-- A number of a row is stored. -/
theorem own_store {W : World} {B q c : Nat} {L : List Int} (h : W.ownsRow B 3 1 (.slice (some ⟨q, 0, none⟩) 8 c) 8 (ints L)) (i : Nat) (x : Int) : (W.setCell ⟨q, i, none⟩ (.int .i64 x)).ownsRow B 3 1 (.slice (some ⟨q, 0, none⟩) 8 c) 8 (ints (L.set i x)) := by
  rw [ints_set]
  exact (h.stored i (.int .i64 x)).1

set_option maxRecDepth 100000 in
theorem told_calls (a b : Value) (A : Option Addr) (c : Nat) (w : World) : Calls Try.prog 42 #[.agg #[a, b, .slice A 8 c]] w (L5.One w (.int .i64 8)) := by
  have hn : (w.alloc (.cells #[a, b, .slice A 8 c] 55)).heap[w.heap.size]? = some (.cells #[a, b, .slice A 8 c] 55 (0, 0)) := heap_alloc_new _ _
  have hB : Below w.heap.size w (w.alloc (.cells #[a, b, .slice A 8 c] 55)) := (Below.refl _ w).alloc (Nat.le_refl _) _
  obtain ⟨W0, hW0⟩ : ∃ W0, w.alloc (.cells #[a, b, .slice A 8 c] 55) = W0 := ⟨_, rfl⟩
  rw [hW0] at hn hB
  obtain ⟨_, _, c2, _, _, _⟩ := cells3 hn
  have HB := Lib.hid hB
  clear hn hB
  go_enter Try.func42, Try.ntmps42
  go_wp2
  go_ret
  exact ⟨rfl, HB.out⟩
/-- A watch is handed out. -/
def WOut (w : World) (me lim : Int) (L : List Int) (e : Ending) (w' : World) : Prop := ∃ v, e = .returned (.agg #[.int .i64 me, .int .i64 lim, v]) ∧ w'.ownsRow w.heap.size 3 1 v 8 (ints L) ∧ Below w.heap.size w w'
end Go.Proofs.Ytildapcdkipakaa.L9
