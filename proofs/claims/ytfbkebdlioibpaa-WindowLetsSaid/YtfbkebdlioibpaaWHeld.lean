/- Seen and Let where other cells are held; the two orders of a call and a new variable; what was seen stays seen. -/
import Derived.Test.YtfbkebdlioibpaaWSame
namespace Go.Proofs.Ytfbkebdlioibpaa.L5
open Go.ChangeShapes Go.WideShapes Go.ChangeAt Go.RowKit

theorem seenS_step {L : List Nat} {n : Nat} (m : Nat) (h : seenS L n = true) : seenS (stepS L m) n = true := by
  unfold stepS
  split
  · exact h
  · unfold seenS at h ⊢
    rw [decide_eq_true_iff] at h ⊢
    rw [topL_snoc]
    rcases h with h | h | h
    · exact .inl h
    · exact .inr (.inl (by simp [h]))
    · exact .inr (.inr (by omega))
theorem seenS_self (L : List Nat) (n : Nat) : seenS (stepS L n) n = true := by
  unfold stepS
  split
  · assumption
  · unfold seenS
    rw [decide_eq_true_iff]
    exact .inr (.inl (by simp))
theorem seenS_all {l : List Nat} {i k n : Nat} (hk : k < i) (h : l[k]? = some n) (hi : i ≤ l.length) : seenS (allS (l.take i)) n = true := by
  induction i with
  | zero => omega
  | succ i ih =>
    obtain ⟨m, hm⟩ : ∃ m, l[i]? = some m := ⟨_, List.getElem?_eq_getElem (by omega)⟩
    rw [allS_take hm]
    by_cases hki : k = i
    · subst hki
      rw [h] at hm
      cases hm
      exact seenS_self _ _
    · exact seenS_step _ (ih (by omega) (by omega))

/-- The two orders in which a variable is made and a call is made: one way. -/
theorem way_a {wr w2 : World} (z0 z1 : Int) (h : Below wr.drew.heap.size wr.drew w2) : ∃ X, w2.alloc (.cells #[.int .u64 z0, .int .u64 z1] 68) = X ∧ X.heap[w2.heap.size]? = some (.cells #[.int .u64 z0, .int .u64 z1] 68 (0, 0)) ∧ Below wr.heap.size wr X ∧ wr.heap.size ≤ w2.heap.size := by
  have h1 : Below wr.heap.size wr w2 := Below.trans (below_drewN (Below.refl wr.heap.size wr) 1) h
  exact ⟨_, rfl, heap_alloc_new _ _, h1.alloc h1.size _, h1.size⟩
/-- The other way. -/
theorem way_b {wr w2 : World} (z0 z1 : Int) (h : Below (wr.drew.alloc (.cells #[.int .u64 0, .int .u64 0] 68)).heap.size (wr.drew.alloc (.cells #[.int .u64 0, .int .u64 0] 68)) w2) : ∃ X, (w2.setCell ⟨wr.heap.size, 0, none⟩ (.int .u64 z0)).setCell ⟨wr.heap.size, 1, none⟩ (.int .u64 z1) = X ∧ X.heap[wr.heap.size]? = some (.cells #[.int .u64 z0, .int .u64 z1] 68 (0, 0)) ∧ Below wr.heap.size wr X ∧ wr.heap.size ≤ wr.heap.size := by
  have hs : (wr.drew.alloc (.cells #[.int .u64 0, .int .u64 0] 68)).heap.size = wr.heap.size + 1 := by simp
  have h0 : w2.heap[wr.heap.size]? = some (.cells #[.int .u64 0, .int .u64 0] 68 (0, 0)) := (h.block wr.heap.size (by omega)).trans (heap_alloc_new wr.drew _)
  have h1 : Below wr.heap.size wr w2 := Below.trans ((below_drewN (Below.refl wr.heap.size wr) 1).alloc (Nat.le_refl _) _) (h.mono (by omega))
  refine ⟨_, rfl, set_blk (set_blk h0 _) _, (h1.setCell (by simp) _).setCell (by simp) _, Nat.le_refl _⟩

theorem seen_held {t b : Nat} {L : List Nat} (h : Inv t b L) {n : Nat} (hn : n < 18446744073709551616) {r : Bool} (hs : seenS L n = r) (g : Nat) (a : Addr) (V : World) (k0 : V.cell? ⟨g, 0, none⟩ = some (.int .u64 t)) (k1 : V.cell? ⟨g, 1, none⟩ = some (.int .u64 b)) (k2 : V.cell? a = some (.int .u64 n)) :
    Calls Try.prog 38 #[.agg #[.int .u64 t, .int .u64 b], .int .u64 n] V fun e w2 => e = .returned (.bool r) ∧ w2.cell? ⟨g, 0, none⟩ = some (.int .u64 t) ∧ w2.cell? ⟨g, 1, none⟩ = some (.int .u64 b) ∧ w2.cell? a = some (.int .u64 n) ∧ Hid (Below V.heap.size V w2) := by
  refine (Seen_calls h n hn V).mono ?_
  rintro e w2 ⟨rfl, b2⟩
  exact ⟨by rw [hs], (b2.cell (World.block_lt_of_cell? V _ k0)).trans k0, (b2.cell (World.block_lt_of_cell? V _ k1)).trans k1, (b2.cell (World.block_lt_of_cell? V _ k2)).trans k2, b2⟩
theorem let_old {t b : Nat} {L : List Nat} (h : Inv t b L) {n : Nat} (hn : n < 18446744073709551616) (hs : seenS L n = true) (g f : Nat) (a : Addr) (V : World) (k0 : V.cell? ⟨g, 0, none⟩ = some (.int .u64 t)) (k1 : V.cell? ⟨g, 1, none⟩ = some (.int .u64 b)) (k2 : V.cell? a = some (.int .u64 n)) :
    Calls Try.prog 40 #[.agg #[.int .u64 t, .int .u64 b], .int .u64 n] V fun e w2 => e = .returned (.tuple #[.agg #[.int .u64 0, .int .u64 0], .int .i64 7]) ∧ w2.cell? ⟨g, 0, none⟩ = some (.int .u64 t) ∧ w2.cell? ⟨g, 1, none⟩ = some (.int .u64 b) ∧ w2.cell? a = some (.int .u64 n) ∧ (∀ j, f < V.heap.size → w2.cell? ⟨f, j, none⟩ = V.cell? ⟨f, j, none⟩) ∧ (∀ j, f < V.heap.size → w2.frozen? ⟨f, j, none⟩ = V.frozen? ⟨f, j, none⟩) ∧ Hid (Below V.heap.size V w2) := by
  refine (Let_calls h n hn V).mono ?_
  rintro e w2 ⟨b2, ⟨hs2, rfl⟩ | ⟨hs2, _⟩⟩
  · exact ⟨rfl, (b2.cell (World.block_lt_of_cell? V _ k0)).trans k0, (b2.cell (World.block_lt_of_cell? V _ k1)).trans k1, (b2.cell (World.block_lt_of_cell? V _ k2)).trans k2, fun j hj => b2.cell hj, fun j hj => by simp only [World.frozen?]; rw [b2.block _ hj], b2⟩
  · rw [hs] at hs2; cases hs2
theorem let_new {t b : Nat} {L : List Nat} (h : Inv t b L) {n : Nat} (hn : n < 18446744073709551616) (hs : seenS L n = false) (g f : Nat) (a : Addr) (V : World) (k0 : V.cell? ⟨g, 0, none⟩ = some (.int .u64 t)) (k1 : V.cell? ⟨g, 1, none⟩ = some (.int .u64 b)) (k2 : V.cell? a = some (.int .u64 n)) :
    Calls Try.prog 40 #[.agg #[.int .u64 t, .int .u64 b], .int .u64 n] V fun e w2 => ∃ t' b' : Nat, e = .returned (.tuple #[.agg #[.int .u64 t', .int .u64 b'], .int .i64 0]) ∧ w2.cell? ⟨g, 0, none⟩ = some (.int .u64 t) ∧ w2.cell? ⟨g, 1, none⟩ = some (.int .u64 b) ∧ w2.cell? a = some (.int .u64 n) ∧ (∀ j, f < V.heap.size → w2.cell? ⟨f, j, none⟩ = V.cell? ⟨f, j, none⟩) ∧ (∀ j, f < V.heap.size → w2.frozen? ⟨f, j, none⟩ = V.frozen? ⟨f, j, none⟩) ∧ Hid (Below V.heap.size V w2 ∧ Inv t' b' (L ++ [n])) := by
  refine (Let_calls h n hn V).mono ?_
  rintro e w2 ⟨b2, ⟨hs2, rfl⟩ | ⟨hs2, t', b', hI, rfl⟩⟩
  · rw [hs] at hs2; cases hs2
  · exact ⟨t', b', rfl, (b2.cell (World.block_lt_of_cell? V _ k0)).trans k0, (b2.cell (World.block_lt_of_cell? V _ k1)).trans k1, (b2.cell (World.block_lt_of_cell? V _ k2)).trans k2, fun j hj => b2.cell hj, fun j hj => by simp only [World.frozen?]; rw [b2.block _ hj], b2, hI⟩

end Go.Proofs.Ytfbkebdlioibpaa.L5
