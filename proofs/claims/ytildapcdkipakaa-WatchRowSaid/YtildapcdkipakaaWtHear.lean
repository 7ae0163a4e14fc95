/- Contracts of watch.Hear and watch.New. -/
import Derived.Test.YtildapcdkipakaaWtCalls
namespace Go.Proofs.Ytildapcdkipakaa.L9
open Go.ChangeShapes Go.WideShapes Go.ChangeAt Go.RowKit Go.Deep

/-- The watch that came in, boxed; room for the one that goes out; its row cloned. -/
structure Boxed (w : World) (me lim : Int) (v : Value) (L : List Int) (W : World) : Prop where
  box : W.heap[w.heap.size]? = some (.cells #[.int .i64 me, .int .i64 lim, v] 55 (0, 0))
  out : W.heap[w.heap.size + 1]? = some (.cells #[.int .i64 0, .int .i64 0, .slice none 0 0] 55 (0, 0))
  row : W.ownsRow (w.heap.size + 2) 3 1 v 8 (ints L)
  below : Below w.heap.size w W
theorem Boxed.step {w W W' : World} {me lim : Int} {v : Value} {L : List Int} (h : Boxed w me lim v L W) (hb : Below W.heap.size W W') : Boxed w me lim v L W' := by
  have s1 := (Array.getElem?_eq_some_iff.1 h.box).1
  have s2 := (Array.getElem?_eq_some_iff.1 h.out).1
  exact ⟨(hb.block _ s1).trans h.box, (hb.block _ s2).trans h.out, L5.own_below h.row hb, h.below.trans (hb.mono h.below.size)⟩
/-- The watch goes out. -/
theorem Boxed.ends {w W : World} {me lim : Int} {v : Value} {L : List Int} (h : Boxed w me lim v L W) :
    ∃ u1 u2 u3 : World, (W.setCell ⟨w.heap.size + 1, 0, none⟩ (.int .i64 me) = u1 ∧ W.cell? ⟨w.heap.size + 1, 0, none⟩ = some (.int .i64 0) ∧ W.frozen? ⟨w.heap.size + 1, 0, none⟩ = false) ∧ (u1.setCell ⟨w.heap.size + 1, 1, none⟩ (.int .i64 lim) = u2 ∧ u1.cell? ⟨w.heap.size + 1, 1, none⟩ = some (.int .i64 0) ∧ u1.frozen? ⟨w.heap.size + 1, 1, none⟩ = false) ∧ (u2.setCell ⟨w.heap.size + 1, 2, none⟩ v = u3 ∧ u2.cell? ⟨w.heap.size + 1, 2, none⟩ = some (.slice none 0 0) ∧ u2.frozen? ⟨w.heap.size + 1, 2, none⟩ = false) ∧
      u3.heap[w.heap.size + 1]? = some (.cells #[.int .i64 me, .int .i64 lim, v] 55 (0, 0)) ∧ WOut w me lim L (.returned (.agg #[.int .i64 me, .int .i64 lim, v])) u3 := by
  obtain ⟨u1, u2, u3, k1, k2, k3, k4, k5, k6⟩ := store3 (.int .i64 me) (.int .i64 lim) v h.out
  refine ⟨u1, u2, u3, k1, k2, k3, k4, v, rfl, ?_, h.below.trans (k5.mono (by omega))⟩
  refine L5.own_same (own_base h.row (by omega)) (fun q hq => k6 q ?_)
  obtain ⟨q', c, e, h1, _⟩ := own_eight h.row
  subst e
  cases hq
  show q' ≠ _
  omega
theorem two_boxed (w : World) (me lim : Int) (v : Value) : ∃ W0, (w.alloc (.cells #[.int .i64 me, .int .i64 lim, v] 55)).alloc (.cells #[.int .i64 0, .int .i64 0, .slice none 0 0] 55) = W0 ∧ W0.heap[w.heap.size]? = some (.cells #[.int .i64 me, .int .i64 lim, v] 55 (0, 0)) ∧ W0.heap[w.heap.size + 1]? = some (.cells #[.int .i64 0, .int .i64 0, .slice none 0 0] 55 (0, 0)) ∧ W0.heap.size = w.heap.size + 2 ∧ Below w.heap.size w W0 := by
  have hs : (w.alloc (.cells #[.int .i64 me, .int .i64 lim, v] 55)).heap.size = w.heap.size + 1 := by simp
  have h1 : (w.alloc (.cells #[.int .i64 me, .int .i64 lim, v] 55)).heap[w.heap.size]? = some (.cells #[.int .i64 me, .int .i64 lim, v] 55 (0, 0)) := heap_alloc_new _ _
  have b1 : Below w.heap.size w (w.alloc (.cells #[.int .i64 me, .int .i64 lim, v] 55)) := (Below.refl _ w).alloc (Nat.le_refl _) _
  obtain ⟨w1, hw1⟩ : ∃ w1, w.alloc (.cells #[.int .i64 me, .int .i64 lim, v] 55) = w1 := ⟨_, rfl⟩
  rw [hw1] at hs h1 b1 ⊢
  have b2 : Below w1.heap.size w1 (w1.alloc (.cells #[.int .i64 0, .int .i64 0, .slice none 0 0] 55)) := (Below.refl _ w1).alloc (Nat.le_refl _) _
  have h2 := heap_alloc_new w1 (.cells #[.int .i64 0, .int .i64 0, .slice none 0 0] 55)
  rw [hs] at h2
  exact ⟨_, rfl, (b2.block _ (by omega)).trans h1, h2, by simp [hs], b1.trans (b2.mono b1.size)⟩
/-- The clone is stored in the box. -/
theorem Boxed.start {w W0 w1 : World} {me lim : Int} {v v1 : Value} {L : List Int} (h1 : W0.heap[w.heap.size]? = some (.cells #[.int .i64 me, .int .i64 lim, v] 55 (0, 0))) (h2 : W0.heap[w.heap.size + 1]? = some (.cells #[.int .i64 0, .int .i64 0, .slice none 0 0] 55 (0, 0))) (hs : W0.heap.size = w.heap.size + 2) (hb : Below w.heap.size w W0) (hl : L.length = 8) (r : w1.ownsRow W0.heap.size 3 1 v1 L.length (ints L)) (b1 : Below W0.heap.size W0 w1) :
    ∃ u, (w1.setCell ⟨w.heap.size, 2, none⟩ v1 = u ∧ w1.cell? ⟨w.heap.size, 2, none⟩ = some v ∧ w1.frozen? ⟨w.heap.size, 2, none⟩ = false) ∧ Boxed w me lim v1 L u := by
  have k1 : w1.heap[w.heap.size]? = some (.cells #[.int .i64 me, .int .i64 lim, v] 55 (0, 0)) := (b1.block _ (by omega)).trans h1
  have k2 : w1.heap[w.heap.size + 1]? = some (.cells #[.int .i64 0, .int .i64 0, .slice none 0 0] 55 (0, 0)) := (b1.block _ (by omega)).trans h2
  rw [hl, hs] at r
  refine ⟨_, ⟨rfl, (cells3 k1).2.2.1, (cells3 k1).2.2.2.2.2⟩, set_blk k1 v1, (other_blk (by omega) v1).trans k2, L5.own_same r (fun q hq => other_blk ?_ v1), ?_⟩
  · obtain ⟨q', c, e, h1, _⟩ := own_eight r
    subst e
    cases hq
    show q' ≠ _
    omega
  · exact (hb.trans (b1.mono (by omega))).setCell (by simp) v1
/-- A number of the row is stored. -/
theorem Boxed.store {w W : World} {me lim : Int} {q c : Nat} {L : List Int} (h : Boxed w me lim (.slice (some ⟨q, 0, none⟩) 8 c) L W) (hl : L.length = 8) {i : Nat} (hi : i < 8) (x : Int) :
    ∃ u, (W.setCell ⟨q, i, none⟩ (.int .i64 x) = u ∧ W.cell? ⟨q, i, none⟩ = some (.int .i64 (L.getD i 0)) ∧ W.frozen? ⟨q, i, none⟩ = false) ∧ Boxed w me lim (.slice (some ⟨q, 0, none⟩) 8 c) (L.set i x) u := by
  obtain ⟨q', c', e, h1, _⟩ := own_eight h.row
  cases e
  exact ⟨_, ⟨rfl, (own_cell h.row hi hl).1, (own_cell h.row hi hl).2⟩, (other_blk (by omega) _).trans h.box, (other_blk (by omega) _).trans h.out, own_store h.row i x, h.below.setCell (by show w.heap.size ≤ q; omega) _⟩

set_option maxRecDepth 100000 in
set_option maxHeartbeats 2000000 in
theorem Hear_calls (B : Nat) (me lim p : Int) (v : Value) (L : List Int) (w : World) (hl : L.length = 8) (r : w.ownsRow B 3 1 v 8 (ints L)) (hp : isInt p) :
    Calls Try.prog 23 #[.agg #[.int .i64 me, .int .i64 lim, v], .int .i64 p] w (WOut w me lim (hearL L p)) := by
  obtain ⟨W0, e0, h1, h2, hs, hb⟩ := two_boxed w me lim v
  obtain ⟨_, _, c2, _, _, f2⟩ := cells3 h1
  have HC : Hid (Calls Try.prog 41 #[v] W0 (OutRow W0 L)) := Clone_calls B v L W0 (by rw [hl]; exact L5.own_below r (hb)) (by omega) (by omega)
  have HST := Lib.hid (fun v1 w1 => @Boxed.start w W0 w1 me lim v v1 L h1 h2 hs hb hl)
  have HL := Lib.hid hl
  clear h1 h2 hs hb r f2
  go_enter Try.func23, Try.ntmps23
  go_wp2_with fail
  refine HC.out.mono ?_
  rintro e w1 ⟨v1, rfl, hown, b1⟩
  obtain ⟨u, ⟨g1, g2, g3⟩, hu⟩ := HST.out v1 w1 hown b1
  obtain ⟨A1, k1, rfl, _⟩ := own_eight hu.row
  clear e0 c2 HST HC hown b1
  obtain ⟨x0, x1, x2, _, _, _⟩ := cells3 hu.box
  have HU := Lib.hid hu
  have HT := Lib.hid (told_calls (.int .i64 me) (.int .i64 lim) (some ⟨A1, 0, none⟩) k1 u)
  clear hu
  by_cases hp1 : 1 ≤ p
  · obtain ⟨i, rfl⟩ : ∃ i : Nat, p = (i : Int) + 1 := ⟨(p - 1).toNat, by omega⟩
    have hw : IntKind.i64.wrap ((i : Int) + 1 - 1) = (i : Int) := by rw [IntKind.wrap_i64]; unfold isInt at hp; omega
    go_wp2_with fail
    refine HT.out.mono ?_
    rintro e w2 ⟨rfl, b2⟩
    have hv := HU.out.step b2
    clear g1 g2 g3 x0 x1 x2 HT
    by_cases hp8 : i < 8
    · have j1 : (i : Int) + 1 ≤ 8 := by omega
      have j2 : (0 : Int) ≤ (i : Int) := by omega
      have j3 : (i : Int) < 8 := by omega
      obtain ⟨y, ⟨g1, g2, g3⟩, hy⟩ := hv.store HL.out hp8 0
      obtain ⟨x0, x1, x2, _, _, _⟩ := cells3 hy.box
      obtain ⟨_, _, y2, _, _, _⟩ := cells3 hv.box
      obtain ⟨u1, u2, u3, ⟨m1, m2, m3⟩, ⟨m4, m5, m6⟩, ⟨m7, m8, m9⟩, hlast, hout⟩ := hy.ends
      have HLast := Lib.hid hlast
      have HF : Hid (WOut w me lim (hearL L ((i : Int) + 1)) (.returned (.agg #[.int .i64 me, .int .i64 lim, .slice (some ⟨A1, 0, none⟩) 8 k1])) u3) := by
        have e : hearL L ((i : Int) + 1) = L.set i 0 := by
          unfold hearL
          rw [if_pos (by omega)]
          congr 1
          omega
        rw [e]
        exact hout
      clear hlast hout hy hv b2 HU HL hp
      go_wp2
      refine bodyPost_ret (results_cell_row rfl _ _ (w.heap.size + 1) 55 _ (0, 0) _ rfl HLast.out Try.underlying55 rfl (by kernel_rfl)) rfl ?_
      exact HF.out
    · have j1 : ¬ (i : Int) + 1 ≤ 8 := by omega
      obtain ⟨x0, x1, x2, _, _, _⟩ := cells3 hv.box
      obtain ⟨u1, u2, u3, ⟨m1, m2, m3⟩, ⟨m4, m5, m6⟩, ⟨m7, m8, m9⟩, hlast, hout⟩ := hv.ends
      have HLast := Lib.hid hlast
      have HF : Hid (WOut w me lim (hearL L ((i : Int) + 1)) (.returned (.agg #[.int .i64 me, .int .i64 lim, .slice (some ⟨A1, 0, none⟩) 8 k1])) u3) := by
        have e : hearL L ((i : Int) + 1) = L := by
          unfold hearL
          rw [if_neg (by omega)]
        rw [e]
        exact hout
      clear hlast hout hv b2 HU HL hp
      go_wp2
      refine bodyPost_ret (results_cell_row rfl _ _ (w.heap.size + 1) 55 _ (0, 0) _ rfl HLast.out Try.underlying55 rfl (by kernel_rfl)) rfl ?_
      exact HF.out
  · have j0 : ¬ (p ≥ 1) := by omega
    have hv := HU.out
    obtain ⟨u1, u2, u3, ⟨m1, m2, m3⟩, ⟨m4, m5, m6⟩, ⟨m7, m8, m9⟩, hlast, hout⟩ := hv.ends
    have HLast := Lib.hid hlast
    have HF : Hid (WOut w me lim (hearL L p) (.returned (.agg #[.int .i64 me, .int .i64 lim, .slice (some ⟨A1, 0, none⟩) 8 k1])) u3) := by
      have e : hearL L p = L := by
        unfold hearL
        rw [if_neg (by omega)]
      rw [e]
      exact hout
    clear hlast hout hv HU HL hp HT
    go_wp2
    refine bodyPost_ret (results_cell_row rfl _ _ (w.heap.size + 1) 55 _ (0, 0) _ rfl HLast.out Try.underlying55 rfl (by kernel_rfl)) rfl ?_
    exact HF.out
end Go.Proofs.Ytildapcdkipakaa.L9
