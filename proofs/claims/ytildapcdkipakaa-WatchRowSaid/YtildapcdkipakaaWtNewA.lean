/- Contract of watch.New where there is no watch. -/
import Derived.Test.YtildapcdkipakaaWtHear
import Derived.Laws.ResultCell
namespace Go.Proofs.Ytildapcdkipakaa.L9
open Go.ChangeShapes Go.WideShapes Go.ChangeAt Go.RowKit Go.Deep

theorem results_both {P : Program} {fn : Func} {p u : Tmp} {ty : TypeId} (h : fn.results = #[.cell p ty, .tmp u]) (tmps : Array Value) (w : World) (g : Nat) (t : TypeId) (cs : Array Value) (fr : Nat × Nat) (d : TypeDesc)
    (hp : tmps.getD p undef = .pointer (some ⟨g, 0, none⟩)) (hg : w.heap[g]? = some (.cells cs t fr))
    (hu : P.underlying ty = some d) (hd : (match d with | .struct _ | .array _ _ => true | _ => false) = true) (hi : (P.info? ty).map (·.size) = some cs.size) :
    (results fn tmps).run P w = .ok (.tuple #[.agg cs, tmps.getD u undef]) w := by
  rw [results_cell_tmp h, hp]
  simp [asAddr, run_loadVar_row w g t ty cs fr d hg hu hd hi, Result.andThen]
def zeroW : Array Value := #[.int .i64 0, .int .i64 0, .slice none 0 0]
/-- New of what is no process, or no limit. -/
def NewNo (w : World) (e : Ending) (w' : World) : Prop := e = .returned (.tuple #[.agg #[.int .i64 0, .int .i64 0, .slice none 0 0], .int .i64 1]) ∧ Below w.heap.size w w'
def NewYes (w : World) (me lim : Int) (e : Ending) (w' : World) : Prop := ∃ v, e = .returned (.tuple #[.agg #[.int .i64 me, .int .i64 lim, v], .int .i64 0]) ∧ w'.ownsRow w.heap.size 3 1 v 8 (ints (newL me lim)) ∧ Below w.heap.size w w'
set_option maxRecDepth 100000 in
set_option maxHeartbeats 2000000 in
theorem New_no (me lim : Int) (w : World) (h : me < 1 ∨ 8 < me ∨ lim < 1 ∨ 100 < lim) : Calls Try.prog 20 #[.int .i64 me, .int .i64 lim] w (NewNo w) := by
  have hn : (w.alloc (.cells #[.int .i64 0, .int .i64 0, .slice none 0 0] 55)).heap[w.heap.size]? = some (.cells #[.int .i64 0, .int .i64 0, .slice none 0 0] 55 (0, 0)) := heap_alloc_new _ _
  have hB : Below w.heap.size w (w.alloc (.cells #[.int .i64 0, .int .i64 0, .slice none 0 0] 55)) := (Below.refl _ w).alloc (Nat.le_refl _) _
  obtain ⟨W0, hW0⟩ : ∃ W0, w.alloc (.cells #[.int .i64 0, .int .i64 0, .slice none 0 0] 55) = W0 := ⟨_, rfl⟩
  rw [hW0] at hn hB
  obtain ⟨u1, u2, u3, ⟨m1, m2, m3⟩, ⟨m4, m5, m6⟩, ⟨m7, m8, m9⟩, hlast, hbl, _⟩ := store3 (.int .i64 0) (.int .i64 0) (.slice none 0 0) hn
  have HLast := Lib.hid hlast
  have HB := Lib.hid (hB.trans hbl)
  clear hn hB hlast hbl
  rcases h with h | h | h | h
  · go_enter Try.func20, Try.ntmps20
    go_wp2
    refine bodyPost_ret (results_both rfl _ _ w.heap.size 55 _ (0, 0) _ rfl HLast.out Try.underlying55 rfl (by kernel_rfl)) rfl ?_
    exact ⟨rfl, HB.out⟩
  · have h1 : ¬ me < 1 := by omega
    go_enter Try.func20, Try.ntmps20
    go_wp2
    refine bodyPost_ret (results_both rfl _ _ w.heap.size 55 _ (0, 0) _ rfl HLast.out Try.underlying55 rfl (by kernel_rfl)) rfl ?_
    exact ⟨rfl, HB.out⟩
  · by_cases h1 : me < 1
    · go_enter Try.func20, Try.ntmps20
      go_wp2
      refine bodyPost_ret (results_both rfl _ _ w.heap.size 55 _ (0, 0) _ rfl HLast.out Try.underlying55 rfl (by kernel_rfl)) rfl ?_
      exact ⟨rfl, HB.out⟩
    · by_cases h2 : 8 < me
      · go_enter Try.func20, Try.ntmps20
        go_wp2
        refine bodyPost_ret (results_both rfl _ _ w.heap.size 55 _ (0, 0) _ rfl HLast.out Try.underlying55 rfl (by kernel_rfl)) rfl ?_
        exact ⟨rfl, HB.out⟩
      · go_enter Try.func20, Try.ntmps20
        go_wp2
        refine bodyPost_ret (results_both rfl _ _ w.heap.size 55 _ (0, 0) _ rfl HLast.out Try.underlying55 rfl (by kernel_rfl)) rfl ?_
        exact ⟨rfl, HB.out⟩
  · by_cases h1 : me < 1
    · go_enter Try.func20, Try.ntmps20
      go_wp2
      refine bodyPost_ret (results_both rfl _ _ w.heap.size 55 _ (0, 0) _ rfl HLast.out Try.underlying55 rfl (by kernel_rfl)) rfl ?_
      exact ⟨rfl, HB.out⟩
    · by_cases h2 : 8 < me
      · go_enter Try.func20, Try.ntmps20
        go_wp2
        refine bodyPost_ret (results_both rfl _ _ w.heap.size 55 _ (0, 0) _ rfl HLast.out Try.underlying55 rfl (by kernel_rfl)) rfl ?_
        exact ⟨rfl, HB.out⟩
      · have h3 : ¬ lim < 1 := by omega
        go_enter Try.func20, Try.ntmps20
        go_wp2
        refine bodyPost_ret (results_both rfl _ _ w.heap.size 55 _ (0, 0) _ rfl HLast.out Try.underlying55 rfl (by kernel_rfl)) rfl ?_
        exact ⟨rfl, HB.out⟩
end Go.Proofs.Ytildapcdkipakaa.L9
