/- A slice of steps that a law is handed, as its cells lie in memory. -/
import Derived.Test.YtfbkebdlioibpaaMadeK4
import Derived.Deep.Slices
import Derived.Deep.Fields
import Derived.Carry
namespace Go.Proofs.Ytfbkebdlioibpaa.L4
open Go.ChangeShapes Go.WideShapes Go.ChangeAt Go.RowKit Go.Deep

theorem laid_out : laidOutB Try.prog = true := by kernel_rfl

set_option maxRecDepth 100000 in
theorem step_cells {H : Type} {enc : TypeId × Value → H} {w : World} {base : Nat} {sp : Nat → Bool} {held : Bool} {fuel : Nat} {cs : List Value} {x : DataW H × List MemPlace}
    (h : DataW.trod enc Try.prog w base sp held fuel 110 cs = some x) : ∃ o a b c : Int, cs = [.int .i64 o, .int .i64 a, .int .i64 b, .int .i64 c] ∧ isInt o ∧ isInt a ∧ isInt b ∧ isInt c := by
  obtain ⟨ys, n, _, _, hlen, hyl, hf⟩ := DataW.trod_struct Try.underlying110 h
  have hc4 : Try.prog.cellsOf 110 = 4 := by kernel_rfl
  have hc1 : Try.prog.cellsOf 3 = 1 := by kernel_rfl
  rw [hc4] at hlen
  match cs, hlen with
  | [v0, v1, v2, v3], _ =>
    have f0 := hf 0 _ rfl
    have f1 := hf 1 _ rfl
    have f2 := hf 2 _ rfl
    have f3 := hf 3 _ rfl
    have s0 : DataW.trod enc Try.prog w base sp held n 3 [v0] = ys[0]? := by
      have h9 : ([v0, v1, v2, v3].drop 0).take (Try.prog.cellsOf 3) = [v0] := by rw [hc1]; rfl
      rw [← h9]; exact f0
    have s1 : DataW.trod enc Try.prog w base sp held n 3 [v1] = ys[1]? := by
      have h9 : ([v0, v1, v2, v3].drop 1).take (Try.prog.cellsOf 3) = [v1] := by rw [hc1]; rfl
      rw [← h9]; exact f1
    have s2 : DataW.trod enc Try.prog w base sp held n 3 [v2] = ys[2]? := by
      have h9 : ([v0, v1, v2, v3].drop 2).take (Try.prog.cellsOf 3) = [v2] := by rw [hc1]; rfl
      rw [← h9]; exact f2
    have s3 : DataW.trod enc Try.prog w base sp held n 3 [v3] = ys[3]? := by
      have h9 : ([v0, v1, v2, v3].drop 3).take (Try.prog.cellsOf 3) = [v3] := by rw [hc1]; rfl
      rw [← h9]; exact f3
    have g : ∀ k, k < 4 → ∃ y, ys[k]? = some y := fun k hk => ⟨_, List.getElem?_eq_getElem (by rw [hyl]; exact hk)⟩
    obtain ⟨y0, e0⟩ := g 0 (by omega)
    obtain ⟨y1, e1⟩ := g 1 (by omega)
    obtain ⟨y2, e2⟩ := g 2 (by omega)
    obtain ⟨y3, e3⟩ := g 3 (by omega)
    obtain ⟨n0, q0, _, w0⟩ := DataW.trod_int Try.underlying3 (s0.trans e0)
    obtain ⟨n1, q1, _, w1⟩ := DataW.trod_int Try.underlying3 (s1.trans e1)
    obtain ⟨n2, q2, _, w2⟩ := DataW.trod_int Try.underlying3 (s2.trans e2)
    obtain ⟨n3, q3, _, w3⟩ := DataW.trod_int Try.underlying3 (s3.trans e3)
    simp at q0 q1 q2 q3
    subst q0 q1 q2 q3
    exact ⟨n0, n1, n2, n3, rfl, i64_of_wf w0, i64_of_wf w1, i64_of_wf w2, i64_of_wf w3⟩

set_option maxRecDepth 100000 in
theorem open_steps {H : Type} {enc : TypeId × Value → H} {W : World} {base : Nat} {v : Value} {d : DataW H} {ps : List MemPlace} (hval : Value.okWide Try.prog W .any base 60 v)
    (h : DataW.Trod enc Try.prog W 0 (fun _ => true) true 60 v d ps) : ∃ A n c, v = .slice A n c ∧ Steps W A n ∧ n ≤ maxLen := by
  obtain ⟨A, n, c, rfl⟩ := okWide_slice Try.underlying60 hval
  obtain ⟨fuel, hf⟩ := h
  rcases open_slice Try.underlying60 hf with ⟨h0, _⟩ | ⟨a, len, cap, m, nn, D, Pl, hcs, hb, hl, hm, hmm, hx, hi⟩
  · simp [Value.cells] at h0
    obtain ⟨rfl, rfl, rfl⟩ := h0
    exact ⟨none, 0, 0, rfl, fun i hi => absurd hi (by omega), Nat.zero_le _⟩
  · simp [Value.cells] at hcs
    obtain ⟨rfl, rfl, rfl⟩ := hcs
    refine ⟨some a, n, c, rfl, fun i hin => ?_, by omega⟩
    obtain ⟨cs', hc, ht⟩ := hi i (by rw [hmm]; simp; omega)
    obtain ⟨o, x, y, z, rfl, r0, r1, r2, r3⟩ := step_cells ht
    have hc4 : Try.prog.cellsOf 110 = 4 := by kernel_rfl
    rw [hc4] at hc
    obtain ⟨_, _, hat⟩ := World.cells?_some hc
    have hat2 : ∀ j, j < 4 → W.cell? (a.add (i * 4 + j)) = [Value.int .i64 o, .int .i64 x, .int .i64 y, .int .i64 z][j]? := by
      intro j hj
      rw [← add_add]
      exact hat j hj
    have b0 := hat2 0 (by omega)
    have hlt := World.block_lt_of_cell? W _ b0
    rw [block_add] at hlt
    exact ⟨a, o, x, y, z, rfl, hlt, r0, r1, r2, r3, b0, hat2 1 (by omega), hat2 2 (by omega), hat2 3 (by omega)⟩

/-- As post_law, the arguments' reading given at the one place where it is asked. -/
theorem post_law_at {H : Type} {enc : TypeId × Value → H} {P : Program} {f : Func} {s : ChangeSpec} {W W' : World} {args : Array Value} {v : Value} {ds gs : List (DataW H)} {before pa pv : List MemPlace}
    (hW : DataW.Whole enc P f.params.toList s.vars false W args.toList ds gs before)
    (hres : DataW.TrodAll enc P W' W.heap.size (fun _ => false) false f.resultTypes.toList (v.resultList f.resultTypes.size) (s.fn H (ds ++ gs)).results [])
    (hargs : DataW.TrodAll enc P W' 0 (fun b => decide (b < W.heap.size)) true f.params.toList args.toList (s.fn H (ds ++ gs)).args pa)
    (hvars : DataW.TrodVars enc P W' (fun b => decide (b < W.heap.size)) s.vars (s.fn H (ds ++ gs)).vars pv)
    (hps : before = pa ++ pv) (hb : Below W.heap.size W W') : s.post enc P f false true false false W args v W' := by
  have hin : ∀ p ∈ before, p ∈ before ∧ (p ∈ ([] : List MemPlace) ∨ p ∈ pa ∨ p ∈ pv) := by
    intro p hp
    refine ⟨hp, .inr ?_⟩
    rw [hps] at hp
    exact List.mem_append.1 hp
  exact ⟨ds, gs, before, [], pa, pv, hW, hres, hargs, hvars, World.keptBut_mono hin (hb.frame (· ∈ before)), fun h => by cases h⟩

end Go.Proofs.Ytfbkebdlioibpaa.L4
