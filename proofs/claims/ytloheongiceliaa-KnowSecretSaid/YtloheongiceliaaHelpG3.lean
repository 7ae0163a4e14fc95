/- A slice of steps that a law is handed, as its cells lie in memory. A raw number speaks of a term of the row that made makes; steps stay in memory. -/
import Derived.Test.YtloheongiceliaaMadeK3
import Derived.Deep.Slices
import Derived.Deep.Fields
import Derived.Carry
import Derived.Test.YtloheongiceliaaFine
section
namespace Go.Proofs.Ytloheongiceliaa.L3
open Go.ChangeShapes Go.WideShapes Go.ChangeAt Go.RowKit Go.Deep

theorem laid_out : laidOutB Try.prog = true := by kernel_rfl

set_option maxRecDepth 100000 in
theorem step_cells {H : Type} {enc : TypeId × Value → H} {w : World} {base : Nat} {sp : Nat → Bool} {held : Bool} {fuel : Nat} {cs : List Value} {x : DataW H × List MemPlace}
    (h : DataW.trod enc Try.prog w base sp held fuel 71 cs = some x) : ∃ o a b c : Int, cs = [.int .i64 o, .int .i64 a, .int .i64 b, .int .i64 c] ∧ isInt o ∧ isInt a ∧ isInt b ∧ isInt c := by
  obtain ⟨ys, n, _, _, hlen, hyl, hf⟩ := DataW.trod_struct Try.underlying71 h
  have hc4 : Try.prog.cellsOf 71 = 4 := by kernel_rfl
  have hc1 : Try.prog.cellsOf 3 = 1 := by kernel_rfl
  rw [hc4] at hlen
  match cs, hlen with
  | [v0, v1, v2, v3], _ =>
    have f0 := hf 0 _ rfl
    have f1 := hf 1 _ rfl
    have f2 := hf 2 _ rfl
    have f3 := hf 3 _ rfl
    have s0 : DataW.trod enc Try.prog w base sp held n 3 [v0] = ys[0]? := by
      have h9 : ([v0, v1, v2, v3].drop 0).take (Try.prog.cellsOf 3) = [v0] := by rw [hc1]; rfl
      rw [← h9]; exact f0
    have s1 : DataW.trod enc Try.prog w base sp held n 3 [v1] = ys[1]? := by
      have h9 : ([v0, v1, v2, v3].drop 1).take (Try.prog.cellsOf 3) = [v1] := by rw [hc1]; rfl
      rw [← h9]; exact f1
    have s2 : DataW.trod enc Try.prog w base sp held n 3 [v2] = ys[2]? := by
      have h9 : ([v0, v1, v2, v3].drop 2).take (Try.prog.cellsOf 3) = [v2] := by rw [hc1]; rfl
      rw [← h9]; exact f2
    have s3 : DataW.trod enc Try.prog w base sp held n 3 [v3] = ys[3]? := by
      have h9 : ([v0, v1, v2, v3].drop 3).take (Try.prog.cellsOf 3) = [v3] := by rw [hc1]; rfl
      rw [← h9]; exact f3
    have g : ∀ k, k < 4 → ∃ y, ys[k]? = some y := fun k hk => ⟨_, List.getElem?_eq_getElem (by rw [hyl]; exact hk)⟩
    obtain ⟨y0, e0⟩ := g 0 (by omega)
    obtain ⟨y1, e1⟩ := g 1 (by omega)
    obtain ⟨y2, e2⟩ := g 2 (by omega)
    obtain ⟨y3, e3⟩ := g 3 (by omega)
    obtain ⟨n0, q0, _, w0⟩ := DataW.trod_int Try.underlying3 (s0.trans e0)
    obtain ⟨n1, q1, _, w1⟩ := DataW.trod_int Try.underlying3 (s1.trans e1)
    obtain ⟨n2, q2, _, w2⟩ := DataW.trod_int Try.underlying3 (s2.trans e2)
    obtain ⟨n3, q3, _, w3⟩ := DataW.trod_int Try.underlying3 (s3.trans e3)
    simp at q0 q1 q2 q3
    subst q0 q1 q2 q3
    exact ⟨n0, n1, n2, n3, rfl, i64_of_wf w0, i64_of_wf w1, i64_of_wf w2, i64_of_wf w3⟩

set_option maxRecDepth 100000 in
theorem open_steps {H : Type} {enc : TypeId × Value → H} {W : World} {base : Nat} {v : Value} {d : DataW H} {ps : List MemPlace} (hval : Value.okWide Try.prog W .any base 36 v)
    (h : DataW.Trod enc Try.prog W 0 (fun _ => true) true 36 v d ps) : ∃ A n c, v = .slice A n c ∧ Steps W A n ∧ n ≤ maxLen := by
  obtain ⟨A, n, c, rfl⟩ := okWide_slice Try.underlying36 hval
  obtain ⟨fuel, hf⟩ := h
  rcases open_slice Try.underlying36 hf with ⟨h0, _⟩ | ⟨a, len, cap, m, nn, D, Pl, hcs, hb, hl, hm, hmm, hx, hi⟩
  · simp [Value.cells] at h0
    obtain ⟨rfl, rfl, rfl⟩ := h0
    exact ⟨none, 0, 0, rfl, fun i hi => absurd hi (by omega), Nat.zero_le _⟩
  · simp [Value.cells] at hcs
    obtain ⟨rfl, rfl, rfl⟩ := hcs
    refine ⟨some a, n, c, rfl, fun i hin => ?_, by omega⟩
    obtain ⟨cs', hc, ht⟩ := hi i (by rw [hmm]; simp; omega)
    obtain ⟨o, x, y, z, rfl, r0, r1, r2, r3⟩ := step_cells ht
    have hc4 : Try.prog.cellsOf 71 = 4 := by kernel_rfl
    rw [hc4] at hc
    obtain ⟨_, _, hat⟩ := World.cells?_some hc
    have hat2 : ∀ j, j < 4 → W.cell? (a.add (i * 4 + j)) = [Value.int .i64 o, .int .i64 x, .int .i64 y, .int .i64 z][j]? := by
      intro j hj
      rw [← add_add]
      exact hat j hj
    have b0 := hat2 0 (by omega)
    have hlt := World.block_lt_of_cell? W _ b0
    rw [block_add] at hlt
    exact ⟨a, o, x, y, z, rfl, hlt, r0, r1, r2, r3, b0, hat2 1 (by omega), hat2 2 (by omega), hat2 3 (by omega)⟩

/-- As post_law, the arguments' reading given at the one place where it is asked. -/
theorem post_law_at {H : Type} {enc : TypeId × Value → H} {P : Program} {f : Func} {s : ChangeSpec} {W W' : World} {args : Array Value} {v : Value} {ds gs : List (DataW H)} {before pa pv : List MemPlace}
    (hW : DataW.Whole enc P f.params.toList s.vars false W args.toList ds gs before)
    (hres : DataW.TrodAll enc P W' W.heap.size (fun _ => false) false f.resultTypes.toList (v.resultList f.resultTypes.size) (s.fn H (ds ++ gs)).results [])
    (hargs : DataW.TrodAll enc P W' 0 (fun b => decide (b < W.heap.size)) true f.params.toList args.toList (s.fn H (ds ++ gs)).args pa)
    (hvars : DataW.TrodVars enc P W' (fun b => decide (b < W.heap.size)) s.vars (s.fn H (ds ++ gs)).vars pv)
    (hps : before = pa ++ pv) (hb : Below W.heap.size W W') : s.post enc P f false true false false W args v W' := by
  have hin : ∀ p ∈ before, p ∈ before ∧ (p ∈ ([] : List MemPlace) ∨ p ∈ pa ∨ p ∈ pv) := by
    intro p hp
    refine ⟨hp, .inr ?_⟩
    rw [hps] at hp
    exact List.mem_append.1 hp
  exact ⟨ds, gs, before, [], pa, pv, hW, hres, hargs, hvars, World.keptBut_mono hin (hb.frame (· ∈ before)), fun h => by cases h⟩

end Go.Proofs.Ytloheongiceliaa.L3
end

section
namespace Go.Proofs.Ytloheongiceliaa.L3
open Go.ChangeShapes Go.WideShapes Go.ChangeAt Go.RowKit

/-- A raw number speaks of a term of the row. -/
theorem pick_at {V : World} {B g cap : Nat} {ts : List (List UInt8)} (hrow : V.ownsRow B 24 1 (.slice (some ⟨g, 0, none⟩) ts.length cap) ts.length (strs ts)) (h2 : 2 ≤ ts.length) (h42 : ts.length ≤ 42) (hg : ∀ t ∈ ts, Tm.Good 41 600 t) {v : Int} (hv : isInt v) :
    ∃ (p : Nat) (x : List UInt8), (Calls Try.prog 19 #[.int .i64 v, .int .i64 ts.length] V fun e w' => e = .returned (.int .i64 p) ∧ V = w') ∧ (p : Int) < (ts.length : Int) ∧ V.cell? ⟨g, p, none⟩ = some (.string ⟨x.toArray⟩) ∧ Tm.Good 41 600 x := by
  have hl := Tm.pickN_lt v ts.length (by omega)
  obtain ⟨x, hx⟩ : ∃ x, ts[Tm.pickN v ts.length]? = some x := ⟨_, List.getElem?_eq_getElem hl⟩
  exact ⟨_, x, pick_calls v ts.length hv.1 hv.2 (by omega) (by omega) V, by omega, texts_of_row hrow _ _ hx, hg x (List.mem_of_getElem? hx)⟩

theorem steps_below {w w0 : World} {A : Option Addr} {n : Nat} (h : Steps w A n) (B0 : Below w.heap.size w w0) : Steps w0 A n := by
  intro q hq
  obtain ⟨ad, o, x, y, z, h1, h2, r0, r1, r2, r3, c0, c1, c2, c3⟩ := h q hq
  exact ⟨ad, o, x, y, z, h1, Nat.lt_of_lt_of_le h2 B0.size, r0, r1, r2, r3, (B0.cell (by rw [block_add]; exact h2)).trans c0, (B0.cell (by rw [block_add]; exact h2)).trans c1, (B0.cell (by rw [block_add]; exact h2)).trans c2, (B0.cell (by rw [block_add]; exact h2)).trans c3⟩

end Go.Proofs.Ytloheongiceliaa.L3
end
