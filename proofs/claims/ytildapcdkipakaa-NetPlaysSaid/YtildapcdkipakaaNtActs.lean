/- The statements' acts, as they lie in memory. (Made by tools/genacts.py.) -/
import Derived.Test.YtildapcdkipakaaNtHeardP
namespace Go.Proofs.Ytildapcdkipakaa.L8
open Go.ChangeShapes Go.WideShapes Go.ChangeAt Go.RowKit Go.Deep

theorem add_add (a : Addr) (i j : Nat) : (a.add i).add j = a.add (i + j) := by
  unfold Addr.add
  by_cases hi : i = 0
  · subst hi; simp
  · by_cases hj : j = 0
    · subst hj; simp
    · rw [if_neg hi, if_neg hj, if_neg (by omega)]
      simp
      omega
/-- Acts in memory. -/
def Acts (w : World) (A : Option Addr) (n : Nat) : Prop := ∀ i, i < n → ∃ (ad : Addr) (o0 : Int) (o1 : Int) (o2 : Int) (o3 : Int) (s4 : ByteArray), A = some ad ∧ ad.block < w.heap.size ∧ (isInt o0 ∧ isInt o1 ∧ isInt o2 ∧ isInt o3) ∧ w.cell? (ad.add (i * 5)) = some (.int .i64 o0) ∧ w.cell? ⟨(ad.add (i * 5)).block, (ad.add (i * 5)).off + 1, none⟩ = some (.int .i64 o1) ∧ w.cell? ⟨(ad.add (i * 5)).block, (ad.add (i * 5)).off + 2, none⟩ = some (.int .i64 o2) ∧ w.cell? ⟨(ad.add (i * 5)).block, (ad.add (i * 5)).off + 3, none⟩ = some (.int .i64 o3) ∧ w.cell? ⟨(ad.add (i * 5)).block, (ad.add (i * 5)).off + 4, none⟩ = some (.string s4)
theorem Acts.below {w w' : World} {A : Option Addr} {n : Nat} (h : Acts w A n) (hb : Below w.heap.size w w') : Acts w' A n := fun i hi => by
  obtain ⟨ad, o0, o1, o2, o3, s4, e, hl, hx, c0, c1, c2, c3, c4⟩ := h i hi
  have hlb : (ad.add (i * 5)).block < w.heap.size := by rw [addr_block8]; exact hl
  exact ⟨ad, o0, o1, o2, o3, s4, e, Nat.lt_of_lt_of_le hl hb.size, hx, (hb.cell (p := ad.add (i * 5)) hlb).trans c0, (hb.cell (p := ⟨(ad.add (i * 5)).block, (ad.add (i * 5)).off + 1, none⟩) hlb).trans c1, (hb.cell (p := ⟨(ad.add (i * 5)).block, (ad.add (i * 5)).off + 2, none⟩) hlb).trans c2, (hb.cell (p := ⟨(ad.add (i * 5)).block, (ad.add (i * 5)).off + 3, none⟩) hlb).trans c3, (hb.cell (p := ⟨(ad.add (i * 5)).block, (ad.add (i * 5)).off + 4, none⟩) hlb).trans c4⟩
set_option maxRecDepth 100000 in
theorem act_cells {H : Type} {enc : TypeId × Value → H} {w : World} {base : Nat} {sp : Nat → Bool} {held : Bool} {fuel : Nat} {cs : List Value} {x : DataW H × List MemPlace}
    (h : DataW.trod enc Try.prog w base sp held fuel 32 cs = some x) : ∃ (o0 : Int) (o1 : Int) (o2 : Int) (o3 : Int) (s4 : ByteArray), cs = [.int .i64 o0, .int .i64 o1, .int .i64 o2, .int .i64 o3, .string s4] ∧ (isInt o0 ∧ isInt o1 ∧ isInt o2 ∧ isInt o3) := by
  obtain ⟨ys, n, _, _, hlen, hyl, hf⟩ := DataW.trod_struct Try.underlying32 h
  have hc4 : Try.prog.cellsOf 32 = 5 := by kernel_rfl
  have hci : Try.prog.cellsOf 3 = 1 := by kernel_rfl
  have hcs : Try.prog.cellsOf 9 = 1 := by kernel_rfl
  rw [hc4] at hlen
  match cs, hlen with
  | [v0, v1, v2, v3, v4], _ =>
    have f0 := hf 0 _ rfl
    have s0 : DataW.trod enc Try.prog w base sp held n 3 [v0] = ys[0]? := by
      have h9 : ([v0, v1, v2, v3, v4].drop 0).take (Try.prog.cellsOf 3) = [v0] := by rw [hci]; rfl
      rw [← h9]; exact f0
    have f1 := hf 1 _ rfl
    have s1 : DataW.trod enc Try.prog w base sp held n 3 [v1] = ys[1]? := by
      have h9 : ([v0, v1, v2, v3, v4].drop 1).take (Try.prog.cellsOf 3) = [v1] := by rw [hci]; rfl
      rw [← h9]; exact f1
    have f2 := hf 2 _ rfl
    have s2 : DataW.trod enc Try.prog w base sp held n 3 [v2] = ys[2]? := by
      have h9 : ([v0, v1, v2, v3, v4].drop 2).take (Try.prog.cellsOf 3) = [v2] := by rw [hci]; rfl
      rw [← h9]; exact f2
    have f3 := hf 3 _ rfl
    have s3 : DataW.trod enc Try.prog w base sp held n 3 [v3] = ys[3]? := by
      have h9 : ([v0, v1, v2, v3, v4].drop 3).take (Try.prog.cellsOf 3) = [v3] := by rw [hci]; rfl
      rw [← h9]; exact f3
    have f4 := hf 4 _ rfl
    have s4 : DataW.trod enc Try.prog w base sp held n 9 [v4] = ys[4]? := by
      have h9 : ([v0, v1, v2, v3, v4].drop 4).take (Try.prog.cellsOf 9) = [v4] := by rw [hcs]; rfl
      rw [← h9]; exact f4
    have g : ∀ k, k < 5 → ∃ y, ys[k]? = some y := fun k hk => ⟨_, List.getElem?_eq_getElem (by rw [hyl]; exact hk)⟩
    obtain ⟨y0, e0⟩ := g 0 (by omega)
    obtain ⟨y1, e1⟩ := g 1 (by omega)
    obtain ⟨y2, e2⟩ := g 2 (by omega)
    obtain ⟨y3, e3⟩ := g 3 (by omega)
    obtain ⟨y4, e4⟩ := g 4 (by omega)
    obtain ⟨n0, q0, _, w0⟩ := DataW.trod_int Try.underlying3 (s0.trans e0)
    obtain ⟨n1, q1, _, w1⟩ := DataW.trod_int Try.underlying3 (s1.trans e1)
    obtain ⟨n2, q2, _, w2⟩ := DataW.trod_int Try.underlying3 (s2.trans e2)
    obtain ⟨n3, q3, _, w3⟩ := DataW.trod_int Try.underlying3 (s3.trans e3)
    obtain ⟨n4, q4, _, w4⟩ := DataW.trod_string Try.underlying9 (s4.trans e4)
    simp at q0 q1 q2 q3 q4
    subst q0 q1 q2 q3 q4
    exact ⟨n0, n1, n2, n3, n4, rfl, L5.i64_of_wf w0, L5.i64_of_wf w1, L5.i64_of_wf w2, L5.i64_of_wf w3⟩

set_option maxRecDepth 100000 in
theorem open_acts {H : Type} {enc : TypeId × Value → H} {W : World} {base : Nat} {v : Value} {d : DataW H} {ps : List MemPlace} (hval : Value.okWide Try.prog W .any base 22 v)
    (h : DataW.Trod enc Try.prog W 0 (fun _ => true) true 22 v d ps) : ∃ A n c, v = .slice A n c ∧ Acts W A n ∧ n ≤ maxLen := by
  obtain ⟨A, n, c, rfl⟩ := okWide_slice Try.underlying22 hval
  obtain ⟨fuel, hf⟩ := h
  rcases open_slice Try.underlying22 hf with ⟨h0, _⟩ | ⟨a, len, cap, m, nn, D, Pl, hcs, hb, hl, hm, hmm, hx, hi⟩
  · simp [Value.cells] at h0
    obtain ⟨rfl, rfl, rfl⟩ := h0
    exact ⟨none, 0, 0, rfl, fun i hi => absurd hi (by omega), Nat.zero_le _⟩
  · simp [Value.cells] at hcs
    obtain ⟨rfl, rfl, rfl⟩ := hcs
    refine ⟨some a, n, c, rfl, fun i hin => ?_, by omega⟩
    obtain ⟨cs', hc, ht⟩ := hi i (by rw [hmm]; simp; omega)
    obtain ⟨o0, o1, o2, o3, s4, rfl, r0⟩ := act_cells ht
    have hc4 : Try.prog.cellsOf 32 = 5 := by kernel_rfl
    rw [hc4] at hc
    obtain ⟨_, _, hat⟩ := World.cells?_some hc
    have hat2 : ∀ j, j < 5 → W.cell? (a.add (i * 5 + j)) = [Value.int .i64 o0, Value.int .i64 o1, Value.int .i64 o2, Value.int .i64 o3, Value.string s4][j]? := by
      intro j hj
      rw [← add_add]
      exact hat j hj
    have b0 := hat2 0 (by omega)
    have hlt := World.block_lt_of_cell? W _ b0
    rw [addr_block8] at hlt
    have b1 := hat2 1 (by omega)
    rw [← add_add] at b1
    have b2 := hat2 2 (by omega)
    rw [← add_add] at b2
    have b3 := hat2 3 (by omega)
    rw [← add_add] at b3
    have b4 := hat2 4 (by omega)
    rw [← add_add] at b4
    exact ⟨a, o0, o1, o2, o3, s4, rfl, hlt, r0, b0, b1, b2, b3, b4⟩
end Go.Proofs.Ytildapcdkipakaa.L8
