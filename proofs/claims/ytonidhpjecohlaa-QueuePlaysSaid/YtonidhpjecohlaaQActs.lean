/- The statements' acts (a number and a text each), as they lie in memory; pick, settled; rows as sources. -/
import Derived.Test.YtonidhpjecohlaaQRow
namespace Go.Proofs.Ytonidhpjecohlaa.L6
open Go.ChangeShapes Go.WideShapes Go.ChangeAt Go.RowKit Go.Deep L5

def isInt (a : Int) : Prop := -9223372036854775808 ≤ a ∧ a ≤ 9223372036854775807
theorem add_add (a : Addr) (i j : Nat) : (a.add i).add j = a.add (i + j) := by
  unfold Addr.add
  by_cases hi : i = 0
  · subst hi; simp
  · by_cases hj : j = 0
    · subst hj; simp
    · rw [if_neg hi, if_neg hj, if_neg (by omega)]
      simp
      omega
/-- Acts in memory. -/
def Acts (w : World) (A : Option Addr) (n : Nat) : Prop := ∀ i, i < n → ∃ (ad : Addr) (o : Int) (s : ByteArray), A = some ad ∧ ad.block < w.heap.size ∧ isInt o ∧ w.cell? (ad.add (i * 2)) = some (.int .i64 o) ∧ w.cell? ⟨(ad.add (i * 2)).block, (ad.add (i * 2)).off + 1, none⟩ = some (.string s)

set_option maxRecDepth 100000 in
theorem act_cells {H : Type} {enc : TypeId × Value → H} {w : World} {base : Nat} {sp : Nat → Bool} {held : Bool} {fuel : Nat} {cs : List Value} {x : DataW H × List MemPlace}
    (h : DataW.trod enc Try.prog w base sp held fuel 33 cs = some x) : ∃ (o : Int) (s : ByteArray), cs = [.int .i64 o, .string s] ∧ isInt o := by
  obtain ⟨ys, n, _, _, hlen, hyl, hf⟩ := DataW.trod_struct Try.underlying33 h
  have hc4 : Try.prog.cellsOf 33 = 2 := by kernel_rfl
  have hc1 : Try.prog.cellsOf 3 = 1 := by kernel_rfl
  have hc2 : Try.prog.cellsOf 9 = 1 := by kernel_rfl
  rw [hc4] at hlen
  match cs, hlen with
  | [v0, v1], _ =>
    have f0 := hf 0 _ rfl
    have f1 := hf 1 _ rfl
    have s0 : DataW.trod enc Try.prog w base sp held n 3 [v0] = ys[0]? := by
      have h9 : ([v0, v1].drop 0).take (Try.prog.cellsOf 3) = [v0] := by rw [hc1]; rfl
      rw [← h9]; exact f0
    have s1 : DataW.trod enc Try.prog w base sp held n 9 [v1] = ys[1]? := by
      have h9 : ([v0, v1].drop 1).take (Try.prog.cellsOf 9) = [v1] := by rw [hc2]; rfl
      rw [← h9]; exact f1
    have g : ∀ k, k < 2 → ∃ y, ys[k]? = some y := fun k hk => ⟨_, List.getElem?_eq_getElem (by rw [hyl]; exact hk)⟩
    obtain ⟨y0, e0⟩ := g 0 (by omega)
    obtain ⟨y1, e1⟩ := g 1 (by omega)
    obtain ⟨n0, q0, _, w0⟩ := DataW.trod_int Try.underlying3 (s0.trans e0)
    obtain ⟨n1, q1, _, w1⟩ := DataW.trod_string Try.underlying9 (s1.trans e1)
    simp at q0 q1
    subst q0 q1
    exact ⟨n0, n1, rfl, i64_of_wf w0⟩

set_option maxRecDepth 100000 in
theorem open_acts {H : Type} {enc : TypeId × Value → H} {W : World} {base : Nat} {v : Value} {d : DataW H} {ps : List MemPlace} (hval : Value.okWide Try.prog W .any base 22 v)
    (h : DataW.Trod enc Try.prog W 0 (fun _ => true) true 22 v d ps) : ∃ A n c, v = .slice A n c ∧ Acts W A n ∧ n ≤ maxLen := by
  obtain ⟨A, n, c, rfl⟩ := okWide_slice Try.underlying22 hval
  obtain ⟨fuel, hf⟩ := h
  rcases open_slice Try.underlying22 hf with ⟨h0, _⟩ | ⟨a, len, cap, m, nn, D, Pl, hcs, hb, hl, hm, hmm, hx, hi⟩
  · simp [Value.cells] at h0
    obtain ⟨rfl, rfl, rfl⟩ := h0
    exact ⟨none, 0, 0, rfl, fun i hi => absurd hi (by omega), Nat.zero_le _⟩
  · simp [Value.cells] at hcs
    obtain ⟨rfl, rfl, rfl⟩ := hcs
    refine ⟨some a, n, c, rfl, fun i hin => ?_, by omega⟩
    obtain ⟨cs', hc, ht⟩ := hi i (by rw [hmm]; simp; omega)
    obtain ⟨o, x, rfl, r0⟩ := act_cells ht
    have hc4 : Try.prog.cellsOf 33 = 2 := by kernel_rfl
    rw [hc4] at hc
    obtain ⟨_, _, hat⟩ := World.cells?_some hc
    have hat2 : ∀ j, j < 2 → W.cell? (a.add (i * 2 + j)) = [Value.int .i64 o, Value.string x][j]? := by
      intro j hj
      rw [← add_add]
      exact hat j hj
    have b0 := hat2 0 (by omega)
    have hlt := World.block_lt_of_cell? W _ b0
    rw [addr_block] at hlt
    have b1 := hat2 1 (by omega)
    rw [← add_add] at b1
    exact ⟨a, o, x, rfl, hlt, r0, b0, b1⟩

/-- pick, its answer named. -/
def pickN (c : Int) (n : Nat) : Nat := (if c < 0 then -(c + 1) else c).toNat % n
theorem pick_is {c : Int} {n : Nat} (hc : isInt c) (hn : 0 < n) (hn2 : n ≤ 1000) (w : World) : Calls Try.prog 10 #[.int .i64 c, .int .i64 n] w fun e w' => e = .returned (.int .i64 (pickN c n)) ∧ w = w' := by
  refine (pick_calls c n hc.1 hc.2 hn hn2 w).mono ?_
  rintro e w' ⟨m, _, hm, he, hw⟩
  exact ⟨by rw [he, hm]; rfl, hw⟩
theorem pickN_lt (c : Int) {n : Nat} (hn : 0 < n) : pickN c n < n := Nat.mod_lt _ hn

theorem SIn.of_own {w : World} {B : Nat} {e : TypeId} {v : Value} {zs : List ByteArray} (h : w.ownsRow B e 1 v zs.length (strV zs)) : SIn w v zs := by
  refine ⟨SRow.of_own h, fun n c e' => ?_⟩
  rcases h.2 with ⟨rfl, h0⟩ | ⟨g, cap, cur, rfl, _⟩
  · cases e'
    exact ⟨rfl, rfl⟩
  · cases e'
/-- Rows of unlike elements lie apart. -/
theorem own_apart {w : World} {B B' : Nat} {e e' : TypeId} {v v' : Value} {n n' : Nat} {xs xs' : List Value} (h : w.ownsRow B e 1 v n xs) (h' : w.ownsRow B' e' 1 v' n' xs') (hne : e ≠ e') : ∀ q, v.ownBlock = some q → v'.ownBlock ≠ some q := by
  intro q hq hq'
  rcases h.2 with ⟨rfl, _⟩ | ⟨g, cap, cur, rfl, _, h1, _⟩
  · cases hq
  · rcases h'.2 with ⟨rfl, _⟩ | ⟨g', cap', cur', rfl, _, h2, _⟩
    · cases hq'
    · cases hq
      cases hq'
      rw [h1] at h2
      cases h2
      exact hne rfl
/-- Another row grew: this one is as it was. -/
theorem own_other {w w' : World} {B B' : Nat} {e e' : TypeId} {v v' : Value} {n n' : Nat} {xs xs' : List Value} (h : w.ownsRow B e 1 v n xs) (h' : w.ownsRow B' e' 1 v' n' xs') (hne : e ≠ e') {o : Obj} (hg : (w.alloc o).grownBy w' v'.ownBlock) : w'.ownsRow B e 1 v n xs :=
  own_same h (fun q hq => (grow_trans (World.grownBy_alloc w o _) hg).block q (h.lt q hq).2 (fun e => own_apart h h' hne q hq e.symm))

end Go.Proofs.Ytonidhpjecohlaa.L6
