/- Rows of ints that came in, appends of whole rows, and the datagrams that layer 8's statements send. -/
import Derived.Test.YtildapcdkipakaaNtLaw
import Derived.ChangeSlices
import Derived.Maps.AppendAt
namespace Go.Proofs.Ytildapcdkipakaa.L8
open Go.ChangeShapes Go.WideShapes Go.ChangeAt Go.RowKit Go.Deep

theorem addr_block8 (a : Addr) (n : Nat) : (a.add n).block = a.block := by
  unfold Addr.add
  split <;> rfl
/-- A row of ints, as it lies in memory. -/
def IRw (w : World) (A : Option Addr) (xs : List Int) : Prop := ∀ (j : Nat) (x : Int), xs[j]? = some x → ∃ ad : Addr, A = some ad ∧ ad.block < w.heap.size ∧ w.cell? (ad.add j) = some (.int .i64 x) ∧ isInt x
theorem IRw.below {w w' : World} {A : Option Addr} {xs : List Int} (h : IRw w A xs) (hb : Below w.heap.size w w') : IRw w' A xs := fun j x hj => by
  obtain ⟨ad, e, hl, hc, hx⟩ := h j x hj
  exact ⟨ad, e, Nat.lt_of_lt_of_le hl hb.size, (hb.cell (p := ad.add j) (by rw [addr_block8]; exact hl)).trans hc, hx⟩
set_option maxRecDepth 100000 in
theorem open_irow {H : Type} {enc : TypeId × Value → H} {W : World} {base : Nat} {v : Value} {d : DataW H} {ps : List MemPlace}
    (hval : Value.okWide Try.prog W .any base 53 v) (h : DataW.Trod enc Try.prog W 0 (fun _ => true) true 53 v d ps) : ∃ B : Option Addr × List Int × Nat, v = .slice B.1 B.2.1.length B.2.2 ∧ IRw W B.1 B.2.1 ∧ B.2.1.length ≤ maxLen ∧ (B.1 = none → B.2.2 = 0 ∧ B.2.1 = []) := by
  obtain ⟨A, n, c, rfl⟩ := okWide_slice Try.underlying53 hval
  obtain ⟨fuel, hf⟩ := h
  rcases open_ints Try.underlying53 Try.underlying3 (by kernel_rfl) hf with ⟨h0, _⟩ | ⟨a, len, cap, zs, hcs, _, hl, hm, hsl, _, hcell, hsz⟩
  · simp [Value.cells] at h0
    obtain ⟨rfl, rfl, rfl⟩ := h0
    exact ⟨(none, [], 0), rfl, fun j x hj => by simp at hj, Nat.zero_le _, fun _ => ⟨rfl, rfl⟩⟩
  · simp [Value.cells] at hcs
    obtain ⟨rfl, rfl, rfl⟩ := hcs
    simp only [if_true] at hsl
    refine ⟨(some a, zs.take n, c), by simp; omega, fun j x hj => ?_, by show (zs.take n).length ≤ maxLen; rw [List.length_take]; omega, fun e => by cases e⟩
    have hj' : (zs.take n)[j]? = some x := hj
    have hjn : j < n := by have := (List.getElem?_eq_some_iff.1 hj').1; rw [List.length_take] at this; omega
    rw [List.getElem?_take_of_lt hjn] at hj'
    have hc2 := hcell j (by omega)
    have hlt := World.block_lt_of_cell? W _ hc2
    rw [addr_block8] at hlt
    have hw := L5.i64_of_wf (hsz (zs.getD j 0) (by
      rw [List.getD, List.getElem?_eq_getElem (by omega), Option.getD_some]
      exact List.getElem_mem _))
    have e : zs.getD j 0 = x := by rw [List.getD, hj', Option.getD_some]
    rw [e] at hc2 hw
    exact ⟨a, rfl, hlt, hc2, hw.1, hw.2⟩
def ints (xs : List Int) : List Value := xs.map fun x => .int .i64 x
theorem ints_len (xs : List Int) : (ints xs).length = xs.length := by simp [ints]
theorem ints_one (xs : List Int) : ∀ u ∈ ints xs, u.oneCell' = true := by
  intro u hu
  obtain ⟨x, _, rfl⟩ := List.mem_map.1 hu
  rfl
/-- append of a whole row of ints, nil too. -/
theorem wpList_append_ints {P : Program} {w : World} {ops : Array Oper} {rest : List Oper} {o : Oper} {a : Act} {Q : Exit → Act → World → Prop} (hw : Region.wanted o (yielded ops a.tmps) = true) (s x : Operand) (t : TypeId)
    (ho : o.op = .call { callee := .builtin .append, args := #[s, x], argTypes := #[t, t] })
    (base : Nat) (e : TypeId) (i : TypeInfo) (z : Value) (bytes : Nat) (ht : P.underlying t = some (.slice e)) (hi : P.info? e = some i) (hz : i.zero = some z)
    (hsize : i.size = 1) (hby : i.bytes = bytes) (hzs : z.cells.size = 1)
    (v : Value) (n : Nat) (xs : List Value) (hs : a.eval s = v) (hown : w.ownsRow base e 1 v n xs)
    (A : Option Addr) (c : Nat) (zs : List Int) (hx : a.eval x = .slice A zs.length c) (hsrc : IRw w A zs) (hnil : A = none → c = 0 ∧ zs = [])
    (h63 : n + zs.length ≤ maxLen) (hbytes : (n + zs.length) * bytes ≤ 140737488355328) (hbase : base ≤ w.heap.size)
    (h : ∀ v' w', w'.ownsRow base e 1 v' (n + zs.length) (xs ++ ints zs) → w.grownBy w' v.ownBlock → (v'.ownBlock = v.ownBlock ∨ v'.ownBlock = some w.heap.size) → wpList P ops Q rest (a.put o.dst v') w') :
    wpList P ops Q (o :: rest) a w := by
  refine wpList_step fun K hK => ?_
  rw [if_pos hw]
  cases A with
  | none =>
    obtain ⟨rfl, rfl⟩ := hnil rfl
    have hrun := run_append_owned_none (P := P) (w := w) base t o.type e i 1 ht hi v n xs hown
    unfold Oper.wp execOp
    simp only [ho, resolve, invoke, builtin, Sem.run_bind, Sem.run_pure, Result.andThen_ok, List.map_toArray, List.map_cons, List.map_nil, hs, hx, List.length_nil, hrun]
    exact hK _ _ (h v w (by simpa [ints] using hown) ⟨rfl, rfl, rfl, Nat.le_refl _, fun _ _ _ => rfl⟩ (.inl rfl))
  | some ad =>
    have hnews : ∀ j u, (ints zs)[j]? = some u → w.cell? (ad.add j) = some u := fun j u hu => by
      simp only [ints, List.getElem?_map, Option.map_eq_some_iff] at hu
      obtain ⟨x, hx, rfl⟩ := hu
      obtain ⟨ad', e, _, hcc, _⟩ := hsrc j x hx
      cases e
      exact hcc
    obtain ⟨v', w', hr, h2, h3, _, h5⟩ := run_append_own_at (P := P) w base t o.type e i z 1 bytes ht hi hz hsize hby hzs (by decide) v n xs hown ad zs.length c (ints zs) (by simp [ints]) hnews (ints_one zs) h63 hbytes hbase
    unfold Oper.wp execOp
    simp only [ho, resolve, invoke, builtin, Sem.run_bind, Sem.run_pure, Result.andThen_ok, List.map_toArray, List.map_cons, List.map_nil, hs, hx, hr]
    exact hK _ _ (h v' w' h2 h3 h5)
/-- A number, as a term. -/
def numB (n : Nat) : Bytes := 117 :: Tm.be8 n
theorem numB_right (n : Nat) : Tm.right (numB n) = true := (Tm.right_iff _).2 (by
  rw [(Tm.depth_of_parse (p := numB n) (d := 1) (Tm.number_parse n) (by simp [numB, Tm.be8_length])).1]
  omega)
theorem numB_len (n : Nat) : (numB n).length = 9 := by simp [numB, Tm.be8_length]
def dgN (c : Int) : Dg := ⟨1, 2, numB (pickN c 100)⟩
theorem dgN_ok (c : Int) : (dgN c).ok := ⟨⟨by show (1 : Int) ≤ 1; omega, by show (1 : Int) ≤ 8; omega⟩, ⟨by show (1 : Int) ≤ 2; omega, by show (2 : Int) ≤ 8; omega⟩, numB_right _⟩
theorem info_int8 : (Try.prog.info? 3).map (fun i => (i.zero, i.size, i.bytes)) = some (some (.int .i64 0), 1, 8) := by kernel_rfl
end Go.Proofs.Ytildapcdkipakaa.L8
