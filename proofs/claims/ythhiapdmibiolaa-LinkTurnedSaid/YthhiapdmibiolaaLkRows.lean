/- Rows in layer 7's statements: rows of ints that came in, appends of whole rows, one element cut out of a row. -/
import Derived.Test.YthhiapdmibiolaaLkRoom
import Derived.Deep.RegionLaw
import Derived.Laws.AppendOwn
import Derived.Maps.AppendAt
import Derived.ChangeSlices
namespace Go.Proofs.Ythhiapdmibiolaa.L7
open Go.ChangeShapes Go.WideShapes Go.ChangeAt Go.RowKit L6

/-- A row of ints, as it lies in memory. -/
def IRow (w : World) (A : Option Addr) (n : Nat) : Prop := ∀ j, j < n → ∃ (ad : Addr) (x : Int), A = some ad ∧ ad.block < w.heap.size ∧ w.cell? (ad.add j) = some (.int .i64 x) ∧ isInt x
theorem IRow.below {w w' : World} {A : Option Addr} {n : Nat} (h : IRow w A n) (hb : Below w.heap.size w w') : IRow w' A n := fun j hj => by
  obtain ⟨ad, x, e, hl, hc, hx⟩ := h j hj
  exact ⟨ad, x, e, Nat.lt_of_lt_of_le hl hb.size, (hb.cell (p := ad.add j) (by rw [L6.addr_block]; exact hl)).trans hc, hx⟩
set_option maxRecDepth 100000 in
theorem open_irow {H : Type} {enc : TypeId × Value → H} {W : World} {base : Nat} {v : Value} {d : DataW H} {ps : List MemPlace}
    (hval : Value.okWide Try.prog W .any base 43 v) (h : DataW.Trod enc Try.prog W 0 (fun _ => true) true 43 v d ps) : ∃ B : Option Addr × Nat × Nat, v = .slice B.1 B.2.1 B.2.2 ∧ IRow W B.1 B.2.1 ∧ B.2.1 ≤ maxLen := by
  obtain ⟨A, n, c, rfl⟩ := okWide_slice Try.underlying43 hval
  obtain ⟨fuel, hf⟩ := h
  rcases open_ints Try.underlying43 Try.underlying3 (by kernel_rfl) hf with ⟨h0, _⟩ | ⟨a, len, cap, zs, hcs, _, hl, hm, hsl, _, hcell, hsz⟩
  · simp [Value.cells] at h0
    obtain ⟨rfl, rfl, rfl⟩ := h0
    exact ⟨(none, 0, 0), rfl, fun j hj => absurd hj (by simp), Nat.zero_le _⟩
  · simp [Value.cells] at hcs
    obtain ⟨rfl, rfl, rfl⟩ := hcs
    simp only [if_true] at hsl
    refine ⟨(some a, n, c), rfl, fun j hj => ?_, by show n ≤ maxLen; omega⟩
    have hj' : j < n := hj
    have hc2 := hcell j (by omega)
    have hlt := World.block_lt_of_cell? W _ hc2
    rw [L6.addr_block] at hlt
    have hw := L5.i64_of_wf (hsz (zs.getD j 0) (by
      rw [List.getD, List.getElem?_eq_getElem (by omega), Option.getD_some]
      exact List.getElem_mem _))
    exact ⟨a, zs.getD j 0, rfl, hlt, hc2, hw.1, hw.2⟩

/-- Rows of unlike elements lie apart. -/
theorem own_apart {w : World} {B B' : Nat} {e e' : TypeId} {v v' : Value} {n n' : Nat} {xs xs' : List Value} (h : w.ownsRow B e 1 v n xs) (h' : w.ownsRow B' e' 1 v' n' xs') (hne : e ≠ e') : ∀ q, v.ownBlock = some q → v'.ownBlock ≠ some q := by
  intro q hq hq'
  rcases h.2 with ⟨rfl, _⟩ | ⟨g, cap, cur, rfl, _, h1, _⟩
  · cases hq
  · rcases h'.2 with ⟨rfl, _⟩ | ⟨g', cap', cur', rfl, _, h2, _⟩
    · cases hq'
    · cases hq
      cases hq'
      rw [h1] at h2
      cases h2
      exact hne rfl
/-- Another row grew: this one is as it was. -/
theorem own_grown {w w' : World} {B : Nat} {e : TypeId} {v : Value} {n : Nat} {xs : List Value} {row : Option Nat} (h : w.ownsRow B e 1 v n xs) (hg : w.grownBy w' row) (hne : ∀ q, v.ownBlock = some q → row ≠ some q) : w'.ownsRow B e 1 v n xs :=
  L5.own_same h (fun q hq => hg.block q (h.lt q hq).2 (fun e => hne q hq e.symm))
theorem term_string : 30 ≠ 9 := by decide
theorem string_end : 9 ≠ 70 ∧ 9 ≠ 95 := ⟨by decide, by decide⟩
theorem int_end : 3 ≠ 70 ∧ 3 ≠ 95 := ⟨by decide, by decide⟩
theorem term_int : 30 ≠ 3 := by decide

/-- append of a whole row of texts, nil too; where the row lies then. -/
theorem wpList_append_texts_at {P : Program} {w : World} {ops : Array Oper} {rest : List Oper} {o : Oper} {a : Act} {Q : Exit → Act → World → Prop} (hw : Region.wanted o (yielded ops a.tmps) = true) (s x : Operand) (t : TypeId)
    (ho : o.op = .call { callee := .builtin .append, args := #[s, x], argTypes := #[t, t] })
    (base : Nat) (e : TypeId) (i : TypeInfo) (z : Value) (bytes : Nat) (ht : P.underlying t = some (.slice e)) (hi : P.info? e = some i) (hz : i.zero = some z)
    (hsize : i.size = 1) (hby : i.bytes = bytes) (hzs : z.cells.size = 1)
    (v : Value) (n : Nat) (xs : List Value) (hs : a.eval s = v) (hown : w.ownsRow base e 1 v n xs)
    (vx : Value) (zs : List ByteArray) (hx : a.eval x = vx) (hsrc : SIn w vx zs)
    (h63 : n + zs.length ≤ maxLen) (hbytes : (n + zs.length) * bytes ≤ 140737488355328) (hbase : base ≤ w.heap.size)
    (h : ∀ v' w', w'.ownsRow base e 1 v' (n + zs.length) (xs ++ strV zs) → w.grownBy w' v.ownBlock → (v'.ownBlock = v.ownBlock ∨ v'.ownBlock = some w.heap.size) → wpList P ops Q rest (a.put o.dst v') w') :
    wpList P ops Q (o :: rest) a w := by
  obtain ⟨⟨A, c, rfl, hc⟩, hn⟩ := hsrc
  refine wpList_step fun K hK => ?_
  rw [if_pos hw]
  cases A with
  | none =>
    obtain ⟨rfl, h0⟩ := hn _ _ rfl
    obtain rfl : zs = [] := List.length_eq_zero_iff.1 h0
    have hrun := run_append_owned_none (P := P) (w := w) base t o.type e i 1 ht hi v n xs hown
    unfold Oper.wp execOp
    simp only [ho, resolve, invoke, builtin, Sem.run_bind, Sem.run_pure, Result.andThen_ok, List.map_toArray, List.map_cons, List.map_nil, hs, hx, List.length_nil, hrun]
    exact hK _ _ (h v w (by simpa [strV] using hown) (grown_refl _ _) (.inl rfl))
  | some ad =>
    have hnews : ∀ j u, (strV zs)[j]? = some u → w.cell? (ad.add j) = some u := fun j u hu => by
      simp only [strV, List.getElem?_map, Option.map_eq_some_iff] at hu
      obtain ⟨x, hx, rfl⟩ := hu
      obtain ⟨ad', e, _, hcc⟩ := hc j x hx
      cases e
      exact hcc
    obtain ⟨v', w', hr, h2, h3, _, h5⟩ := run_append_own_at (P := P) w base t o.type e i z 1 bytes ht hi hz hsize hby hzs (by decide) v n xs hown ad zs.length c (strV zs) (by simp [strV]) hnews (strV_one zs) h63 hbytes hbase
    unfold Oper.wp execOp
    simp only [ho, resolve, invoke, builtin, Sem.run_bind, Sem.run_pure, Result.andThen_ok, List.map_toArray, List.map_cons, List.map_nil, hs, hx, hr]
    exact hK _ _ (h v' w' h2 h3 h5)
theorem sin_row {W : World} {B : Nat} {t : TypeId} {v : Value} {zs : List Bytes} (h : W.ownsRow B t 1 v zs.length (strs zs)) : SIn W v (ba zs) := by
  refine ⟨srow_row h, fun n c e => ?_⟩
  rcases h.2 with ⟨rfl, h0⟩ | ⟨g, cap, cur, rfl, _⟩
  · cases e; exact ⟨rfl, rfl⟩
  · cases e
theorem strV_ba (zs : List Bytes) : strV (ba zs) = strs zs := by simp [strV, ba, strs]

/-- append onto a slice that the call owns, at a step of a region that draws its order. -/
theorem step_append_owned {P : Program} {w : World} {ops : Array Oper} {o : Oper} {a : Act} {K : Act → World → Prop} {Q : Exit → Act → World → Prop} {E : Prop} (hgd : o.guard = none) (s x : Operand) (t : TypeId)
    (ho : o.op = .call { callee := .builtin .append, args := #[s, x], argTypes := #[t, t] })
    (base : Nat) (e : TypeId) (i : TypeInfo) (z : Value) (size bytes : Nat) (ht : P.underlying t = some (.slice e)) (hi : P.info? e = some i) (hz : i.zero = some z)
    (hsize : i.size = size) (hby : i.bytes = bytes) (hzs : z.cells.size = size) (hsz : 0 < size)
    (v : Value) (n : Nat) (xs : List Value) (hs : a.eval s = v) (hown : w.ownsRow base e size v n xs)
    (ad : Addr) (m c : Nat) (news : List Value) (hx : a.eval x = .slice (some ad) m c) (hl : news.length = m * size) (hnews : ∀ j u, news[j]? = some u → w.cell? (ad.add j) = some u) (h1 : ∀ u ∈ news, u.oneCell' = true)
    (h63 : n + m ≤ maxLen) (hbytes : (n + m) * bytes ≤ 140737488355328) (hbase : base ≤ w.heap.size)
    (h : ∀ v' w', w'.ownsRow base e size v' (n + m) (xs ++ news) → w.grownBy w' v.ownBlock → K (a.put o.dst v') w') :
    if Region.wanted o (yielded ops a.tmps) = true then Oper.wp P o a w K Q else E := by
  have hw : Region.wanted o (yielded ops a.tmps) = true := by simp [Region.wanted, hgd]
  rw [if_pos hw]
  obtain ⟨v', w', hr, h2, h3, _⟩ := run_append_own (P := P) w base t o.type e i z size bytes ht hi hz hsize hby hzs hsz v n xs hown ad m c news hl hnews h1 h63 hbytes hbase
  unfold Oper.wp execOp
  simp only [ho, resolve, invoke, builtin, Sem.run_bind, Sem.run_pure, Result.andThen_ok, List.map_toArray, List.map_cons, List.map_nil, hs, hx, hr]
  exact h v' w' h2 h3
theorem add_zero_at (g j : Nat) : (⟨g, 0, none⟩ : Addr).add j = ⟨g, j, none⟩ := by
  unfold Addr.add
  split
  · rename_i h; subst h; rfl
  · simp
theorem add_off_at (g o j : Nat) : (⟨g, o, none⟩ : Addr).add j = ⟨g, o + j, none⟩ := by
  unfold Addr.add
  split
  · rename_i h; subst h; rfl
  · simp
theorem row_cells {w : World} {B g n cap : Nat} {e : TypeId} {vs : List Value} (h : w.ownsRow B e 1 (.slice (some ⟨g, 0, none⟩) n cap) n vs) : ∀ j u, vs[j]? = some u → w.cell? ⟨g, j, none⟩ = some u := by
  intro j u hj
  have := h.cells (g := g) rfl j u hj
  rw [add_zero_at] at this
  exact this
theorem row_shape {w : World} {B n : Nat} {e : TypeId} {v : Value} {vs : List Value} (h : w.ownsRow B e 1 v n vs) (hn : 0 < n) : ∃ g cap, v = .slice (some ⟨g, 0, none⟩) n cap ∧ g < w.heap.size ∧ n ≤ cap ∧ B ≤ g ∧ vs.length = n := by
  have hl : vs.length = n * 1 := h.1
  have h' := h
  rcases h.2 with ⟨_, h0⟩ | ⟨g, cap, cur, rfl, h2, _, h4, _⟩
  · omega
  · exact ⟨g, cap, rfl, (h'.lt g rfl).2, h4, h2, by omega⟩
/-- One element is cut out: what the two appends read. -/
theorem cut_facts {w7 V1 : World} {B g cap : Nat} {e : TypeId} {vs : List Value} {L at_ : Nat} (hrow : w7.ownsRow B e 1 (.slice (some ⟨g, 0, none⟩) L cap) L vs) (hV1 : Below w7.heap.size w7 V1) :
    (∀ j u, (vs.take at_)[j]? = some u → V1.cell? ((⟨g, 0, none⟩ : Addr).add j) = some u) ∧ (∀ V, V1.grownBy V (some w7.heap.size) → ∀ j u, (vs.drop (at_ + 1))[j]? = some u → V.cell? ((⟨g, at_ + 1, none⟩ : Addr).add j) = some u) := by
  have hgl := (hrow.lt g rfl).2
  have hc := row_cells hrow
  refine ⟨fun j u hu => ?_, fun V hV j u hu => ?_⟩
  · rw [add_zero_at]
    have hj := (List.getElem?_eq_some_iff.1 hu).1
    rw [List.getElem?_take_of_lt (by simp at hj; omega)] at hu
    exact (hV1.cell (p := ⟨g, j, none⟩) hgl).trans (hc j u hu)
  · rw [add_off_at]
    rw [List.getElem?_drop] at hu
    have h1 := (hV1.cell (p := ⟨g, at_ + 1 + j, none⟩) hgl).trans (hc _ u hu)
    rw [hV.cell_far ⟨g, at_ + 1 + j, none⟩ (by have := hV1.size; simp; omega) (by simp; omega)]
    exact h1
end Go.Proofs.Ythhiapdmibiolaa.L7
