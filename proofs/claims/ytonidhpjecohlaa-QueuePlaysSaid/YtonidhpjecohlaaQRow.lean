/- A row of texts that a law is handed; append onto an own row of texts, whatever the source; Either, case by case. -/
import Derived.Test.YtonidhpjecohlaaQSame
import Derived.SliceStrings
import Derived.ChangeSlices
namespace Go.Proofs.Ytonidhpjecohlaa.L6
open Go.ChangeShapes Go.WideShapes Go.ChangeAt Go.RowKit L5

/-- A row of texts that came in: nil has no room. -/
structure SIn (w : World) (v : Value) (zs : List ByteArray) : Prop where
  row : SRow w v zs
  nil : ∀ n c, v = .slice none n c → c = 0 ∧ n = 0
theorem SIn.below {w w' : World} {v : Value} {zs : List ByteArray} (h : SIn w v zs) (hb : Below w.heap.size w w') : SIn w' v zs := ⟨h.row.below hb, h.nil⟩

set_option maxRecDepth 100000 in
theorem open_srow {H : Type} {enc : TypeId × Value → H} {W : World} {base : Nat} {v : Value} {d : DataW H} {ps : List MemPlace}
    (hval : Value.okWide Try.prog W .any base 46 v) (h : DataW.Trod enc Try.prog W 0 (fun _ => true) true 46 v d ps) : ∃ zs, SIn W v zs := by
  obtain ⟨A, n, c, rfl⟩ := okWide_slice Try.underlying46 hval
  obtain ⟨fuel, hf⟩ := h
  rcases open_strings Try.underlying46 Try.underlying9 (by kernel_rfl) hf with ⟨h0, _⟩ | ⟨a, len, cap, ss, hcs, _, hl, hm, hsl, _, hcell, hsz⟩
  · simp [Value.cells] at h0
    obtain ⟨rfl, rfl, rfl⟩ := h0
    exact ⟨[], ⟨none, 0, rfl, fun j x hx => by simp at hx⟩, fun n c e => by cases e; exact ⟨rfl, rfl⟩⟩
  · simp [Value.cells] at hcs
    obtain ⟨rfl, rfl, rfl⟩ := hcs
    simp only [if_true] at hsl
    have hlen : (ss.take n).length = n := by simp; omega
    refine ⟨ss.take n, ⟨some a, c, by rw [hlen], fun j x hx => ?_⟩, fun n c e => by cases e⟩
    rw [List.getElem?_take] at hx
    have hjn : j < n := by
      rcases Nat.lt_or_ge j n with h | h
      · exact h
      · rw [if_neg (by omega)] at hx; cases hx
    rw [if_pos hjn] at hx
    have hc2 := hcell j (by omega)
    rw [List.getD, hx, Option.getD_some] at hc2
    have hlt := World.block_lt_of_cell? W _ hc2
    rw [addr_block] at hlt
    exact ⟨a, rfl, hlt, hc2⟩

theorem info_string : (Try.prog.info? 9).map (fun i => (i.zero, i.size, i.bytes)) = some (some (.string ⟨#[]⟩), 1, 16) := by kernel_rfl

theorem strV_one (zs : List ByteArray) : ∀ u ∈ strV zs, u.oneCell' = true := fun u hu => by
  obtain ⟨x, _, rfl⟩ := List.mem_map.1 hu
  simp [Value.oneCell']
theorem grown_refl (w : World) (row : Option Nat) : w.grownBy w row := ⟨rfl, rfl, rfl, Nat.le_refl _, fun _ _ _ => rfl⟩

/-- append of a row of texts onto a slice that the call owns, whatever the source, whatever the guard that stands. -/
theorem wpList_append_texts {P : Program} {w : World} {ops : Array Oper} {rest : List Oper} {o : Oper} {a : Act} {Q : Exit → Act → World → Prop} (hw : Region.wanted o (yielded ops a.tmps) = true) (s x : Operand) (t : TypeId)
    (ho : o.op = .call { callee := .builtin .append, args := #[s, x], argTypes := #[t, t] })
    (base : Nat) (e : TypeId) (i : TypeInfo) (z : Value) (bytes : Nat) (ht : P.underlying t = some (.slice e)) (hi : P.info? e = some i) (hz : i.zero = some z)
    (hsize : i.size = 1) (hby : i.bytes = bytes) (hzs : z.cells.size = 1)
    (v : Value) (n : Nat) (xs : List Value) (hs : a.eval s = v) (hown : w.ownsRow base e 1 v n xs)
    (vx : Value) (zs : List ByteArray) (hx : a.eval x = vx) (hsrc : SIn w vx zs)
    (h63 : n + zs.length ≤ maxLen) (hbytes : (n + zs.length) * bytes ≤ 140737488355328) (hbase : base ≤ w.heap.size)
    (h : ∀ v' w', w'.ownsRow base e 1 v' (n + zs.length) (xs ++ strV zs) → w.grownBy w' v.ownBlock → wpList P ops Q rest (a.put o.dst v') w') :
    wpList P ops Q (o :: rest) a w := by
  obtain ⟨⟨A, c, rfl, hc⟩, hn⟩ := hsrc
  refine wpList_step fun K hK => ?_
  rw [if_pos hw]
  cases A with
  | none =>
    obtain ⟨rfl, h0⟩ := hn _ _ rfl
    obtain rfl : zs = [] := List.length_eq_zero_iff.1 h0
    have hrun := run_append_owned_none (P := P) (w := w) base t o.type e i 1 ht hi v n xs hown
    unfold Oper.wp execOp
    simp only [ho, resolve, invoke, builtin, Sem.run_bind, Sem.run_pure, Result.andThen_ok, List.map_toArray, List.map_cons, List.map_nil, hs, hx, List.length_nil, hrun]
    exact hK _ _ (h v w (by simpa [strV] using hown) (grown_refl _ _))
  | some ad =>
    have hnews : ∀ j u, (strV zs)[j]? = some u → w.cell? (ad.add j) = some u := fun j u hu => by
      simp only [strV, List.getElem?_map, Option.map_eq_some_iff] at hu
      obtain ⟨x, hx, rfl⟩ := hu
      obtain ⟨ad', e, _, hcc⟩ := hc j x hx
      cases e
      exact hcc
    obtain ⟨v', w', hr, h2, h3, _⟩ := run_append_own (P := P) w base t o.type e i z 1 bytes ht hi hz hsize hby hzs (by decide) v n xs hown ad zs.length c (strV zs) (by simp [strV]) hnews (strV_one zs) h63 hbytes hbase
    unfold Oper.wp execOp
    simp only [ho, resolve, invoke, builtin, Sem.run_bind, Sem.run_pure, Result.andThen_ok, List.map_toArray, List.map_cons, List.map_nil, hs, hx, hr]
    exact hK _ _ (h v' w' h2 h3)

def EitherGot (w : World) (B g c room g' c' room' : Nat) (a b : List ByteArray) (v : Value) (e : Ending) (w' : World) : Prop :=
  e = .returned v ∧ Two w' g c room g' c' room' a b ∧ (∀ A, Below B A w → Below B A w') ∧ w.heap.size ≤ w'.heap.size ∧ (∀ k, k < w.heap.size → k ≠ c → k ≠ c' → w'.heap[k]? = w.heap[k]?)
theorem Either_one {w : World} {B g c room g' c' room' : Nat} {x : ByteArray} {a b : List ByteArray} (h : Two w g c room g' c' room' (x :: a) b) (hc : B ≤ c) (hc' : B ≤ c') :
    Calls Try.prog 15 #[.pointer (some ⟨g, 0, none⟩), .pointer (some ⟨g', 0, none⟩)] w (EitherGot w B g c room g' c' room' a b (.tuple #[.string x, .int .i64 1])) :=
  (Either_calls h hc hc').mono fun _ _ h => h
theorem Either_two {w : World} {B g c room g' c' room' : Nat} {x : ByteArray} {b : List ByteArray} (h : Two w g c room g' c' room' [] (x :: b)) (hc : B ≤ c) (hc' : B ≤ c') :
    Calls Try.prog 15 #[.pointer (some ⟨g, 0, none⟩), .pointer (some ⟨g', 0, none⟩)] w (EitherGot w B g c room g' c' room' [] b (.tuple #[.string x, .int .i64 2])) :=
  (Either_calls h hc hc').mono fun _ _ h => h
theorem Either_none {w : World} {B g c room g' c' room' : Nat} (h : Two w g c room g' c' room' [] []) (hc : B ≤ c) (hc' : B ≤ c') :
    Calls Try.prog 15 #[.pointer (some ⟨g, 0, none⟩), .pointer (some ⟨g', 0, none⟩)] w (EitherGot w B g c room g' c' room' [] [] (.tuple #[.string ⟨#[]⟩, .int .i64 0])) :=
  (Either_calls h hc hc').mono fun _ _ h => h

end Go.Proofs.Ytonidhpjecohlaa.L6
