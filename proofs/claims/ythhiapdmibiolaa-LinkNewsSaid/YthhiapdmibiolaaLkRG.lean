/- The document's own frame and New (gemotref7). Rows in layer 7's statements: rows of ints that came in, appends of whole rows, one element cut out of a row. The document's own Send (gemotref7). The document's own Again (gemotref7). LinkNews: between which processes there is a link, and what is told of a body that is none. The statement LinkNews: for every input the law returns true, and its arguments read as they did. -/
import Derived.Test.YthhiapdmibiolaaLkRoom
import Derived.Test.YthhiapdmibiolaaR4G
import Derived.Test.YthhiapdmibiolaaRefG
import Derived.Deep.RegionLaw
import Derived.Laws.AppendOwn
import Derived.Maps.AppendAt
import Derived.ChangeSlices
import Derived.Deep.AppendLies
section
section
namespace Go.Proofs.Ythhiapdmibiolaa.L7
open Go.ChangeShapes Go.WideShapes Go.ChangeAt Go.RowKit L6

theorem right_depth7 (p : Bytes) : (Tm.depthOf p == 0) = !Tm.right p := by
  unfold Tm.right
  cases h : (Tm.depthOf p == 0) with
  | true => simp at h; simp [h]
  | false => simp at h; simp; omega
theorem put_sign (a b : Bytes) : Tm.put [120] [a, b] = ofT [120] [a, b] := by
  unfold ofT
  have e : [a, b].any (fun p => !Tm.right p) = [a, b].any (fun p => Tm.depthOf p == 0) := by
    congr 1
    funext p
    exact (right_depth7 p).symm
  rw [e]
  by_cases h : [a, b].any (fun p => Tm.depthOf p == 0) = true
  · rw [if_pos h]
    unfold Tm.put
    rw [if_pos h]
  · rw [if_neg h]
    refine Tm.put_made (fun p hp h0 => h (List.any_eq_true.2 ⟨p, hp, by simp [h0]⟩)) ?_ (by simp) (fun h => absurd h (by simp)) (fun h => absurd h (by simp))
    have := Tm.begin_sign a b
    simpa using this
theorem texts_two {W : World} {g : Nat} {a b : Bytes} {t : TypeId} (h : W.heap[g]? = some (.cells #[.string ⟨a.toArray⟩, .string ⟨b.toArray⟩] t (0, 0))) : Texts W g [a, b] := by
  intro j x hx
  match j, hx with
  | 0, hx => simp at hx; subst hx; simp only [World.cell?]; rw [h]; rfl
  | 1, hx => simp at hx; subst hx; simp only [World.cell?]; rw [h]; rfl
  | j + 2, hx => simp at hx

set_option maxRecDepth 100000 in
set_option maxHeartbeats 2000000 in
theorem frame7_calls {p q : Nat} (hp : 1 ≤ p) (hp8 : p ≤ 8) (hq8 : q ≤ 8) (kind num : Nat) (vt : Value) (ts : List Bytes) (w : World) (ht : RowA w vt ts) (hnil : ∀ n c, vt = .slice none n c → c = 0) (hl : ts.length ≤ 900) (hsm : (fmsg q kind num ts).pack.1.length ≤ 10000) :
    Calls Try.prog 31 #[.int .i64 p, .int .i64 q, .int .i64 kind, .int .i64 num, vt] w (Pair2 w (frameL p q kind num ts)) := by
  have b1 : Below w.heap.size w (w.alloc (.cells #[.int .i64 q] 3)) := (Below.refl _ w).alloc (Nat.le_refl _) _
  have hP := L4.pack4_calls (fmsg q kind num ts) (.slice (some ⟨w.heap.size, 0, none⟩) 1 1) vt (w.alloc (.cells #[.int .i64 q] 3))
    ⟨ints_one (World.alloc_heap_new w _) (by omega) (by omega), ht.below b1⟩ (fun n c e => by cases e) hnil hl
  have HPv := Lib.hid (fun W => refPrivate_calls p (by omega) (by omega) W)
  have hpr : (⟨#[105, UInt8.ofNat ((p : Int)).toNat]⟩ : ByteArray) = ⟨(privL p).toArray⟩ := rfl
  rw [hpr] at HPv
  have HOf : Hid (∀ (t : Bytes), t.length ≤ 10000 → ∀ W : World, Calls Try.prog 46 #[.string ⟨#[120]⟩, .slice (some ⟨W.heap.size, 0, none⟩) 2 2] (W.alloc (.cells #[.string ⟨(privL p).toArray⟩, .string ⟨t.toArray⟩] 9)) (Pair2 (W.alloc (.cells #[.string ⟨(privL p).toArray⟩, .string ⟨t.toArray⟩] 9)) (Tm.put [120] [privL p, t]))) := fun t ht W => by
    have := ROfm_calls [120] [privL p, t] W.heap.size 2 (W.alloc (.cells #[.string ⟨(privL p).toArray⟩, .string ⟨t.toArray⟩] 9)) (texts_two (World.alloc_heap_new W _)) (by simp) (by simp) (by intro z hz; simp at hz; rcases hz with rfl | rfl; simp [privL]; exact ht)
    rw [put_sign]
    refine this.mono ?_
    rintro e w' ⟨rfl, m, rfl⟩
    exact ⟨rfl, L5.below_drewN (Below.refl _ _) m⟩
  unfold frameL signL
  obtain ⟨⟨t, er⟩, hr⟩ : ∃ r, (fmsg q kind num ts).pack = r := ⟨_, rfl⟩
  rw [hr] at hP hsm ⊢
  have HP := Lib.hid hP
  have HB := Lib.hid b1
  unfold msgCells fmsg at HP
  generalize privL p = pv at *
  obtain ⟨vA, vn, vc, rfl⟩ : ∃ A n c, vt = .slice A n c := ⟨_, _, _, ht.reads.choose_spec.choose_spec.1⟩
  clear hP hr hpr ht b1 hp hp8 hq8 hl
  by_cases her : er = 0
  · subst her
    rw [if_pos rfl]
    have HOf := Lib.hid (HOf.out t hsm)
    show Calls _ _ _ _ (Pair2 w (Tm.put [120] [pv, t]))
    generalize Tm.put [120] [pv, t] = u at *
    clear hsm
    go_enter Try.func31, Try.ntmps31
    go_wp2_with fail
    refine HP.out.mono ?_
    rintro e w1 ⟨rfl, b1⟩
    have HB1 := Lib.hid (HB.out.trans (b1.mono HB.out.size))
    clear b1
    go_wp2_with fail
    refine (HPv.out _).mono ?_
    rintro e w2 ⟨rfl, b2⟩
    have HB2 := Lib.hid (HB1.out.trans (b2.mono HB1.out.size))
    have HOf := Lib.hid (HOf.out w2)
    clear b2
    go_wp2_with fail
    refine HOf.out.mono ?_
    rintro e w3 ⟨rfl, b3⟩
    have HB3 := Lib.hid ((HB2.out.alloc HB2.out.size _).trans (b3.mono (HB2.out.alloc HB2.out.size _).size))
    clear b3
    go_wp2
    go_ret2
    exact ⟨rfl, HB3.out⟩
  · rw [if_neg her]
    have hne : ((er : Int) != 0) = true := by simp; omega
    clear HOf HPv her hsm
    go_enter Try.func31, Try.ntmps31
    go_wp2_with fail
    refine HP.out.mono ?_
    rintro e w1 ⟨rfl, b1⟩
    have HB1 := Lib.hid (HB.out.trans (b1.mono HB.out.size))
    clear b1
    go_wp2
    go_ret2
    exact ⟨rfl, HB1.out⟩

/-- The document's end in memory. -/
def refCells (me peer sent taken : Nat) (vo vw : Value) : Array Value := #[.int .i64 me, .int .i64 peer, .int .i64 sent, .int .i64 taken, vo, vw]
def RefNewOut (w : World) (a b : Nat) (e : Ending) (w' : World) : Prop := e = .returned (.tuple #[.pointer (some ⟨w.heap.size, 0, none⟩), .int .i64 0]) ∧ w' = w.alloc (.cells (refCells a b 0 0 (.slice none 0 0) (.slice none 0 0)) 73)
set_option maxHeartbeats 1000000 in
theorem ref_new (a b : Nat) (ha : 1 ≤ a) (ha8 : a ≤ 8) (hb : 1 ≤ b) (hb8 : b ≤ 8) (hab : a ≠ b) (w : World) : Calls Try.prog 10 #[.int .i64 a, .int .i64 b] w (RefNewOut w a b) := by
  have h1 : ¬ (a : Int) < 1 := by omega
  have h2 : ¬ (8 : Int) < (a : Int) := by omega
  have h3 : ¬ (b : Int) < 1 := by omega
  have h4 : ¬ (8 : Int) < (b : Int) := by omega
  have h5 : ((a : Int) == (b : Int)) = false := by rw [beq_eq_false_iff_ne]; omega
  clear ha ha8 hb hb8 hab
  go_enter Try.func10, Try.ntmps10
  go_wp2
  go_ret2
  exact ⟨rfl, rfl⟩
set_option maxHeartbeats 1000000 in
theorem ref_new_no (me peer : Int) (h : ¬ (1 ≤ me ∧ me ≤ 8 ∧ 1 ≤ peer ∧ peer ≤ 8 ∧ me ≠ peer)) (w : World) : Calls Try.prog 10 #[.int .i64 me, .int .i64 peer] w (NewNo w) := by
  by_cases h1 : me < 1
  · clear h
    go_enter Try.func10, Try.ntmps10
    go_wp2
    go_ret2
    exact ⟨rfl, rfl⟩
  by_cases h2 : 8 < me
  · clear h
    go_enter Try.func10, Try.ntmps10
    go_wp2
    go_ret2
    exact ⟨rfl, rfl⟩
  by_cases h3 : peer < 1
  · clear h
    go_enter Try.func10, Try.ntmps10
    go_wp2
    go_ret2
    exact ⟨rfl, rfl⟩
  by_cases h4 : 8 < peer
  · clear h
    go_enter Try.func10, Try.ntmps10
    go_wp2
    go_ret2
    exact ⟨rfl, rfl⟩
  obtain rfl : me = peer := by omega
  clear h
  go_enter Try.func10, Try.ntmps10
  go_wp2
  go_ret2
  exact ⟨rfl, rfl⟩
end Go.Proofs.Ythhiapdmibiolaa.L7
end
end

section
namespace Go.Proofs.Ythhiapdmibiolaa.L7
open Go.ChangeShapes Go.WideShapes Go.ChangeAt Go.RowKit L6

/-- A row of ints, as it lies in memory. -/
def IRow (w : World) (A : Option Addr) (n : Nat) : Prop := ∀ j, j < n → ∃ (ad : Addr) (x : Int), A = some ad ∧ ad.block < w.heap.size ∧ w.cell? (ad.add j) = some (.int .i64 x) ∧ isInt x
theorem IRow.below {w w' : World} {A : Option Addr} {n : Nat} (h : IRow w A n) (hb : Below w.heap.size w w') : IRow w' A n := fun j hj => by
  obtain ⟨ad, x, e, hl, hc, hx⟩ := h j hj
  exact ⟨ad, x, e, Nat.lt_of_lt_of_le hl hb.size, (hb.cell (p := ad.add j) (by rw [L6.addr_block]; exact hl)).trans hc, hx⟩
set_option maxRecDepth 100000 in
theorem open_irow {H : Type} {enc : TypeId × Value → H} {W : World} {base : Nat} {v : Value} {d : DataW H} {ps : List MemPlace}
    (hval : Value.okWide Try.prog W .any base 43 v) (h : DataW.Trod enc Try.prog W 0 (fun _ => true) true 43 v d ps) : ∃ B : Option Addr × Nat × Nat, v = .slice B.1 B.2.1 B.2.2 ∧ IRow W B.1 B.2.1 ∧ B.2.1 ≤ maxLen := by
  obtain ⟨A, n, c, rfl⟩ := okWide_slice Try.underlying43 hval
  obtain ⟨fuel, hf⟩ := h
  rcases open_ints Try.underlying43 Try.underlying3 (by kernel_rfl) hf with ⟨h0, _⟩ | ⟨a, len, cap, zs, hcs, _, hl, hm, hsl, _, hcell, hsz⟩
  · simp [Value.cells] at h0
    obtain ⟨rfl, rfl, rfl⟩ := h0
    exact ⟨(none, 0, 0), rfl, fun j hj => absurd hj (by simp), Nat.zero_le _⟩
  · simp [Value.cells] at hcs
    obtain ⟨rfl, rfl, rfl⟩ := hcs
    simp only [if_true] at hsl
    refine ⟨(some a, n, c), rfl, fun j hj => ?_, by show n ≤ maxLen; omega⟩
    have hj' : j < n := hj
    have hc2 := hcell j (by omega)
    have hlt := World.block_lt_of_cell? W _ hc2
    rw [L6.addr_block] at hlt
    have hw := L5.i64_of_wf (hsz (zs.getD j 0) (by
      rw [List.getD, List.getElem?_eq_getElem (by omega), Option.getD_some]
      exact List.getElem_mem _))
    exact ⟨a, zs.getD j 0, rfl, hlt, hc2, hw.1, hw.2⟩

/-- Rows of unlike elements lie apart. -/
theorem own_apart {w : World} {B B' : Nat} {e e' : TypeId} {v v' : Value} {n n' : Nat} {xs xs' : List Value} (h : w.ownsRow B e 1 v n xs) (h' : w.ownsRow B' e' 1 v' n' xs') (hne : e ≠ e') : ∀ q, v.ownBlock = some q → v'.ownBlock ≠ some q := by
  intro q hq hq'
  rcases h.2 with ⟨rfl, _⟩ | ⟨g, cap, cur, rfl, _, h1, _⟩
  · cases hq
  · rcases h'.2 with ⟨rfl, _⟩ | ⟨g', cap', cur', rfl, _, h2, _⟩
    · cases hq'
    · cases hq
      cases hq'
      rw [h1] at h2
      cases h2
      exact hne rfl
/-- Another row grew: this one is as it was. -/
theorem own_grown {w w' : World} {B : Nat} {e : TypeId} {v : Value} {n : Nat} {xs : List Value} {row : Option Nat} (h : w.ownsRow B e 1 v n xs) (hg : w.grownBy w' row) (hne : ∀ q, v.ownBlock = some q → row ≠ some q) : w'.ownsRow B e 1 v n xs :=
  L5.own_same h (fun q hq => hg.block q (h.lt q hq).2 (fun e => hne q hq e.symm))
theorem term_string : 30 ≠ 9 := by decide
theorem string_end : 9 ≠ 70 ∧ 9 ≠ 95 := ⟨by decide, by decide⟩
theorem int_end : 3 ≠ 70 ∧ 3 ≠ 95 := ⟨by decide, by decide⟩
theorem term_int : 30 ≠ 3 := by decide

/-- append of a whole row of texts, nil too; where the row lies then. -/
theorem wpList_append_texts_at {P : Program} {w : World} {ops : Array Oper} {rest : List Oper} {o : Oper} {a : Act} {Q : Exit → Act → World → Prop} (hw : Region.wanted o (yielded ops a.tmps) = true) (s x : Operand) (t : TypeId)
    (ho : o.op = .call { callee := .builtin .append, args := #[s, x], argTypes := #[t, t] })
    (base : Nat) (e : TypeId) (i : TypeInfo) (z : Value) (bytes : Nat) (ht : P.underlying t = some (.slice e)) (hi : P.info? e = some i) (hz : i.zero = some z)
    (hsize : i.size = 1) (hby : i.bytes = bytes) (hzs : z.cells.size = 1)
    (v : Value) (n : Nat) (xs : List Value) (hs : a.eval s = v) (hown : w.ownsRow base e 1 v n xs)
    (vx : Value) (zs : List ByteArray) (hx : a.eval x = vx) (hsrc : SIn w vx zs)
    (h63 : n + zs.length ≤ maxLen) (hbytes : (n + zs.length) * bytes ≤ 140737488355328) (hbase : base ≤ w.heap.size)
    (h : ∀ v' w', w'.ownsRow base e 1 v' (n + zs.length) (xs ++ strV zs) → w.grownBy w' v.ownBlock → (v'.ownBlock = v.ownBlock ∨ v'.ownBlock = some w.heap.size) → wpList P ops Q rest (a.put o.dst v') w') :
    wpList P ops Q (o :: rest) a w := by
  obtain ⟨⟨A, c, rfl, hc⟩, hn⟩ := hsrc
  refine wpList_step fun K hK => ?_
  rw [if_pos hw]
  cases A with
  | none =>
    obtain ⟨rfl, h0⟩ := hn _ _ rfl
    obtain rfl : zs = [] := List.length_eq_zero_iff.1 h0
    have hrun := run_append_owned_none (P := P) (w := w) base t o.type e i 1 ht hi v n xs hown
    unfold Oper.wp execOp
    simp only [ho, resolve, invoke, builtin, Sem.run_bind, Sem.run_pure, Result.andThen_ok, List.map_toArray, List.map_cons, List.map_nil, hs, hx, List.length_nil, hrun]
    exact hK _ _ (h v w (by simpa [strV] using hown) (grown_refl _ _) (.inl rfl))
  | some ad =>
    have hnews : ∀ j u, (strV zs)[j]? = some u → w.cell? (ad.add j) = some u := fun j u hu => by
      simp only [strV, List.getElem?_map, Option.map_eq_some_iff] at hu
      obtain ⟨x, hx, rfl⟩ := hu
      obtain ⟨ad', e, _, hcc⟩ := hc j x hx
      cases e
      exact hcc
    obtain ⟨v', w', hr, h2, h3, _, h5⟩ := run_append_own_at (P := P) w base t o.type e i z 1 bytes ht hi hz hsize hby hzs (by decide) v n xs hown ad zs.length c (strV zs) (by simp [strV]) hnews (strV_one zs) h63 hbytes hbase
    unfold Oper.wp execOp
    simp only [ho, resolve, invoke, builtin, Sem.run_bind, Sem.run_pure, Result.andThen_ok, List.map_toArray, List.map_cons, List.map_nil, hs, hx, hr]
    exact hK _ _ (h v' w' h2 h3 h5)
theorem sin_row {W : World} {B : Nat} {t : TypeId} {v : Value} {zs : List Bytes} (h : W.ownsRow B t 1 v zs.length (strs zs)) : SIn W v (ba zs) := by
  refine ⟨srow_row h, fun n c e => ?_⟩
  rcases h.2 with ⟨rfl, h0⟩ | ⟨g, cap, cur, rfl, _⟩
  · cases e; exact ⟨rfl, rfl⟩
  · cases e
theorem strV_ba (zs : List Bytes) : strV (ba zs) = strs zs := by simp [strV, ba, strs]

/-- append onto a slice that the call owns, at a step of a region that draws its order. -/
theorem step_append_owned {P : Program} {w : World} {ops : Array Oper} {o : Oper} {a : Act} {K : Act → World → Prop} {Q : Exit → Act → World → Prop} {E : Prop} (hgd : o.guard = none) (s x : Operand) (t : TypeId)
    (ho : o.op = .call { callee := .builtin .append, args := #[s, x], argTypes := #[t, t] })
    (base : Nat) (e : TypeId) (i : TypeInfo) (z : Value) (size bytes : Nat) (ht : P.underlying t = some (.slice e)) (hi : P.info? e = some i) (hz : i.zero = some z)
    (hsize : i.size = size) (hby : i.bytes = bytes) (hzs : z.cells.size = size) (hsz : 0 < size)
    (v : Value) (n : Nat) (xs : List Value) (hs : a.eval s = v) (hown : w.ownsRow base e size v n xs)
    (ad : Addr) (m c : Nat) (news : List Value) (hx : a.eval x = .slice (some ad) m c) (hl : news.length = m * size) (hnews : ∀ j u, news[j]? = some u → w.cell? (ad.add j) = some u) (h1 : ∀ u ∈ news, u.oneCell' = true)
    (h63 : n + m ≤ maxLen) (hbytes : (n + m) * bytes ≤ 140737488355328) (hbase : base ≤ w.heap.size)
    (h : ∀ v' w', w'.ownsRow base e size v' (n + m) (xs ++ news) → w.grownBy w' v.ownBlock → K (a.put o.dst v') w') :
    if Region.wanted o (yielded ops a.tmps) = true then Oper.wp P o a w K Q else E := by
  have hw : Region.wanted o (yielded ops a.tmps) = true := by simp [Region.wanted, hgd]
  rw [if_pos hw]
  obtain ⟨v', w', hr, h2, h3, _⟩ := run_append_own (P := P) w base t o.type e i z size bytes ht hi hz hsize hby hzs hsz v n xs hown ad m c news hl hnews h1 h63 hbytes hbase
  unfold Oper.wp execOp
  simp only [ho, resolve, invoke, builtin, Sem.run_bind, Sem.run_pure, Result.andThen_ok, List.map_toArray, List.map_cons, List.map_nil, hs, hx, hr]
  exact h v' w' h2 h3
theorem add_zero_at (g j : Nat) : (⟨g, 0, none⟩ : Addr).add j = ⟨g, j, none⟩ := by
  unfold Addr.add
  split
  · rename_i h; subst h; rfl
  · simp
theorem add_off_at (g o j : Nat) : (⟨g, o, none⟩ : Addr).add j = ⟨g, o + j, none⟩ := by
  unfold Addr.add
  split
  · rename_i h; subst h; rfl
  · simp
theorem row_cells {w : World} {B g n cap : Nat} {e : TypeId} {vs : List Value} (h : w.ownsRow B e 1 (.slice (some ⟨g, 0, none⟩) n cap) n vs) : ∀ j u, vs[j]? = some u → w.cell? ⟨g, j, none⟩ = some u := by
  intro j u hj
  have := h.cells (g := g) rfl j u hj
  rw [add_zero_at] at this
  exact this
theorem row_shape {w : World} {B n : Nat} {e : TypeId} {v : Value} {vs : List Value} (h : w.ownsRow B e 1 v n vs) (hn : 0 < n) : ∃ g cap, v = .slice (some ⟨g, 0, none⟩) n cap ∧ g < w.heap.size ∧ n ≤ cap ∧ B ≤ g ∧ vs.length = n := by
  have hl : vs.length = n * 1 := h.1
  have h' := h
  rcases h.2 with ⟨_, h0⟩ | ⟨g, cap, cur, rfl, h2, _, h4, _⟩
  · omega
  · exact ⟨g, cap, rfl, (h'.lt g rfl).2, h4, h2, by omega⟩
/-- One element is cut out: what the two appends read. -/
theorem cut_facts {w7 V1 : World} {B g cap : Nat} {e : TypeId} {vs : List Value} {L at_ : Nat} (hrow : w7.ownsRow B e 1 (.slice (some ⟨g, 0, none⟩) L cap) L vs) (hV1 : Below w7.heap.size w7 V1) :
    (∀ j u, (vs.take at_)[j]? = some u → V1.cell? ((⟨g, 0, none⟩ : Addr).add j) = some u) ∧ (∀ V, V1.grownBy V (some w7.heap.size) → ∀ j u, (vs.drop (at_ + 1))[j]? = some u → V.cell? ((⟨g, at_ + 1, none⟩ : Addr).add j) = some u) := by
  have hgl := (hrow.lt g rfl).2
  have hc := row_cells hrow
  refine ⟨fun j u hu => ?_, fun V hV j u hu => ?_⟩
  · rw [add_zero_at]
    have hj := (List.getElem?_eq_some_iff.1 hu).1
    rw [List.getElem?_take_of_lt (by simp at hj; omega)] at hu
    exact (hV1.cell (p := ⟨g, j, none⟩) hgl).trans (hc j u hu)
  · rw [add_off_at]
    rw [List.getElem?_drop] at hu
    have h1 := (hV1.cell (p := ⟨g, at_ + 1 + j, none⟩) hgl).trans (hc _ u hu)
    rw [hV.cell_far ⟨g, at_ + 1 + j, none⟩ (by have := hV1.size; simp; omega) (by simp; omega)]
    exact h1
end Go.Proofs.Ythhiapdmibiolaa.L7
end

section
namespace Go.Proofs.Ythhiapdmibiolaa.L7
open Go.ChangeShapes Go.WideShapes Go.ChangeAt Go.RowKit L6

structure RSt where
  me : Nat
  peer : Nat
  sent : Nat
  taken : Nat
  opens : List (Nat × Bytes)
  wait : List (Nat × Bytes)
def flatI (l : List (Nat × Bytes)) : List Value := l.flatMap fun i => [.int .i64 i.1, .string ⟨i.2.toArray⟩]
theorem flatI_snoc (l : List (Nat × Bytes)) (n : Nat) (b : Bytes) : flatI (l ++ [(n, b)]) = flatI l ++ [.int .i64 n, .string ⟨b.toArray⟩] := by simp [flatI]
theorem flatI_len (l : List (Nat × Bytes)) : (flatI l).length = l.length * 2 := by
  induction l with
  | nil => rfl
  | cons a l ih =>
    have : flatI (a :: l) = [.int .i64 a.1, .string ⟨a.2.toArray⟩] ++ flatI l := by simp [flatI]
    rw [this, List.length_append, ih]
    simp only [List.length_cons, List.length_nil]
    omega
structure RefAt (W : World) (B g : Nat) (r : RSt) (vo vw : Value) : Prop where
  own : W.heap[g]? = some (.cells (refCells r.me r.peer r.sent r.taken vo vw) 73 (0, 0))
  base : B ≤ g
  opens : W.ownsRow B 80 2 vo r.opens.length (flatI r.opens)
  wait : W.ownsRow B 80 2 vw r.wait.length (flatI r.wait)
  sep : ∀ q, vo.ownBlock = some q → vw.ownBlock ≠ some q
theorem RefAt.lt {W : World} {B g : Nat} {r : RSt} {vo vw : Value} (h : RefAt W B g r vo vw) : g < W.heap.size := (Array.getElem?_eq_some_iff.1 h.own).1
theorem RefAt.same {W W' : World} {B g : Nat} {r : RSt} {vo vw : Value} (h : RefAt W B g r vo vw) (hg : W'.heap[g]? = W.heap[g]?) (ho : ∀ q, vo.ownBlock = some q → W'.heap[q]? = W.heap[q]?) (hw : ∀ q, vw.ownBlock = some q → W'.heap[q]? = W.heap[q]?) : RefAt W' B g r vo vw :=
  ⟨hg.trans h.own, h.base, L5.own_same h.opens ho, L5.own_same h.wait hw, h.sep⟩
theorem RefAt.below {W W' : World} {B g : Nat} {r : RSt} {vo vw : Value} (h : RefAt W B g r vo vw) (hb : Below W.heap.size W W') : RefAt W' B g r vo vw :=
  h.same (hb.block _ h.lt) (fun q e => hb.block q (h.opens.lt q e).2) (fun q e => hb.block q (h.wait.lt q e).2)
theorem RefAt.cells {W : World} {B g : Nat} {r : RSt} {vo vw : Value} (h : RefAt W B g r vo vw) : W.cell? ⟨g, 0, none⟩ = some (.int .i64 r.me) ∧ W.cell? ⟨g, 1, none⟩ = some (.int .i64 r.peer) ∧ W.cell? ⟨g, 2, none⟩ = some (.int .i64 r.sent) ∧ W.cell? ⟨g, 3, none⟩ = some (.int .i64 r.taken) ∧ W.cell? ⟨g, 4, none⟩ = some vo ∧ W.cell? ⟨g, 5, none⟩ = some vw := by
  have e := h.own
  refine ⟨?_, ?_, ?_, ?_, ?_, ?_⟩ <;> (simp only [World.cell?]; rw [e]; rfl)
theorem RefAt.froze {W : World} {B g : Nat} {r : RSt} {vo vw : Value} (h : RefAt W B g r vo vw) (j : Nat) : W.frozen? ⟨g, j, none⟩ = false := by
  have e := h.own
  simp only [World.frozen?]
  rw [e]
  simp
/-- A row of items lies apart from the end itself. -/
theorem RefAt.apart {W : World} {B g : Nat} {r : RSt} {vo vw : Value} (h : RefAt W B g r vo vw) : vo.ownBlock ≠ some g ∧ vw.ownBlock ≠ some g := by
  have key : ∀ v n xs, W.ownsRow B 80 2 v n xs → v.ownBlock ≠ some g := by
    intro v n xs hr e
    rcases hr.2 with ⟨rfl, _⟩ | ⟨q, cap, cur, rfl, _, h2, _⟩
    · cases e
    · obtain rfl : q = g := by cases e; rfl
      have := h.own
      rw [h2] at this
      simp at this
  exact ⟨key _ _ _ h.opens, key _ _ _ h.wait⟩
def rsend (r : RSt) (body : Bytes) : (Bytes × Nat) × RSt :=
  if Tm.right body = false then (([], 1), r)
  else if r.opens.length = 64 then (([], 5), r)
  else if (frameL r.me r.peer 1 (r.sent + 1) [body]).2 = 0 then (frameL r.me r.peer 1 (r.sent + 1) [body], { r with sent := r.sent + 1, opens := r.opens ++ [(r.sent + 1, body)] })
  else (([], (frameL r.me r.peer 1 (r.sent + 1) [body]).2), r)
def RIn (g : Nat) (vo vw : Value) (k : Nat) : Prop := k = g ∨ vo.ownBlock = some k ∨ vw.ownBlock = some k
def RSendOut (w : World) (B g : Nat) (r : RSt) (vo vw : Value) (body : Bytes) (e : Ending) (w' : World) : Prop :=
  ∃ vo', e = .returned (.tuple #[.string ⟨(rsend r body).1.1.toArray⟩, .int .i64 (rsend r body).1.2]) ∧ RefAt w' B g (rsend r body).2 vo' vw ∧ Only (RIn g vo vw) w w'
theorem info_item : (Try.prog.info? 80).map (fun i => (i.zero, i.size, i.bytes)) = some (some (.agg #[.int .i64 0, .string ⟨#[]⟩]), 2, 24) := by kernel_rfl
theorem blk_set6 {W : World} {b j : Nat} {t : TypeId} {cs : Array Value} (h : W.heap[b]? = some (.cells cs t (0, 0))) (v : Value) : (W.setCell ⟨b, j, none⟩ v).heap[b]? = some (.cells (cs.setIfInBounds j v) t (0, 0)) := by
  obtain ⟨hlt, hk⟩ := Array.getElem?_eq_some_iff.1 h
  show (W.heap.modify b _)[b]? = _
  rw [Array.getElem?_eq_getElem (by rw [Array.size_modify]; exact hlt), Array.getElem_modify_self, hk]
  rfl

theorem rs2 (a b c d : Nat) (vo vw : Value) : (refCells a b c d vo vw).setIfInBounds 2 (.int .i64 ((c : Int) + 1)) = refCells a b (c + 1) d vo vw := rfl
theorem rs4 (a b c d : Nat) (vo vw v : Value) : (refCells a b c d vo vw).setIfInBounds 4 v = refCells a b c d v vw := rfl
set_option maxRecDepth 100000 in
set_option maxHeartbeats 4000000 in
theorem rsend_calls {w : World} {B g : Nat} {r : RSt} {vo vw : Value} (h : RefAt w B g r vo vw) (hB : B ≤ w.heap.size) (h1 : 1 ≤ r.me) (h8 : r.me ≤ 8) (hp8 : r.peer ≤ 8) (hs : r.sent ≤ 1000000) (ho : r.opens.length ≤ 64) (body : Bytes) (hb : body.length ≤ 100000)
    (hsm : Tm.right body = true → (fmsg r.peer 1 (r.sent + 1) [body]).pack.1.length ≤ 10000) :
    Calls Try.prog 12 #[.pointer (some ⟨g, 0, none⟩), .string ⟨body.toArray⟩] w (RSendOut w B g r vo vw body) := by
  obtain ⟨i0, hi, hz0, hz1, hz2⟩ := info_parts info_item
  have HR := RRight_calls ⟨body.toArray⟩ (by rw [size_list]; omega) w
  have e0 : (⟨body.toArray⟩ : ByteArray).data.toList = body := by simp
  rw [e0] at HR
  have HR := Lib.hid HR
  obtain ⟨c0, c1, c2, c3, c4, c5⟩ := h.cells
  unfold RSendOut
  unfold rsend
  clear e0
  cases hr : Tm.right body with
  | false =>
    rw [hr] at HR
    rw [if_pos rfl]
    have HF : Hid (∀ m, ∃ vo', RefAt (w.drewN m) B g r vo' vw ∧ Only (RIn g vo vw) w (w.drewN m)) := fun m => ⟨vo, h.same rfl (fun _ _ => rfl) (fun _ _ => rfl), (Only.refl _ _).drewN m⟩
    clear h hb hsm hr c0 c1 c2 c3 c4 c5
    go_enter Try.func12, Try.ntmps12
    go_wp2_with fail
    refine HR.out.mono ?_
    rintro e w1 ⟨rfl, m, rfl⟩
    obtain ⟨vo', k1, k2⟩ := HF.out m
    have HF : Hid (RefAt (w.drewN m) B g r vo' vw ∧ Only (RIn g vo vw) w (w.drewN m)) := ⟨k1, k2⟩
    clear k1 k2
    go_wp2
    go_ret2
    exact ⟨vo', rfl, HF.out⟩
  | true =>
    rw [hr] at HR
    rw [if_neg (by simp)]
    have hsm := hsm hr
    obtain ⟨Ao, co, rfl⟩ : ∃ A c, vo = .slice A r.opens.length c := by
      rcases h.opens.2 with ⟨rfl, h0⟩ | ⟨q, cap, cur, rfl, _⟩
      · exact ⟨none, 0, by rw [h0]⟩
      · exact ⟨_, cap, rfl⟩
    by_cases h64 : r.opens.length = 64
    · rw [if_pos h64]
      have h64i : ((r.opens.length : Int) == 64) = true := by rw [beq_iff_eq]; omega
      have HF : Hid (∀ m, ∃ vo', RefAt (w.drewN m) B g r vo' vw ∧ Only (RIn g (.slice Ao r.opens.length co) vw) w (w.drewN m)) := fun m => ⟨_, h.same rfl (fun _ _ => rfl) (fun _ _ => rfl), (Only.refl _ _).drewN m⟩
      clear h hb hsm hr c0 c1 c2 c3 c5 h64
      go_enter Try.func12, Try.ntmps12
      go_wp2_with fail
      refine HR.out.mono ?_
      rintro e w1 ⟨rfl, m, rfl⟩
      obtain ⟨vo', k1, k2⟩ := HF.out m
      have HF : Hid (RefAt (w.drewN m) B g r vo' vw ∧ Only (RIn g (.slice Ao r.opens.length co) vw) w (w.drewN m)) := ⟨k1, k2⟩
      clear k1 k2
      go_wp2
      go_ret2
      exact ⟨vo', rfl, HF.out⟩
    · rw [if_neg h64]
      have h64i : ((r.opens.length : Int) == 64) = false := by rw [beq_eq_false_iff_ne]; omega
      have HFr0 : Hid (∀ V : World, Calls Try.prog 31 #[.int .i64 r.me, .int .i64 r.peer, .int .i64 1, .int .i64 ((r.sent : Int) + 1), .slice (some ⟨V.heap.size, 0, none⟩) 1 1] ((V.alloc (.cells #[.string ⟨body.toArray⟩] 9))) (Pair2 (V.alloc (.cells #[.string ⟨body.toArray⟩] 9)) (frameL r.me r.peer 1 (r.sent + 1) [body]))) := fun V =>
        frame7_calls h1 h8 hp8 1 (r.sent + 1) _ [body] _ (rowA_one (World.alloc_heap_new V _) (by unfold maxLen; omega)) (fun n c e => by cases e) (by simp) hsm
      have HH := Lib.hid h
      generalize frameL r.me r.peer 1 (r.sent + 1) [body] = fr at *
      obtain ⟨ft, fe⟩ := fr
      dsimp only
      clear h hb hsm hr h64 c0 c1 c2 c3 c5
      by_cases hf0 : fe = 0
      · rw [if_pos hf0]
        go_enter Try.func12, Try.ntmps12
        go_wp2_with fail
        refine HR.out.mono ?_
        rintro e w1 ⟨rfl, m, rfl⟩
        have h1 : RefAt (w.drewN m) B g r (.slice Ao r.opens.length co) vw := HH.out.same rfl (fun _ _ => rfl) (fun _ _ => rfl)
        obtain ⟨V, hV⟩ : ∃ V, w.drewN m = V := ⟨_, rfl⟩
        rw [hV] at h1
        have hVw : Only (RIn g (.slice Ao r.opens.length co) vw) w V := by rw [← hV]; exact (Only.refl _ _).drewN m
        have hVB : B ≤ V.heap.size := by rw [← hV]; exact hB
        obtain ⟨d0, d1, d2, d3, d4, d5⟩ := h1.cells
        have bA : Below V.heap.size V (V.drew.alloc (.cells #[.string ⟨body.toArray⟩] 9)) := (Below.refl _ V).drew.alloc (Nat.le_refl _) _
        have hgV := h1.lt
        have HC5 : Hid ((V.drew.cell? ⟨g, 0, none⟩ = some (.int .i64 r.me) ∧ V.drew.cell? ⟨g, 1, none⟩ = some (.int .i64 r.peer) ∧ V.drew.cell? ⟨g, 2, none⟩ = some (.int .i64 r.sent)) ∧ (V.drew.alloc (.cells #[.string ⟨body.toArray⟩] 9)).cell? ⟨g, 0, none⟩ = some (.int .i64 r.me) ∧ (V.drew.alloc (.cells #[.string ⟨body.toArray⟩] 9)).cell? ⟨g, 1, none⟩ = some (.int .i64 r.peer) ∧ (V.drew.alloc (.cells #[.string ⟨body.toArray⟩] 9)).cell? ⟨g, 2, none⟩ = some (.int .i64 r.sent)) :=
          ⟨⟨d0, d1, d2⟩, (bA.cell (p := ⟨g, 0, none⟩) hgV).trans d0, (bA.cell (p := ⟨g, 1, none⟩) hgV).trans d1, (bA.cell (p := ⟨g, 2, none⟩) hgV).trans d2⟩
        have HFr := Lib.hid (HFr0.out V.drew)
        have HB1n : Hid (∀ w2, Below (V.drew.alloc (.cells #[.string ⟨body.toArray⟩] 9)).heap.size (V.drew.alloc (.cells #[.string ⟨body.toArray⟩] 9)) w2 → Below V.heap.size V w2) := fun w2 b => bA.trans (b.mono bA.size)
        have HCk : Hid (∀ w2, Below (V.drew.alloc (.cells #[.string ⟨body.toArray⟩] 9)).heap.size (V.drew.alloc (.cells #[.string ⟨body.toArray⟩] 9)) w2 → w2.cell? ⟨g, 0, none⟩ = some (.int .i64 r.me) ∧ w2.cell? ⟨g, 1, none⟩ = some (.int .i64 r.peer) ∧ w2.cell? ⟨g, 2, none⟩ = some (.int .i64 r.sent)) := fun w2 b =>
          ⟨((bA.trans (b.mono bA.size)).cell (p := ⟨g, 0, none⟩) hgV).trans d0, ((bA.trans (b.mono bA.size)).cell (p := ⟨g, 1, none⟩) hgV).trans d1, ((bA.trans (b.mono bA.size)).cell (p := ⟨g, 2, none⟩) hgV).trans d2⟩
        have HH1 := Lib.hid h1
        have HV := Lib.hid (And.intro hVw hVB)
        have hwr : IntKind.i64.wrap ((r.sent : Int) + 1) = (r.sent : Int) + 1 := by rw [IntKind.wrap_i64]; omega
        clear h1 bA hVw hVB d3 d5 HFr0 HR HH
        unfold Pair2 at HFr
        dsimp only at HFr
        go_wp2
        refine wp_region_held_drew (S := (fun w' => w'.cell? ⟨g, 0, none⟩ = some (.int .i64 r.me) ∧ w'.cell? ⟨g, 1, none⟩ = some (.int .i64 r.peer) ∧ w'.cell? ⟨g, 2, none⟩ = some (.int .i64 r.sent))) (by kernel_rfl) ?_ (fun hHeld => ?_)
        · exact HC5.out.1
        refine wpAnyH_take (i := 0) (v := ?_) rfl (by kernel_rfl) (by kernel_rfl) (by kernel_rfl) (fun _ _ _ h => h) (Or.inl ⟨by rfl, ?_⟩) (by assumption) ?_
        rotate_left 1
        · (intro w hSw; (try dsimp only at hSw); go_simp; try with_reducible rfl)
        try simp only [List.getElem_toArray, List.getElem_cons_zero, Act.put, List.setIfInBounds_toArray, List.set_cons_zero, List.set_cons_succ]
        refine wpAnyH_take (i := 1) (v := ?_) rfl (by kernel_rfl) (by kernel_rfl) (by kernel_rfl) (fun _ _ _ h => h) (Or.inl ⟨by rfl, ?_⟩) (by assumption) ?_
        rotate_left 1
        · (intro w hSw; (try dsimp only at hSw); go_simp; try with_reducible rfl)
        try simp only [List.getElem_toArray, List.getElem_cons_zero, List.getElem_cons_succ, Act.put, List.setIfInBounds_toArray, List.set_cons_zero, List.set_cons_succ]
        refine wpAnyH_take (i := 2) (v := ?_) rfl (by kernel_rfl) (by kernel_rfl) (by kernel_rfl) (fun _ _ _ h => h) (Or.inl ⟨by rfl, ?_⟩) (by assumption) ?_
        rotate_left 1
        · (intro w hSw; (try dsimp only at hSw); go_simp; try with_reducible rfl)
        try simp only [List.getElem_toArray, List.getElem_cons_zero, List.getElem_cons_succ, Act.put, List.setIfInBounds_toArray, List.set_cons_zero, List.set_cons_succ]
        refine wpAnyH_take (i := 3) (v := ?_) rfl (by kernel_rfl) (by kernel_rfl) (by kernel_rfl) (fun _ _ _ h => h) (Or.inl ⟨by rfl, ?_⟩) (by assumption) ?_
        rotate_left 1
        · (intro w hSw; (try dsimp only at hSw); go_simp; try with_reducible rfl)
        try simp only [List.getElem_toArray, List.getElem_cons_zero, List.getElem_cons_succ, Act.put, List.setIfInBounds_toArray, List.set_cons_zero, List.set_cons_succ]
        refine wpAnyH_take (i := 4) (v := ?_) rfl (by kernel_rfl) (by kernel_rfl) (by kernel_rfl) (fun _ _ _ h => h) (Or.inl ⟨by rfl, ?_⟩) (by assumption) ?_
        rotate_left 1
        · (intro w hSw; (try dsimp only at hSw); go_simp; try with_reducible rfl)
        try simp only [List.getElem_toArray, List.getElem_cons_zero, List.getElem_cons_succ, Act.put, List.setIfInBounds_toArray, List.set_cons_zero, List.set_cons_succ]
        refine wpAnyH_take (i := 5) (v := ?_) rfl (by kernel_rfl) (by kernel_rfl) (by kernel_rfl) (fun _ _ _ h => h) (Or.inl ⟨by rfl, ?_⟩) (by assumption) ?_
        rotate_left 1
        · (intro w hSw; (try dsimp only at hSw); go_simp; try with_reducible rfl)
        try simp only [List.getElem_toArray, List.getElem_cons_zero, List.getElem_cons_succ, Act.put, List.setIfInBounds_toArray, List.set_cons_zero, List.set_cons_succ]
        refine wpAnyH_take (i := 6) (v := ?_) rfl (by kernel_rfl) (by kernel_rfl) (by kernel_rfl) (fun _ _ _ h => h) (Or.inl ⟨by rfl, ?_⟩) (by assumption) ?_
        rotate_left 1
        · (intro w hSw; (try dsimp only at hSw); go_simp; try with_reducible rfl)
        try simp only [List.getElem_toArray, List.getElem_cons_zero, List.getElem_cons_succ, Act.put, List.setIfInBounds_toArray, List.set_cons_zero, List.set_cons_succ]
        refine wpAnyH_take (i := 7) (v := ?_) rfl (by kernel_rfl) (by kernel_rfl) (by kernel_rfl) (fun _ _ _ h => h) (Or.inl ⟨by rfl, ?_⟩) (by assumption) ?_
        rotate_left 1
        · (intro w hSw; (try dsimp only at hSw); go_simp; try with_reducible rfl)
        try simp only [List.getElem_toArray, List.getElem_cons_zero, List.getElem_cons_succ, Act.put, List.setIfInBounds_toArray, List.set_cons_zero, List.set_cons_succ]
        refine wpAnyH_take (i := 8) (v := ?_) rfl (by kernel_rfl) (by kernel_rfl) (by kernel_rfl) (fun _ _ _ h => h) (Or.inl ⟨by rfl, ?_⟩) (by assumption) ?_
        rotate_left 1
        · (intro w hSw; (try dsimp only at hSw); go_simp; try with_reducible rfl)
        try simp only [List.getElem_toArray, List.getElem_cons_zero, List.getElem_cons_succ, Act.put, List.setIfInBounds_toArray, List.set_cons_zero, List.set_cons_succ]
        refine wpAnyH_take (i := 9) (v := ?_) rfl (by kernel_rfl) (by kernel_rfl) (by kernel_rfl) (fun _ _ _ h => h) (Or.inl ⟨by rfl, ?_⟩) (by assumption) ?_
        rotate_left 1
        · (intro w hSw; (try dsimp only at hSw); go_simp; try with_reducible rfl)
        try simp only [List.getElem_toArray, List.getElem_cons_zero, List.getElem_cons_succ, Act.put, List.setIfInBounds_toArray, List.set_cons_zero, List.set_cons_succ]
        refine wpAnyH_take (i := 10) (v := ?_) rfl (by kernel_rfl) (by kernel_rfl) (by kernel_rfl) (fun _ _ _ h => h) (Or.inl ⟨by rfl, ?_⟩) (by assumption) ?_
        rotate_left 1
        · (intro w hSw; (try dsimp only at hSw); go_simp; try with_reducible rfl)
        try simp only [List.getElem_toArray, List.getElem_cons_zero, List.getElem_cons_succ, Act.put, List.setIfInBounds_toArray, List.set_cons_zero, List.set_cons_succ]
        refine wpAnyH_take (i := 11) (v := ?_) rfl (by kernel_rfl) (by kernel_rfl) (by kernel_rfl) (fun _ _ _ h => h) (Or.inl ⟨by rfl, ?_⟩) (by assumption) ?_
        rotate_left 1
        · (intro w hSw; (try dsimp only at hSw); go_simp; try with_reducible rfl)
        try simp only [List.getElem_toArray, List.getElem_cons_zero, List.getElem_cons_succ, Act.put, List.setIfInBounds_toArray, List.set_cons_zero, List.set_cons_succ]
        refine wpAnyH_take (i := 12) (v := ?_) rfl (by kernel_rfl) (by kernel_rfl) (by kernel_rfl) (fun _ _ _ h => h) (Or.inl ⟨by rfl, ?_⟩) (by assumption) ?_
        rotate_left 1
        · (intro w hSw; (try dsimp only at hSw); go_simp; try with_reducible rfl)
        try simp only [List.getElem_toArray, List.getElem_cons_zero, List.getElem_cons_succ, Act.put, List.setIfInBounds_toArray, List.set_cons_zero, List.set_cons_succ]
        refine wpAnyH_take (i := 13) (v := ?_) rfl (by kernel_rfl) (by kernel_rfl) (by kernel_rfl) (fun _ _ _ h => h) (Or.inl ⟨by rfl, ?_⟩) (by assumption) ?_
        rotate_left 1
        · (intro w hSw; (try dsimp only at hSw); go_simp; try with_reducible rfl)
        try simp only [List.getElem_toArray, List.getElem_cons_zero, List.getElem_cons_succ, Act.put, List.setIfInBounds_toArray, List.set_cons_zero, List.set_cons_succ]
        refine wpAnyH_ready (rs := [14]) (by kernel_rfl) (by simp) ?_
        refine AllReadyH.cons rfl (fun K hK => ?_) AllReadyH.nil
        try simp only [List.getElem_toArray, List.getElem_cons_zero, List.getElem_cons_succ]
        go_simp
        refine hK.out _ _ ?_ (fun hHeld => ?_)
        · exact HC5.out.2
        clear hK K
        try simp only [List.getElem_toArray, List.getElem_cons_zero, List.getElem_cons_succ, Act.put, List.setIfInBounds_toArray, List.set_cons_zero, List.set_cons_succ]
        refine wpAnyH_ready (rs := [15]) (by kernel_rfl) (by simp) ?_
        refine AllReadyH.cons rfl (fun K hK => ?_) AllReadyH.nil
        try simp only [List.getElem_toArray, List.getElem_cons_zero, List.getElem_cons_succ]
        (go_simp; go_at_call 31; refine HFr.out.mono ?_; rintro e w2 ⟨rfl, b2⟩; have HB2 := Lib.hid (HB1n.out w2 b2); have HC2 := Lib.hid (HCk.out w2 b2); clear b2)
        refine hK.out _ _ ?_ (fun hHeld => ?_)
        · exact HC2.out
        clear hK K
        try simp only [List.getElem_toArray, List.getElem_cons_zero, List.getElem_cons_succ, Act.put, List.setIfInBounds_toArray, List.set_cons_zero, List.set_cons_succ]
        refine wpAnyH_take (i := 16) (v := ?_) rfl (by kernel_rfl) (by kernel_rfl) (by kernel_rfl) (fun _ _ _ h => h) (Or.inl ⟨by rfl, ?_⟩) (by assumption) ?_
        rotate_left 1
        · (intro w hSw; (try dsimp only at hSw); go_simp; try with_reducible rfl)
        try simp only [List.getElem_toArray, List.getElem_cons_zero, List.getElem_cons_succ, Act.put, List.setIfInBounds_toArray, List.set_cons_zero, List.set_cons_succ]
        refine wpAnyH_take (i := 17) (v := ?_) rfl (by kernel_rfl) (by kernel_rfl) (by kernel_rfl) (fun _ _ _ h => h) (Or.inl ⟨by rfl, ?_⟩) (by assumption) ?_
        rotate_left 1
        · (intro w hSw; (try dsimp only at hSw); go_simp; try with_reducible rfl)
        try simp only [List.getElem_toArray, List.getElem_cons_zero, List.getElem_cons_succ, Act.put, List.setIfInBounds_toArray, List.set_cons_zero, List.set_cons_succ]
        refine wpAnyH_take (i := 18) (v := ?_) rfl (by kernel_rfl) (by kernel_rfl) (by kernel_rfl) (fun _ _ _ h => h) (Or.inl ⟨by rfl, ?_⟩) (by assumption) ?_
        rotate_left 1
        · (intro w hSw; (try dsimp only at hSw); go_simp; try with_reducible rfl)
        try simp only [List.getElem_toArray, List.getElem_cons_zero, List.getElem_cons_succ, Act.put, List.setIfInBounds_toArray, List.set_cons_zero, List.set_cons_succ]
        refine wpAnyH_take (i := 19) (v := ?_) rfl (by kernel_rfl) (by kernel_rfl) (by kernel_rfl) (fun _ _ _ h => h) (Or.inl ⟨by rfl, ?_⟩) (by assumption) ?_
        rotate_left 1
        · (intro w hSw; (try dsimp only at hSw); go_simp; try with_reducible rfl)
        try simp only [List.getElem_toArray, List.getElem_cons_zero, List.getElem_cons_succ, Act.put, List.setIfInBounds_toArray, List.set_cons_zero, List.set_cons_succ]
        refine wpAnyH_take (i := 20) (v := ?_) rfl (by kernel_rfl) (by kernel_rfl) (by kernel_rfl) (fun _ _ _ h => h) (Or.inl ⟨by rfl, ?_⟩) (by assumption) ?_
        rotate_left 1
        · (intro w hSw; (try dsimp only at hSw); go_simp; try with_reducible rfl)
        try simp only [List.getElem_toArray, List.getElem_cons_zero, List.getElem_cons_succ, Act.put, List.setIfInBounds_toArray, List.set_cons_zero, List.set_cons_succ]
        refine wpAnyH_done (by kernel_rfl) ?_ _
        clear HFr HCk HC2 HC5 HB1n d0 d1 d2 d4 c4
        have hR2 := HH1.out.below HB2.out
        obtain ⟨e0, e1, e2, e3, e4, e5⟩ := hR2.cells
        have hf2 := hR2.froze 2
        have hf0i : ((fe : Int) != 0) = false := by simp; omega
        have hap := hR2.apart
        have hgl := hR2.lt
        obtain ⟨V2, hV2⟩ : ∃ V2, w2.setCell ⟨g, 2, none⟩ (.int .i64 ((r.sent : Int) + 1)) = V2 := ⟨_, rfl⟩
        have hR3 : RefAt V2 B g { r with sent := r.sent + 1 } (.slice Ao r.opens.length co) vw := by
          have k := blk_set6 (j := 2) hR2.own (.int .i64 ((r.sent : Int) + 1))
          rw [rs2] at k
          have kk : ∀ q, q ≠ g → V2.heap[q]? = w2.heap[q]? := fun q hq => by rw [← hV2]; exact Below.heap_setCell _ _ _ _ (by show q ≠ g; exact hq)
          refine ⟨?_, hR2.base, L5.own_same hR2.opens (fun q e => kk q (fun e' => hap.1 (by rw [e, e']))), L5.own_same hR2.wait (fun q e => kk q (fun e' => hap.2 (by rw [e, e']))), hR2.sep⟩
          rw [← hV2]
          exact k
        have hO3 : Only (RIn g (.slice Ao r.opens.length co) vw) w V2 := by
          rw [← hV2]
          exact (HV.out.1.trans (Only.of_below HB2.out)).setCell (.inl (.inl rfl)) _
        have hB3 : B ≤ V2.heap.size := by
          have := HV.out.2
          have h2 := HB2.out.size
          have : V2.heap.size = w2.heap.size := by rw [← hV2]; simp
          omega
        obtain ⟨f0, f1, f2, f3, f4, f5⟩ := hR3.cells
        have hgl3 := hR3.lt
        have bA : Below V2.heap.size V2 (V2.drew.alloc (.cells #[.int .i64 ((r.sent : Int) + 1), .string ⟨body.toArray⟩] 80)) := (Below.refl _ V2).drew.alloc (Nat.le_refl _) _
        have g4 := (bA.cell (p := ⟨g, 4, none⟩) hgl3).trans f4
        have hR4 := hR3.below bA
        have HR4 := Lib.hid hR4
        have HNews : Hid (∀ (j : Nat) (u : Value), [(Value.int .i64 ((r.sent : Int) + 1)), .string ⟨body.toArray⟩][j]? = some u → (V2.drew.alloc (.cells #[.int .i64 ((r.sent : Int) + 1), .string ⟨body.toArray⟩] 80)).cell? ((⟨V2.heap.size, 0, none⟩ : Addr).add j) = some u) :=
          World.news_of_block (cs := #[.int .i64 ((r.sent : Int) + 1), .string ⟨body.toArray⟩]) (t := 80) (fr := (0, 0)) (heap_alloc_new V2.drew _)
        have hBA : B ≤ (V2.drew.alloc (.cells #[.int .i64 ((r.sent : Int) + 1), .string ⟨body.toArray⟩] 80)).heap.size := Nat.le_trans hB3 bA.size
        have HEnd : Hid (∀ v3 w3, w3.ownsRow B 80 2 v3 (r.opens.length + 1) (flatI r.opens ++ [.int .i64 ((r.sent : Int) + 1), .string ⟨body.toArray⟩]) → (V2.drew.alloc (.cells #[.int .i64 ((r.sent : Int) + 1), .string ⟨body.toArray⟩] 80)).grownBy w3 (Value.slice Ao r.opens.length co).ownBlock → (∀ q, v3.ownBlock = some q → vw.ownBlock ≠ some q) →
            w3.cell? ⟨g, 4, none⟩ = some (.slice Ao r.opens.length co) ∧ w3.frozen? ⟨g, 4, none⟩ = false ∧ RefAt (w3.setCell ⟨g, 4, none⟩ v3) B g { r with sent := r.sent + 1, opens := r.opens ++ [(r.sent + 1, body)] } v3 vw ∧ Only (RIn g (.slice Ao r.opens.length co) vw) w (w3.setCell ⟨g, 4, none⟩ v3)) := fun v3 w3 k1 k2 k3 => by
          have ha4 := hR4.apart
          have hg4 := hR4.lt
          have own3 : w3.heap[g]? = some (.cells (refCells r.me r.peer (r.sent + 1) r.taken (.slice Ao r.opens.length co) vw) 73 (0, 0)) := (k2.block g hg4 (fun e => ha4.1 e.symm)).trans hR4.own
          have w3row : w3.ownsRow B 80 2 vw r.wait.length (flatI r.wait) := L5.own_same hR4.wait (fun q e => k2.block q (hR4.wait.lt q e).2 (fun e' => hR4.sep q e'.symm e))
          have v3g : v3.ownBlock ≠ some g := by
            intro e
            rcases k1.2 with ⟨rfl, _⟩ | ⟨q, cap, cur, rfl, _, h2, _⟩
            · cases e
            · obtain rfl : q = g := by cases e; rfl
              rw [own3] at h2
              simp at h2
          have vwg : vw.ownBlock ≠ some g := ha4.2
          refine ⟨by simp only [World.cell?]; rw [own3]; rfl, by simp only [World.frozen?]; rw [own3]; simp, ⟨by have k := blk_set6 (j := 4) own3 v3; rw [rs4] at k; exact k, hR4.base, ?_, ?_, k3⟩, ?_⟩
          · have e : flatI (r.opens ++ [(r.sent + 1, body)]) = flatI r.opens ++ [.int .i64 ((r.sent : Int) + 1), .string ⟨body.toArray⟩] := flatI_snoc _ _ _
            show (w3.setCell ⟨g, 4, none⟩ v3).ownsRow B _ 2 v3 (r.opens ++ [(r.sent + 1, body)]).length (flatI (r.opens ++ [(r.sent + 1, body)]))
            rw [e, List.length_append]
            exact L5.own_same k1 (fun q e => Below.heap_setCell _ _ _ _ (by show q ≠ g; intro e'; exact v3g (by rw [e, e'])))
          · exact L5.own_same w3row (fun q e => Below.heap_setCell _ _ _ _ (by show q ≠ g; intro e'; exact vwg (by rw [e, e'])))
          · refine Only.setCell ?_ (.inl (.inl rfl)) _
            have o4 : Only (RIn g (.slice Ao r.opens.length co) vw) w (V2.drew.alloc (.cells #[.int .i64 ((r.sent : Int) + 1), .string ⟨body.toArray⟩] 80)) := hO3.trans (Only.of_below bA)
            exact ⟨k2.os.trans o4.os, k2.tape.trans o4.tape, k2.output.trans o4.output, Nat.le_trans o4.size k2.size, fun k hk hn => (k2.block k (Nat.lt_of_lt_of_le hk o4.size) (fun e => hn (.inr (.inl e.symm)))).trans (o4.block k hk hn)⟩
        have HSep : Hid (∀ q, vw.ownBlock = some q → q < V2.heap.size) := fun q e => (hR3.wait.lt q e).2
        have hsep := Lib.hid hR3.sep
        have hz2s : V2.heap.size + 1 ≤ (V2.drew.alloc (.cells #[.int .i64 ((r.sent : Int) + 1), .string ⟨body.toArray⟩] 80)).heap.size := by rw [World.size_alloc]; exact Nat.le_refl _
        have hzA : (V2.drew.alloc (.cells #[.int .i64 ((r.sent : Int) + 1), .string ⟨body.toArray⟩] 80)).heap.size = V2.heap.size + 1 := by rw [World.size_alloc]; rfl
        clear hR2 hR3 hR4 hO3 hB3 bA hap hgl HH1 e0 e1 e3 e4 e5 f0 f1 f3 f5 HV HB2 hz2s
        go_wp2
        go_region_law (first
          | (refine step_append_lies _ rfl (.tmp 50) (.tmp 57) 71 rfl B 80 i0 (.agg #[.int .i64 0, .string ⟨#[]⟩]) 2 24 Try.underlying71 hi hz0 hz1 hz2 rfl (by decide) (.slice Ao r.opens.length co) r.opens.length (flatI r.opens) (by simp [Act.eval]) HR4.out.opens ⟨V2.heap.size, 0, none⟩ 1 1 [.int .i64 ((r.sent : Int) + 1), .string ⟨body.toArray⟩] (by simp [Act.eval]) rfl HNews.out (by simp [Value.oneCell']) (by decide) (by unfold maxLen; omega) (by omega) hBA (V2.heap.size + 1) hzA ?_
             intro gg cc w3 k1 k2 k3 k4
             obtain ⟨j4, jf, jr⟩ := HEnd.out _ w3 k1 k2 (fun q e e' => by
               have e2 : gg = q := by cases e; rfl
               rcases k3 with k3 | k3
               · exact hsep.out q (by rw [k3, e2]) e'
               · have := HSep.out q e'
                 omega)
             clear k1 k2 k3 k4))
        all_goals
          have HJ := Lib.hid jr
          clear jr HEnd HNews HR4
          go_wp2
          go_ret2
          refine ⟨.slice (some ⟨gg, 0, none⟩) (r.opens.length + 1) cc, ?_, ?_⟩
          · dsimp only
            rw [hf0]
            rfl
          · exact HJ.out
      · rw [if_neg hf0]
        go_enter Try.func12, Try.ntmps12
        go_wp2_with fail
        refine HR.out.mono ?_
        rintro e w1 ⟨rfl, m, rfl⟩
        have h1 : RefAt (w.drewN m) B g r (.slice Ao r.opens.length co) vw := HH.out.same rfl (fun _ _ => rfl) (fun _ _ => rfl)
        obtain ⟨V, hV⟩ : ∃ V, w.drewN m = V := ⟨_, rfl⟩
        rw [hV] at h1
        have hVw : Only (RIn g (.slice Ao r.opens.length co) vw) w V := by rw [← hV]; exact (Only.refl _ _).drewN m
        have hVB : B ≤ V.heap.size := by rw [← hV]; exact hB
        obtain ⟨d0, d1, d2, d3, d4, d5⟩ := h1.cells
        have bA : Below V.heap.size V (V.drew.alloc (.cells #[.string ⟨body.toArray⟩] 9)) := (Below.refl _ V).drew.alloc (Nat.le_refl _) _
        have hgV := h1.lt
        have HC5 : Hid ((V.drew.cell? ⟨g, 0, none⟩ = some (.int .i64 r.me) ∧ V.drew.cell? ⟨g, 1, none⟩ = some (.int .i64 r.peer) ∧ V.drew.cell? ⟨g, 2, none⟩ = some (.int .i64 r.sent)) ∧ (V.drew.alloc (.cells #[.string ⟨body.toArray⟩] 9)).cell? ⟨g, 0, none⟩ = some (.int .i64 r.me) ∧ (V.drew.alloc (.cells #[.string ⟨body.toArray⟩] 9)).cell? ⟨g, 1, none⟩ = some (.int .i64 r.peer) ∧ (V.drew.alloc (.cells #[.string ⟨body.toArray⟩] 9)).cell? ⟨g, 2, none⟩ = some (.int .i64 r.sent)) :=
          ⟨⟨d0, d1, d2⟩, (bA.cell (p := ⟨g, 0, none⟩) hgV).trans d0, (bA.cell (p := ⟨g, 1, none⟩) hgV).trans d1, (bA.cell (p := ⟨g, 2, none⟩) hgV).trans d2⟩
        have HFr := Lib.hid (HFr0.out V.drew)
        have HB1n : Hid (∀ w2, Below (V.drew.alloc (.cells #[.string ⟨body.toArray⟩] 9)).heap.size (V.drew.alloc (.cells #[.string ⟨body.toArray⟩] 9)) w2 → Below V.heap.size V w2) := fun w2 b => bA.trans (b.mono bA.size)
        have HCk : Hid (∀ w2, Below (V.drew.alloc (.cells #[.string ⟨body.toArray⟩] 9)).heap.size (V.drew.alloc (.cells #[.string ⟨body.toArray⟩] 9)) w2 → w2.cell? ⟨g, 0, none⟩ = some (.int .i64 r.me) ∧ w2.cell? ⟨g, 1, none⟩ = some (.int .i64 r.peer) ∧ w2.cell? ⟨g, 2, none⟩ = some (.int .i64 r.sent)) := fun w2 b =>
          ⟨((bA.trans (b.mono bA.size)).cell (p := ⟨g, 0, none⟩) hgV).trans d0, ((bA.trans (b.mono bA.size)).cell (p := ⟨g, 1, none⟩) hgV).trans d1, ((bA.trans (b.mono bA.size)).cell (p := ⟨g, 2, none⟩) hgV).trans d2⟩
        have HH1 := Lib.hid h1
        have HV := Lib.hid (And.intro hVw hVB)
        have hwr : IntKind.i64.wrap ((r.sent : Int) + 1) = (r.sent : Int) + 1 := by rw [IntKind.wrap_i64]; omega
        clear h1 bA hVw hVB d3 d5 HFr0 HR HH
        unfold Pair2 at HFr
        dsimp only at HFr
        go_wp2
        refine wp_region_held_drew (S := (fun w' => w'.cell? ⟨g, 0, none⟩ = some (.int .i64 r.me) ∧ w'.cell? ⟨g, 1, none⟩ = some (.int .i64 r.peer) ∧ w'.cell? ⟨g, 2, none⟩ = some (.int .i64 r.sent))) (by kernel_rfl) ?_ (fun hHeld => ?_)
        · exact HC5.out.1
        refine wpAnyH_take (i := 0) (v := ?_) rfl (by kernel_rfl) (by kernel_rfl) (by kernel_rfl) (fun _ _ _ h => h) (Or.inl ⟨by rfl, ?_⟩) (by assumption) ?_
        rotate_left 1
        · (intro w hSw; (try dsimp only at hSw); go_simp; try with_reducible rfl)
        try simp only [List.getElem_toArray, List.getElem_cons_zero, Act.put, List.setIfInBounds_toArray, List.set_cons_zero, List.set_cons_succ]
        refine wpAnyH_take (i := 1) (v := ?_) rfl (by kernel_rfl) (by kernel_rfl) (by kernel_rfl) (fun _ _ _ h => h) (Or.inl ⟨by rfl, ?_⟩) (by assumption) ?_
        rotate_left 1
        · (intro w hSw; (try dsimp only at hSw); go_simp; try with_reducible rfl)
        try simp only [List.getElem_toArray, List.getElem_cons_zero, List.getElem_cons_succ, Act.put, List.setIfInBounds_toArray, List.set_cons_zero, List.set_cons_succ]
        refine wpAnyH_take (i := 2) (v := ?_) rfl (by kernel_rfl) (by kernel_rfl) (by kernel_rfl) (fun _ _ _ h => h) (Or.inl ⟨by rfl, ?_⟩) (by assumption) ?_
        rotate_left 1
        · (intro w hSw; (try dsimp only at hSw); go_simp; try with_reducible rfl)
        try simp only [List.getElem_toArray, List.getElem_cons_zero, List.getElem_cons_succ, Act.put, List.setIfInBounds_toArray, List.set_cons_zero, List.set_cons_succ]
        refine wpAnyH_take (i := 3) (v := ?_) rfl (by kernel_rfl) (by kernel_rfl) (by kernel_rfl) (fun _ _ _ h => h) (Or.inl ⟨by rfl, ?_⟩) (by assumption) ?_
        rotate_left 1
        · (intro w hSw; (try dsimp only at hSw); go_simp; try with_reducible rfl)
        try simp only [List.getElem_toArray, List.getElem_cons_zero, List.getElem_cons_succ, Act.put, List.setIfInBounds_toArray, List.set_cons_zero, List.set_cons_succ]
        refine wpAnyH_take (i := 4) (v := ?_) rfl (by kernel_rfl) (by kernel_rfl) (by kernel_rfl) (fun _ _ _ h => h) (Or.inl ⟨by rfl, ?_⟩) (by assumption) ?_
        rotate_left 1
        · (intro w hSw; (try dsimp only at hSw); go_simp; try with_reducible rfl)
        try simp only [List.getElem_toArray, List.getElem_cons_zero, List.getElem_cons_succ, Act.put, List.setIfInBounds_toArray, List.set_cons_zero, List.set_cons_succ]
        refine wpAnyH_take (i := 5) (v := ?_) rfl (by kernel_rfl) (by kernel_rfl) (by kernel_rfl) (fun _ _ _ h => h) (Or.inl ⟨by rfl, ?_⟩) (by assumption) ?_
        rotate_left 1
        · (intro w hSw; (try dsimp only at hSw); go_simp; try with_reducible rfl)
        try simp only [List.getElem_toArray, List.getElem_cons_zero, List.getElem_cons_succ, Act.put, List.setIfInBounds_toArray, List.set_cons_zero, List.set_cons_succ]
        refine wpAnyH_take (i := 6) (v := ?_) rfl (by kernel_rfl) (by kernel_rfl) (by kernel_rfl) (fun _ _ _ h => h) (Or.inl ⟨by rfl, ?_⟩) (by assumption) ?_
        rotate_left 1
        · (intro w hSw; (try dsimp only at hSw); go_simp; try with_reducible rfl)
        try simp only [List.getElem_toArray, List.getElem_cons_zero, List.getElem_cons_succ, Act.put, List.setIfInBounds_toArray, List.set_cons_zero, List.set_cons_succ]
        refine wpAnyH_take (i := 7) (v := ?_) rfl (by kernel_rfl) (by kernel_rfl) (by kernel_rfl) (fun _ _ _ h => h) (Or.inl ⟨by rfl, ?_⟩) (by assumption) ?_
        rotate_left 1
        · (intro w hSw; (try dsimp only at hSw); go_simp; try with_reducible rfl)
        try simp only [List.getElem_toArray, List.getElem_cons_zero, List.getElem_cons_succ, Act.put, List.setIfInBounds_toArray, List.set_cons_zero, List.set_cons_succ]
        refine wpAnyH_take (i := 8) (v := ?_) rfl (by kernel_rfl) (by kernel_rfl) (by kernel_rfl) (fun _ _ _ h => h) (Or.inl ⟨by rfl, ?_⟩) (by assumption) ?_
        rotate_left 1
        · (intro w hSw; (try dsimp only at hSw); go_simp; try with_reducible rfl)
        try simp only [List.getElem_toArray, List.getElem_cons_zero, List.getElem_cons_succ, Act.put, List.setIfInBounds_toArray, List.set_cons_zero, List.set_cons_succ]
        refine wpAnyH_take (i := 9) (v := ?_) rfl (by kernel_rfl) (by kernel_rfl) (by kernel_rfl) (fun _ _ _ h => h) (Or.inl ⟨by rfl, ?_⟩) (by assumption) ?_
        rotate_left 1
        · (intro w hSw; (try dsimp only at hSw); go_simp; try with_reducible rfl)
        try simp only [List.getElem_toArray, List.getElem_cons_zero, List.getElem_cons_succ, Act.put, List.setIfInBounds_toArray, List.set_cons_zero, List.set_cons_succ]
        refine wpAnyH_take (i := 10) (v := ?_) rfl (by kernel_rfl) (by kernel_rfl) (by kernel_rfl) (fun _ _ _ h => h) (Or.inl ⟨by rfl, ?_⟩) (by assumption) ?_
        rotate_left 1
        · (intro w hSw; (try dsimp only at hSw); go_simp; try with_reducible rfl)
        try simp only [List.getElem_toArray, List.getElem_cons_zero, List.getElem_cons_succ, Act.put, List.setIfInBounds_toArray, List.set_cons_zero, List.set_cons_succ]
        refine wpAnyH_take (i := 11) (v := ?_) rfl (by kernel_rfl) (by kernel_rfl) (by kernel_rfl) (fun _ _ _ h => h) (Or.inl ⟨by rfl, ?_⟩) (by assumption) ?_
        rotate_left 1
        · (intro w hSw; (try dsimp only at hSw); go_simp; try with_reducible rfl)
        try simp only [List.getElem_toArray, List.getElem_cons_zero, List.getElem_cons_succ, Act.put, List.setIfInBounds_toArray, List.set_cons_zero, List.set_cons_succ]
        refine wpAnyH_take (i := 12) (v := ?_) rfl (by kernel_rfl) (by kernel_rfl) (by kernel_rfl) (fun _ _ _ h => h) (Or.inl ⟨by rfl, ?_⟩) (by assumption) ?_
        rotate_left 1
        · (intro w hSw; (try dsimp only at hSw); go_simp; try with_reducible rfl)
        try simp only [List.getElem_toArray, List.getElem_cons_zero, List.getElem_cons_succ, Act.put, List.setIfInBounds_toArray, List.set_cons_zero, List.set_cons_succ]
        refine wpAnyH_take (i := 13) (v := ?_) rfl (by kernel_rfl) (by kernel_rfl) (by kernel_rfl) (fun _ _ _ h => h) (Or.inl ⟨by rfl, ?_⟩) (by assumption) ?_
        rotate_left 1
        · (intro w hSw; (try dsimp only at hSw); go_simp; try with_reducible rfl)
        try simp only [List.getElem_toArray, List.getElem_cons_zero, List.getElem_cons_succ, Act.put, List.setIfInBounds_toArray, List.set_cons_zero, List.set_cons_succ]
        refine wpAnyH_ready (rs := [14]) (by kernel_rfl) (by simp) ?_
        refine AllReadyH.cons rfl (fun K hK => ?_) AllReadyH.nil
        try simp only [List.getElem_toArray, List.getElem_cons_zero, List.getElem_cons_succ]
        go_simp
        refine hK.out _ _ ?_ (fun hHeld => ?_)
        · exact HC5.out.2
        clear hK K
        try simp only [List.getElem_toArray, List.getElem_cons_zero, List.getElem_cons_succ, Act.put, List.setIfInBounds_toArray, List.set_cons_zero, List.set_cons_succ]
        refine wpAnyH_ready (rs := [15]) (by kernel_rfl) (by simp) ?_
        refine AllReadyH.cons rfl (fun K hK => ?_) AllReadyH.nil
        try simp only [List.getElem_toArray, List.getElem_cons_zero, List.getElem_cons_succ]
        (go_simp; go_at_call 31; refine HFr.out.mono ?_; rintro e w2 ⟨rfl, b2⟩; have HB2 := Lib.hid (HB1n.out w2 b2); have HC2 := Lib.hid (HCk.out w2 b2); clear b2)
        refine hK.out _ _ ?_ (fun hHeld => ?_)
        · exact HC2.out
        clear hK K
        try simp only [List.getElem_toArray, List.getElem_cons_zero, List.getElem_cons_succ, Act.put, List.setIfInBounds_toArray, List.set_cons_zero, List.set_cons_succ]
        refine wpAnyH_take (i := 16) (v := ?_) rfl (by kernel_rfl) (by kernel_rfl) (by kernel_rfl) (fun _ _ _ h => h) (Or.inl ⟨by rfl, ?_⟩) (by assumption) ?_
        rotate_left 1
        · (intro w hSw; (try dsimp only at hSw); go_simp; try with_reducible rfl)
        try simp only [List.getElem_toArray, List.getElem_cons_zero, List.getElem_cons_succ, Act.put, List.setIfInBounds_toArray, List.set_cons_zero, List.set_cons_succ]
        refine wpAnyH_take (i := 17) (v := ?_) rfl (by kernel_rfl) (by kernel_rfl) (by kernel_rfl) (fun _ _ _ h => h) (Or.inl ⟨by rfl, ?_⟩) (by assumption) ?_
        rotate_left 1
        · (intro w hSw; (try dsimp only at hSw); go_simp; try with_reducible rfl)
        try simp only [List.getElem_toArray, List.getElem_cons_zero, List.getElem_cons_succ, Act.put, List.setIfInBounds_toArray, List.set_cons_zero, List.set_cons_succ]
        refine wpAnyH_take (i := 18) (v := ?_) rfl (by kernel_rfl) (by kernel_rfl) (by kernel_rfl) (fun _ _ _ h => h) (Or.inl ⟨by rfl, ?_⟩) (by assumption) ?_
        rotate_left 1
        · (intro w hSw; (try dsimp only at hSw); go_simp; try with_reducible rfl)
        try simp only [List.getElem_toArray, List.getElem_cons_zero, List.getElem_cons_succ, Act.put, List.setIfInBounds_toArray, List.set_cons_zero, List.set_cons_succ]
        refine wpAnyH_take (i := 19) (v := ?_) rfl (by kernel_rfl) (by kernel_rfl) (by kernel_rfl) (fun _ _ _ h => h) (Or.inl ⟨by rfl, ?_⟩) (by assumption) ?_
        rotate_left 1
        · (intro w hSw; (try dsimp only at hSw); go_simp; try with_reducible rfl)
        try simp only [List.getElem_toArray, List.getElem_cons_zero, List.getElem_cons_succ, Act.put, List.setIfInBounds_toArray, List.set_cons_zero, List.set_cons_succ]
        refine wpAnyH_take (i := 20) (v := ?_) rfl (by kernel_rfl) (by kernel_rfl) (by kernel_rfl) (fun _ _ _ h => h) (Or.inl ⟨by rfl, ?_⟩) (by assumption) ?_
        rotate_left 1
        · (intro w hSw; (try dsimp only at hSw); go_simp; try with_reducible rfl)
        try simp only [List.getElem_toArray, List.getElem_cons_zero, List.getElem_cons_succ, Act.put, List.setIfInBounds_toArray, List.set_cons_zero, List.set_cons_succ]
        refine wpAnyH_done (by kernel_rfl) ?_ _
        clear HFr HCk HC2 HC5 HB1n d0 d1 d2 d4 c4
        have hR2 := HH1.out.below HB2.out
        obtain ⟨e0, e1, e2, e3, e4, e5⟩ := hR2.cells
        have hf2 := hR2.froze 2
        have hf0i : ((fe : Int) != 0) = true := by simp; omega
        have HF : Hid (RefAt w2 B g r (.slice Ao r.opens.length co) vw ∧ Only (RIn g (.slice Ao r.opens.length co) vw) w w2) := ⟨hR2, HV.out.1.trans (Only.of_below HB2.out)⟩
        clear hR2 hf0 HV HB2 HH1 e0 e1 e2 e3 e4 e5 hf2
        go_wp2
        go_ret2
        exact ⟨.slice Ao r.opens.length co, rfl, HF.out⟩
end Go.Proofs.Ythhiapdmibiolaa.L7
end

section
namespace Go.Proofs.Ythhiapdmibiolaa.L7
open Go.ChangeShapes Go.WideShapes Go.ChangeAt Go.RowKit L6

def frI (r : RSt) (i : Nat × Bytes) : Bytes := (frameL r.me r.peer 1 i.1 [i.2]).1
theorem flatI_get {l : List (Nat × Bytes)} {i : Nat} {a : Nat × Bytes} (h : l[i]? = some a) : (flatI l)[i * 2]? = some (.int .i64 a.1) ∧ (flatI l)[i * 2 + 1]? = some (.string ⟨a.2.toArray⟩) := by
  induction l generalizing i with
  | nil => simp at h
  | cons x l ih =>
    have e : flatI (x :: l) = (.int .i64 x.1) :: (.string ⟨x.2.toArray⟩) :: flatI l := by simp [flatI]
    rw [e]
    cases i with
    | zero =>
      simp at h
      subst h
      exact ⟨rfl, rfl⟩
    | succ i =>
      have := ih (i := i) (by simpa using h)
      rw [show (i + 1) * 2 = i * 2 + 1 + 1 by omega, show i * 2 + 1 + 1 + 1 = (i * 2 + 1) + 1 + 1 by omega]
      simpa using this
def RAgOut (w : World) (r : RSt) (e : Ending) (w' : World) : Prop := ∃ v, e = .returned v ∧ w'.ownsRow w.heap.size 9 1 v r.opens.length (strs (r.opens.map (frI r))) ∧ Below w.heap.size w w'
def RAgGo (w : World) (r : RSt) (k : Nat) (v3 v4 : Value) (wr : World) : Prop := ∃ i : Nat, k + i = r.opens.length ∧ v4 = .int .i64 i ∧ wr.ownsRow w.heap.size 9 1 v3 i (strs ((r.opens.map (frI r)).take i)) ∧ Below w.heap.size w wr
set_option maxRecDepth 100000 in
set_option maxHeartbeats 4000000 in
theorem ragain_calls {w : World} {B g : Nat} {r : RSt} {vo vw : Value} (h : RefAt w B g r vo vw) (h1 : 1 ≤ r.me) (h8 : r.me ≤ 8) (hp8 : r.peer ≤ 8) (ho : r.opens.length ≤ 64)
    (hsm : ∀ i ∈ r.opens, (fmsg r.peer 1 i.1 [i.2]).pack.1.length ≤ 10000 ∧ i.2.length ≤ 100000) :
    Calls Try.prog 15 #[.pointer (some ⟨g, 0, none⟩)] w (RAgOut w r) := by
  obtain ⟨i1, hj, hy0, hy1, hy2⟩ := info_parts info_string
  obtain ⟨c0, c1, c2, c3, c4, c5⟩ := h.cells
  have H0 : Hid (RAgGo w r r.opens.length (.slice none 0 0) (.int .i64 0) w) := ⟨0, by omega, rfl, ⟨rfl, .inl ⟨rfl, rfl⟩⟩, Below.refl _ _⟩
  have HH := Lib.hid h
  obtain ⟨Ao, co, rfl⟩ : ∃ A c, vo = .slice A r.opens.length c := by
    rcases h.opens.2 with ⟨rfl, h0⟩ | ⟨q, cap, cur, rfl, _⟩
    · exact ⟨none, 0, by rw [h0]⟩
    · exact ⟨_, cap, rfl⟩
  have hgw := h.lt
  clear h c2 c3 c5
  go_enter Try.func15, Try.ntmps15
  go_wp2
  go_loopg [3, 4] r.opens.length (fun k v3 v4 wr => RAgGo w r k v3 v4 wr)
  case atStart => exact H0.out
  case round =>
    obtain ⟨i, hk, rfl, hrow, hB⟩ := hrel
    obtain ⟨A3, c3, rfl⟩ := L5.own_slice hrow
    have d4 := (hB.cell (p := ⟨g, 4, none⟩) hgw).trans c4
    by_cases hlt : i < r.opens.length
    · obtain ⟨⟨nn, bb⟩, ha⟩ : ∃ a, r.opens[i]? = some a := ⟨_, List.getElem?_eq_getElem hlt⟩
      obtain ⟨f0, f1⟩ := flatI_get ha
      obtain ⟨q, rfl⟩ : ∃ q, Ao = some ⟨q, 0, none⟩ := by
        rcases HH.out.opens.2 with ⟨e, h0⟩ | ⟨q, cap, cur, e, _⟩
        · omega
        · cases e; exact ⟨q, rfl⟩
      have hqw : q < w.heap.size := (HH.out.opens.lt q rfl).2
      have k0 := HH.out.opens.cells (g := q) rfl _ _ f0
      have k1 := HH.out.opens.cells (g := q) rfl _ _ f1
      rw [add_zero_at] at k0 k1
      have hmem := List.mem_of_getElem? ha
      have hsmi := hsm _ hmem
      have j1 : (i : Int) < (r.opens.length : Int) := by omega
      have j2 : (0 : Int) ≤ (i : Int) := by omega
      have hi64 : i ≤ 64 := by omega
      have HCk : Hid (∀ V, Below wr.heap.size wr V → V.cell? ⟨g, 0, none⟩ = some (.int .i64 r.me) ∧ V.cell? ⟨g, 1, none⟩ = some (.int .i64 r.peer) ∧ V.cell? ⟨g, 4, none⟩ = some (.slice (some ⟨q, 0, none⟩) r.opens.length co) ∧ V.cell? ⟨q, i * 2, none⟩ = some (.int .i64 nn) ∧ V.cell? ⟨q, i * 2 + 1, none⟩ = some (.string ⟨bb.toArray⟩)) := fun V hV => by
        have hb := hB.trans (hV.mono hB.size)
        exact ⟨(hb.cell (p := ⟨g, 0, none⟩) hgw).trans c0, (hb.cell (p := ⟨g, 1, none⟩) hgw).trans c1, (hb.cell (p := ⟨g, 4, none⟩) hgw).trans c4, (hb.cell (p := ⟨q, i * 2, none⟩) hqw).trans k0, (hb.cell (p := ⟨q, i * 2 + 1, none⟩) hqw).trans k1⟩
      have HbA : Hid (Below wr.heap.size wr (wr.drew.alloc (.cells #[.string ⟨bb.toArray⟩] 9))) := (Below.refl _ wr).drew.alloc (Nat.le_refl _) _
      have hfr := frame7_calls h1 h8 hp8 1 nn (.slice (some ⟨wr.heap.size, 0, none⟩) 1 1) [bb] (wr.drew.alloc (.cells #[.string ⟨bb.toArray⟩] 9)) (rowA_one (World.alloc_heap_new wr.drew _) (by have h2 : bb.length ≤ 100000 := hsmi.2; unfold maxLen; omega)) (fun n c e => by cases e) (by simp) hsmi.1
      have HFr := Lib.hid hfr
      have HB1n : Hid (∀ w2, Below (wr.drew.alloc (.cells #[.string ⟨bb.toArray⟩] 9)).heap.size (wr.drew.alloc (.cells #[.string ⟨bb.toArray⟩] 9)) w2 → Below wr.heap.size wr w2) := fun w2 b => HbA.out.trans (b.mono HbA.out.size)
      have HNext : Hid (∀ w2, Below wr.heap.size wr w2 → w2.ownsRow w.heap.size 9 1 (.slice A3 i c3) i (strs ((r.opens.map (frI r)).take i)) ∧ w.heap.size ≤ w2.heap.size ∧ ∀ v7 w7, w7.ownsRow w.heap.size 9 1 v7 (i + 1) (strs ((r.opens.map (frI r)).take i) ++ [.string ⟨(frameL r.me r.peer 1 nn [bb]).1.toArray⟩]) → (w2.alloc (.cells #[.string ⟨(frameL r.me r.peer 1 nn [bb]).1.toArray⟩] 9)).grownBy w7 (Value.slice A3 i c3).ownBlock → RAgGo w r (r.opens.length - (i + 1)) v7 (.int .i64 ((i : Int) + 1)) w7) := fun w2 b2 => by
        have hr2 := L5.own_below hrow b2
        have hb := hB.trans (b2.mono hB.size)
        refine ⟨hr2, hb.size, fun v7 w7 k1 k2 => ⟨i + 1, by omega, rfl, ?_, ?_⟩⟩
        · have e : (r.opens.map (frI r)).take (i + 1) = (r.opens.map (frI r)).take i ++ [(frameL r.me r.peer 1 nn [bb]).1] := by
            rw [List.take_add_one, List.getElem?_map, ha]
            rfl
          rw [e]
          simpa [strs] using k1
        · exact hb.grown (L5.grow_trans (World.grownBy_alloc w2 _ _) k2) hb.size (fun k e => (hrow.lt k e).1)
      have hmeas := Lib.hid (show r.opens.length - (i + 1) < gk by omega)
      obtain ⟨⟨ft, fe⟩, hfe⟩ : ∃ fr, frameL r.me r.peer 1 nn [bb] = fr := ⟨_, rfl⟩
      rw [hfe] at HFr HNext
      unfold Pair2 at HFr
      dsimp only at HFr HNext
      clear hfr hfe hrow hB hk ha f0 f1 k0 k1 hmem hsmi H0
      go_wp2
      refine wp_region_held_drew (S := (fun w' => w'.cell? ⟨g, 0, none⟩ = some (.int .i64 r.me) ∧ w'.cell? ⟨g, 1, none⟩ = some (.int .i64 r.peer) ∧ w'.cell? ⟨g, 4, none⟩ = some (.slice (some ⟨q, 0, none⟩) r.opens.length co) ∧ w'.cell? ⟨q, i * 2, none⟩ = some (.int .i64 nn) ∧ w'.cell? ⟨q, i * 2 + 1, none⟩ = some (.string ⟨bb.toArray⟩))) (by kernel_rfl) ?_ (fun hHeld => ?_)
      · exact HCk.out _ (Below.refl _ wr).drew
      refine wpAnyH_take (i := 0) (v := ?_) rfl (by kernel_rfl) (by kernel_rfl) (by kernel_rfl) (fun _ _ _ h => h) (Or.inl ⟨by rfl, ?_⟩) (by assumption) ?_
      rotate_left 1
      · (intro w hSw; (try dsimp only at hSw); go_simp; try with_reducible rfl)
      try simp only [List.getElem_toArray, List.getElem_cons_zero, Act.put, List.setIfInBounds_toArray, List.set_cons_zero, List.set_cons_succ]
      refine wpAnyH_take (i := 1) (v := ?_) rfl (by kernel_rfl) (by kernel_rfl) (by kernel_rfl) (fun _ _ _ h => h) (Or.inl ⟨by rfl, ?_⟩) (by assumption) ?_
      rotate_left 1
      · (intro w hSw; (try dsimp only at hSw); go_simp; try with_reducible rfl)
      try simp only [List.getElem_toArray, List.getElem_cons_zero, List.getElem_cons_succ, Act.put, List.setIfInBounds_toArray, List.set_cons_zero, List.set_cons_succ]
      refine wpAnyH_take (i := 2) (v := ?_) rfl (by kernel_rfl) (by kernel_rfl) (by kernel_rfl) (fun _ _ _ h => h) (Or.inl ⟨by rfl, ?_⟩) (by assumption) ?_
      rotate_left 1
      · (intro w hSw; (try dsimp only at hSw); go_simp; try with_reducible rfl)
      try simp only [List.getElem_toArray, List.getElem_cons_zero, List.getElem_cons_succ, Act.put, List.setIfInBounds_toArray, List.set_cons_zero, List.set_cons_succ]
      refine wpAnyH_take (i := 3) (v := ?_) rfl (by kernel_rfl) (by kernel_rfl) (by kernel_rfl) (fun _ _ _ h => h) (Or.inl ⟨by rfl, ?_⟩) (by assumption) ?_
      rotate_left 1
      · (intro w hSw; (try dsimp only at hSw); go_simp; try with_reducible rfl)
      try simp only [List.getElem_toArray, List.getElem_cons_zero, List.getElem_cons_succ, Act.put, List.setIfInBounds_toArray, List.set_cons_zero, List.set_cons_succ]
      refine wpAnyH_take (i := 4) (v := ?_) rfl (by kernel_rfl) (by kernel_rfl) (by kernel_rfl) (fun _ _ _ h => h) (Or.inl ⟨by rfl, ?_⟩) (by assumption) ?_
      rotate_left 1
      · (intro w hSw; (try dsimp only at hSw); go_simp; try with_reducible rfl)
      try simp only [List.getElem_toArray, List.getElem_cons_zero, List.getElem_cons_succ, Act.put, List.setIfInBounds_toArray, List.set_cons_zero, List.set_cons_succ]
      refine wpAnyH_take (i := 5) (v := ?_) rfl (by kernel_rfl) (by kernel_rfl) (by kernel_rfl) (fun _ _ _ h => h) (Or.inl ⟨by rfl, ?_⟩) (by assumption) ?_
      rotate_left 1
      · (intro w hSw; (try dsimp only at hSw); go_simp; try with_reducible rfl)
      try simp only [List.getElem_toArray, List.getElem_cons_zero, List.getElem_cons_succ, Act.put, List.setIfInBounds_toArray, List.set_cons_zero, List.set_cons_succ]
      refine wpAnyH_take (i := 6) (v := ?_) rfl (by kernel_rfl) (by kernel_rfl) (by kernel_rfl) (fun _ _ _ h => h) (Or.inl ⟨by rfl, ?_⟩) (by assumption) ?_
      rotate_left 1
      · (intro w hSw; (try dsimp only at hSw); go_simp; try with_reducible rfl)
      try simp only [List.getElem_toArray, List.getElem_cons_zero, List.getElem_cons_succ, Act.put, List.setIfInBounds_toArray, List.set_cons_zero, List.set_cons_succ]
      refine wpAnyH_take (i := 7) (v := ?_) rfl (by kernel_rfl) (by kernel_rfl) (by kernel_rfl) (fun _ _ _ h => h) (Or.inl ⟨by rfl, ?_⟩) (by assumption) ?_
      rotate_left 1
      · (intro w hSw; (try dsimp only at hSw); go_simp; try with_reducible rfl)
      try simp only [List.getElem_toArray, List.getElem_cons_zero, List.getElem_cons_succ, Act.put, List.setIfInBounds_toArray, List.set_cons_zero, List.set_cons_succ]
      refine wpAnyH_take (i := 8) (v := ?_) rfl (by kernel_rfl) (by kernel_rfl) (by kernel_rfl) (fun _ _ _ h => h) (Or.inl ⟨by rfl, ?_⟩) (by assumption) ?_
      rotate_left 1
      · (intro w hSw; (try dsimp only at hSw); go_simp; try with_reducible rfl)
      try simp only [List.getElem_toArray, List.getElem_cons_zero, List.getElem_cons_succ, Act.put, List.setIfInBounds_toArray, List.set_cons_zero, List.set_cons_succ]
      refine wpAnyH_take (i := 9) (v := ?_) rfl (by kernel_rfl) (by kernel_rfl) (by kernel_rfl) (fun _ _ _ h => h) (Or.inl ⟨by rfl, ?_⟩) (by assumption) ?_
      rotate_left 1
      · (intro w hSw; (try dsimp only at hSw); go_simp; try with_reducible rfl)
      try simp only [List.getElem_toArray, List.getElem_cons_zero, List.getElem_cons_succ, Act.put, List.setIfInBounds_toArray, List.set_cons_zero, List.set_cons_succ]
      refine wpAnyH_take (i := 10) (v := ?_) rfl (by kernel_rfl) (by kernel_rfl) (by kernel_rfl) (fun _ _ _ h => h) (Or.inl ⟨by rfl, ?_⟩) (by assumption) ?_
      rotate_left 1
      · (intro w hSw; (try dsimp only at hSw); go_simp; try with_reducible rfl)
      try simp only [List.getElem_toArray, List.getElem_cons_zero, List.getElem_cons_succ, Act.put, List.setIfInBounds_toArray, List.set_cons_zero, List.set_cons_succ]
      refine wpAnyH_take (i := 11) (v := ?_) rfl (by kernel_rfl) (by kernel_rfl) (by kernel_rfl) (fun _ _ _ h => h) (Or.inl ⟨by rfl, ?_⟩) (by assumption) ?_
      rotate_left 1
      · (intro w hSw; (try dsimp only at hSw); go_simp; try with_reducible rfl)
      try simp only [List.getElem_toArray, List.getElem_cons_zero, List.getElem_cons_succ, Act.put, List.setIfInBounds_toArray, List.set_cons_zero, List.set_cons_succ]
      refine wpAnyH_take (i := 12) (v := ?_) rfl (by kernel_rfl) (by kernel_rfl) (by kernel_rfl) (fun _ _ _ h => h) (Or.inl ⟨by rfl, ?_⟩) (by assumption) ?_
      rotate_left 1
      · (intro w hSw; (try dsimp only at hSw); go_simp; try with_reducible rfl)
      try simp only [List.getElem_toArray, List.getElem_cons_zero, List.getElem_cons_succ, Act.put, List.setIfInBounds_toArray, List.set_cons_zero, List.set_cons_succ]
      refine wpAnyH_take (i := 13) (v := ?_) rfl (by kernel_rfl) (by kernel_rfl) (by kernel_rfl) (fun _ _ _ h => h) (Or.inl ⟨by rfl, ?_⟩) (by assumption) ?_
      rotate_left 1
      · (intro w hSw; (try dsimp only at hSw); go_simp; try with_reducible rfl)
      try simp only [List.getElem_toArray, List.getElem_cons_zero, List.getElem_cons_succ, Act.put, List.setIfInBounds_toArray, List.set_cons_zero, List.set_cons_succ]
      refine wpAnyH_take (i := 14) (v := ?_) rfl (by kernel_rfl) (by kernel_rfl) (by kernel_rfl) (fun _ _ _ h => h) (Or.inl ⟨by rfl, ?_⟩) (by assumption) ?_
      rotate_left 1
      · (intro w hSw; (try dsimp only at hSw); go_simp; try with_reducible rfl)
      try simp only [List.getElem_toArray, List.getElem_cons_zero, List.getElem_cons_succ, Act.put, List.setIfInBounds_toArray, List.set_cons_zero, List.set_cons_succ]
      refine wpAnyH_take (i := 15) (v := ?_) rfl (by kernel_rfl) (by kernel_rfl) (by kernel_rfl) (fun _ _ _ h => h) (Or.inl ⟨by rfl, ?_⟩) (by assumption) ?_
      rotate_left 1
      · (intro w hSw; (try dsimp only at hSw); go_simp; try with_reducible rfl)
      try simp only [List.getElem_toArray, List.getElem_cons_zero, List.getElem_cons_succ, Act.put, List.setIfInBounds_toArray, List.set_cons_zero, List.set_cons_succ]
      refine wpAnyH_take (i := 16) (v := ?_) rfl (by kernel_rfl) (by kernel_rfl) (by kernel_rfl) (fun _ _ _ h => h) (Or.inl ⟨by rfl, ?_⟩) (by assumption) ?_
      rotate_left 1
      · (intro w hSw; (try dsimp only at hSw); go_simp; try with_reducible rfl)
      try simp only [List.getElem_toArray, List.getElem_cons_zero, List.getElem_cons_succ, Act.put, List.setIfInBounds_toArray, List.set_cons_zero, List.set_cons_succ]
      refine wpAnyH_take (i := 17) (v := ?_) rfl (by kernel_rfl) (by kernel_rfl) (by kernel_rfl) (fun _ _ _ h => h) (Or.inl ⟨by rfl, ?_⟩) (by assumption) ?_
      rotate_left 1
      · (intro w hSw; (try dsimp only at hSw); go_simp; try with_reducible rfl)
      try simp only [List.getElem_toArray, List.getElem_cons_zero, List.getElem_cons_succ, Act.put, List.setIfInBounds_toArray, List.set_cons_zero, List.set_cons_succ]
      refine wpAnyH_take (i := 18) (v := ?_) rfl (by kernel_rfl) (by kernel_rfl) (by kernel_rfl) (fun _ _ _ h => h) (Or.inl ⟨by rfl, ?_⟩) (by assumption) ?_
      rotate_left 1
      · (intro w hSw; (try dsimp only at hSw); go_simp; try with_reducible rfl)
      try simp only [List.getElem_toArray, List.getElem_cons_zero, List.getElem_cons_succ, Act.put, List.setIfInBounds_toArray, List.set_cons_zero, List.set_cons_succ]
      refine wpAnyH_take (i := 19) (v := ?_) rfl (by kernel_rfl) (by kernel_rfl) (by kernel_rfl) (fun _ _ _ h => h) (Or.inl ⟨by rfl, ?_⟩) (by assumption) ?_
      rotate_left 1
      · (intro w hSw; (try dsimp only at hSw); go_simp; try with_reducible rfl)
      try simp only [List.getElem_toArray, List.getElem_cons_zero, List.getElem_cons_succ, Act.put, List.setIfInBounds_toArray, List.set_cons_zero, List.set_cons_succ]
      refine wpAnyH_take (i := 20) (v := ?_) rfl (by kernel_rfl) (by kernel_rfl) (by kernel_rfl) (fun _ _ _ h => h) (Or.inl ⟨by rfl, ?_⟩) (by assumption) ?_
      rotate_left 1
      · (intro w hSw; (try dsimp only at hSw); go_simp; try with_reducible rfl)
      try simp only [List.getElem_toArray, List.getElem_cons_zero, List.getElem_cons_succ, Act.put, List.setIfInBounds_toArray, List.set_cons_zero, List.set_cons_succ]
      refine wpAnyH_take (i := 21) (v := ?_) rfl (by kernel_rfl) (by kernel_rfl) (by kernel_rfl) (fun _ _ _ h => h) (Or.inl ⟨by rfl, ?_⟩) (by assumption) ?_
      rotate_left 1
      · (intro w hSw; (try dsimp only at hSw); go_simp; try with_reducible rfl)
      try simp only [List.getElem_toArray, List.getElem_cons_zero, List.getElem_cons_succ, Act.put, List.setIfInBounds_toArray, List.set_cons_zero, List.set_cons_succ]
      refine wpAnyH_take (i := 22) (v := ?_) rfl (by kernel_rfl) (by kernel_rfl) (by kernel_rfl) (fun _ _ _ h => h) (Or.inl ⟨by rfl, ?_⟩) (by assumption) ?_
      rotate_left 1
      · (intro w hSw; (try dsimp only at hSw); go_simp; try with_reducible rfl)
      try simp only [List.getElem_toArray, List.getElem_cons_zero, List.getElem_cons_succ, Act.put, List.setIfInBounds_toArray, List.set_cons_zero, List.set_cons_succ]
      refine wpAnyH_take (i := 23) (v := ?_) rfl (by kernel_rfl) (by kernel_rfl) (by kernel_rfl) (fun _ _ _ h => h) (Or.inl ⟨by rfl, ?_⟩) (by assumption) ?_
      rotate_left 1
      · (intro w hSw; (try dsimp only at hSw); go_simp; try with_reducible rfl)
      try simp only [List.getElem_toArray, List.getElem_cons_zero, List.getElem_cons_succ, Act.put, List.setIfInBounds_toArray, List.set_cons_zero, List.set_cons_succ]
      refine wpAnyH_ready (rs := [24]) (by kernel_rfl) (by simp) ?_
      refine AllReadyH.cons rfl (fun K hK => ?_) AllReadyH.nil
      try simp only [List.getElem_toArray, List.getElem_cons_zero, List.getElem_cons_succ]
      go_simp
      refine hK.out _ _ ?_ (fun hHeld => ?_)
      · exact HCk.out _ HbA.out
      clear hK K
      try simp only [List.getElem_toArray, List.getElem_cons_zero, List.getElem_cons_succ, Act.put, List.setIfInBounds_toArray, List.set_cons_zero, List.set_cons_succ]
      refine wpAnyH_ready (rs := [25]) (by kernel_rfl) (by simp) ?_
      refine AllReadyH.cons rfl (fun K hK => ?_) AllReadyH.nil
      try simp only [List.getElem_toArray, List.getElem_cons_zero, List.getElem_cons_succ]
      (go_simp; go_at_call 31; refine HFr.out.mono ?_; rintro e w2 ⟨rfl, b2⟩; have HB2 := Lib.hid (HB1n.out w2 b2); clear b2)
      refine hK.out _ _ ?_ (fun hHeld => ?_)
      · exact HCk.out _ HB2.out
      clear hK K
      try simp only [List.getElem_toArray, List.getElem_cons_zero, List.getElem_cons_succ, Act.put, List.setIfInBounds_toArray, List.set_cons_zero, List.set_cons_succ]
      refine wpAnyH_take (i := 26) (v := ?_) rfl (by kernel_rfl) (by kernel_rfl) (by kernel_rfl) (fun _ _ _ h => h) (Or.inl ⟨by rfl, ?_⟩) (by assumption) ?_
      rotate_left 1
      · (intro w hSw; (try dsimp only at hSw); go_simp; try with_reducible rfl)
      try simp only [List.getElem_toArray, List.getElem_cons_zero, List.getElem_cons_succ, Act.put, List.setIfInBounds_toArray, List.set_cons_zero, List.set_cons_succ]
      refine wpAnyH_take (i := 27) (v := ?_) rfl (by kernel_rfl) (by kernel_rfl) (by kernel_rfl) (fun _ _ _ h => h) (Or.inl ⟨by rfl, ?_⟩) (by assumption) ?_
      rotate_left 1
      · (intro w hSw; (try dsimp only at hSw); go_simp; try with_reducible rfl)
      try simp only [List.getElem_toArray, List.getElem_cons_zero, List.getElem_cons_succ, Act.put, List.setIfInBounds_toArray, List.set_cons_zero, List.set_cons_succ]
      refine wpAnyH_take (i := 28) (v := ?_) rfl (by kernel_rfl) (by kernel_rfl) (by kernel_rfl) (fun _ _ _ h => h) (Or.inl ⟨by rfl, ?_⟩) (by assumption) ?_
      rotate_left 1
      · (intro w hSw; (try dsimp only at hSw); go_simp; try with_reducible rfl)
      try simp only [List.getElem_toArray, List.getElem_cons_zero, List.getElem_cons_succ, Act.put, List.setIfInBounds_toArray, List.set_cons_zero, List.set_cons_succ]
      refine wpAnyH_take (i := 29) (v := ?_) rfl (by kernel_rfl) (by kernel_rfl) (by kernel_rfl) (fun _ _ _ h => h) (Or.inl ⟨by rfl, ?_⟩) (by assumption) ?_
      rotate_left 1
      · (intro w hSw; (try dsimp only at hSw); go_simp; try with_reducible rfl)
      try simp only [List.getElem_toArray, List.getElem_cons_zero, List.getElem_cons_succ, Act.put, List.setIfInBounds_toArray, List.set_cons_zero, List.set_cons_succ]
      refine wpAnyH_take (i := 30) (v := ?_) rfl (by kernel_rfl) (by kernel_rfl) (by kernel_rfl) (fun _ _ _ h => h) (Or.inl ⟨by rfl, ?_⟩) (by assumption) ?_
      rotate_left 1
      · (intro w hSw; (try dsimp only at hSw); go_simp; try with_reducible rfl)
      try simp only [List.getElem_toArray, List.getElem_cons_zero, List.getElem_cons_succ, Act.put, List.setIfInBounds_toArray, List.set_cons_zero, List.set_cons_succ]
      refine wpAnyH_done (by kernel_rfl) ?_ _
      obtain ⟨hr2, hsz2, hnx⟩ := HNext.out w2 HB2.out
      have HR2 := Lib.hid hr2
      have HN := Lib.hid hnx
      clear hr2 hnx HNext HFr HCk HbA HB1n HB2 d4
      go_wp2_with (at_builtin; refine wpList_append_own_at _ rfl _ _ 38 rfl (w.heap.size) 9 i1 _ 1 16 Try.underlying38 hj hy0 hy1 hy2 rfl (by decide) _ _ _ rfl (HR2.out.alloc _) ⟨w2.heap.size, 0, none⟩ 1 1 [.string ⟨ft.toArray⟩] rfl rfl (cell_one_new _ _ _) (by simp [Value.oneCell']) (by unfold maxLen; omega) (by omega) (by simp; omega) ?_; intro v7 w7 hown' hgrow hnil hat; have HF := Lib.hid (HN.out v7 w7 hown' hgrow); clear hown' hgrow hnil hat)
      go_roundg (r.opens.length - (i + 1))
      case measure => exact hmeas.out
      case rel => exact HF.out
    · have j1 : ¬ (i : Int) < (r.opens.length : Int) := by omega
      have HF : Hid (RAgOut w r (.returned (.slice A3 i c3)) wr) := by
        obtain rfl : i = r.opens.length := by omega
        refine ⟨_, rfl, ?_, hB⟩
        rw [List.take_of_length_le (by simp)] at hrow
        exact hrow
      clear hrow hB hk H0
      go_wp2
      go_ret
      exact HF.out
end Go.Proofs.Ythhiapdmibiolaa.L7
end

section
namespace Go.Proofs.Ythhiapdmibiolaa.L7
open Go.ChangeShapes Go.WideShapes Go.ChangeAt Go.RowKit L6

theorem put_err (hd : Bytes) (ps : List Bytes) (h : (Tm.put hd ps).2 ≠ 0) : (Tm.put hd ps).1 = [] := by
  unfold Tm.put at h ⊢
  split
  · rfl
  · split
    · rfl
    · split
      · rfl
      · rename_i h1 h2 h3
        rw [if_neg h1, if_neg h2, if_neg h3] at h
        exact absurd rfl h
theorem frame_err {p q k n : Nat} {ts : List Bytes} (h : (frameL p q k n ts).2 ≠ 0) : (frameL p q k n ts).1 = [] := by
  unfold frameL signL at h ⊢
  split
  · rename_i hc
    rw [if_pos hc] at h
    exact put_err _ _ h
  · rfl
theorem pack_short (q k n : Nat) (b : Bytes) : (fmsg q k n [b]).pack.1.length ≤ 200 + b.length := by
  unfold Msg.pack
  split
  · unfold Tm.putRow
    split
    · show (Tm.rowL (fmsg q k n [b]).row).length ≤ _
      have e : (fmsg q k n [b]).row = [Tm.numL k, Tm.numL 0, Tm.numL 0, Tm.numL 0, Tm.numL 0, Tm.numL n, Tm.numL 1, Tm.numL q, b] := rfl
      rw [e]
      simp only [Tm.rowL_cons, List.length_cons, List.length_append, numL_len, Tm.rowL_len_nil]
      omega
    · simp
  · simp
def r0 (a b : Nat) : RSt := ⟨a, b, 0, 0, [], []⟩
/-- Both sends tell the same, and the same lies open then. -/
theorem send_both (a b : Nat) (body : Bytes) :
    (rsend (r0 a b) body).1 = (sendL (newL a b) body).1 ∧ (rsend (r0 a b) body).2.opens.map (frI (rsend (r0 a b) body).2) = (sendL (newL a b) body).2.opens ∧ (rsend (r0 a b) body).2.me = a ∧ (rsend (r0 a b) body).2.peer = b ∧
      ((rsend (r0 a b) body).2.opens = [] ∨ (rsend (r0 a b) body).2.opens = [(1, body)]) := by
  cases hr : Tm.right body with
  | false =>
    unfold rsend sendL
    rw [hr]
    exact ⟨rfl, rfl, rfl, rfl, .inl rfl⟩
  | true =>
    have eA : rsend (r0 a b) body = if (frameL a b 1 (0 + 1) [body]).2 = 0 then (frameL a b 1 (0 + 1) [body], ⟨a, b, 0 + 1, 0, [(0 + 1, body)], []⟩) else (([], (frameL a b 1 (0 + 1) [body]).2), r0 a b) := by
      unfold rsend
      rw [hr, if_neg (show ¬ (true = false) by decide), if_neg (show ¬ (r0 a b).opens.length = 64 by show ¬ (0 : Nat) = 64; omega)]
      unfold r0
      dsimp only
      rw [List.nil_append]
    have eB : sendL (newL a b) body = if (frameL a b 1 (0 + 1) [body]).2 = 0 then (frameL a b 1 (0 + 1) [body], ⟨a, b, 0 + 1, 0, [(frameL a b 1 (0 + 1) [body]).1], fun _ => none⟩) else (frameL a b 1 (0 + 1) [body], newL a b) := by
      unfold sendL
      rw [hr, if_neg (show ¬ (true = false) by decide), if_neg (show ¬ (newL a b).opens.length = 64 by show ¬ (0 : Nat) = 64; omega)]
      unfold newL
      dsimp only
      rw [List.nil_append]
    rw [eA, eB]
    have he := frame_err (p := a) (q := b) (k := 1) (n := 0 + 1) (ts := [body])
    have hfi : ∀ r : RSt, r.me = a → r.peer = b → frI r (0 + 1, body) = (frameL a b 1 (0 + 1) [body]).1 := fun r h1 h2 => by unfold frI; rw [h1, h2]
    generalize frameL a b 1 (0 + 1) [body] = fr at *
    by_cases h0 : fr.2 = 0
    · rw [if_pos h0, if_pos h0]
      refine ⟨rfl, ?_, rfl, rfl, .inr rfl⟩
      show [frI _ (0 + 1, body)] = [fr.1]
      rw [hfi _ rfl rfl]
    · rw [if_neg h0, if_neg h0]
      refine ⟨?_, rfl, rfl, rfl, .inl rfl⟩
      show (([] : Bytes), fr.2) = fr
      rw [← he h0]

set_option maxRecDepth 100000 in
set_option maxHeartbeats 4000000 in
theorem news_calls (me peer : Int) (body : Bytes) (w : World) : Calls Try.prog 3 #[.int .i64 me, .int .i64 peer, .string ⟨body.toArray⟩] w (One w (.bool true)) := by
  have HSh := Lib.hid (shown_calls w)
  by_cases hlen : 2000 < body.length
  · have hli : (2000 : Int) < (body.length : Int) := by omega
    clear hlen
    go_enter Try.func3, Try.ntmps3
    go_wp2_with fail
    refine HSh.out.mono ?_
    rintro e w1 ⟨rfl, b1⟩
    go_wp2
    go_ret
    exact ⟨rfl, b1⟩
  have hli : ¬ (2000 : Int) < (body.length : Int) := by omega
  by_cases hv : 1 ≤ me ∧ me ≤ 8 ∧ 1 ≤ peer ∧ peer ≤ 8 ∧ me ≠ peer
  case neg =>
    have H1 := Lib.hid (fun V => new_no me peer hv V)
    have H2 := Lib.hid (fun V => ref_new_no me peer hv V)
    clear hlen hv
    go_enter Try.func3, Try.ntmps3
    go_wp2_with fail
    refine HSh.out.mono ?_
    rintro e w1 ⟨rfl, b1⟩
    have H1 := Lib.hid (H1.out w1)
    have H2 := Lib.hid (H2.out w1)
    have HB := Lib.hid b1
    clear b1
    go_wp2_with fail
    refine H1.out.mono ?_
    rintro e w2 ⟨rfl, rfl⟩
    go_wp2_with fail
    refine H2.out.mono ?_
    rintro e w3 ⟨rfl, rfl⟩
    go_wp2
    go_ret
    exact ⟨rfl, HB.out⟩
  obtain ⟨a, rfl⟩ : ∃ a : Nat, me = a := ⟨me.toNat, by omega⟩
  obtain ⟨b, rfl⟩ : ∃ b : Nat, peer = b := ⟨peer.toNat, by omega⟩
  obtain ⟨v1, v2, v3, v4, v5⟩ := hv
  have H1 := Lib.hid (fun V => new_calls a b (by omega) (by omega) (by omega) (by omega) (by omega) V)
  have H2 := Lib.hid (fun V => ref_new a b (by omega) (by omega) (by omega) (by omega) (by omega) V)
  have HV : Hid (1 ≤ a ∧ a ≤ 8 ∧ 1 ≤ b ∧ b ≤ 8 ∧ body.length ≤ 2000) := ⟨by omega, by omega, by omega, by omega, by omega⟩
  clear hlen v1 v2 v3 v4 v5
  go_enter Try.func3, Try.ntmps3
  go_wp2_with fail
  refine HSh.out.mono ?_
  rintro e w1 ⟨rfl, b1⟩
  have H1 := Lib.hid (H1.out w1)
  have HB1 := Lib.hid b1
  clear b1
  go_wp2_with fail
  refine H1.out.mono ?_
  rintro e w2 ⟨x, rfl, x2, b2, a2⟩
  have HB2 := Lib.hid (HB1.out.trans (b2.mono HB1.out.size))
  have HX := Lib.hid (And.intro x2 (And.intro b2 a2))
  have H2 := Lib.hid (H2.out w2)
  clear b2 x2 a2
  go_wp2_with fail
  refine H2.out.mono ?_
  rintro e w3 ⟨rfl, hw3⟩
  have b3 : Below w2.heap.size w2 w3 := by rw [hw3]; exact (Below.refl _ w2).alloc (Nat.le_refl _) _
  have hx3 := HX.out.1.below b3
  have hr3 : RefAt w3 w2.heap.size w2.heap.size (r0 a b) (.slice none 0 0) (.slice none 0 0) :=
    ⟨by rw [hw3]; exact World.alloc_heap_new w2 _, Nat.le_refl _, ⟨rfl, .inl ⟨rfl, rfl⟩⟩, ⟨rfl, .inl ⟨rfl, rfl⟩⟩, fun q e => by cases e⟩
  have hz3 : w3.heap.size = w2.heap.size + 1 := by rw [hw3]; simp
  have hxl := HX.out.1.lt
  have HSn := send_calls hx3 body (by have := HV.out; unfold maxLen; omega)
  unfold SendOut at HSn
  have HSn := Lib.hid HSn
  have HR3 := Lib.hid (And.intro hr3 (And.intro hz3 hxl))
  have HB3 := Lib.hid (HB2.out.trans (b3.mono HB2.out.size))
  clear hx3 hr3 b3 hw3 hz3 hxl
  go_wp2_with fail
  refine HSn.out.mono ?_
  rintro e w4 ⟨rfl, x4, o4⟩
  have hz3 := HR3.out.2.1
  have hxl := HR3.out.2.2
  have hnog : ¬ x.In w2.heap.size := by rintro (e | e | e) <;> omega
  have hr4 : RefAt w4 w2.heap.size w2.heap.size (r0 a b) (.slice none 0 0) (.slice none 0 0) := HR3.out.1.same (o4.block _ (by omega) hnog) (fun q e => by cases e) (fun q e => by cases e)
  have hz4 : w2.heap.size ≤ w4.heap.size := by have := o4.size; omega
  have hRS := rsend_calls hr4 hz4 HV.out.1 HV.out.2.1 HV.out.2.2.2.1 (by simp [r0]) (by simp [r0]) body (by have := HV.out; omega) (fun _ => by have := pack_short (r0 a b).peer 1 ((r0 a b).sent + 1) body; have := HV.out; omega)
  unfold RSendOut at hRS
  obtain ⟨q1, q2, q3, q4, q5⟩ := send_both a b body
  rw [q1] at hRS
  have HRS := Lib.hid hRS
  have HQ := Lib.hid (And.intro q2 (And.intro q3 (And.intro q4 q5)))
  have HX4 := Lib.hid (And.intro x4 hxl)
  have HB4 : Hid (Below w.heap.size w w4) := Only.below HB3.out o4 HB3.out.size (fun q hq => by
    have h1 := HX.out.2.2
    have h2 := HB1.out.size
    simp only [Blk.Above] at h1
    rcases hq with e | e | e <;> omega)
  generalize rsend (r0 a b) body = R at *
  generalize hsl : sendL (newL a b) body = L at *
  obtain ⟨⟨lt, le⟩, ls⟩ := L
  have HSl := Lib.hid (show ls.Ok by have := sendL_ok (s := newL a b) (newL_ok HV.out.1 HV.out.2.1 HV.out.2.2.1 HV.out.2.2.2.1) body; rw [hsl] at this; exact this)
  dsimp only at HRS ⊢
  clear x4 o4 hr4 hRS q1 q2 q3 q4 q5 hnog hz3 hxl hz4 HSn hsl
  go_wp2_with fail
  refine HRS.out.mono ?_
  rintro e w5 ⟨vo, rfl, r5, o5⟩
  have hx5 : EndAt w5 x 0 ls := HX4.out.1.same (fun k hk => o5.block k (by have := HX4.out.1.lt; rcases hk with rfl | rfl | rfl | rfl <;> omega) (by
    have := HX4.out.2
    rintro (e | e | e)
    · rcases hk with rfl | rfl | rfl | rfl <;> omega
    · cases e
    · cases e))
  have HX5 := Lib.hid hx5
  have HAg := Lib.hid (again_calls hx5)
  have HR5 := Lib.hid r5
  have HB5 : Hid (Below w.heap.size w w5) := Only.below HB4.out o5 HB4.out.size (fun q hq => by
    have h1 := HB2.out.size
    rcases hq with e | e | e
    · omega
    · cases e
    · cases e)
  clear hx5 r5 o5 HRS HX4
  go_wp2_with fail
  refine HAg.out.mono ?_
  rintro e w6 ⟨va, rfl, ra, x6, o6⟩
  have hxl := HX.out.1.lt
  have hr6 : RefAt w6 w2.heap.size w2.heap.size R.2 vo (.slice none 0 0) := HR5.out.same (o6.block _ HR5.out.lt (by rintro (e | e | e) <;> omega))
    (fun q e => by
      have h1 := (HR5.out.opens.lt q e)
      exact o6.block q h1.2 (by rintro (e | e | e) <;> omega)) (fun q e => by cases e)
  have hops : R.2.opens.length ≤ 64 := by rcases HQ.out.2.2.2 with e | e <;> rw [e] <;> simp
  have hRA := ragain_calls hr6 (by rw [HQ.out.2.1]; exact HV.out.1) (by rw [HQ.out.2.1]; exact HV.out.2.1) (by rw [HQ.out.2.2.1]; exact HV.out.2.2.2.1) hops (fun i hi => by
    have hbl := HV.out.2.2.2.2
    rcases HQ.out.2.2.2 with e | e
    · rw [e] at hi; simp at hi
    · rw [e] at hi
      simp only [List.mem_cons, List.not_mem_nil, or_false] at hi
      subst hi
      have := pack_short R.2.peer 1 1 body
      exact ⟨by show (fmsg R.2.peer 1 1 [body]).pack.1.length ≤ 10000; omega, by show body.length ≤ 100000; omega⟩)
  have HRA := Lib.hid hRA
  have hB6 : Below w.heap.size w w6 := Only.below HB5.out o6 HB5.out.size (fun q hq => by
    have h1 := HX.out.2.2
    have h2 := HB1.out.size
    simp only [Blk.Above] at h1
    rcases hq with e | e | e <;> omega)
  have HRow := Lib.hid ra
  have HB6 := Lib.hid hB6
  clear ra x6 o6 hxl hr6 hops hRA hB6 HAg
  go_wp2_with fail
  refine HRA.out.mono ?_
  rintro e w7 ⟨vr, rfl, rr, b7⟩
  have hra := L5.own_below HRow.out b7
  have hll : R.2.opens.length = ls.opens.length := by
    have := congrArg List.length HQ.out.1
    rw [List.length_map] at this
    exact this
  rw [HQ.out.1, hll] at rr
  have HSm := Lib.hid (same_calls (ba ls.opens) va vr w7 (srow_row hra) (srow_row rr) (by rw [ba_length]; have := HSl.out.room; omega))
  have HB7 := Lib.hid (HB6.out.trans (b7.mono HB6.out.size))
  clear hra hll rr b7 HRA HRow
  go_wp2_with fail
  refine HSm.out.mono ?_
  rintro e w8 ⟨rfl, q, rfl⟩
  go_wp2
  go_ret
  exact ⟨rfl, L5.below_drewN HB7.out q⟩
theorem news_all (me peer : Int) (s : ByteArray) (w : World) : Calls Try.prog 3 #[.int .i64 me, .int .i64 peer, .string s] w (One w (.bool true)) := by
  have h := news_calls me peer s.data.toList w
  rw [← of_bytes s] at h
  exact h
end Go.Proofs.Ythhiapdmibiolaa.L7
end

section
namespace Go.Proofs.Ythhiapdmibiolaa
open Go.ChangeShapes Go.WideShapes Go.ChangeAt Go.RowKit

set_option maxRecDepth 100000 in
theorem lnews_lifted (os : Os) (started : os.Started) (H : Type) (enc : TypeId × Value → H) :
    ReturnsInHanded {} Try.checked os 3 .any (Rows.linkNewsSpec.pre6 enc Try.prog Try.f3 Rows.linkNewsRow.domain false) (Rows.linkNewsSpec.post enc Try.prog Try.f3 false true false false) := by
  refine returnsInHanded_of_change (C := Try.checked) L5.own started (by kernel_rfl) Try.func3
    (ChangeSpec.witness6 (enc := enc) (C := Try.checked) false ⟨#[], #[.int .i64 0, .int .i64 0, .string ⟨#[]⟩], []⟩ 8 (by kernel_rfl) (by kernel_rfl) (by kernel_rfl) (by kernel_rfl)) ?_
  intro W base args ds gs before hval0 hW hcnd _
  have hval : ∀ (j : Nat) t v, Try.f3.params[j]? = some t → args[j]? = some v → Value.okWide Try.prog W .any base t v := hval0
  have hW' := hW
  obtain ⟨p, q, hA0, hV, rfl, hfz, hnd⟩ := hW
  have hA : DataW.TrodAll enc Try.prog W 0 (fun _ => true) true Try.f3.params.toList args.toList ds p := hA0
  rw [Try.params3] at hA hval
  obtain ⟨v0, vs0, d0, ds0, p0, q0, hargs, rfl, rfl, h0, r0⟩ := trodAll_cons hA
  obtain ⟨v1, vs1, d1, ds1, p1, q1, rfl, rfl, rfl, h1, r1⟩ := trodAll_cons r0
  obtain ⟨v2, vs2, d2, ds2, p2, q2, rfl, rfl, rfl, h2, r2⟩ := trodAll_cons r1
  obtain ⟨rfl, rfl, rfl⟩ := trodAll_nil r2
  obtain rfl : args = #[v0, v1, v2] := by cases args; simp_all
  obtain ⟨rfl, rfl⟩ := trodVars_none hV
  obtain ⟨a0, rfl, rfl, rfl, w0⟩ := open_int Try.underlying3 (hval 0 3 v0 rfl rfl) h0
  obtain ⟨a1, rfl, rfl, rfl, w1⟩ := open_int Try.underlying3 (hval 1 3 v1 rfl rfl) h1
  obtain ⟨s2, rfl, rfl, rfl, w2⟩ := Go.ChangeMaps.open_string Try.underlying9 (hval 2 9 v2 rfl rfl) h2
  clear hA0 hval0
  simp only [List.append_nil] at hW'
  refine (L7.news_all a0 a1 s2 W).mono fun e W' ⟨he, hg⟩ => ?_
  subst he
  exact ⟨_, rfl, L5.post_law_at (pv := []) hW' (trodAll_cons_mk (shut_bool Try.underlying4 _) trodAll_mk0) (trodAll_cons_mk (shut_int Try.underlying3 w0) (trodAll_cons_mk (shut_int Try.underlying3 w1) (trodAll_cons_mk (Go.ChangeMaps.shut_string Try.underlying9 w2) trodAll_mk0))) rfl (by simp) hg⟩

theorem lnews_over : Rows.linkNewsRow.holds Try.pinned (OpenSpec.ofChange Rows.linkNewsSpec) :=
  OpenClaim.holds_of_wide 3 Try.f3 rfl rfl rfl rfl rfl rfl rfl ⟨rfl, rfl, rfl, rfl, rfl⟩ rfl rfl rfl rfl rfl (by kernel_rfl) Try.func3 (by kernel_rfl)
    (of_decide_eq_true (by kernel_rfl)) (by unfold Func.isWrapper; first | (rw [if_pos (by decide +kernel)]; kernel_rfl) | (rw [if_neg (by decide +kernel)]; exact ⟨rfl, rfl⟩))
    (fun os started H enc _ => lnews_lifted os started H enc)

theorem lnews_proved : Rows.LinkNewsSaid := lnews_over

end Go.Proofs.Ythhiapdmibiolaa
end
