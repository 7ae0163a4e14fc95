/- Contracts of place.Nodes and place.At. -/
import Derived.Test.YtlpabhgfmkilnaaPlGath
namespace Go.Proofs.Ytlpabhgfmkilnaa.L14
open Go.ChangeShapes Go.WideShapes Go.ChangeAt Go.RowKit Go.Deep
open Go.Proofs.Ytlpabhgfmkilnaa.L13
open Go.Proofs.Ytlpabhgfmkilnaa.L5 (One)

attribute [local go_sem] Oper.semAt_some

theorem downX_len (x : List UInt8) : (downX x).length ≤ 15 := by
  unfold downX
  cases hx : readT x with
  | none => simp
  | some t =>
    have ho := (readT_some hx).2
    dsimp only
    rw [t.down_len]
    have := t.size_procs
    have := ho.few
    omega
def nodesX (x : List UInt8) : List (List UInt8) := (downX x).map (fun s => s.1)
theorem enters_down : ∀ args w, (callFunc 30 args).run Try.prog w = .ok (.enter 30 args) w := enters_of Try.func30 (by kernel_rfl) rfl
set_option maxHeartbeats 1000000 in
theorem nodes_calls (x : List UInt8) (w : World) : Calls Try.prog 8 #[.string ⟨x.toArray⟩] w (TextsOut w (nodesX x)) := by
  have HD := Lib.hid (down_calls x w)
  have HG : Hid (∀ W, w.alloc (.cells #[.string ⟨x.toArray⟩] 23) = W → Below w.heap.size w W ∧ Calls Try.prog 24 #[.func (.func 30) #[] #[.pointer (some ⟨w.heap.size, 0, none⟩)]] W (TextsOut W (nodesX x))) := by
    rintro W rfl
    refine ⟨(Below.refl _ w).alloc (Nat.le_refl _) _, gather_calls 30 _ _ (downX x) _ enters_down (down_all x w.heap.size _ (by rw [cell_of_row _ _ _ _ _ _ (World.alloc_heap_new w _)]; rfl) (by simp)) (fun q hq => by subst hq; simp) (by have := downX_len x; omega)⟩
  generalize nodesX x = zs at *
  go_enter Try.func8, Try.ntmps8
  go_wp2_with fail
  refine HD.out.mono ?_
  rintro e W ⟨rfl, hW⟩
  obtain ⟨bW, hG⟩ := HG.out W hW
  have HB := Lib.hid bW
  clear hW
  go_wp2_with fail
  refine hG.mono ?_
  rintro e W2 ⟨v, rfl, ho, b2⟩
  obtain ⟨A, c, rfl⟩ := L5.own_slice ho
  have HO := Lib.hid (And.intro ho b2)
  clear ho b2
  go_wp2
  go_ret
  exact ⟨_, rfl, L10.own_base HO.out.1 HB.out.size, HB.out.trans (HO.out.2.mono HB.out.size)⟩
/-- What stands at a node, or what is wrong. -/
def atX (x node : List UInt8) : List UInt8 × Int := match readT x with
  | none => ([], 1)
  | some t => match t.at node with
    | none => ([], 8)
    | some u => (u.text, 0)
theorem results_two {P : Program} {fn : Func} {p u : Tmp} {t1 t2 : TypeId} (h : fn.results = #[.cell p t1, .cell u t2]) (tmps : Array Value) (w : World) (a b : Addr) (x y : Value)
    (hp : tmps.getD p undef = .pointer (some a)) (hu : tmps.getD u undef = .pointer (some b)) (h1 : (loadVar t1 a).run P w = .ok x w) (h2 : (loadVar t2 b).run P w = .ok y w) : (results fn tmps).run P w = .ok (.tuple #[x, y]) w := by
  have hp' : tmps[p]?.getD undef = .pointer (some a) := by simpa using hp
  have hu' : tmps[u]?.getD undef = .pointer (some b) := by simpa using hu
  simp [results, h, hp', hu', asAddr, h1, h2, Result.andThen, Sem.run_bind]
theorem load_tree (w : World) (b : Nat) (x : Value) (h : w.cell? ⟨b, 0, none⟩ = some x) : (loadVar 23 ⟨b, 0, none⟩).run Try.prog w = .ok x w := by
  have hu := Try.underlying23
  go_simp
theorem load_errno (w : World) (b : Nat) (x : Value) (h : w.cell? ⟨b, 0, none⟩ = some x) : (loadVar 24 ⟨b, 0, none⟩).run Try.prog w = .ok x w := by
  have hu := Try.underlying24
  go_simp
/-- The two results in their boxes. -/
structure TwoBox (w : World) (b4 b5 : Nat) (x : List UInt8) (k : Int) (W : World) : Prop where
  fst : W.heap[b4]? = some (.cells #[.string ⟨x.toArray⟩] 23 (0, 0))
  snd : W.heap[b5]? = some (.cells #[.int .i64 k] 24 (0, 0))
  below : Below w.heap.size w W
theorem TwoBox.results {w W : World} {b4 b5 : Nat} {x : List UInt8} {k : Int} (h : TwoBox w b4 b5 x k W) {fn : Func} (hr : fn.results = #[.cell 4 23, .cell 5 24]) (tmps : Array Value) (h4 : tmps.getD 4 undef = .pointer (some ⟨b4, 0, none⟩)) (h5 : tmps.getD 5 undef = .pointer (some ⟨b5, 0, none⟩)) :
    (results fn tmps).run Try.prog W = .ok (.tuple #[.string ⟨x.toArray⟩, .int .i64 k]) W :=
  results_two hr tmps W _ _ _ _ h4 h5 (load_tree W b4 _ (by rw [cell_of_row _ _ _ _ _ _ h.fst]; rfl)) (load_errno W b5 _ (by rw [cell_of_row _ _ _ _ _ _ h.snd]; rfl))
theorem TwoBox.store {w W : World} {b4 b5 : Nat} {x : List UInt8} {k : Int} (h : TwoBox w b4 b5 x k W) (hb4 : w.heap.size ≤ b4) (hb5 : w.heap.size ≤ b5) (hne : b4 ≠ b5) (y : List UInt8) (m : Int) : TwoBox w b4 b5 y m ((W.setCell ⟨b4, 0, none⟩ (.string ⟨y.toArray⟩)).setCell ⟨b5, 0, none⟩ (.int .i64 m)) := by
  have e1 := heap_setCell_same W b4 0 _ _ (.string ⟨y.toArray⟩) h.fst
  have e2 : (W.setCell ⟨b4, 0, none⟩ (.string ⟨y.toArray⟩)).heap[b5]? = some (.cells #[.int .i64 k] 24 (0, 0)) := (Below.heap_setCell _ _ _ _ (fun e => hne e.symm)).trans h.snd
  have e3 := heap_setCell_same _ b5 0 _ _ (.int .i64 m) e2
  refine ⟨(Below.heap_setCell _ _ _ _ (fun e => hne e)).trans e1, e3, ?_⟩
  have hb := h.below
  refine ⟨hb.os, hb.tape, hb.output, by simpa [World.setCell] using hb.size, fun q hq => ?_⟩
  exact (Below.heap_setCell _ _ _ _ (show q ≠ b5 by omega)).trans ((Below.heap_setCell _ _ _ _ (show q ≠ b4 by omega)).trans (hb.block q hq))
theorem TwoBox.cells {w W : World} {b4 b5 : Nat} {x : List UInt8} {k : Int} (h : TwoBox w b4 b5 x k W) : (W.cell? ⟨b4, 0, none⟩ = some (.string ⟨x.toArray⟩) ∧ W.cell? ⟨b5, 0, none⟩ = some (.int .i64 k)) ∧ W.frozen? ⟨b4, 0, none⟩ = false ∧ W.frozen? ⟨b5, 0, none⟩ = false :=
  ⟨⟨by rw [cell_of_row _ _ _ _ _ _ h.fst]; rfl, by rw [cell_of_row _ _ _ _ _ _ h.snd]; rfl⟩, frozen_of_row _ _ _ _ _ h.fst, frozen_of_row _ _ _ _ _ h.snd⟩
theorem TwoBox.kept {w V V' : World} {b4 b5 C : Nat} {F : Nat → Prop} {x : List UInt8} {k : Int} (h : TwoBox w b4 b5 x k V) (hk : Beside C F V V') (hC : w.heap.size ≤ C) (h4 : F b4) (h5 : F b5) : TwoBox w b4 b5 x k V' := by
  have l4 := (Array.getElem?_eq_some_iff.1 h.fst).1
  have l5 := (Array.getElem?_eq_some_iff.1 h.snd).1
  exact ⟨(hk.same b4 l4 (.inr h4)).trans h.fst, (hk.same b5 l5 (.inr h5)).trans h.snd, hk.os.trans h.below.os, hk.tape.trans h.below.tape, hk.output.trans h.below.output, Nat.le_trans h.below.size hk.size,
    fun q hq => (hk.same q (Nat.lt_of_lt_of_le hq h.below.size) (.inl (by omega))).trans (h.below.block q hq)⟩
theorem TwoBox.later {w V V' : World} {b4 b5 : Nat} {x : List UInt8} {k : Int} (h : TwoBox w b4 b5 x k V) (hk : Below V.heap.size V V') : TwoBox w b4 b5 x k V' :=
  ⟨(hk.block b4 (Array.getElem?_eq_some_iff.1 h.fst).1).trans h.fst, (hk.block b5 (Array.getElem?_eq_some_iff.1 h.snd).1).trans h.snd, h.below.trans (hk.mono h.below.size)⟩
theorem two_new {w W0 : World} (node : List UInt8) (h : ((w.alloc (.cells #[.string ⟨node.toArray⟩] 9)).alloc (.cells #[.string ⟨#[]⟩] 23)).alloc (.cells #[.int .i64 0] 24) = W0) :
    TwoBox w (w.heap.size + 1) (w.heap.size + 1 + 1) [] 0 W0 ∧ W0.heap[w.heap.size]? = some (.cells #[.string ⟨node.toArray⟩] 9 (0, 0)) ∧ W0.heap.size = w.heap.size + 3 := by
  subst h
  have e0 := World.alloc_heap_new w (.cells #[.string ⟨node.toArray⟩] 9)
  have e1 := World.alloc_heap_new (w.alloc (.cells #[.string ⟨node.toArray⟩] 9)) (.cells #[.string ⟨#[]⟩] 23)
  have e2 := World.alloc_heap_new ((w.alloc (.cells #[.string ⟨node.toArray⟩] 9)).alloc (.cells #[.string ⟨#[]⟩] 23)) (.cells #[.int .i64 0] 24)
  simp only [World.size_alloc] at e0 e1 e2
  refine ⟨⟨(heap_alloc_old _ _ (by simp)).trans e1, e2, (((Below.refl _ w).alloc (Nat.le_refl _) _).alloc (by simp) _).alloc (by simp; omega) _⟩, (heap_alloc_old _ _ (by simp; omega)).trans ((heap_alloc_old _ _ (by simp)).trans e0), by simp⟩
set_option maxRecDepth 100000 in
set_option maxHeartbeats 4000000 in
theorem at_none (x node : List UInt8) (hx : readT x = none) (w : World) : Calls Try.prog 5 #[.string ⟨x.toArray⟩, .string ⟨node.toArray⟩] w (Str2 w ([], 1)) := by
  have hR := fun V => right_top x V
  rw [hx] at hR
  rw [show Option.isSome (none : Option Tr) = false from rfl] at hR
  have HR := Lib.hid hR
  clear hR hx
  refine (callsIn_wide (n := 9)).1 ?_
  refine callsIn_of_wp_marks Try.func5 rfl trivial ?_ rfl
  simp only [Try.ntmps5, List.size_toArray, List.length_cons, List.length_nil, Nat.reduceAdd, Nat.reduceSub, Array.replicate_succ, Array.replicate_zero, List.push_toArray, List.append_toArray, List.nil_append, List.cons_append]
  obtain ⟨W0, hW0⟩ : ∃ W0, ((w.alloc (.cells #[.string ⟨node.toArray⟩] 9)).alloc (.cells #[.string ⟨#[]⟩] 23)).alloc (.cells #[.int .i64 0] 24) = W0 := ⟨_, rfl⟩
  have HT : Hid (∀ V, Below W0.heap.size W0 V → TwoBox w (w.heap.size + 1) (w.heap.size + 1 + 1) [] 0 V) := fun V hV => (two_new node hW0).1.later hV
  gi_wp2_with (refine ⟨trivial, ?_⟩; gi_at_call 20; refine (callsIn_wide.2 (HR.out _)).mono ?_; rintro e w1 ⟨rfl, b1⟩; have hT := HT.out w1 b1; obtain ⟨⟨c4, c5⟩, f4, f5⟩ := hT.cells; have hT1 := Lib.hid (hT.store (by omega) (by omega) (by omega) [] 1); clear b1 hT)
  exact ⟨_, hT1.out.results rfl _ rfl rfl, rfl, hT1.out.below⟩
theorem upto_sub {α : Type} {s : α → Bool} {xs : List α} : ∀ y ∈ upto s xs, y ∈ xs := by
  induction xs with
  | nil => intro y hy; cases hy
  | cons x xs ih =>
    intro y hy
    rw [upto] at hy
    split at hy
    · rw [List.mem_singleton.1 hy]; simp
    · rcases List.mem_cons.1 hy with rfl | hy
      · simp
      · simp [ih y hy]
def isNode (node : List UInt8) (y : Nd) : Bool := decide (y.1 = node)
theorem upto_at (t : Tr) (node : List UInt8) : stopped (isNode node) (upto (isNode node) t.down) = (t.at node).isSome := by
  cases h : t.at node with
  | none =>
    have : ∀ y ∈ t.down, isNode node y = false := fun y hy => by
      refine decide_eq_false (fun e => ?_)
      have := (t.down_mem y.1 y.2).1 hy
      rw [e, h] at this
      cases this
    rw [upto_none this]
    unfold stopped
    rw [List.any_eq_false.2 (fun y hy => by simp [this y hy])]
    rfl
  | some u =>
    obtain ⟨a, b, e⟩ := List.append_of_mem ((t.down_mem node u).2 h)
    have hn := t.down_nodup
    rw [e, List.map_append, List.nodup_append] at hn
    have ha : ∀ y ∈ a, isNode node y = false := fun y hy => decide_eq_false (fun e2 => hn.2.2 y.1 (List.mem_map_of_mem hy) node (by simp) e2)
    rw [e, upto_some a b ha (decide_eq_true rfl), stopped_snoc _ ha]
    exact decide_eq_true rfl
set_option maxRecDepth 100000 in
set_option maxHeartbeats 8000000 in
theorem at_some (t : Tr) (ho : t.ok) (node : List UInt8) (w : World) : Calls Try.prog 5 #[.string ⟨t.text.toArray⟩, .string ⟨node.toArray⟩] w (Str2 w (match t.at node with | none => ([], 8) | some u => (u.text, 0))) := by
  have hR := fun V => right_top t.text V
  rw [readT_text ho] at hR
  rw [show Option.isSome (some t) = true from rfl] at hR
  have HR := Lib.hid hR
  have HD := Lib.hid (fun V => down_calls t.text V)
  have HU := Lib.hid (fun Bs V => down_upto t ho Bs V)
  have hst := upto_at t node
  have HM := Lib.hid (fun y u => t.down_mem y u)
  obtain ⟨r, hr⟩ : ∃ r, t.at node = r := ⟨_, rfl⟩
  rw [hr] at hst ⊢
  have Hr := Lib.hid hr
  clear hR ho hr
  refine (callsIn_wide (n := 9)).1 ?_
  refine callsIn_of_wp_marks Try.func5 rfl trivial ?_ rfl
  simp only [Try.ntmps5, List.size_toArray, List.length_cons, List.length_nil, Nat.reduceAdd, Nat.reduceSub, Array.replicate_succ, Array.replicate_zero, List.push_toArray, List.append_toArray, List.nil_append, List.cons_append]
  obtain ⟨W0, hW0⟩ : ∃ W0, ((w.alloc (.cells #[.string ⟨node.toArray⟩] 9)).alloc (.cells #[.string ⟨#[]⟩] 23)).alloc (.cells #[.int .i64 0] 24) = W0 := ⟨_, rfl⟩
  have hT0 := two_new node hW0
  obtain ⟨tx, htx⟩ : ∃ tx, t.text = tx := ⟨_, rfl⟩
  rw [htx] at HR HD HU ⊢
  gi_wp2_with (first
    | (refine ⟨trivial, ?_⟩; gi_at_call 20; refine (callsIn_wide.2 (HR.out _)).mono ?_; rintro e w1 ⟨rfl, b1⟩)
    | (refine ⟨trivial, ?_⟩; gi_at_call 21; refine (callsIn_wide.2 (HD.out _)).mono ?_; rintro e w2 ⟨rfl, hW2⟩))
  have hs1 := b1.size
  have b12 : Below w1.heap.size w1 w2 := by rw [← hW2]; exact (Below.refl _ _).alloc (Nat.le_refl _) _
  have hs2 : w2.heap.size = w1.heap.size + 1 := by rw [← hW2]; simp
  have hnb : w2.cell? ⟨w1.heap.size, 0, none⟩ = some (.string ⟨tx.toArray⟩) := by rw [← hW2, cell_of_row _ _ _ _ _ _ (World.alloc_heap_new w1 _)]; rfl
  have b02 := b1.trans (b12.mono hs1)
  have hI0 : TwoBox w (w.heap.size + 1) (w.heap.size + 1 + 1) [] 0 w2 := hT0.1.later b02
  have hN0 : w2.heap[w.heap.size]? = some (.cells #[.string ⟨node.toArray⟩] 9 (0, 0)) := (b02.block _ (by have := hT0.2.2; omega)).trans hT0.2.1
  have hz0 := hT0.2.2
  clear hW2 b1 b12 b02 hT0 hW0
  refine wp_upto (gf := 30) (lb := #[.pointer (some ⟨w1.heap.size, 0, none⟩)]) rfl enters_down (HU.out w1.heap.size w2 hnb (by omega)) (fun q => q = w.heap.size + 1 ∨ q = w.heap.size + 1 + 1) (fun q hq => by omega) (Below.refl _ _) (fun _ => rfl)
    (isNode node) (fun F pre W => (F = fun q => q = w.heap.size + 1 ∨ q = w.heap.size + 1 + 1) ∧ W.heap[w.heap.size]? = some (.cells #[.string ⟨node.toArray⟩] 9 (0, 0)) ∧ ∃ x k, TwoBox w (w.heap.size + 1) (w.heap.size + 1 + 1) x k W ∧ (stopped (isNode node) pre = true → ∃ u, r = some u ∧ x = u.text ∧ k = 0))
    (fun F pre V V' h hk => ?hangs) ⟨rfl, hN0, [], 0, hI0, fun h => by cases h⟩
    (fun y => { tmps := #[.string ⟨tx.toArray⟩, .string ⟨node.toArray⟩, undef, .pointer (some ⟨w.heap.size, 0, none⟩), .pointer (some ⟨w.heap.size + 1, 0, none⟩), .pointer (some ⟨w.heap.size + 1 + 1, 0, none⟩), .string ⟨y.1.toArray⟩, .string ⟨y.2.text.toArray⟩, .string ⟨tx.toArray⟩, .bool true, .bool false, .string ⟨tx.toArray⟩, .func (.func 30) #[] #[.pointer (some ⟨w1.heap.size, 0, none⟩)], .string ⟨y.1.toArray⟩, .string ⟨y.2.text.toArray⟩, undef, undef, undef, undef], defers := [] }) ?assign ?body ?done
  case hangs =>
    obtain ⟨rfl, k1, x, k, k2, k3⟩ := h
    exact ⟨rfl, (hk.same _ (Array.getElem?_eq_some_iff.1 k1).1 (.inl (by omega))).trans k1, x, k, k2.kept hk (by omega) (.inl rfl) (.inr rfl), k3⟩
  case assign =>
    intro m l y W K hK
    unfold encN
    gi_wp2
    exact hK
  case body =>
    rintro m l pre ⟨yx, u⟩ F W hpre ⟨rfl, hN, x, k, hT, _⟩
    have hcl := upto_pre hpre
    have hmem : (yx, u) ∈ t.down := upto_sub _ (hpre.subset (by simp))
    have hat := (HM.out yx u).1 hmem
    have hsn : stopped (isNode node) (pre ++ [(yx, u)]) = isNode node (yx, u) := stopped_snoc _ hcl
    obtain ⟨⟨c4, c5⟩, f4, f5⟩ := hT.cells
    have cN : W.cell? ⟨w.heap.size, 0, none⟩ = some (.string ⟨node.toArray⟩) := by rw [cell_of_row _ _ _ _ _ _ hN]; rfl
    have hzW := (Array.getElem?_eq_some_iff.1 hT.snd).1
    by_cases e : yx = node
    · subst e
      have hsy : isNode yx (yx, u) = true := decide_eq_true rfl
      have hru : r = some u := by rw [← Hr.out, hat]
      have hT2 := hT.store (by omega) (by omega) (by omega) u.text 0
      obtain ⟨W3, hW3⟩ : ∃ W3, (W.setCell ⟨w.heap.size + 1, 0, none⟩ (.string ⟨u.text.toArray⟩)).setCell ⟨w.heap.size + 1 + 1, 0, none⟩ (.int .i64 0) = W3 := ⟨_, rfl⟩
      have HE : Hid (roundEnd (isNode yx) (yx, u) .ret ∧ ∃ F', Round (fun q => q = w.heap.size + 1 ∨ q = w.heap.size + 1 + 1) F' W W3 ∧ (F' = fun q => q = w.heap.size + 1 ∨ q = w.heap.size + 1 + 1) ∧ W3.heap[w.heap.size]? = some (.cells #[.string ⟨yx.toArray⟩] 9 (0, 0)) ∧ ∃ x k, TwoBox w (w.heap.size + 1) (w.heap.size + 1 + 1) x k W3 ∧ (stopped (isNode yx) (pre ++ [(yx, u)]) = true → ∃ u, r = some u ∧ x = u.text ∧ k = 0)) := by
        subst hW3
        have hoth : ∀ q, q ≠ w.heap.size + 1 → q ≠ w.heap.size + 1 + 1 → ((W.setCell ⟨w.heap.size + 1, 0, none⟩ (.string ⟨u.text.toArray⟩)).setCell ⟨w.heap.size + 1 + 1, 0, none⟩ (.int .i64 0)).heap[q]? = W.heap[q]? := fun q h1 h2 =>
          (Below.heap_setCell _ _ _ _ h2).trans (Below.heap_setCell _ _ _ _ h1)
        refine ⟨hsy, _, ⟨rfl, rfl, rfl, by simp [World.setCell], fun q hq hx => hoth q (fun h => hx (.inl h)) (fun h => hx (.inr h)), fun q hq => .inl hq, fun q hq => by simp [World.setCell]; omega⟩, rfl, (hoth _ (by omega) (by omega)).trans hN, u.text, 0, hT2, fun _ => ⟨u, hru, rfl, rfl⟩⟩
      generalize u.text = ux at *
      clear hT hT2 hpre hcl hmem hat hsn hN hsy hru
      gi_wp2
      exact HE.out
    · have hsy : isNode node (yx, u) = false := decide_eq_false e
      have e' : (yx == node) = false := by simpa using e
      have HE : Hid (roundEnd (isNode node) (yx, u) .normal ∧ ∃ F', Round (fun q => q = w.heap.size + 1 ∨ q = w.heap.size + 1 + 1) F' W W ∧ (F' = fun q => q = w.heap.size + 1 ∨ q = w.heap.size + 1 + 1) ∧ W.heap[w.heap.size]? = some (.cells #[.string ⟨node.toArray⟩] 9 (0, 0)) ∧ ∃ x k, TwoBox w (w.heap.size + 1) (w.heap.size + 1 + 1) x k W ∧ (stopped (isNode node) (pre ++ [(yx, u)]) = true → ∃ u, r = some u ∧ x = u.text ∧ k = 0)) :=
        ⟨hsy, _, Round.of_below (Below.refl _ _) (fun q hq => by omega), rfl, hN, x, k, hT, fun h => by rw [hsn, hsy] at h; cases h⟩
      generalize u.text = ux at *
      clear hT hpre hcl hmem hat hsn hN hsy
      gi_wp2
      exact HE.out
  case done =>
    rintro D F W hD hFD ⟨rfl, hN, x, k, hT, hs⟩ hK
    rw [hst] at hs ⊢
    have hT2 := hT.kept (Beside.put (B := D) (F := fun q => q = w.heap.size + 1 ∨ q = w.heap.size + 1 + 1) W (.deferred none) (Nat.le_refl _) hFD) (by omega) (.inl rfl) (.inr rfl)
    cases r with
    | some u =>
      obtain ⟨u', hu, rfl, rfl⟩ := hs rfl
      cases hu
      clear hT hs
      gi_wp2
      exact leave_mark hK (fun V hV => by subst hV; exact hT2.results rfl _ rfl rfl) ⟨rfl, hT2.below⟩
    | none =>
      obtain ⟨⟨c4, c5⟩, f4, f5⟩ := hT.cells
      have hT3 := hT.store (by omega) (by omega) (by omega) [] 8
      have hT4 := hT3.kept (Beside.put (B := D) (F := fun q => q = w.heap.size + 1 ∨ q = w.heap.size + 1 + 1) _ (.deferred none) (Nat.le_refl _) hFD) (by omega) (.inl rfl) (.inr rfl)
      have hK2 : ((W.setCell ⟨w.heap.size + 1, 0, none⟩ (.string ⟨[].toArray⟩)).setCell ⟨w.heap.size + 1 + 1, 0, none⟩ (.int .i64 8)).heap[D]? = some (.deferred (some [])) :=
        (Below.heap_setCell _ _ _ _ (fun h => hFD (.inr h))).trans ((Below.heap_setCell _ _ _ _ (fun h => hFD (.inl h))).trans hK)
      clear hT hs hT2 hT3
      gi_wp2
      exact leave_mark hK2 (fun V hV => by subst hV; exact hT4.results rfl _ rfl rfl) ⟨rfl, hT4.below⟩
theorem at_calls (x node : List UInt8) (w : World) : Calls Try.prog 5 #[.string ⟨x.toArray⟩, .string ⟨node.toArray⟩] w (Str2 w (atX x node)) := by
  unfold atX
  cases hx : readT x with
  | none => exact at_none x node hx w
  | some t =>
    obtain ⟨e, ho⟩ := readT_some hx
    subst e
    exact at_some t ho node w
end Go.Proofs.Ytlpabhgfmkilnaa.L14
