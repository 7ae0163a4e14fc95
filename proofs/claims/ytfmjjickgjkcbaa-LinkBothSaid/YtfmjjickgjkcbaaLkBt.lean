/- LinkBoth, pure, and what an end takes: one way of a pair of ends, whatever the other way does. LinkBoth: both ends, the net and the four rows in memory, and how each act keeps them. LinkBoth: what is taken at each end is the beginning of what the other one sent, whoever sends when. The statement LinkBoth: for every input the law returns true, and its arguments read as they did. -/
import Derived.Test.YtfmjjickgjkcbaaLkP
import Derived.Deep.CutBlock
import Derived.Deep.DeepCutAuto
section
namespace Go.Proofs.Ytfmjjickgjkcbaa.L7
open Go.ChangeShapes Go.WideShapes Go.ChangeAt Go.RowKit L6

/-- p sends S to q: s is p's end, t is q's. -/
structure OrdB (p q : Nat) (S : List Bytes) (s t : St) : Prop where
  me : s.me = p ∧ s.peer = q ∧ t.me = q ∧ t.peer = p
  snt : s.sent = S.length
  small : ∀ b ∈ S, SmallB b
  taken : t.taken ≤ S.length
  wait : ∀ n b, t.wait n = some b → t.taken < n ∧ S[n - 1]? = some b
/-- What may lie in the net, one way. -/
def FrW (p q : Nat) (S : List Bytes) (f : Bytes) : Prop := (∃ n b, S[n]? = some b ∧ f = dataF p q (n + 1) b) ∨ ∃ k, k ≤ 2147483647 ∧ f = ackF p q k
def FrB (p q : Nat) (S R : List Bytes) (dst : Nat) (f : Bytes) : Prop := (dst = q ∧ FrW p q S f) ∨ (dst = p ∧ FrW q p R f)
theorem FrB.swap {p q : Nat} {S R : List Bytes} {dst : Nat} {f : Bytes} (h : FrB p q S R dst f) : FrB q p R S dst f := h.symm
theorem FrW.more {p q : Nat} {S : List Bytes} {f : Bytes} (h : FrW p q S f) (l : List Bytes) : FrW p q (S ++ l) f := by
  rcases h with ⟨n, b, h1, h2⟩ | h
  · exact .inl ⟨n, b, by rw [List.getElem?_append_left (List.getElem?_eq_some_iff.1 h1).1]; exact h1, h2⟩
  · exact .inr h
theorem FrB.more {p q : Nat} {S R : List Bytes} {dst : Nat} {f : Bytes} (h : FrB p q S R dst f) (l : List Bytes) : FrB p q (S ++ l) R dst f :=
  h.imp (fun ⟨e, k⟩ => ⟨e, k.more l⟩) id
theorem OrdB.send {p q : Nat} {S : List Bytes} {s t : St} (h : OrdB p q S s t) (hok : s.Ok) {b : Bytes} (hb : SmallB b) (hs : s.sent < 2147483647) (hr : s.opens.length < 64) :
    (sendL s b).1 = (dataF p q (S.length + 1) b, 0) ∧ OrdB p q (S ++ [b]) (sendL s b).2 t ∧ (sendL s b).2.taken = s.taken ∧ ∀ R, OrdB q p R t s → OrdB q p R t (sendL s b).2 := by
  obtain ⟨m1, m2, m3, m4⟩ := h.me
  have e := sendL_small hok hb hs hr
  have e0 := h.snt
  rw [m1, m2, e0] at e
  rw [e]
  refine ⟨rfl, ⟨⟨rfl, rfl, m3, m4⟩, by simp, ?_, by have := h.taken; simp; omega, fun n y hn => ?_⟩, rfl, fun R hR => ⟨⟨m3, m4, rfl, rfl⟩, hR.snt, hR.small, hR.taken, hR.wait⟩⟩
  · intro y hy
    rcases List.mem_append.1 hy with hy | hy
    · exact h.small y hy
    · simp at hy
      rw [hy]
      exact hb
  · obtain ⟨k1, k2⟩ := h.wait n y hn
    exact ⟨k1, by rw [List.getElem?_append_left (List.getElem?_eq_some_iff.1 k2).1]; exact k2⟩
theorem OrdB.ack {p q : Nat} {S : List Bytes} {s t : St} (h : OrdB p q S s t) (k : Nat) : OrdB p q S s (ackL t k).2 ∧ (ackL t k).2.taken = t.taken ∧ ∀ R, OrdB q p R t s → OrdB q p R (ackL t k).2 s := by
  obtain ⟨m1, m2, m3, m4⟩ := h.me
  unfold ackL
  split
  · exact ⟨h, rfl, fun R hR => hR⟩
  · split
    · exact ⟨h, rfl, fun R hR => hR⟩
    · exact ⟨⟨⟨m1, m2, m3, m4⟩, h.snt, h.small, h.taken, h.wait⟩, rfl, fun R hR => ⟨hR.me, hR.snt, hR.small, hR.taken, hR.wait⟩⟩
theorem OrdB.data {p q : Nat} {S : List Bytes} {s t : St} (h : OrdB p q S s t) {n : Nat} {b : Bytes} (hb : S[n]? = some b) :
    OrdB p q S s (dataL t (n + 1) b).2 ∧ t.taken ≤ (dataL t (n + 1) b).2.taken ∧ S.take (dataL t (n + 1) b).2.taken = S.take t.taken ++ (dataL t (n + 1) b).1.1 ∧ ∀ R, OrdB q p R t s → OrdB q p R (dataL t (n + 1) b).2 s := by
  have hl := (List.getElem?_eq_some_iff.1 hb).1
  obtain ⟨r1, r2, r3, r4, r5⟩ := dataL_reply (s := t) (n := n + 1) (b := b)
  have hR : ∀ R, OrdB q p R t s → OrdB q p R (dataL t (n + 1) b).2 s := fun R hR => ⟨⟨r2.trans hR.me.1, r3.trans hR.me.2.1, hR.me.2.2.1, hR.me.2.2.2⟩, r4.trans hR.snt, hR.small, hR.taken, hR.wait⟩
  refine (fun (k : OrdB p q S s (dataL t (n + 1) b).2 ∧ t.taken ≤ (dataL t (n + 1) b).2.taken ∧ S.take (dataL t (n + 1) b).2.taken = S.take t.taken ++ (dataL t (n + 1) b).1.1) => ⟨k.1, k.2.1, k.2.2, hR⟩) ?_
  clear hR r1 r2 r3 r4 r5
  unfold dataL
  split
  · rename_i c
    obtain ⟨k1, k2, k3, k4⟩ := waitL_ok c
    rw [k4]
    have hw : ∀ x y, putW t.wait (n + 1) b x = some y → t.taken < x ∧ S[x - 1]? = some y := by
      intro x y hx
      unfold putW at hx
      split at hx
      · rename_i e
        cases hx
        subst e
        exact ⟨k1, hb⟩
      · exact h.wait x y hx
    have hd := drain_sent (k := 33) (T := t.taken) (w := putW t.wait (n + 1) b) (fun x y e _ => (hw x y e).2)
    have hi := drain_within (k := 33) (T := t.taken) (w := putW t.wait (n + 1) b) (fun x y e _ => (hw x y e).2) h.taken
    refine ⟨⟨h.me, h.snt, h.small, hi, ?_⟩, ?_, ?_⟩
    · intro x y hx
      have hx' : (if x ≤ t.taken + (drain 33 t.taken (putW t.wait (n + 1) b)).length then none else putW t.wait (n + 1) b x) = some y := hx
      split at hx'
      · simp at hx'
      · rename_i a
        exact ⟨by show t.taken + (drain 33 t.taken (putW t.wait (n + 1) b)).length < x; omega, (hw x y hx').2⟩
    · exact Nat.le_add_right _ _
    · show S.take (t.taken + _) = S.take t.taken ++ drain 33 t.taken (putW t.wait (n + 1) b)
      rw [List.take_add]
      congr 1
      exact hd.symm
  · exact ⟨h, Nat.le_refl _, by simp⟩
theorem OrdB.start {p q : Nat} : OrdB p q [] (newL p q) (newL q p) := ⟨⟨rfl, rfl, rfl, rfl⟩, rfl, by simp, by simp [newL], by simp [newL]⟩
/-- What q's end takes of a frame that came from p. -/
def TakeB (w : World) (y : Blk) (m p q : Nat) (S R : List Bytes) (s t : St) (e : Ending) (w' : World) : Prop :=
  ∃ (v : Value) (l : List Bytes) (r : Bytes) (c : Nat) (t' : St), e = .returned (.tuple #[v, .string ⟨r.toArray⟩, .int .i64 c]) ∧ w'.ownsRow w.heap.size 37 1 v l.length (strs l) ∧ EndAt w' y (m + 1) t' ∧ Only y.In w w' ∧
    OrdB p q S s t' ∧ OrdB q p R t' s ∧ t.taken ≤ t'.taken ∧ S.take t'.taken = S.take t.taken ++ l ∧ ∀ g ∈ laid [r], FrB p q S R p g
theorem takeB_calls {w : World} {y : Blk} {m p q : Nat} {S R : List Bytes} {s t : St} (hy : EndAt w y m t) (o : OrdB p q S s t) (o' : OrdB q p R t s) (hm : m < maxLen) (hS : S.length < 2147483647) (hpq : p ≠ q ∧ 1 ≤ p ∧ p ≤ 8 ∧ 1 ≤ q ∧ q ≤ 8) {f : Bytes} (hf : FrW p q S f) :
    Calls Try.prog 16 #[.pointer (some ⟨y.g, 0, none⟩), .string ⟨f.toArray⟩] w (TakeB w y m p q S R s t) := by
  obtain ⟨m1, m2, m3, m4⟩ := o.me
  obtain ⟨h0, h1, h2, h3, h4⟩ := hpq
  have htk := o.taken
  rcases hf with ⟨n, b, hb, e⟩ | ⟨k, hk, e⟩
  · have hil := (List.getElem?_eq_some_iff.1 hb).1
    have hr := (data_frame h1 h2 h3 h4 (n := n + 1) (b := b) (by omega) (by omega) (o.small _ (List.mem_of_getElem? hb))).2.2
    have hr' : ReadsAs t.me t.peer f (.data (n + 1) b) := by rw [m3, m4, e]; exact hr
    refine (take_data hy (by rw [e]; exact dataF_len _ _ _ _) hm hr').mono ?_
    rintro e' w' ⟨v, rfl, r1, r2, r3⟩
    obtain ⟨d1, d2, d3, d4⟩ := o.data hb
    refine ⟨v, _, _, _, _, rfl, r1, r2, r3, d1, d4 R o', d2, d3, fun g hg => ?_⟩
    have hg := (List.mem_filter.1 hg).1
    simp only [List.mem_cons, List.not_mem_nil, or_false] at hg
    have hre := (dataL_reply (s := t) (n := n + 1) (b := b)).1
    rw [m3, m4] at hre
    exact .inr ⟨rfl, .inr ⟨(dataL t (n + 1) b).2.taken, by have := d1.taken; omega, by rw [hg]; exact hre⟩⟩
  · have hr := (ack_frame h1 h2 h3 h4 hk).2.2
    have hr' : ReadsAs t.me t.peer f (.ack k) := by rw [m3, m4, e]; exact hr
    refine (take_ack hy (by rw [e]; exact ackF_len _ _ _) hm hr').mono ?_
    rintro e' w' ⟨v, rfl, r1, r2, r3⟩
    obtain ⟨d1, d2, d3⟩ := o.ack k
    exact ⟨v, [], [], _, _, rfl, r1, r2, r3, d1, d3 R o', by rw [d2]; exact Nat.le_refl _, by rw [d2]; simp, fun g hg => by simp [laid] at hg⟩
end Go.Proofs.Ytfmjjickgjkcbaa.L7
end

section
namespace Go.Proofs.Ytfmjjickgjkcbaa.L7
open Go.ChangeShapes Go.WideShapes Go.ChangeAt Go.RowKit L6

theorem rs_net : 33 ≠ 32 ∧ 30 ≠ 32 ∧ 33 ≠ 30 := ⟨by decide, by decide, by decide⟩
theorem rs_end : (33 ≠ 59 ∧ 33 ≠ 77) ∧ (30 ≠ 59 ∧ 30 ≠ 77) := ⟨⟨by decide, by decide⟩, by decide, by decide⟩
theorem rs_row : (3 ≠ 33 ∧ 3 ≠ 30) ∧ (37 ≠ 33 ∧ 37 ≠ 30) ∧ (9 ≠ 33 ∧ 9 ≠ 30) := ⟨⟨by decide, by decide⟩, ⟨by decide, by decide⟩, by decide, by decide⟩
/-- A block of cells lies apart from an end. -/
theorem EndAt.not_block {W : World} {x : Blk} {n : Nat} {s : St} (h : EndAt W x n s) {g : Nat} {e : TypeId} {cs : Array Value} (hb : W.heap[g]? = some (.cells cs e (0, 0))) (he : e ≠ 59) (he2 : e ≠ 77) : ¬ In4 x g := by
  obtain ⟨_, _, e1⟩ := h.queue.chan
  obtain ⟨_, _, e2⟩ := h.map.block
  have e3 := h.queue.own
  have e4 := h.own
  rintro (rfl | rfl | rfl | rfl)
  · rw [hb] at e4; simp at e4; exact he e4.2
  · rw [hb] at e3; simp at e3; exact he2 e3.2
  · rw [hb] at e1; simp at e1
  · rw [hb] at e2; simp at e2
theorem Net7.keep {W W' : World} {B h : Nat} {x y : Blk} {n m : Nat} {s t : St} {tos : List Nat} {fs : List Bytes} {vt vl : Value} (z : Net7 W B h x y n m s t tos fs vt vl) (hs : ∀ k, NIn h vt vl k ∨ In4 x k ∨ In4 y k → W'.heap[k]? = W.heap[k]?) : Net7 W' B h x y n m s t tos fs vt vl :=
  ⟨z.net.same (fun k hk => hs k (.inl hk)), ⟨z.two.one.same (fun k hk => hs k (.inr (.inl hk))), z.two.two.same (fun k hk => hs k (.inr (.inr hk))), z.two.g, z.two.c, z.two.b⟩, z.apart⟩
theorem Net7.swap {W : World} {B h : Nat} {x y : Blk} {n m : Nat} {s t : St} {tos : List Nat} {fs : List Bytes} {vt vl : Value} (z : Net7 W B h x y n m s t tos fs vt vl) : Net7 W B h y x m n t s tos fs vt vl :=
  ⟨z.net, ⟨z.two.two, z.two.one, z.two.g.symm, z.two.c.symm, z.two.b.symm⟩, fun k hk hx => z.apart k hk hx.symm⟩
theorem Net7.lt {W : World} {B h : Nat} {x y : Blk} {n m : Nat} {s t : St} {tos : List Nat} {fs : List Bytes} {vt vl : Value} (z : Net7 W B h x y n m s t tos fs vt vl) {k : Nat} (hk : NIn h vt vl k ∨ In4 x k ∨ In4 y k) : k < W.heap.size := by
  have l1 := z.two.one.lt
  have l2 := z.two.two.lt
  rcases hk with e | e | e
  · exact (z.net.inlt e).2
  · unfold In4 at e; omega
  · unfold In4 at e; omega
/-- A row of rows: its block, and two of its cells. -/
def Row2 (w : World) (g : Nat) (e : TypeId) (p q : Nat) (v u : Value) : Prop := ∃ cs, w.heap[g]? = some (.cells cs e (0, 0)) ∧ cs[p]? = some v ∧ cs[q]? = some u
theorem Row2.swap {w : World} {g : Nat} {e : TypeId} {p q : Nat} {v u : Value} (h : Row2 w g e p q v u) : Row2 w g e q p u v := by
  obtain ⟨cs, h1, h2, h3⟩ := h
  exact ⟨cs, h1, h3, h2⟩
theorem Row2.keep {w w' : World} {g : Nat} {e : TypeId} {p q : Nat} {v u : Value} (h : Row2 w g e p q v u) (hs : w'.heap[g]? = w.heap[g]?) : Row2 w' g e p q v u := by
  obtain ⟨cs, h1, h2⟩ := h
  exact ⟨cs, hs.trans h1, h2⟩
theorem Row2.lt {w : World} {g : Nat} {e : TypeId} {p q : Nat} {v u : Value} (h : Row2 w g e p q v u) : g < w.heap.size := by
  obtain ⟨cs, h1, _⟩ := h
  exact (Array.getElem?_eq_some_iff.1 h1).1
theorem Row2.cell {w : World} {g : Nat} {e : TypeId} {p q : Nat} {v u : Value} (h : Row2 w g e p q v u) : w.cell? ⟨g, p, none⟩ = some v ∧ w.frozen? ⟨g, p, none⟩ = false := by
  obtain ⟨cs, h1, h2, _⟩ := h
  constructor
  · simp only [World.cell?]; rw [h1]; exact h2
  · simp only [World.frozen?]; rw [h1]; simp
theorem Row2.store {w : World} {g : Nat} {e : TypeId} {p q : Nat} {v u : Value} (h : Row2 w g e p q v u) (hpq : p ≠ q) (v' : Value) : Row2 (w.setCell ⟨g, p, none⟩ v') g e p q v' u := by
  obtain ⟨cs, h1, h2, h3⟩ := h
  have hp := (Array.getElem?_eq_some_iff.1 h2).1
  refine ⟨cs.setIfInBounds p v', blk_setj h1 v', ?_, ?_⟩
  · rw [Array.getElem?_setIfInBounds_self_of_lt hp]
  · rw [Array.getElem?_setIfInBounds_ne hpq]; exact h3
theorem Row2.not_row {w : World} {g : Nat} {e : TypeId} {p q : Nat} {v u : Value} (h : Row2 w g e p q v u) {B n : Nat} {e' : TypeId} {r : Value} {xs : List Value} (hr : w.ownsRow B e' 1 r n xs) (he : e' ≠ e) : r.ownBlock ≠ some g := by
  obtain ⟨cs, h1, _⟩ := h
  exact L7.row_not hr h1 he
theorem net_start {w w3 : World} {x y : Blk} {s t : St} (hT : Two7 w3 x y 0 0 s t) (hB : Below w.heap.size w w3) : Net7 (w3.alloc (.cells #[.slice none 0 0, .slice none 0 0] 32)) w.heap.size w3.heap.size x y 0 0 s t [] [] (.slice none 0 0) (.slice none 0 0) := by
  have bA : Below w3.heap.size w3 (w3.alloc (.cells #[.slice none 0 0, .slice none 0 0] 32)) := (Below.refl _ w3).alloc (Nat.le_refl _) _
  have l1 := hT.one.lt
  have l2 := hT.two.lt
  refine ⟨⟨heap_alloc_new w3 _, hB.size, ⟨rfl, .inl ⟨rfl, rfl⟩⟩, ⟨rfl, .inl ⟨rfl, rfl⟩⟩, rfl⟩, hT.below bA, fun k hk hx => ?_⟩
  rcases hk with e | e | e
  · unfold In4 at hx; omega
  · cases e
  · cases e
structure Mst (w : World) (h gs gg : Nat) (x y : Blk) (p q n m : Nat) (s t : St) (tos : List Nat) (fs : List Bytes) (vt vl : Value) (A B G H : List Bytes) (vs us vg ug : Value) (wr : World) : Prop where
  z : Net7 wr w.heap.size h x y n m s t tos fs vt vl
  bs : Row2 wr gs 33 p q vs us
  bg : Row2 wr gg 30 p q vg ug
  g0 : w.heap.size ≤ gs ∧ w.heap.size ≤ gg
  rs : wr.ownsRow w.heap.size 9 1 vs A.length (strs A)
  ru : wr.ownsRow w.heap.size 9 1 us B.length (strs B)
  rg : wr.ownsRow w.heap.size 37 1 vg G.length (strs G)
  rh : wr.ownsRow w.heap.size 37 1 ug H.length (strs H)
  a1 : ∀ k, vs.ownBlock = some k → us.ownBlock ≠ some k
  a2 : ∀ k, vg.ownBlock = some k → ug.ownBlock ≠ some k
  a3 : ∀ k, vg.ownBlock = some k → vl.ownBlock ≠ some k
  a4 : ∀ k, ug.ownBlock = some k → vl.ownBlock ≠ some k
  below : Below w.heap.size w wr
  above : x.Above w.heap.size ∧ y.Above w.heap.size
section
variable {w wr w' : World} {h gs gg : Nat} {x y : Blk} {p q n m : Nat} {s t : St} {tos : List Nat} {fs : List Bytes} {vt vl : Value} {A B G H : List Bytes} {vs us vg ug : Value}
theorem Mst.swap (a : Mst w h gs gg x y p q n m s t tos fs vt vl A B G H vs us vg ug wr) : Mst w h gs gg y x q p m n t s tos fs vt vl B A H G us vs ug vg wr :=
  ⟨a.z.swap, a.bs.swap, a.bg.swap, a.g0, a.ru, a.rs, a.rh, a.rg, fun k e e' => a.a1 k e' e, fun k e e' => a.a2 k e' e, a.a4, a.a3, a.below, a.above.symm⟩
theorem Mst.size (a : Mst w h gs gg x y p q n m s t tos fs vt vl A B G H vs us vg ug wr) : w.heap.size ≤ wr.heap.size := a.below.size
theorem Mst.next (a : Mst w h gs gg x y p q n m s t tos fs vt vl A B G H vs us vg ug wr) (b : Below wr.heap.size wr w') : Mst w h gs gg x y p q n m s t tos fs vt vl A B G H vs us vg ug w' :=
  ⟨a.z.below b, a.bs.keep (b.block _ a.bs.lt), a.bg.keep (b.block _ a.bg.lt), a.g0, L5.own_below a.rs b, L5.own_below a.ru b, L5.own_below a.rg b, L5.own_below a.rh b, a.a1, a.a2, a.a3, a.a4, a.below.trans (b.mono a.below.size), a.above⟩
/-- No row, and no row of rows, lies in the net or at an end. -/
theorem Net7.str_not (z : Net7 wr w.heap.size h x y n m s t tos fs vt vl) {N : Nat} {xs : List Value} {v : Value} (r : wr.ownsRow w.heap.size 9 1 v N xs) : ∀ k, v.ownBlock = some k → ¬ (NIn h vt vl k ∨ In4 x k ∨ In4 y k) := by
  intro k e
  have k1 := z.two.one.not_row r string_end.1 string_end.2 e
  have k2 := z.two.two.not_row r string_end.1 string_end.2 e
  rintro ((e' | e' | e') | e' | e')
  · exact row_not r z.net.own string_net (by rw [e, e'])
  · exact own_apart r z.net.to string_int k e e'
  · exact own_apart r z.net.l (fun e => term_string e.symm) k e e'
  · unfold In4 at e'; omega
  · unfold In4 at e'; omega
theorem Net7.term_not (z : Net7 wr w.heap.size h x y n m s t tos fs vt vl) {N : Nat} {xs : List Value} {v : Value} (r : wr.ownsRow w.heap.size 37 1 v N xs) (hl : ∀ k, v.ownBlock = some k → vl.ownBlock ≠ some k) : ∀ k, v.ownBlock = some k → ¬ (NIn h vt vl k ∨ In4 x k ∨ In4 y k) := by
  intro k e
  have k1 := z.two.one.not_row r term_end.1 term_end.2 e
  have k2 := z.two.two.not_row r term_end.1 term_end.2 e
  rintro ((e' | e' | e') | e' | e')
  · exact row_not r z.net.own term_net (by rw [e, e'])
  · exact own_apart r z.net.to term_int k e e'
  · exact hl k e e'
  · unfold In4 at e'; omega
  · unfold In4 at e'; omega
theorem Net7.gs_not (z : Net7 wr w.heap.size h x y n m s t tos fs vt vl) {g : Nat} {v u : Value} (r : Row2 wr g 33 p q v u) : ¬ (NIn h vt vl g ∨ In4 x g ∨ In4 y g) := by
  have r0 := r
  obtain ⟨cs, h1, _⟩ := r
  rintro ((e' | e' | e') | e' | e')
  · have := z.net.own; rw [← e', h1] at this; simp at this
  · exact r0.not_row z.net.to rs_row.1.1 e'
  · exact r0.not_row z.net.l rs_row.2.1.1 e'
  · exact z.two.one.not_block h1 rs_end.1.1 rs_end.1.2 e'
  · exact z.two.two.not_block h1 rs_end.1.1 rs_end.1.2 e'
theorem Net7.gg_not (z : Net7 wr w.heap.size h x y n m s t tos fs vt vl) {g : Nat} {v u : Value} (r : Row2 wr g 30 p q v u) : ¬ (NIn h vt vl g ∨ In4 x g ∨ In4 y g) := by
  have r0 := r
  obtain ⟨cs, h1, _⟩ := r
  rintro ((e' | e' | e') | e' | e')
  · have := z.net.own; rw [← e', h1] at this; simp at this
  · exact r0.not_row z.net.to rs_row.1.2 e'
  · exact r0.not_row z.net.l rs_row.2.1.2 e'
  · exact z.two.one.not_block h1 rs_end.2.1 rs_end.2.2 e'
  · exact z.two.two.not_block h1 rs_end.2.1 rs_end.2.2 e'
/-- Something changed in the net or at an end alone: the four rows are as they were. -/
theorem Mst.rows (a : Mst w h gs gg x y p q n m s t tos fs vt vl A B G H vs us vg ug wr) {F : Nat → Prop} (o : Only F wr w') (hF : ∀ k, F k → NIn h vt vl k ∨ In4 x k ∨ In4 y k) (hFb : ∀ k, F k → w.heap.size ≤ k) :
    Row2 w' gs 33 p q vs us ∧ Row2 w' gg 30 p q vg ug ∧ w'.ownsRow w.heap.size 9 1 vs A.length (strs A) ∧ w'.ownsRow w.heap.size 9 1 us B.length (strs B) ∧ w'.ownsRow w.heap.size 37 1 vg G.length (strs G) ∧ w'.ownsRow w.heap.size 37 1 ug H.length (strs H) ∧ Below w.heap.size w w' := by
  have key : ∀ k, k < wr.heap.size → ¬ (NIn h vt vl k ∨ In4 x k ∨ In4 y k) → w'.heap[k]? = wr.heap[k]? := fun k hk hn => o.block k hk (fun hf => hn (hF k hf))
  exact ⟨a.bs.keep (key _ a.bs.lt (a.z.gs_not a.bs)), a.bg.keep (key _ a.bg.lt (a.z.gg_not a.bg)), L5.own_same a.rs (fun k e => key k (a.rs.lt k e).2 (a.z.str_not a.rs k e)), L5.own_same a.ru (fun k e => key k (a.ru.lt k e).2 (a.z.str_not a.ru k e)),
    L5.own_same a.rg (fun k e => key k (a.rg.lt k e).2 (a.z.term_not a.rg a.a3 k e)), L5.own_same a.rh (fun k e => key k (a.rh.lt k e).2 (a.z.term_not a.rh a.a4 k e)), Only.below a.below o a.size hFb⟩
theorem Mst.onet (a : Mst w h gs gg x y p q n m s t tos fs vt vl A B G H vs us vg ug wr) {T : List Nat} {F : List Bytes} {vt' vl' : Value} (o : NetAt w' w.heap.size h T F vt' vl') (only : Only (NIn h vt vl) wr w') (hin : ∀ q, NIn h vt' vl' q → NIn h vt vl q ∨ wr.heap.size ≤ q) :
    Mst w h gs gg x y p q n m s t T F vt' vl' A B G H vs us vg ug w' := by
  obtain ⟨k1, k2, k3, k4, k5, k6, k7⟩ := a.rows only (fun _ e => .inl e) (fun k e => (a.z.net.inlt e).1)
  refine ⟨a.z.cut o only hin, k1, k2, a.g0, k3, k4, k5, k6, a.a1, a.a2, fun k e e' => ?_, fun k e e' => ?_, k7, a.above⟩
  · rcases hin k (.inr (.inr e')) with c | c
    · exact a.z.term_not a.rg a.a3 k e (.inl c)
    · have := (a.rg.lt k e).2; omega
  · rcases hin k (.inr (.inr e')) with c | c
    · exact a.z.term_not a.rh a.a4 k e (.inl c)
    · have := (a.rh.lt k e).2; omega
theorem Mst.one (a : Mst w h gs gg x y p q n m s t tos fs vt vl A B G H vs us vg ug wr) {n' : Nat} {s' : St} (e : EndAt w' x n' s') (only : Only x.In wr w') : Mst w h gs gg x y p q n' m s' t tos fs vt vl A B G H vs us vg ug w' := by
  have hx : ∀ k, x.In k → w.heap.size ≤ k := fun k hk => by
    have := a.above.1
    unfold Blk.Above at this
    rcases hk with e | e | e <;> omega
  obtain ⟨k1, k2, k3, k4, k5, k6, k7⟩ := a.rows only (fun _ e => .inr (.inl (In4.of e))) hx
  exact ⟨a.z.left e only, k1, k2, a.g0, k3, k4, k5, k6, a.a1, a.a2, a.a3, a.a4, k7, a.above⟩
theorem Mst.two (a : Mst w h gs gg x y p q n m s t tos fs vt vl A B G H vs us vg ug wr) {m' : Nat} {t' : St} (e : EndAt w' y m' t') (only : Only y.In wr w') : Mst w h gs gg x y p q n m' s t' tos fs vt vl A B G H vs us vg ug w' := (a.swap.one e only).swap
/-- One more text is laid behind what was sent, and the row laid into its cell. -/
theorem Mst.rowS (a : Mst w h gs gg x y p q n m s t tos fs vt vl A B G H vs us vg ug wr) (hpq : p ≠ q) {b : Bytes} {vs' : Value} (hr : w'.ownsRow w.heap.size 9 1 vs' (A.length + 1) (strs A ++ [.string ⟨b.toArray⟩])) (hg : wr.grownBy w' vs.ownBlock) (hat : ∀ k, vs'.ownBlock = some k → vs.ownBlock = some k ∨ wr.heap.size ≤ k) :
    w'.cell? ⟨gs, p, none⟩ = some vs ∧ w'.frozen? ⟨gs, p, none⟩ = false ∧ Mst w h gs gg x y p q n m s t tos fs vt vl (A ++ [b]) B G H vs' us vg ug (w'.setCell ⟨gs, p, none⟩ vs') := by
  have h1 : vs.ownBlock ≠ some gs := a.bs.not_row a.rs rs_row.2.2.1
  have b1 : Row2 w' gs 33 p q vs us := a.bs.keep (hg.block _ a.bs.lt (fun e => h1 e.symm))
  have key : ∀ k, k < wr.heap.size → vs.ownBlock ≠ some k → k ≠ gs → (w'.setCell ⟨gs, p, none⟩ vs').heap[k]? = wr.heap[k]? := fun k hk hn hq => (Below.heap_setCell _ _ _ _ (by show k ≠ gs; exact hq)).trans (hg.block k hk (fun e => hn e.symm))
  have hbg : gg ≠ gs := fun e => by
    obtain ⟨c1, e1, _⟩ := a.bs
    obtain ⟨c2, e2, _⟩ := a.bg
    rw [e, e1] at e2
    simp at e2
  refine ⟨b1.cell.1, b1.cell.2, a.z.keep (fun k hk => key k (a.z.lt hk) (fun e => a.z.str_not a.rs k e hk) (fun e => a.z.gs_not a.bs (by rw [← e]; exact hk))), b1.store hpq _, a.bg.keep (key _ a.bg.lt (fun e => a.bg.not_row a.rs rs_row.2.2.2 e) hbg), a.g0, ?_, L5.own_same a.ru (fun k e => key k (a.ru.lt k e).2 (fun e' => a.a1 k e' e) (fun e' => a.bs.not_row a.ru rs_row.2.2.1 (by rw [e, e']))),
    L5.own_same a.rg (fun k e => key k (a.rg.lt k e).2 (fun e' => own_apart a.rg a.rs term_string k e e') (fun e' => a.bs.not_row a.rg rs_row.2.1.1 (by rw [e, e']))), L5.own_same a.rh (fun k e => key k (a.rh.lt k e).2 (fun e' => own_apart a.rh a.rs term_string k e e') (fun e' => a.bs.not_row a.rh rs_row.2.1.1 (by rw [e, e']))), fun k e e' => ?_, a.a2, a.a3, a.a4, ?_, a.above⟩
  · rw [strs_append, List.length_append]
    exact L5.own_same hr (fun k e => Below.heap_setCell _ _ _ _ (by show k ≠ gs; intro e'; exact b1.not_row hr rs_row.2.2.1 (by rw [e, e'])))
  · rcases hat k e with d | d
    · exact a.a1 k d e'
    · have := (a.ru.lt k e').2; omega
  · exact (a.below.grown hg a.size (fun k e => (a.rs.lt k e).1)).setCell a.g0.1 _
theorem Mst.rowG (a : Mst w h gs gg x y p q n m s t tos fs vt vl A B G H vs us vg ug wr) (hpq : p ≠ q) {l : List Bytes} {vg' : Value} (hr : w'.ownsRow w.heap.size 37 1 vg' (G.length + l.length) (strs G ++ strs l)) (hg : wr.grownBy w' vg.ownBlock) (hat : ∀ k, vg'.ownBlock = some k → vg.ownBlock = some k ∨ wr.heap.size ≤ k) :
    w'.cell? ⟨gg, p, none⟩ = some vg ∧ w'.frozen? ⟨gg, p, none⟩ = false ∧ Mst w h gs gg x y p q n m s t tos fs vt vl A B (G ++ l) H vs us vg' ug (w'.setCell ⟨gg, p, none⟩ vg') := by
  have h1 : vg.ownBlock ≠ some gg := a.bg.not_row a.rg rs_row.2.1.2
  have b1 : Row2 w' gg 30 p q vg ug := a.bg.keep (hg.block _ a.bg.lt (fun e => h1 e.symm))
  have key : ∀ k, k < wr.heap.size → vg.ownBlock ≠ some k → k ≠ gg → (w'.setCell ⟨gg, p, none⟩ vg').heap[k]? = wr.heap[k]? := fun k hk hn hq => (Below.heap_setCell _ _ _ _ (by show k ≠ gg; exact hq)).trans (hg.block k hk (fun e => hn e.symm))
  have hbg : gs ≠ gg := fun e => by
    obtain ⟨c1, e1, _⟩ := a.bs
    obtain ⟨c2, e2, _⟩ := a.bg
    rw [← e, e1] at e2
    simp at e2
  refine ⟨b1.cell.1, b1.cell.2, a.z.keep (fun k hk => key k (a.z.lt hk) (fun e => a.z.term_not a.rg a.a3 k e hk) (fun e => a.z.gg_not a.bg (by rw [← e]; exact hk))), a.bs.keep (key _ a.bs.lt (fun e => a.bs.not_row a.rg rs_row.2.1.1 e) hbg), b1.store hpq _, a.g0, L5.own_same a.rs (fun k e => key k (a.rs.lt k e).2 (fun e' => own_apart a.rg a.rs term_string k e' e) (fun e' => a.bg.not_row a.rs rs_row.2.2.2 (by rw [e, e']))),
    L5.own_same a.ru (fun k e => key k (a.ru.lt k e).2 (fun e' => own_apart a.rg a.ru term_string k e' e) (fun e' => a.bg.not_row a.ru rs_row.2.2.2 (by rw [e, e']))), ?_, L5.own_same a.rh (fun k e => key k (a.rh.lt k e).2 (fun e' => a.a2 k e' e) (fun e' => a.bg.not_row a.rh rs_row.2.1.2 (by rw [e, e']))), a.a1, fun k e e' => ?_, fun k e e' => ?_, a.a4, ?_, a.above⟩
  · rw [strs_append, List.length_append]
    exact L5.own_same hr (fun k e => Below.heap_setCell _ _ _ _ (by show k ≠ gg; intro e'; exact b1.not_row hr rs_row.2.1.2 (by rw [e, e'])))
  · rcases hat k e with d | d
    · exact a.a2 k d e'
    · have := (a.rh.lt k e').2; omega
  · rcases hat k e with d | d
    · exact a.a3 k d e'
    · have := (a.z.net.inlt (k := k) (.inr (.inr e'))).2; omega
  · exact (a.below.grown hg a.size (fun k e => (a.rg.lt k e).1)).setCell a.g0.2 _
end
end Go.Proofs.Ytfmjjickgjkcbaa.L7
end

section
namespace Go.Proofs.Ytfmjjickgjkcbaa.L7
open Go.ChangeShapes Go.WideShapes Go.ChangeAt Go.RowKit L6

theorem info_rs : (Try.prog.info? 33).map (fun i => (i.zero, i.size, i.bytes)) = some (some (.slice none 0 0), 1, 24) := by kernel_rfl
theorem info_rt : (Try.prog.info? 30).map (fun i => (i.zero, i.size, i.bytes)) = some (some (.slice none 0 0), 1, 24) := by kernel_rfl
/-- What holds between two rounds. -/
def BMid (w : World) (h gs gg : Nat) (x y : Blk) (i : Nat) (wr : World) : Prop :=
  ∃ (S R : List Bytes) (n m : Nat) (s t : St) (tos : List Nat) (fs : List Bytes) (vt vl vs us vg ug : Value), Mst w h gs gg x y 1 2 n m s t tos fs vt vl S R (S.take t.taken) (R.take s.taken) vs us vg ug wr ∧ OrdB 1 2 S s t ∧ OrdB 2 1 R t s ∧ (∀ e ∈ tos.zip fs, FrB 1 2 S R e.1 e.2) ∧ n + m ≤ i ∧ S.length + R.length ≤ i ∧ fs.length ≤ i
/-- The same, seen from either end. -/
def BMidP (w : World) (h gs gg : Nat) (x y : Blk) (p q i : Nat) (wr : World) : Prop :=
  ∃ (S R : List Bytes) (n m : Nat) (s t : St) (tos : List Nat) (fs : List Bytes) (vt vl vs us vg ug : Value), Mst w h gs gg x y p q n m s t tos fs vt vl S R (S.take t.taken) (R.take s.taken) vs us vg ug wr ∧ OrdB p q S s t ∧ OrdB q p R t s ∧ (∀ e ∈ tos.zip fs, FrB p q S R e.1 e.2) ∧ n + m ≤ i ∧ S.length + R.length ≤ i ∧ fs.length ≤ i
theorem BMidP.swap {w wr : World} {h gs gg : Nat} {x y : Blk} {p q i : Nat} (b : BMidP w h gs gg x y p q i wr) : BMidP w h gs gg y x q p i wr := by
  obtain ⟨S, R, n, m, s, t, tos, fs, vt, vl, vs, us, vg, ug, h1, h2, h3, h4, h5, h6, h7⟩ := b
  exact ⟨R, S, m, n, t, s, tos, fs, vt, vl, us, vs, ug, vg, h1.swap, h3, h2, fun e he => (h4 e he).swap, by omega, by omega, h7⟩
def BGo (w : World) (h gs gg : Nat) (x y : Blk) (n0 k : Nat) (vi : Value) (wr : World) : Prop := ∃ i : Nat, k + i = n0 ∧ vi = .int .i64 i ∧ BMidP w h gs gg x y 1 2 i wr
/-- The rows of rows, while they are made. -/
def BNew (w : World) (k : Nat) (v9 v10 v11 : Value) (wr : World) : Prop :=
  ∃ i : Nat, k + i = 3 ∧ v11 = .int .i64 i ∧ wr.ownsRow w.heap.size 33 1 v9 i (List.replicate i (.slice none 0 0)) ∧ wr.ownsRow w.heap.size 30 1 v10 i (List.replicate i (.slice none 0 0)) ∧ Below w.heap.size w wr
theorem net_add {tos : List Nat} {fs : List Bytes} {p q dst : Nat} {S R : List Bytes} (hl : tos.length = fs.length) (h : ∀ e ∈ tos.zip fs, FrB p q S R e.1 e.2) {zs : List Bytes} (hz : ∀ f ∈ laid zs, FrB p q S R dst f) : ∀ e ∈ (tos ++ tosOf dst zs).zip (fs ++ laid zs), FrB p q S R e.1 e.2 := by
  intro e he
  rw [zip_laid hl] at he
  rcases List.mem_append.1 he with he | he
  · exact h e he
  · obtain ⟨f, hf, rfl⟩ := List.mem_map.1 he
    exact hz f hf
theorem net_head {tos : List Nat} {fs : List Bytes} {p q : Nat} {S R : List Bytes} (hl : tos.length = fs.length) (h : ∀ e ∈ tos.zip fs, FrB p q S R e.1 e.2) (h0 : 0 < fs.length) :
    ∃ dst f, tos[0]? = some dst ∧ fs[0]? = some f ∧ FrB p q S R dst f ∧ ∀ e ∈ (tos.take 0 ++ tos.drop (0 + 1)).zip (fs.take 0 ++ fs.drop (0 + 1)), FrB p q S R e.1 e.2 := by
  match tos, fs, hl, h0, h with
  | a :: tos, b :: fs, _, _, h => exact ⟨a, b, rfl, rfl, h (a, b) (by simp), fun e he => h e (by simp at he ⊢; exact .inr he)⟩
  | [], fs, hl, h0, _ => exact absurd h0 (by rw [← hl]; simp)
  | _ :: _, [], hl, _, _ => simp at hl
/-- The net's own add, with all that is known. -/
theorem Mst.add {w wr : World} {h gs gg : Nat} {x y : Blk} {p q n m : Nat} {s t : St} {tos : List Nat} {fs : List Bytes} {vt vl : Value} {A B G H : List Bytes} {vs us vg ug : Value} (a : Mst w h gs gg x y p q n m s t tos fs vt vl A B G H vs us vg ug wr) (dst : Nat) {f : Bytes} (hlen : fs.length ≤ 100000) :
    Calls Try.prog 10 #[.pointer (some ⟨h, 0, none⟩), .int .i64 dst, .slice (some ⟨wr.heap.size, 0, none⟩) 1 1] (wr.alloc (.cells #[.string ⟨f.toArray⟩] 37)) fun e w' => e = .returned (.tuple #[]) ∧ Only (NIn h vt vl) (wr.alloc (.cells #[.string ⟨f.toArray⟩] 37)) w' ∧ ∃ vt' vl', Mst w h gs gg x y p q n m s t (tos ++ tosOf dst [f]) (fs ++ laid [f]) vt' vl' A B G H vs us vg ug w' := by
  have bA : Below wr.heap.size wr (wr.alloc (.cells #[.string ⟨f.toArray⟩] 37)) := (Below.refl _ wr).alloc (Nat.le_refl _) _
  have a' := a.next bA
  refine (add_calls a'.z.net a'.size dst [f] (srow_one (heap_alloc_new wr _)) (fun ad e hn => by cases e; exact absurd (a.z.net.inlt hn).2 (by simp)) (by simp; omega)).mono ?_
  rintro e w' ⟨rfl, vt', vl', o, only, hin⟩
  exact ⟨rfl, only, vt', vl', a'.onet o only hin⟩
theorem Mst.out {w wr : World} {h gs gg : Nat} {x y : Blk} {p q n m : Nat} {s t : St} {tos : List Nat} {fs : List Bytes} {vt vl : Value} {A B G H : List Bytes} {vs us vg ug : Value} (a : Mst w h gs gg x y p q n m s t tos fs vt vl A B G H vs us vg ug wr) {k : Nat} (hk : k < fs.length) (hlen : fs.length ≤ 100000) :
    Calls Try.prog 13 #[.pointer (some ⟨h, 0, none⟩), .int .i64 k] wr fun e w' => e = .returned (.tuple #[]) ∧ ∃ vt' vl', Mst w h gs gg x y p q n m s t (tos.take k ++ tos.drop (k + 1)) (fs.take k ++ fs.drop (k + 1)) vt' vl' A B G H vs us vg ug w' := by
  refine (out_calls a.z.net a.size hk (by omega)).mono ?_
  rintro e w' ⟨rfl, vt', vl', o, only, hin⟩
  exact ⟨rfl, vt', vl', a.onet o only hin⟩
/-- The rows as they are compared at the end. -/
theorem begins_two {w : World} {B : Nat} {vs vg : Value} {S : List Bytes} {T : Nat} (hS : w.ownsRow B 9 1 vs S.length (strs S)) (hG : w.ownsRow B 37 1 vg (S.take T).length (strs (S.take T))) (hT : T ≤ S.length) (hl : S.length ≤ 100000) :
    ∃ As cs Ag cg, vs = .slice As S.length cs ∧ vg = .slice Ag T cg ∧ S.length ≤ cs ∧ ∀ V, Below w.heap.size w V → Calls Try.prog 14 #[.slice Ag T cg, .slice As T cs] V fun e w' => e = .returned (.bool true) ∧ ∃ m, w' = V.drewN m := by
  have hgl : (S.take T).length = T := by rw [List.length_take]; omega
  obtain ⟨As, cs, rfl⟩ := L5.own_slice hS
  obtain ⟨Ag, cg, rfl⟩ := L5.own_slice hG
  have hcs : S.length ≤ cs := by
    rcases hS.2 with ⟨e1, h0⟩ | ⟨g, cap, cur, e1, _, _, h4, _⟩
    · simp only [Value.slice.injEq] at e1; omega
    · simp only [Value.slice.injEq] at e1; omega
  refine ⟨As, cs, Ag, cg, rfl, by rw [hgl], hcs, fun V hV => ?_⟩
  have g1 := L5.own_below hG hV
  have g2 := L5.own_below hS hV
  have r1 : SRow V (.slice Ag T cg) (ba (S.take T)) := by
    have := srow_row g1
    rw [hgl] at this
    exact this
  have r2 := srow_row g2
  have r3 : SRow V (.slice As T cs) (ba (S.take T)) := by
    obtain ⟨A', c', e, k⟩ := r2
    simp only [Value.slice.injEq] at e
    obtain ⟨rfl, _, rfl⟩ := e
    refine ⟨As, cs, by rw [ba_length, hgl], fun j z hj => ?_⟩
    have hjl := (List.getElem?_eq_some_iff.1 hj).1
    rw [ba_length, hgl] at hjl
    refine k j z ?_
    rw [← hj]
    unfold ba
    rw [List.map_take, List.getElem?_take_of_lt hjl]
  exact same_calls _ _ _ V r1 r3 (by rw [ba_length, hgl]; omega)
theorem both_start {w wr : World} {h gs gg : Nat} {c9 c10 : Nat} {x y : Blk} (z : Net7 wr w.heap.size h x y 0 0 (newL 1 2) (newL 2 1) [] [] (.slice none 0 0) (.slice none 0 0)) (r9 : wr.ownsRow w.heap.size 33 1 (.slice (some ⟨gs, 0, none⟩) 3 c9) 3 (List.replicate 3 (.slice none 0 0))) (r10 : wr.ownsRow w.heap.size 30 1 (.slice (some ⟨gg, 0, none⟩) 3 c10) 3 (List.replicate 3 (.slice none 0 0))) (hB : Below w.heap.size w wr) (hA : x.Above w.heap.size ∧ y.Above w.heap.size) : BMidP w h gs gg x y 1 2 0 wr := by
  have key : ∀ {g c : Nat} {e : TypeId}, wr.ownsRow w.heap.size e 1 (.slice (some ⟨g, 0, none⟩) 3 c) 3 (List.replicate 3 (.slice none 0 0)) → Row2 wr g e 1 2 (.slice none 0 0) (.slice none 0 0) ∧ w.heap.size ≤ g := fun {g c e} r => by
    rcases r.2 with ⟨e1, _⟩ | ⟨g', cap, cur, e1, h2, h3, h4, h5, h6, h7⟩
    · cases e1
    · cases e1
      refine ⟨⟨cur, h3, ?_, ?_⟩, h2⟩
      · rw [← Array.getElem?_toList]
        have : (cur.toList.take (3 * 1))[1]? = some (.slice none 0 0) := by rw [h7]; rfl
        rw [List.getElem?_take_of_lt (by omega)] at this
        exact this
      · rw [← Array.getElem?_toList]
        have : (cur.toList.take (3 * 1))[2]? = some (.slice none 0 0) := by rw [h7]; rfl
        rw [List.getElem?_take_of_lt (by omega)] at this
        exact this
  obtain ⟨k1, k2⟩ := key r9
  obtain ⟨k3, k4⟩ := key r10
  refine ⟨[], [], 0, 0, _, _, [], [], _, _, _, _, _, _, ⟨z, k1, k3, ⟨k2, k4⟩, ⟨rfl, .inl ⟨rfl, rfl⟩⟩, ⟨rfl, .inl ⟨rfl, rfl⟩⟩, ⟨rfl, .inl ⟨rfl, rfl⟩⟩, ⟨rfl, .inl ⟨rfl, rfl⟩⟩, (fun k e => by cases e), (fun k e => by cases e), (fun k e => by cases e), (fun k e => by cases e), hB, hA⟩, OrdB.start, OrdB.start, by simp, by omega, by simp, by simp⟩

set_option maxRecDepth 100000 in
set_option maxHeartbeats 16000000 in
theorem both_calls {A0 : Option Addr} {n0 c0 : Nat} (w : World) (hI : IRow w A0 n0) (hn0 : n0 ≤ maxLen) : Calls Try.prog 4 #[.slice A0 n0 c0] w (One w (.bool true)) := by
  obtain ⟨i0, hi, hz0, hz1, hz2⟩ := info_parts info_term
  obtain ⟨i1, hj, hy0, hy1, hy2⟩ := info_parts info_string
  obtain ⟨i2, hk2, hx0, hx1, hx2⟩ := info_parts info_rs
  obtain ⟨i3, hk3, hu0, hu1, hu2⟩ := info_parts info_rt
  have HSh := Lib.hid (shown_calls w)
  have HN1 := Lib.hid (fun V => new_calls 1 2 (by omega) (by omega) (by omega) (by omega) (by omega) V)
  have HN2 := Lib.hid (fun V => new_calls 2 1 (by omega) (by omega) (by omega) (by omega) (by omega) V)
  have HI := Lib.hid hI
  unfold maxLen at hn0
  clear hI
  go_enter Try.func4, Try.ntmps4
  go_wp2_with fail
  refine HSh.out.mono ?_
  rintro e w1 ⟨rfl, b1⟩
  have HB1 := Lib.hid b1
  have HN1 := Lib.hid (HN1.out w1)
  clear b1 HSh
  go_wp2_with fail
  refine HN1.out.mono ?_
  rintro e w2 ⟨x, rfl, x2, b2, a2⟩
  have HB2 := Lib.hid (HB1.out.trans (b2.mono HB1.out.size))
  have HX := Lib.hid (And.intro x2 a2)
  have HN2 := Lib.hid (HN2.out w2)
  clear b2 x2 a2 HN1
  go_wp2_with fail
  refine HN2.out.mono ?_
  rintro e w3 ⟨y, rfl, y3, b3, a3⟩
  have HT := Lib.hid (two_new HX.out.1 b3 y3 a3)
  have HB3 := Lib.hid (HB2.out.trans (b3.mono HB2.out.size))
  have HAb : Hid (x.Above w.heap.size ∧ y.Above w.heap.size) := by
    have h1 := HX.out.2
    have h2 := HB1.out.size
    have h3 := HB2.out.size
    simp only [Blk.Above] at h1 a3 ⊢
    show _ ∧ _
    omega
  clear b3 y3 a3 HN2 HX
  by_cases h80 : 80 < n0
  · have h80i : (80 : Int) < (n0 : Int) := by omega
    go_wp2
    go_ret
    exact ⟨rfl, HB3.out⟩
  have h80i : ¬ (80 : Int) < (n0 : Int) := by omega
  have HZ : Hid (Net7 (w3.alloc (.cells #[.slice none 0 0, .slice none 0 0] 32)) w.heap.size w3.heap.size x y 0 0 (newL 1 2) (newL 2 1) [] [] (.slice none 0 0) (.slice none 0 0)) := net_start HT.out HB3.out
  have HB4 : Hid (Below w.heap.size w (w3.alloc (.cells #[.slice none 0 0, .slice none 0 0] 32))) := HB3.out.trans (((Below.refl w3.heap.size w3).alloc (Nat.le_refl _) _).mono HB3.out.size)
  clear HT HB3 HB1 HB2
  go_upto_region 9 with fail
  obtain ⟨w4, hw4⟩ : ∃ w4, w3.alloc (.cells #[.slice none 0 0, .slice none 0 0] 32) = w4 := ⟨_, rfl⟩
  rw [hw4] at HZ HB4 ⊢
  clear hw4
  generalize w3.heap.size = h at *
  have h80n : n0 ≤ 80 := by omega
  clear h80 h80i hn0
  have H0 : Hid (BNew w4 3 (.slice none 0 0) (.slice none 0 0) (.int .i64 0) w4) := ⟨0, by omega, rfl, ⟨rfl, .inl ⟨rfl, rfl⟩⟩, ⟨rfl, .inl ⟨rfl, rfl⟩⟩, Below.refl _ _⟩
  go_wp2_with fail
  go_loopg [9, 10, 11] 3 (fun k v9 v10 v11 wr => BNew w4 k v9 v10 v11 wr)
  case atStart => exact H0.out
  clear H0
  case round =>
    obtain ⟨i, hk, rfl, hr9, hr10, hB⟩ := hrel
    obtain ⟨A9, c9, rfl⟩ := L5.own_slice hr9
    obtain ⟨A10, c10, rfl⟩ := L5.own_slice hr10
    by_cases hlt : i < 3
    · have s1 : (i : Int) < 3 := by omega
      have hmm := Lib.hid (show gk - 1 < gk by omega)
      have hkk := Lib.hid (show (gk - 1) + (i + 1) = 3 by omega)
      have HR9 := Lib.hid hr9
      have HR10 := Lib.hid hr10
      have HB := Lib.hid hB
      have hws : w4.heap.size ≤ wr.heap.size := hB.size
      clear hr9 hr10 hB hk
      go_upto_region 13 with (at_builtin; refine wpList_append_own_at _ rfl _ _ 48 rfl (w4.heap.size) 33 i2 _ 1 24 Try.underlying48 hk2 hx0 hx1 hx2 rfl (by decide) _ _ _ rfl (HR9.out.alloc _) ⟨wr.heap.size, 0, none⟩ 1 1 [.slice none 0 0] rfl rfl (cell_one_new _ _ _) (by simp [Value.oneCell']) (by unfold maxLen; omega) (by omega) (by simp; omega) ?_; intro v9' w5 hown' hgrow hnil hat; have G5 := Lib.hid (And.intro hown' (L5.grow_trans (World.grownBy_alloc wr _ _) hgrow)); clear hown' hgrow hnil hat)
      have HR10' : Hid (w5.ownsRow w4.heap.size 30 1 _ i (List.replicate i (.slice none 0 0))) := own_grown HR10.out G5.out.2 (fun q e e' => own_apart HR10.out HR9.out rs_net.2.2.symm q e e')
      have hws5 : w4.heap.size ≤ w5.heap.size := Nat.le_trans hws G5.out.2.size
      have HNx : Hid (∀ v10' w6, w6.ownsRow w4.heap.size 30 1 v10' (i + 1) (List.replicate i (.slice none 0 0) ++ [.slice none 0 0]) → (w5.alloc (.cells #[.slice none 0 0] 30)).grownBy w6 (Value.ownBlock _) → BNew w4 (gk - 1) v9' v10' (.int .i64 ((i : Int) + 1)) w6) := fun v10' w6 k1 k2 => by
        have k3 := L5.grow_trans (World.grownBy_alloc w5 _ _) k2
        have r5 := G5.out.1
        refine ⟨i + 1, hkk.out, rfl, ?_, ?_, (HB.out.grown G5.out.2 hws (fun k e => (HR9.out.lt k e).1)).grown k3 hws5 (fun k e => (HR10'.out.lt k e).1)⟩
        · rw [List.replicate_succ']
          exact own_grown r5 k3 (fun q e e' => own_apart r5 HR10'.out rs_net.2.2 q e e')
        · rw [List.replicate_succ']
          exact k1
      go_wp2_with (at_builtin; refine wpList_append_own_at _ rfl _ _ 49 rfl (w4.heap.size) 30 i3 _ 1 24 Try.underlying49 hk3 hu0 hu1 hu2 rfl (by decide) _ _ _ rfl (HR10'.out.alloc _) ⟨w5.heap.size, 0, none⟩ 1 1 [.slice none 0 0] rfl rfl (cell_one_new _ _ _) (by simp [Value.oneCell']) (by unfold maxLen; omega) (by omega) (by simp; omega) ?_; intro v10' w6 hown' hgrow hnil hat; have HF := Lib.hid (HNx.out v10' w6 hown' hgrow); clear hown' hgrow hnil hat)
      clear HNx HR10' HR10 HR9 G5 HB
      go_roundg (gk - 1)
      case measure => exact hmm.out
      case rel => exact HF.out
    · have s1 : ¬ (i : Int) < 3 := by omega
      obtain rfl : i = 3 := by omega
      obtain ⟨gs, c9', e9, _⟩ := row_shape hr9 (by omega)
      obtain ⟨gg, c10', e10, _⟩ := row_shape hr10 (by omega)
      simp only [Value.slice.injEq, true_and] at e9 e10
      obtain ⟨rfl, rfl⟩ := e9
      obtain ⟨rfl, rfl⟩ := e10
      have H0 : Hid (BGo w h gs gg x y n0 n0 (.int .i64 0) wr) := ⟨0, by omega, rfl, both_start (HZ.out.below hB) (row_down hr9 HB4.out.size) (row_down hr10 HB4.out.size) (HB4.out.trans (hB.mono HB4.out.size)) HAb.out⟩
      clear hr9 hr10 hB hk hlt HZ HB4 HAb
      go_wp2_with fail
      go_loopg [12] n0 (fun k v12 wr' => BGo w h gs gg x y n0 k v12 wr')
      case atStart => exact H0.out
      clear H0
      case round =>
        obtain ⟨i, hk, rfl, S, R, n, m, s, t, tos, fs, vt, vl, vs, us, vg, ug, hm, o12, o21, hnet, hnm, hsr, hfl⟩ := hrel
        have HM := Lib.hid hm
        by_cases hlt : i < n0
        · obtain ⟨ad, o1, rfl, hadb, d0, ho⟩ := HI.out i hlt
          have HC0 : Hid (∀ V, Below w.heap.size w V → V.cell? (ad.add i) = some (.int .i64 o1)) := fun V hV => (hV.cell (p := ad.add i) (by rw [addr_block]; exact hadb)).trans d0
          have c0 := HC0.out wr hm.below
          have s1 : (i : Int) < (n0 : Int) := by omega
          have s2 : (0 : Int) ≤ (i : Int) := by omega
          have HPk := Lib.hid (pick_is (c := o1) ho (n := 4) (by omega) (by omega) wr)
          have HBd := Lib.hid (fun V => body_calls (c := o1) ho V)
          have hp := pickN_lt o1 (n := 4) (by omega)
          generalize pickN o1 4 = o at *
          have hmm := Lib.hid (show gk - 1 < gk by omega)
          have hkk := Lib.hid (show (gk - 1) + (i + 1) = n0 by omega)
          have hin80 : i ≤ 79 := by omega
          clear d0 hadb hk ho hlt hm
          go_wp2_with fail
          refine HPk.out.mono ?_
          rintro e w6 ⟨rfl, rfl⟩
          clear HPk
          rcases (by omega : o = 0 ∨ o = 1 ∨ 2 ≤ o) with rfl | rfl | h2
          · go_wp2_with fail
            refine (HBd.out _).mono ?_
            rintro e w7 ⟨rfl, b7⟩
            have A7 := Lib.hid (HM.out.next b7)
            clear b7 HM c0
            by_cases h64 : s.opens.length < 64
            · obtain ⟨hs1, hs2, hs4, hs3⟩ := o12.send A7.out.z.two.one.ok (small_body o1) (by rw [o12.snt]; omega) h64
              have HSn := send_calls A7.out.z.two.one (bodyL o1) (by have := (small_body o1).2; unfold maxLen; omega)
              unfold SendOut at HSn
              rw [hs1] at HSn
              have HSn := Lib.hid HSn
              have HO2 := Lib.hid (And.intro hs2 (And.intro (hs3 R o21) (And.intro hs4 (And.intro o12.taken hnet))))
              clear hs1 hs2 hs3 hs4 h64 hnet o12 o21
              go_wp2_with fail
              refine HSn.out.mono ?_
              rintro e w8 ⟨rfl, e8, o8⟩
              have A8 := Lib.hid (A7.out.one e8 o8)
              have c8 : w8.cell? (ad.add i) = some (.int .i64 o1) := HC0.out w8 A8.out.below
              have q8 := A8.out.bs.cell.1
              have hwr1 : IntKind.i64.wrap 1 = 1 := rfl
              have hwr2 : IntKind.i64.wrap 2 = 2 := rfl
              clear HSn e8 o8 A7
              generalize (sendL s (bodyL o1)).2 = s8 at *
              generalize bodyL o1 = bo at *
              go_upto_region 24 with (fail)
              go_cut [] (fun wc => ∃ nv, Mst w h gs gg x y 1 2 n m s8 t tos fs vt vl (S ++ [bo]) R (S.take t.taken) (R.take s.taken) nv us vg ug wc)
              case first =>
                go_wp2
                go_region_law (first
                  | (go_simp; go_at_call 9; refine (HBd.out _).mono ?_; rintro e w9 ⟨rfl, b9⟩
                     have A9 := Lib.hid (A8.out.next (((Below.refl w8.heap.size w8).drew).trans b9))
                     have q9 := A9.out.bs.cell.1
                     have q9' : (w9.alloc (.cells #[.string ⟨bo.toArray⟩] 9)).cell? ⟨gs, 1, none⟩ = some vs := (((Below.refl w9.heap.size w9).alloc (Nat.le_refl _) _).cell (p := ⟨gs, 1, none⟩) A9.out.bs.lt).trans q9
                     have HR9 : Hid ((w9.alloc (.cells #[.string ⟨bo.toArray⟩] 9)).ownsRow w.heap.size 9 1 vs S.length (strs S)) := L5.own_below A9.out.rs ((Below.refl _ w9).alloc (Nat.le_refl _) _)
                     have HNews : Hid (∀ (j : Nat) (u : Value), [(Value.string ⟨bo.toArray⟩)][j]? = some u → (w9.alloc (.cells #[.string ⟨bo.toArray⟩] 9)).cell? ((⟨w9.heap.size, 0, none⟩ : Addr).add j) = some u) := World.news_of_block (cs := #[.string ⟨bo.toArray⟩]) (t := 9) (fr := (0, 0)) (heap_alloc_new w9 _)
                     have hzA : (w9.alloc (.cells #[.string ⟨bo.toArray⟩] 9)).heap.size = w9.heap.size + 1 := by rw [World.size_alloc]
                     have hBA : w.heap.size ≤ (w9.alloc (.cells #[.string ⟨bo.toArray⟩] 9)).heap.size := by have := A9.out.size; omega
                     have HEnd : Hid (∀ g cc w10, w10.ownsRow w.heap.size 9 1 (.slice (some ⟨g, 0, none⟩) (S.length + 1) cc) (S.length + 1) (strs S ++ [.string ⟨bo.toArray⟩]) → (w9.alloc (.cells #[.string ⟨bo.toArray⟩] 9)).grownBy w10 (Value.ownBlock vs) → (Value.ownBlock vs = some g ∨ g = w9.heap.size + 1) → w10.cell? ⟨gs, 1, none⟩ = some vs ∧ w10.frozen? ⟨gs, 1, none⟩ = false ∧ Mst w h gs gg x y 1 2 n m s8 t tos fs vt vl (S ++ [bo]) R (S.take t.taken) (R.take s.taken) (.slice (some ⟨g, 0, none⟩) (S.length + 1) cc) us vg ug (w10.setCell ⟨gs, 1, none⟩ (.slice (some ⟨g, 0, none⟩) (S.length + 1) cc))) := fun g cc w10 k1 k2 k3 => A9.out.rowS (by decide) k1 (L5.grow_trans (World.grownBy_alloc w9 _ _) k2) (fun k e => by
                       have e' : g = k := by cases e; rfl
                       rcases k3 with k3 | k3
                       · exact .inl (by rw [k3, e'])
                       · right; omega)
                     clear b9)
                  | (refine step_append_lies _ rfl (.tmp 105) (.tmp 111) 33 rfl w.heap.size 9 i1 (.string ⟨#[]⟩) 1 16 Try.underlying33 hj hy0 hy1 hy2 rfl (by decide) vs S.length (strs S) (by simp [Act.eval]) HR9.out ⟨w9.heap.size, 0, none⟩ 1 1 [.string ⟨bo.toArray⟩] (by simp [Act.eval]) rfl HNews.out (by simp [Value.oneCell']) (by decide) (by unfold maxLen; omega) (by omega) hBA (w9.heap.size + 1) hzA ?_
                     intro g2 cc w10 k1 k2 k3 k4
                     obtain ⟨j4, jf, jr⟩ := HEnd.out g2 cc w10 k1 k2 k3
                     have A11 := Lib.hid jr
                     clear k1 k2 k3 k4 jr))
                all_goals
                  go_wp2_with fail
                  go_meet
                  case rel => exact ⟨_, A11.out⟩
              case rest =>
                obtain ⟨XX, rfl⟩ : ∃ z, z = wc := ⟨wc, rfl⟩
                obtain ⟨nv, a11⟩ := hcut
                have A11 := Lib.hid a11
                have HAd := Lib.hid (A11.out.add 2 (f := dataF 1 2 (S.length + 1) bo) (by omega))
                have HNx : Hid (∀ vt' vl' w12, Mst w h gs gg x y 1 2 n m s8 t (tos ++ tosOf 2 [dataF 1 2 (S.length + 1) bo]) (fs ++ laid [dataF 1 2 (S.length + 1) bo]) vt' vl' (S ++ [bo]) R (S.take t.taken) (R.take s.taken) nv us vg ug w12 → BGo w h gs gg x y n0 (gk - 1) (.int .i64 ((i : Int) + 1)) w12) := fun vt' vl' w12 a12 => by
                  obtain ⟨u1, u2, u3, u4, u5⟩ := HO2.out
                  refine ⟨i + 1, hkk.out, rfl, (fun (k : BMidP w h gs gg x y 1 2 (i + 1) w12) => k) ?_⟩
                  refine ⟨S ++ [bo], R, n, m, s8, t, tos ++ tosOf 2 [dataF 1 2 (S.length + 1) bo], fs ++ laid [dataF 1 2 (S.length + 1) bo], vt', vl', nv, us, vg, ug, ?_, u1, u2, ?_, by omega, by simp; omega, by have := laid_len [dataF 1 2 (S.length + 1) bo]; simp at this ⊢; omega⟩
                  · rw [List.take_append_of_le_length u4, u3]
                    exact a12
                  · refine net_add A11.out.z.net.len (fun e he => (u5 e he).more [bo]) (fun f hf => ?_)
                    have := (List.mem_filter.1 hf).1
                    simp only [List.mem_cons, List.not_mem_nil, or_false] at this
                    exact .inl ⟨rfl, .inl ⟨S.length, bo, by simp, this⟩⟩
                clear A8 A11 c8 q8 a11
                go_wp2_with fail
                refine HAd.out.mono ?_
                rintro e w12 ⟨rfl, _, vt', vl', a12⟩
                have HF := Lib.hid (HNx.out vt' vl' w12 a12)
                clear a12 HNx HAd HO2
                go_wp2
                go_roundg (gk - 1)
                case measure => exact hmm.out
                case rel => exact HF.out
            · have h64' : s.opens.length = 64 := by have := A7.out.z.two.one.ok.room; omega
              have HSn := send_calls A7.out.z.two.one (bodyL o1) (by have := (small_body o1).2; unfold maxLen; omega)
              unfold SendOut at HSn
              rw [sendL_full (small_body o1) h64'] at HSn
              have HSn := Lib.hid HSn
              have HNx : Hid (∀ w12, Mst w h gs gg x y 1 2 n m s t tos fs vt vl S R (S.take t.taken) (R.take s.taken) vs us vg ug w12 → BGo w h gs gg x y n0 (gk - 1) (.int .i64 ((i : Int) + 1)) w12) := fun w12 a12 =>
                ⟨i + 1, hkk.out, rfl, (fun (k : BMidP w h gs gg x y 1 2 (i + 1) w12) => k) ⟨S, R, n, m, s, t, _, _, vt, vl, _, us, vg, ug, a12, o12, o21, fun e he => (hnet e he), by omega, by omega, by omega⟩⟩
              clear h64 h64' hnet o12 o21
              go_wp2_with fail
              refine HSn.out.mono ?_
              rintro e w8 ⟨rfl, e8, o8⟩
              have HF := Lib.hid (HNx.out w8 (A7.out.one e8 o8))
              clear HSn e8 o8 A7 HNx
              go_wp2
              go_roundg (gk - 1)
              case measure => exact hmm.out
              case rel => exact HF.out
          · go_wp2_with fail
            refine (HBd.out _).mono ?_
            rintro e w7 ⟨rfl, b7⟩
            have A7 := Lib.hid (HM.out.swap.next b7)
            clear b7 HM c0
            by_cases h64 : t.opens.length < 64
            · obtain ⟨hs1, hs2, hs4, hs3⟩ := o21.send A7.out.z.two.one.ok (small_body o1) (by rw [o21.snt]; omega) h64
              have HSn := send_calls A7.out.z.two.one (bodyL o1) (by have := (small_body o1).2; unfold maxLen; omega)
              unfold SendOut at HSn
              rw [hs1] at HSn
              have HSn := Lib.hid HSn
              have HO2 := Lib.hid (And.intro hs2 (And.intro (hs3 S o12) (And.intro hs4 (And.intro o21.taken hnet))))
              clear hs1 hs2 hs3 hs4 h64 hnet o12 o21
              go_wp2_with fail
              refine HSn.out.mono ?_
              rintro e w8 ⟨rfl, e8, o8⟩
              have A8 := Lib.hid (A7.out.one e8 o8)
              have c8 : w8.cell? (ad.add i) = some (.int .i64 o1) := HC0.out w8 A8.out.below
              have q8 := A8.out.bs.cell.1
              have hwr1 : IntKind.i64.wrap 1 = 1 := rfl
              have hwr2 : IntKind.i64.wrap 2 = 2 := rfl
              clear HSn e8 o8 A7
              generalize (sendL t (bodyL o1)).2 = s8 at *
              generalize bodyL o1 = bo at *
              go_upto_region 24 with (fail)
              go_cut [] (fun wc => ∃ nv, Mst w h gs gg y x 2 1 m n s8 s tos fs vt vl (R ++ [bo]) S (R.take s.taken) (S.take t.taken) nv vs ug vg wc)
              case first =>
                go_wp2
                go_region_law (first
                  | (go_simp; go_at_call 9; refine (HBd.out _).mono ?_; rintro e w9 ⟨rfl, b9⟩
                     have A9 := Lib.hid (A8.out.next (((Below.refl w8.heap.size w8).drew).trans b9))
                     have q9 := A9.out.bs.cell.1
                     have q9' : (w9.alloc (.cells #[.string ⟨bo.toArray⟩] 9)).cell? ⟨gs, 2, none⟩ = some us := (((Below.refl w9.heap.size w9).alloc (Nat.le_refl _) _).cell (p := ⟨gs, 2, none⟩) A9.out.bs.lt).trans q9
                     have HR9 : Hid ((w9.alloc (.cells #[.string ⟨bo.toArray⟩] 9)).ownsRow w.heap.size 9 1 us R.length (strs R)) := L5.own_below A9.out.rs ((Below.refl _ w9).alloc (Nat.le_refl _) _)
                     have HNews : Hid (∀ (j : Nat) (u : Value), [(Value.string ⟨bo.toArray⟩)][j]? = some u → (w9.alloc (.cells #[.string ⟨bo.toArray⟩] 9)).cell? ((⟨w9.heap.size, 0, none⟩ : Addr).add j) = some u) := World.news_of_block (cs := #[.string ⟨bo.toArray⟩]) (t := 9) (fr := (0, 0)) (heap_alloc_new w9 _)
                     have hzA : (w9.alloc (.cells #[.string ⟨bo.toArray⟩] 9)).heap.size = w9.heap.size + 1 := by rw [World.size_alloc]
                     have hBA : w.heap.size ≤ (w9.alloc (.cells #[.string ⟨bo.toArray⟩] 9)).heap.size := by have := A9.out.size; omega
                     have HEnd : Hid (∀ g cc w10, w10.ownsRow w.heap.size 9 1 (.slice (some ⟨g, 0, none⟩) (R.length + 1) cc) (R.length + 1) (strs R ++ [.string ⟨bo.toArray⟩]) → (w9.alloc (.cells #[.string ⟨bo.toArray⟩] 9)).grownBy w10 (Value.ownBlock us) → (Value.ownBlock us = some g ∨ g = w9.heap.size + 1) → w10.cell? ⟨gs, 2, none⟩ = some us ∧ w10.frozen? ⟨gs, 2, none⟩ = false ∧ Mst w h gs gg y x 2 1 m n s8 s tos fs vt vl (R ++ [bo]) S (R.take s.taken) (S.take t.taken) (.slice (some ⟨g, 0, none⟩) (R.length + 1) cc) vs ug vg (w10.setCell ⟨gs, 2, none⟩ (.slice (some ⟨g, 0, none⟩) (R.length + 1) cc))) := fun g cc w10 k1 k2 k3 => A9.out.rowS (by decide) k1 (L5.grow_trans (World.grownBy_alloc w9 _ _) k2) (fun k e => by
                       have e' : g = k := by cases e; rfl
                       rcases k3 with k3 | k3
                       · exact .inl (by rw [k3, e'])
                       · right; omega)
                     clear b9)
                  | (refine step_append_lies _ rfl (.tmp 105) (.tmp 111) 33 rfl w.heap.size 9 i1 (.string ⟨#[]⟩) 1 16 Try.underlying33 hj hy0 hy1 hy2 rfl (by decide) us R.length (strs R) (by simp [Act.eval]) HR9.out ⟨w9.heap.size, 0, none⟩ 1 1 [.string ⟨bo.toArray⟩] (by simp [Act.eval]) rfl HNews.out (by simp [Value.oneCell']) (by decide) (by unfold maxLen; omega) (by omega) hBA (w9.heap.size + 1) hzA ?_
                     intro g2 cc w10 k1 k2 k3 k4
                     obtain ⟨j4, jf, jr⟩ := HEnd.out g2 cc w10 k1 k2 k3
                     have A11 := Lib.hid jr
                     clear k1 k2 k3 k4 jr))
                all_goals
                  go_wp2_with fail
                  go_meet
                  case rel => exact ⟨_, A11.out⟩
              case rest =>
                obtain ⟨XX, rfl⟩ : ∃ z, z = wc := ⟨wc, rfl⟩
                obtain ⟨nv, a11⟩ := hcut
                have A11 := Lib.hid a11
                have HAd := Lib.hid (A11.out.add 1 (f := dataF 2 1 (R.length + 1) bo) (by omega))
                have HNx : Hid (∀ vt' vl' w12, Mst w h gs gg y x 2 1 m n s8 s (tos ++ tosOf 1 [dataF 2 1 (R.length + 1) bo]) (fs ++ laid [dataF 2 1 (R.length + 1) bo]) vt' vl' (R ++ [bo]) S (R.take s.taken) (S.take t.taken) nv vs ug vg w12 → BGo w h gs gg x y n0 (gk - 1) (.int .i64 ((i : Int) + 1)) w12) := fun vt' vl' w12 a12 => by
                  obtain ⟨u1, u2, u3, u4, u5⟩ := HO2.out
                  refine ⟨i + 1, hkk.out, rfl, (fun (k : BMidP w h gs gg y x 2 1 (i + 1) w12) => k.swap) ?_⟩
                  refine ⟨R ++ [bo], S, m, n, s8, s, tos ++ tosOf 1 [dataF 2 1 (R.length + 1) bo], fs ++ laid [dataF 2 1 (R.length + 1) bo], vt', vl', nv, vs, ug, vg, ?_, u1, u2, ?_, by omega, by simp; omega, by have := laid_len [dataF 2 1 (R.length + 1) bo]; simp at this ⊢; omega⟩
                  · rw [List.take_append_of_le_length u4, u3]
                    exact a12
                  · refine net_add A11.out.z.net.len (fun e he => (u5 e he).swap.more [bo]) (fun f hf => ?_)
                    have := (List.mem_filter.1 hf).1
                    simp only [List.mem_cons, List.not_mem_nil, or_false] at this
                    exact .inl ⟨rfl, .inl ⟨R.length, bo, by simp, this⟩⟩
                clear A8 A11 c8 q8 a11
                go_wp2_with fail
                refine HAd.out.mono ?_
                rintro e w12 ⟨rfl, _, vt', vl', a12⟩
                have HF := Lib.hid (HNx.out vt' vl' w12 a12)
                clear a12 HNx HAd HO2
                go_wp2
                go_roundg (gk - 1)
                case measure => exact hmm.out
                case rel => exact HF.out
            · have h64' : t.opens.length = 64 := by have := A7.out.z.two.one.ok.room; omega
              have HSn := send_calls A7.out.z.two.one (bodyL o1) (by have := (small_body o1).2; unfold maxLen; omega)
              unfold SendOut at HSn
              rw [sendL_full (small_body o1) h64'] at HSn
              have HSn := Lib.hid HSn
              have HNx : Hid (∀ w12, Mst w h gs gg y x 2 1 m n t s tos fs vt vl R S (R.take s.taken) (S.take t.taken) us vs ug vg w12 → BGo w h gs gg x y n0 (gk - 1) (.int .i64 ((i : Int) + 1)) w12) := fun w12 a12 =>
                ⟨i + 1, hkk.out, rfl, (fun (k : BMidP w h gs gg y x 2 1 (i + 1) w12) => k.swap) ⟨R, S, m, n, t, s, _, _, vt, vl, _, vs, ug, vg, a12, o21, o12, fun e he => (hnet e he).swap, by omega, by omega, by omega⟩⟩
              clear h64 h64' hnet o12 o21
              go_wp2_with fail
              refine HSn.out.mono ?_
              rintro e w8 ⟨rfl, e8, o8⟩
              have HF := Lib.hid (HNx.out w8 (A7.out.one e8 o8))
              clear HSn e8 o8 A7 HNx
              go_wp2
              go_roundg (gk - 1)
              case measure => exact hmm.out
              case rel => exact HF.out
          · have p1 : ¬ (o : Int) < 2 := by omega
            obtain ⟨Al, cl, rfl⟩ := L5.own_slice HM.out.z.net.l
            obtain ⟨q0, q1, _, _⟩ := HM.out.z.net.cells
            by_cases hf0 : 0 < fs.length
            rotate_left
            · have hfe : fs.length = 0 := by omega
              have p2 : ((fs.length : Int) == 0) = true := by rw [beq_iff_eq]; omega
              have HF : Hid (BGo w h gs gg x y n0 (gk - 1) (.int .i64 ((i : Int) + 1)) wr) := ⟨i + 1, hkk.out, rfl, S, R, n, m, s, t, tos, fs, vt, _, vs, us, vg, ug, HM.out, o12, o21, hnet, by omega, by omega, by omega⟩
              clear HM hnet o12 o21 c0 hf0 hfe
              go_wp2
              go_roundg (gk - 1)
              case measure => exact hmm.out
              case rel => exact HF.out
            have p2 : ((fs.length : Int) == 0) = false := by rw [beq_eq_false_iff_ne]; omega
            have htl := HM.out.z.net.len
            obtain ⟨dst, f, hd1, hd2, hfr, hnet2⟩ := net_head htl hnet hf0
            obtain ⟨gl, cl', e1, _⟩ := row_shape HM.out.z.net.l hf0
            obtain ⟨gt, ct', e2, _⟩ := row_shape HM.out.z.net.to (by omega)
            subst e2
            simp only [Value.slice.injEq, true_and] at e1
            obtain ⟨rfl, rfl⟩ := e1
            have r0 := row_cells HM.out.z.net.l 0 _ (show (strs fs)[0]? = some (.string ⟨f.toArray⟩) by simp [strs, hd2])
            have r1 := row_cells HM.out.z.net.to 0 _ (show (nums tos)[0]? = some (.int .i64 (dst : Int)) by simp [nums, hd1])
            have u1 : (0 : Int) < (fs.length : Int) := by omega
            have u2 : (0 : Int) < (tos.length : Int) := by omega
            have HO0 := Lib.hid (And.intro hnm (And.intro hsr hfl))
            clear hd1 hd2 hnet
            rcases hfr with ⟨rfl, hfw⟩ | ⟨rfl, hfw⟩
            · skip
              have A6 := Lib.hid (HM.out)
              have HOt := Lib.hid (A6.out.out (k := 0) hf0 (by omega))
              have HTk : Hid (∀ V vt' vl', Mst w h gs gg x y 1 2 n m s t (tos.take 0 ++ tos.drop (0 + 1)) (fs.take 0 ++ fs.drop (0 + 1)) vt' vl' S R (S.take t.taken) (R.take s.taken) vs us vg ug V → Calls Try.prog 16 #[.pointer (some ⟨y.g, 0, none⟩), .string ⟨f.toArray⟩] V (TakeB V y m 1 2 S R s t)) := fun V vt' vl' a => takeB_calls a.z.two.two o12 o21 (by unfold maxLen; omega) (by omega) (by omega) hfw
              have HNe := Lib.hid (And.intro htl (And.intro hnet2 (And.intro o12.taken (And.intro hf0 HO0.out))))
              have hS80 : S.length ≤ 80 := by omega
              clear hnet2 hfw o12 o21 c0
              go_wp2_with fail
              refine HOt.out.mono ?_
              rintro e w7 ⟨rfl, vt', vl', a7⟩
              have A7 := Lib.hid a7
              have HTk := Lib.hid (HTk.out w7 vt' vl' a7)
              clear a7 HOt q0 q1 r0 r1
              go_wp2_with fail
              refine HTk.out.mono ?_
              rintro e w8 ⟨v, l, r, cd, t', rfl, k1, k2, k3, k4, k5, k6, k7, k8⟩
              have A8 := Lib.hid (A7.out.two k2 k3)
              have HK := Lib.hid (And.intro k1 (And.intro k4 (And.intro k5 (And.intro k6 (And.intro k7 k8)))))
              have hw78 := k3.size
              have HAd := Lib.hid (A8.out.add 1 (f := r) (by simp; omega))
              clear HTk k1 k2 k3 k4 k5 k6 k7 k8
              go_wp2_with fail
              refine HAd.out.mono ?_
              rintro e w9 ⟨rfl, on9, vt9, vl9, a9⟩
              have A9 := Lib.hid a9
              have HSrc : Hid (SIn w9 v (ba l)) := sin_row (row_only (L5.own_below HK.out.1 ((Below.refl _ w8).alloc (Nat.le_refl _) _)) on9 (fun k e e' => by
                have h1 := (HK.out.1.lt k e).1
                have h2 := (A7.out.z.net.inlt e').2
                omega))
              have q9 := A9.out.bg.cell.1
              have hll : (ba l).length ≤ 80 ∧ (S.take t.taken).length ≤ 80 := by
                have h1 := congrArg List.length HK.out.2.2.2.2.1
                have h2 := HK.out.2.1.taken
                rw [List.length_take, List.length_append] at h1
                rw [ba_length]
                rw [List.length_take] at h1 ⊢
                omega
              have hw9 : w.heap.size ≤ w9.heap.size := A9.out.size
              obtain ⟨hl1, hl2⟩ := hll
              have HEnd : Hid (∀ A c w10, w10.ownsRow w.heap.size 37 1 (.slice A ((S.take t.taken).length + (ba l).length) c) ((S.take t.taken).length + (ba l).length) (strs (S.take t.taken) ++ strV (ba l)) → w9.grownBy w10 (Value.ownBlock vg) → ((Value.slice A ((S.take t.taken).length + (ba l).length) c).ownBlock = Value.ownBlock vg ∨ (Value.slice A ((S.take t.taken).length + (ba l).length) c).ownBlock = some w9.heap.size) →
                  w10.cell? ⟨gg, 1, none⟩ = some vg ∧ w10.frozen? ⟨gg, 1, none⟩ = false ∧ BGo w h gs gg x y n0 (gk - 1) (.int .i64 ((i : Int) + 1)) (w10.setCell ⟨gg, 1, none⟩ (.slice A ((S.take t.taken).length + (ba l).length) c))) := fun A c w10 k1 k2 k3 => by
                rw [ba_length, strV_ba] at k1
                have hat : ∀ k, (Value.slice A ((S.take t.taken).length + (ba l).length) c).ownBlock = some k → Value.ownBlock vg = some k ∨ w9.heap.size ≤ k := fun k e => by
                  rcases k3 with k3 | k3
                  · exact .inl (by rw [← k3]; exact e)
                  · rw [k3] at e
                    right
                    cases e
                    exact Nat.le_refl _
                rw [ba_length] at hat
                obtain ⟨j1, j2, j3⟩ := A9.out.rowG (by decide) k1 k2 hat
                refine ⟨j1, j2, i + 1, hkk.out, rfl, (fun (k : BMidP w h gs gg x y 1 2 (i + 1) _) => k) ?_⟩
                obtain ⟨_, u1, u2, u3, u4, u5⟩ := HK.out
                obtain ⟨v1, v2, v3, v4, v5⟩ := HNe.out
                refine ⟨S, R, n, m + 1, s, t', (tos.take 0 ++ tos.drop (0 + 1)) ++ tosOf 1 [r], (fs.take 0 ++ fs.drop (0 + 1)) ++ laid [r], vt9, vl9, vs, us, .slice A ((S.take t.taken).length + (ba l).length) c, ug, ?_, u1, u2, ?_, by omega, by omega, ?_⟩
                · rw [u4, ba_length]
                  exact j3
                · exact net_add (by simp; omega) (fun e he => (v2 e he)) (fun g hg => u5 g hg)
                · have := laid_len [r]
                  simp at this ⊢
                  omega
              clear HAd on9 a9 A8 HK HNe A7 A6
              have HRg := Lib.hid A9.out.rg
              go_wp2_with (at_builtin; refine wpList_append_texts_at (by rfl) _ _ 30 rfl (w.heap.size) 37 i0 _ 16 Try.underlying30 hi hz0 hz1 hz2 rfl _ (S.take t.taken).length (strs (S.take t.taken)) (by rfl) HRg.out _ (ba l) (by rfl) HSrc.out (by unfold maxLen; omega) (by omega) (by omega) ?_; intro v' w10 hown' hgrow hat'; obtain ⟨A3, c3, rfl⟩ := L5.own_slice hown'; obtain ⟨j4, jf, jr⟩ := HEnd.out A3 c3 w10 hown' hgrow hat'; have HF := Lib.hid jr; clear hown' hgrow hat' jr)
              clear A9 HRg HEnd HSrc q9 j4 jf
              go_roundg (gk - 1)
              case measure => exact hmm.out
              case rel =>
                have hf := HF.out
                simp only [List.length_take] at hf
                exact hf
            · skip
              have A6 := Lib.hid (HM.out.swap)
              have HOt := Lib.hid (A6.out.out (k := 0) hf0 (by omega))
              have HTk : Hid (∀ V vt' vl', Mst w h gs gg y x 2 1 m n t s (tos.take 0 ++ tos.drop (0 + 1)) (fs.take 0 ++ fs.drop (0 + 1)) vt' vl' R S (R.take s.taken) (S.take t.taken) us vs ug vg V → Calls Try.prog 16 #[.pointer (some ⟨x.g, 0, none⟩), .string ⟨f.toArray⟩] V (TakeB V x n 2 1 R S t s)) := fun V vt' vl' a => takeB_calls a.z.two.two o21 o12 (by unfold maxLen; omega) (by omega) (by omega) hfw
              have HNe := Lib.hid (And.intro htl (And.intro hnet2 (And.intro o21.taken (And.intro hf0 HO0.out))))
              have hS80 : R.length ≤ 80 := by omega
              clear hnet2 hfw o12 o21 c0
              go_wp2_with fail
              refine HOt.out.mono ?_
              rintro e w7 ⟨rfl, vt', vl', a7⟩
              have A7 := Lib.hid a7
              have HTk := Lib.hid (HTk.out w7 vt' vl' a7)
              clear a7 HOt q0 q1 r0 r1
              go_wp2_with fail
              refine HTk.out.mono ?_
              rintro e w8 ⟨v, l, r, cd, t', rfl, k1, k2, k3, k4, k5, k6, k7, k8⟩
              have A8 := Lib.hid (A7.out.two k2 k3)
              have HK := Lib.hid (And.intro k1 (And.intro k4 (And.intro k5 (And.intro k6 (And.intro k7 k8)))))
              have hw78 := k3.size
              have HAd := Lib.hid (A8.out.add 2 (f := r) (by simp; omega))
              clear HTk k1 k2 k3 k4 k5 k6 k7 k8
              go_wp2_with fail
              refine HAd.out.mono ?_
              rintro e w9 ⟨rfl, on9, vt9, vl9, a9⟩
              have A9 := Lib.hid a9
              have HSrc : Hid (SIn w9 v (ba l)) := sin_row (row_only (L5.own_below HK.out.1 ((Below.refl _ w8).alloc (Nat.le_refl _) _)) on9 (fun k e e' => by
                have h1 := (HK.out.1.lt k e).1
                have h2 := (A7.out.z.net.inlt e').2
                omega))
              have q9 := A9.out.bg.cell.1
              have hll : (ba l).length ≤ 80 ∧ (R.take s.taken).length ≤ 80 := by
                have h1 := congrArg List.length HK.out.2.2.2.2.1
                have h2 := HK.out.2.1.taken
                rw [List.length_take, List.length_append] at h1
                rw [ba_length]
                rw [List.length_take] at h1 ⊢
                omega
              have hw9 : w.heap.size ≤ w9.heap.size := A9.out.size
              obtain ⟨hl1, hl2⟩ := hll
              have HEnd : Hid (∀ A c w10, w10.ownsRow w.heap.size 37 1 (.slice A ((R.take s.taken).length + (ba l).length) c) ((R.take s.taken).length + (ba l).length) (strs (R.take s.taken) ++ strV (ba l)) → w9.grownBy w10 (Value.ownBlock ug) → ((Value.slice A ((R.take s.taken).length + (ba l).length) c).ownBlock = Value.ownBlock ug ∨ (Value.slice A ((R.take s.taken).length + (ba l).length) c).ownBlock = some w9.heap.size) →
                  w10.cell? ⟨gg, 2, none⟩ = some ug ∧ w10.frozen? ⟨gg, 2, none⟩ = false ∧ BGo w h gs gg x y n0 (gk - 1) (.int .i64 ((i : Int) + 1)) (w10.setCell ⟨gg, 2, none⟩ (.slice A ((R.take s.taken).length + (ba l).length) c))) := fun A c w10 k1 k2 k3 => by
                rw [ba_length, strV_ba] at k1
                have hat : ∀ k, (Value.slice A ((R.take s.taken).length + (ba l).length) c).ownBlock = some k → Value.ownBlock ug = some k ∨ w9.heap.size ≤ k := fun k e => by
                  rcases k3 with k3 | k3
                  · exact .inl (by rw [← k3]; exact e)
                  · rw [k3] at e
                    right
                    cases e
                    exact Nat.le_refl _
                rw [ba_length] at hat
                obtain ⟨j1, j2, j3⟩ := A9.out.rowG (by decide) k1 k2 hat
                refine ⟨j1, j2, i + 1, hkk.out, rfl, (fun (k : BMidP w h gs gg y x 2 1 (i + 1) _) => k.swap) ?_⟩
                obtain ⟨_, u1, u2, u3, u4, u5⟩ := HK.out
                obtain ⟨v1, v2, v3, v4, v5⟩ := HNe.out
                refine ⟨R, S, m, n + 1, t, t', (tos.take 0 ++ tos.drop (0 + 1)) ++ tosOf 2 [r], (fs.take 0 ++ fs.drop (0 + 1)) ++ laid [r], vt9, vl9, us, vs, .slice A ((R.take s.taken).length + (ba l).length) c, vg, ?_, u1, u2, ?_, by omega, by omega, ?_⟩
                · rw [u4, ba_length]
                  exact j3
                · exact net_add (by simp; omega) (fun e he => (v2 e he).swap) (fun g hg => u5 g hg)
                · have := laid_len [r]
                  simp at this ⊢
                  omega
              clear HAd on9 a9 A8 HK HNe A7 A6
              have HRg := Lib.hid A9.out.rg
              go_wp2_with (at_builtin; refine wpList_append_texts_at (by rfl) _ _ 30 rfl (w.heap.size) 37 i0 _ 16 Try.underlying30 hi hz0 hz1 hz2 rfl _ (R.take s.taken).length (strs (R.take s.taken)) (by rfl) HRg.out _ (ba l) (by rfl) HSrc.out (by unfold maxLen; omega) (by omega) (by omega) ?_; intro v' w10 hown' hgrow hat'; obtain ⟨A3, c3, rfl⟩ := L5.own_slice hown'; obtain ⟨j4, jf, jr⟩ := HEnd.out A3 c3 w10 hown' hgrow hat'; have HF := Lib.hid jr; clear hown' hgrow hat' jr)
              clear A9 HRg HEnd HSrc q9 j4 jf
              go_roundg (gk - 1)
              case measure => exact hmm.out
              case rel =>
                have hf := HF.out
                simp only [List.length_take] at hf
                exact hf
        · have s1 : ¬ (i : Int) < (n0 : Int) := by omega
          obtain ⟨wf, rfl⟩ : ∃ z, z = wr := ⟨wr, rfl⟩
          obtain ⟨As, cs, Ag, cg, e1, e2, k1, hsm1⟩ := begins_two hm.rs hm.rg o12.taken (by omega)
          obtain ⟨Au, cu, Ah, ch, e3, e4, k2, hsm2⟩ := begins_two hm.ru hm.rh o21.taken (by omega)
          subst e1 e2 e3 e4
          have d1 := hm.bs.cell.1
          have d2 := hm.bs.swap.cell.1
          have d3 := hm.bg.cell.1
          have d4 := hm.bg.swap.cell.1
          have l1 := hm.bs.lt
          have l2 := hm.bg.lt
          have HB := Lib.hid hm.below
          have t1 := o12.taken
          have t2 := o21.taken
          have HS1 : Hid (∀ V, V.cell? ⟨gs, 1, none⟩ = some (.slice As S.length cs) ∧ V.cell? ⟨gg, 1, none⟩ = some (.slice Ag t.taken cg) ∧ (∃ q, V = wf.drewN q) → Calls Try.prog 14 #[.slice Ag t.taken cg, .slice As t.taken cs] V fun e w' => e = .returned (.bool true) ∧ w'.cell? ⟨gs, 1, none⟩ = some (.slice As S.length cs) ∧ w'.cell? ⟨gg, 1, none⟩ = some (.slice Ag t.taken cg) ∧ ∃ q, w' = wf.drewN q) := fun V hV => by
            obtain ⟨v1, v2, q, rfl⟩ := hV
            refine (hsm1 _ (L5.below_drewN (Below.refl _ _) q)).mono ?_
            rintro e w' ⟨rfl, m, rfl⟩
            exact ⟨rfl, v1, v2, q + m, by simp [World.drewN, Nat.add_assoc]⟩
          have HS2 : Hid (∀ V, V.cell? ⟨gs, 2, none⟩ = some (.slice Au R.length cu) ∧ V.cell? ⟨gg, 2, none⟩ = some (.slice Ah s.taken ch) ∧ (∃ q, V = wf.drewN q) → Calls Try.prog 14 #[.slice Ah s.taken ch, .slice Au s.taken cu] V fun e w' => e = .returned (.bool true) ∧ w'.cell? ⟨gs, 2, none⟩ = some (.slice Au R.length cu) ∧ w'.cell? ⟨gg, 2, none⟩ = some (.slice Ah s.taken ch) ∧ ∃ q, w' = wf.drewN q) := fun V hV => by
            obtain ⟨v1, v2, q, rfl⟩ := hV
            refine (hsm2 _ (L5.below_drewN (Below.refl _ _) q)).mono ?_
            rintro e w' ⟨rfl, m, rfl⟩
            exact ⟨rfl, v1, v2, q + m, by simp [World.drewN, Nat.add_assoc]⟩
          have HC : Hid (∀ q, (wf.drewN q).cell? ⟨gs, 1, none⟩ = some (.slice As S.length cs) ∧ (wf.drewN q).cell? ⟨gs, 2, none⟩ = some (.slice Au R.length cu) ∧ (wf.drewN q).cell? ⟨gg, 1, none⟩ = some (.slice Ag t.taken cg) ∧ (wf.drewN q).cell? ⟨gg, 2, none⟩ = some (.slice Ah s.taken ch)) := fun q => ⟨d1, d2, d3, d4⟩
          have m1 : ¬ (S.length : Int) < (t.taken : Int) := by omega
          have m2 : ¬ (R.length : Int) < (s.taken : Int) := by omega
          have m7 : decide ((S.length : Int) < (t.taken : Int)) = false := decide_eq_false m1
          have m8 : decide ((R.length : Int) < (s.taken : Int)) = false := decide_eq_false m2
          have m9 : decide (S.length < t.taken) = false := decide_eq_false (by omega)
          have m10 : decide (R.length < s.taken) = false := decide_eq_false (by omega)
          have m11 : ¬ S.length < t.taken := by omega
          have m12 : ¬ R.length < s.taken := by omega
          have m3 : (0 : Int) ≤ (t.taken : Int) := by omega
          have m4 : (t.taken : Int) ≤ (cs : Int) := by omega
          have m5 : (0 : Int) ≤ (s.taken : Int) := by omega
          have m6 : (s.taken : Int) ≤ (cu : Int) := by omega
          clear hm o12 o21 hnet hnm hsr hfl HM d1 d2 d3 d4 hsm1 hsm2 hk hlt t1 t2 k1 k2
          go_wp2_with fail
          go_loopg [23] 2 (fun k v23 wz => ∃ j q : Nat, k + j = 3 ∧ 1 ≤ j ∧ v23 = .int .i64 j ∧ wz = wf.drewN q)
          case atStart => exact ⟨1, 0, rfl, Nat.le_refl _, rfl, rfl⟩
          case round =>
            obtain ⟨j, q, hk, hj1, rfl, rfl⟩ := hrel
            by_cases hj3 : j = 3
            · subst hj3
              have HF := Lib.hid (L5.below_drewN HB.out q)
              clear HS1 HS2 HC hk hj1
              go_wp2
              go_ret
              exact ⟨rfl, HF.out⟩
            obtain ⟨c1, c2, c3, c4⟩ := HC.out q
            have hmm := Lib.hid (show gk - 1 < gk by omega)
            have hkk := Lib.hid (show (gk - 1) + (j + 1) = 3 by omega)
            have hwr1 : IntKind.i64.wrap 1 = 1 := rfl
            have hwr2 : IntKind.i64.wrap 2 = 2 := rfl
            rcases (by omega : j = 1 ∨ j = 2) with rfl | rfl
            · clear c2 c4 hj3 hk hj1
              have hS0 : ∃ q', (wf.drewN q).drew = wf.drewN q' := ⟨q + 1, rfl⟩
              go_wp2
              go_region_held3 (fun w' => w'.cell? ⟨gs, 1, none⟩ = some (.slice As S.length cs) ∧ w'.cell? ⟨gg, 1, none⟩ = some (.slice Ag t.taken cg) ∧ ∃ q, w' = wf.drewN q) ((first | exact ⟨c1, c3, hS0⟩ | (go_split_ands; refine ⟨?_, ?_, ?_⟩ <;> assumption)))
                ((go_at_call 14; refine (HS1.out _ (by first | exact ⟨c1, c3, hS0⟩ | (refine ⟨?_, ?_, ?_⟩ <;> assumption))).mono ?_; rintro e w7 ⟨rfl, f1, f2, f3⟩))
              all_goals
                obtain ⟨q', rfl⟩ := f3
                clear f1 f2
                go_wp2
                go_roundg (gk - 1)
                case measure => exact hmm.out
                case rel => exact ⟨2, q', hkk.out, by omega, rfl, rfl⟩
            · clear c1 c3 hj3 hk hj1
              have hS0 : ∃ q', (wf.drewN q).drew = wf.drewN q' := ⟨q + 1, rfl⟩
              go_wp2
              go_region_held3 (fun w' => w'.cell? ⟨gs, 2, none⟩ = some (.slice Au R.length cu) ∧ w'.cell? ⟨gg, 2, none⟩ = some (.slice Ah s.taken ch) ∧ ∃ q, w' = wf.drewN q) ((first | exact ⟨c2, c4, hS0⟩ | (go_split_ands; refine ⟨?_, ?_, ?_⟩ <;> assumption)))
                ((go_at_call 14; refine (HS2.out _ (by first | exact ⟨c2, c4, hS0⟩ | (refine ⟨?_, ?_, ?_⟩ <;> assumption))).mono ?_; rintro e w7 ⟨rfl, f1, f2, f3⟩))
              all_goals
                obtain ⟨q', rfl⟩ := f3
                clear f1 f2
                go_wp2
                go_roundg (gk - 1)
                case measure => exact hmm.out
                case rel => exact ⟨3, q', hkk.out, by omega, rfl, rfl⟩
end Go.Proofs.Ytfmjjickgjkcbaa.L7
end

section
namespace Go.Proofs.Ytfmjjickgjkcbaa
open Go.ChangeShapes Go.WideShapes Go.ChangeAt Go.RowKit

set_option maxRecDepth 100000 in
theorem lkboth_lifted (os : Os) (started : os.Started) (H : Type) (enc : TypeId × Value → H) :
    ReturnsInHanded {} Try.checked os 4 .any (Rows.linkBothSpec.pre6 enc Try.prog Try.f4 Rows.linkBothRow.domain false) (Rows.linkBothSpec.post enc Try.prog Try.f4 false true false false) := by
  refine returnsInHanded_of_change (C := Try.checked) L5.own started (by kernel_rfl) Try.func4
    (ChangeSpec.witness6 (enc := enc) (C := Try.checked) false ⟨#[], #[.slice none 0 0], []⟩ 8 (by kernel_rfl) (by kernel_rfl) (by kernel_rfl) (by kernel_rfl)) ?_
  intro W base args ds gs before hval0 hW hcnd _
  have hval : ∀ (j : Nat) t v, Try.f4.params[j]? = some t → args[j]? = some v → Value.okWide Try.prog W .any base t v := hval0
  have hW' := hW
  obtain ⟨p, q, hA0, hV, rfl, hfz, hnd⟩ := hW
  have hA : DataW.TrodAll enc Try.prog W 0 (fun _ => true) true Try.f4.params.toList args.toList ds p := hA0
  rw [Try.params4] at hA hval
  obtain ⟨v0, vs0, d0, ds0, p0, q0, hargs, rfl, rfl, h0, r0⟩ := trodAll_cons hA
  obtain ⟨rfl, rfl, rfl⟩ := trodAll_nil r0
  obtain rfl : args = #[v0] := by cases args; simp_all
  obtain ⟨rfl, rfl⟩ := trodVars_none hV
  have h0k := h0
  obtain ⟨zs0, rfl, hI0⟩ := L7.open_irow (hval 0 29 v0 rfl rfl) h0
  clear hA0 hval0
  simp only [List.append_nil] at hW'
  have hlt : ∀ x ∈ p0, x.block < W.heap.size := fun x hx => by simpa using hW'.lt x (by simpa using hx)
  refine (L7.both_calls W hI0.1 hI0.2).mono fun e W' ⟨he, hg⟩ => ?_
  subst he
  exact ⟨_, rfl, L5.post_law_at (pv := []) hW' (trodAll_cons_mk (shut_bool Try.underlying4 _) trodAll_mk0) (trodAll_cons_mk (Below.trod L5.laid_out (by kernel_rfl) (of_decide_eq_true (by kernel_rfl)) h0k hg hlt) trodAll_mk0) rfl (by simp) hg⟩

theorem lkboth_over : Rows.linkBothRow.holds Try.pinned (OpenSpec.ofChange Rows.linkBothSpec) :=
  OpenClaim.holds_of_wide 4 Try.f4 rfl rfl rfl rfl rfl rfl rfl ⟨rfl, rfl, rfl, rfl, rfl⟩ rfl rfl rfl rfl rfl (by kernel_rfl) Try.func4 (by kernel_rfl)
    (of_decide_eq_true (by kernel_rfl)) (by unfold Func.isWrapper; first | (rw [if_pos (by decide +kernel)]; kernel_rfl) | (rw [if_neg (by decide +kernel)]; exact ⟨rfl, rfl⟩))
    (fun os started H enc _ => lkboth_lifted os started H enc)

theorem lkboth_proved : Rows.LinkBothSaid := lkboth_over

end Go.Proofs.Ytfmjjickgjkcbaa
end
