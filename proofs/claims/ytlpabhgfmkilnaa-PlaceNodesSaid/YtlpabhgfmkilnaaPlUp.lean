/- place.up: the nodes from the leaf of a process to the root, with what stands at each. -/
import Derived.Test.YtlpabhgfmkilnaaPlMin
namespace Go.Proofs.Ytlpabhgfmkilnaa.L14
open Go.ChangeShapes Go.WideShapes Go.ChangeAt Go.RowKit Go.Deep
open Go.Proofs.Ytlpabhgfmkilnaa.L13
open Go.Proofs.Ytlpabhgfmkilnaa.L5 (One)

attribute [local go_sem] Oper.semAt_some

/-- The same of nodes. -/
structure PBox (B b : Nat) (w : World) (F : Nat → Prop) (xs : List Nd) (W : World) : Prop where
  base : B ≤ b
  low : b < W.heap.size
  val : ∃ v, W.heap[b]? = some (.cells #[v] 57 (0, 0)) ∧ W.ownsRow B 56 2 v xs.length (cellsQ xs) ∧ ∀ q, F q ↔ q = b ∨ v.ownBlock = some q
  below : Below B w W
theorem PBox.new (w W : World) (B : Nat) (hB : Below B w W) (hs : B ≤ W.heap.size) : PBox B W.heap.size w (fun q => q = W.heap.size) [] (W.alloc (.cells #[.slice none 0 0] 57)) :=
  ⟨hs, by simp, ⟨.slice none 0 0, World.alloc_heap_new _ _, World.ownsRow_nil _ _ _ _, fun q => by simp [Value.ownBlock]⟩, hB.alloc hs _⟩
theorem PBox.kept {B b C : Nat} {w V V' : World} {F : Nat → Prop} {xs : List Nd} (h : PBox B b w F xs V) (hk : Beside C F V V') (hC : B ≤ C) : PBox B b w F xs V' := by
  obtain ⟨v, h1, h2, h3⟩ := h.val
  refine ⟨h.base, Nat.lt_of_lt_of_le h.low hk.size, ⟨v, (hk.same b h.low (.inr ((h3 b).2 (.inl rfl)))).trans h1, ?_, h3⟩, ?_⟩
  · refine ⟨h2.1, ?_⟩
    rcases h2.2 with e | ⟨g, cap, cur, e, k1, k2, k3⟩
    · exact .inl e
    · refine .inr ⟨g, cap, cur, e, k1, (hk.same g (Array.getElem?_eq_some_iff.1 k2).1 (.inr ((h3 g).2 (.inr (by rw [e]; rfl))))).trans k2, k3⟩
  · exact ⟨hk.os.trans h.below.os, hk.tape.trans h.below.tape, hk.output.trans h.below.output, Nat.le_trans h.below.size hk.size, fun q hq => (hk.same q (by
      by_cases hb : q < V.heap.size
      · exact hb
      · have := h.low; have := h.base; omega) (.inl (by omega))).trans (h.below.block q hq)⟩
theorem PBox.cells {B b : Nat} {w V : World} {F : Nat → Prop} {xs : List Nd} (h : PBox B b w F xs V) : ∃ A c, V.cell? ⟨b, 0, none⟩ = some (.slice A xs.length c) ∧ V.ownsRow B 56 2 (.slice A xs.length c) xs.length (cellsQ xs) ∧ (∀ q, F q ↔ q = b ∨ (Value.slice A xs.length c).ownBlock = some q) ∧ V.heap[b]? = some (.cells #[.slice A xs.length c] 57 (0, 0)) := by
  obtain ⟨v, h1, h2, h3⟩ := h.val
  obtain ⟨A, c, rfl⟩ := L5.own_slice h2
  exact ⟨A, c, by rw [cell_of_row _ _ _ _ _ _ h1]; rfl, h2, h3, h1⟩
theorem PBox.lows {B b : Nat} {w V : World} {F : Nat → Prop} {xs : List Nd} (h : PBox B b w F xs V) : ∀ q, F q → B ≤ q ∧ q < V.heap.size := by
  obtain ⟨v, h1, h2, h3⟩ := h.val
  intro q hq
  rcases (h3 q).1 hq with rfl | e
  · exact ⟨h.base, h.low⟩
  · exact h2.lt q e
/-- append of one text, and the store. -/
theorem PBox.append {B b : Nat} {w V W1 W2 : World} {F : Nat → Prop} {xs : List Nd} {y : Nd} {A : Option Addr} {c : Nat} (h : PBox B b w F xs V)
    (hF : ∀ q, F q ↔ q = b ∨ (Value.slice A xs.length c).ownBlock = some q) (hrow : V.ownsRow B 56 2 (.slice A xs.length c) xs.length (cellsQ xs)) (hbx : V.heap[b]? = some (.cells #[.slice A xs.length c] 57 (0, 0)))
    (hb1 : Below V.heap.size V W1) {v' : Value} (hown : W2.ownsRow B 56 2 v' (xs.length + 1) (cellsQ xs ++ [.string ⟨y.1.toArray⟩, .string ⟨y.2.text.toArray⟩])) (hg : W1.grownBy W2 (Value.slice A xs.length c).ownBlock) (hv' : v'.ownBlock = (Value.slice A xs.length c).ownBlock ∨ v'.ownBlock = some W1.heap.size) :
    (W2.cell? ⟨b, 0, none⟩ = some (.slice A xs.length c) ∧ W2.frozen? ⟨b, 0, none⟩ = false) ∧ ∃ F', PBox B b w F' (xs ++ [y]) (W2.setCell ⟨b, 0, none⟩ v') ∧ Round F F' V (W2.setCell ⟨b, 0, none⟩ v') := by
  have hbg : (Value.slice A xs.length c).ownBlock ≠ some b := by
    intro e
    rcases hrow.2 with ⟨e0, _⟩ | ⟨g, cap, cur, e0, k1, k2, _⟩
    · rw [e0] at e; cases e
    · rw [e0] at e
      have : g = b := Option.some.inj e
      subst this
      rw [hbx] at k2
      cases k2
  have hs1 := hb1.size
  have hs2 := hg.size
  have hlow := h.low
  have hbase := h.base
  have hb2 : W2.heap[b]? = some (.cells #[.slice A xs.length c] 57 (0, 0)) := (hg.block b (by omega) (fun e => hbg e.symm)).trans ((hb1.block b hlow).trans hbx)
  have hset := heap_setCell_same W2 b 0 _ _ v' hb2
  have hoth : ∀ q, q ≠ b → (W2.setCell ⟨b, 0, none⟩ v').heap[q]? = W2.heap[q]? := fun q hq => Below.heap_setCell _ _ _ _ (fun e => hq e)
  have hz : (W2.setCell ⟨b, 0, none⟩ v').heap.size = W2.heap.size := by simp [World.setCell]
  have hvb : v'.ownBlock ≠ some b := by
    rcases hv' with e | e
    · rw [e]; exact hbg
    · rw [e]; intro e2; have := Option.some.inj e2; omega
  have hrd : Round F (fun q => q = b ∨ v'.ownBlock = some q) V (W2.setCell ⟨b, 0, none⟩ v') := by
    refine ⟨hg.os.trans hb1.os, hg.tape.trans hb1.tape, hg.output.trans hb1.output, by omega, fun q hq hx => ?_, fun q hq => ?_, fun q hq => ?_⟩
    · have n1 : q ≠ b := fun e => hx ((hF q).2 (.inl e))
      have n2 : some q ≠ (Value.slice A xs.length c).ownBlock := fun e => hx ((hF q).2 (.inr e.symm))
      exact (hoth q n1).trans ((hg.block q (by omega) n2).trans (hb1.block q hq))
    · rcases hq with e | e
      · exact .inl ((hF q).2 (.inl e))
      · rcases hv' with e2 | e2
        · exact .inl ((hF q).2 (.inr (e2 ▸ e)))
        · rw [e2] at e; have := Option.some.inj e; exact .inr (by omega)
    · rcases hq with e | e
      · omega
      · have := (hown.lt q e).2; omega
  refine ⟨⟨by rw [cell_of_row _ _ _ _ _ _ hb2]; rfl, frozen_of_row _ _ _ _ _ hb2⟩, _, ⟨hbase, by omega, ⟨v', hset, ?_, fun q => Iff.rfl⟩, ?_⟩, hrd⟩
  · rw [cellsQ_append, List.length_append]
    refine ⟨hown.1, ?_⟩
    rcases hown.2 with e | ⟨g, cap, cur, e, k1, k2, k3⟩
    · exact .inl e
    · exact .inr ⟨g, cap, cur, e, k1, (hoth g (fun e3 => hvb (by rw [e, e3]; rfl))).trans k2, k3⟩
  · have hlo := h.lows
    exact ⟨hrd.os.trans h.below.os, hrd.tape.trans h.below.tape, hrd.output.trans h.below.output, Nat.le_trans h.below.size hrd.size, fun q hq => (hrd.same q (by omega) (fun e => by have := (hlo q e).1; omega)).trans (h.below.block q hq)⟩

theorem cellsQ_at {ps : List Nd} {j : Nat} {y : Nd} (h : ps[j]? = some y) : (cellsQ ps)[j * 2]? = some (.string ⟨y.1.toArray⟩) ∧ (cellsQ ps)[j * 2 + 1]? = some (.string ⟨y.2.text.toArray⟩) := by
  induction ps generalizing j with
  | nil => simp at h
  | cons s ps ih =>
    cases j with
    | zero => cases h; exact ⟨rfl, rfl⟩
    | succ j =>
      have := ih (j := j) (by simpa using h)
      rw [cellsQ_cons, show (j + 1) * 2 = j * 2 + 1 + 1 by omega]
      exact this
/-- A row from behind, each with its place. -/
def backs (ps : List Nd) : List (Nat × Nd) := (ps.zipIdx.map (fun e => (e.2, e.1))).reverse
theorem backs_len (ps : List Nd) : (backs ps).length = ps.length := by simp [backs]
theorem backs_snd (ps : List Nd) : (backs ps).map (fun e => e.2) = ps.reverse := by
  unfold backs
  rw [List.map_reverse, List.map_map]
  congr 1
  have : ((fun e : Nat × Nd => e.2) ∘ fun e : Nd × Nat => (e.2, e.1)) = Prod.fst := rfl
  rw [this, List.zipIdx_map_fst]
theorem backs_at {ps : List Nd} {m k : Nat} {y : Nd} (hk : m + 1 + k = ps.length) (h : ps[k]? = some y) : (backs ps)[m]? = some (k, y) := by
  unfold backs
  rw [List.getElem?_reverse (by simp; omega)]
  simp only [List.length_map, List.length_zipIdx, List.getElem?_map, List.getElem?_zipIdx]
  rw [show ps.length - 1 - m = k by omega, h]
  simp
theorem take_snoc {α : Type} {xs : List α} {m : Nat} {x : α} (h : xs[m]? = some x) : xs.take (m + 1) = xs.take m ++ [x] := by rw [List.take_add_one, h]; rfl
def encB (x : Nat × Nd) : Array Value := #[.int .i64 (x.1 : Int), .agg #[.string ⟨x.2.1.toArray⟩, .string ⟨x.2.2.text.toArray⟩]]
structure BRel (ps : List Nd) (s : Nat × Nd → Bool) (R : Nat → Prop) (J : (Nat → Prop) → List (Nat × Nd) → World → Prop) (W : World) (k : Nat) (v3 : Value) (wr : World) where
  m : Nat
  F : Nat → Prop
  hk : k + m = ps.length
  v3e : v3 = .int .i64 ((k : Int) - 1)
  clean : ∀ y ∈ (backs ps).take m, s y = false
  inv : J F ((backs ps).take m) wr
  size : W.heap.size ≤ wr.heap.size
  apart : ∀ q, R q → ¬ F q
  kept : ∀ q, R q → q < W.heap.size → wr.heap[q]? = W.heap[q]?
set_option maxRecDepth 100000 in
set_option maxHeartbeats 4000000 in
theorem backward_in (ps : List Nd) (Bs : Nat) (A : Option Addr) (c B : Nat) (s : Nat × Nd → Bool) (n l : Nat) (J : (Nat → Prop) → List (Nat × Nd) → World → Prop) (F : Nat → Prop) (W : World)
    (hF : ∀ q, F q → q < W.heap.size ∧ ¬ (q = Bs ∨ (Value.slice A ps.length c).ownBlock = some q)) (hc : W.cell? ⟨Bs, 0, none⟩ = some (.slice A ps.length c)) (hBs : Bs < W.heap.size) (ho : W.ownsRow B 56 2 (.slice A ps.length c) ps.length (cellsQ ps)) (hfew : ps.length ≤ 1000)
    (hY : ∀ m pre x F W1, pre ++ [x] <+: upto s (backs ps) → J F pre W1 → YieldAt Fence.wide m Try.prog l (encB x) W1 fun e W' => e = .returned (.bool (!s x)) ∧ ∃ F', J F' (pre ++ [x]) W' ∧ (∀ q, F' q → F q ∨ W1.heap.size ≤ q) ∧ Round (fun q => F q ∨ (s x = true ∧ q = l)) F' W1 W')
    (h0 : J F [] W) : CallsIn Fence.wide n Try.prog 45 #[.func (.yield l) #[] #[], .pointer (some ⟨Bs, 0, none⟩)] W fun e W' => (∃ v, e = .returned v) ∧ ∃ F', J F' (upto s (backs ps)) W' := by
  obtain ⟨i0, hi, hz0, hz1, hz2⟩ := info_parts info_spot
  have HY := Lib.hid hY
  have HO := Lib.hid ho
  have HSt : Hid (Nonempty (BRel ps s (fun q => q = Bs ∨ (Value.slice A ps.length c).ownBlock = some q) J W ps.length (.int .i64 ((ps.length : Int) - 1)) W)) :=
    ⟨⟨0, F, by omega, rfl, by simp, h0, Nat.le_refl _, fun q hq hf => (hF q hf).2 hq, fun _ _ _ => rfl⟩⟩
  clear hY ho h0 hF
  refine callsIn_of_wp Try.func45 rfl trivial ?_ rfl
  simp only [Try.ntmps45, List.size_toArray, List.length_cons, List.length_nil, Nat.reduceAdd, Nat.reduceSub, Array.replicate_succ, Array.replicate_zero, List.push_toArray, List.append_toArray, List.nil_append, List.cons_append]
  gi_wp2
  gi_loopg [3] ps.length (fun k v3 wr => Nonempty (BRel ps s (fun q => q = Bs ∨ (Value.slice A ps.length c).ownBlock = some q) J W k v3 wr))
  case atStart => exact HSt.out
  case round =>
    clear HSt
    obtain ⟨⟨m, F1, hk, rfl, hcl, hinv, hsz, hap, hkp⟩⟩ := hrel
    cases gk with
    | zero =>
      have hE : Hid (∃ F', J F' (upto s (backs ps)) wr) := by
        rw [List.take_of_length_le (by rw [backs_len]; omega)] at hcl hinv
        rw [upto_none hcl]
        exact ⟨F1, hinv⟩
      have j1 : ¬ (0 : Int) ≤ ((0 : Nat) : Int) - 1 := by omega
      clear hk hcl hinv hap hkp HY HO
      gi_wp2
      go_end0
      exact ⟨⟨_, rfl⟩, hE.out⟩
    | succ k =>
      obtain ⟨y, hy⟩ : ∃ y, ps[k]? = some y := ⟨_, List.getElem?_eq_getElem (by omega)⟩
      have hb := backs_at (m := m) (by omega) hy
      have hsn := take_snoc hb
      obtain ⟨g, off, cap, hv, hBg, hgl, _, _, hcells⟩ := (Rest.of_own HO.out).cells (by omega)
      cases hv
      obtain ⟨q0, q1⟩ := cellsQ_at hy
      have hkg := hkp g (.inr rfl) hgl
      have hkb := hkp Bs (.inl rfl) hBs
      have cb : wr.cell? ⟨Bs, 0, none⟩ = some (.slice (some ⟨g, off, none⟩) ps.length c) := (World.cell?_of_block (a := ⟨Bs, 0, none⟩) hkb).trans hc
      have c0 : wr.cell? ⟨g, off + k * 2, none⟩ = some (.string ⟨y.1.toArray⟩) := (World.cell?_of_block (a := ⟨g, off + k * 2, none⟩) hkg).trans (hcells _ _ q0)
      have c1 : wr.cell? ⟨g, off + k * 2 + 1, none⟩ = some (.string ⟨y.2.text.toArray⟩) := (World.cell?_of_block (a := ⟨g, off + k * 2 + 1, none⟩) hkg).trans (by rw [Nat.add_assoc]; exact hcells _ _ q1)
      have hsplit : backs ps = (backs ps).take m ++ (k, y) :: (backs ps).drop (m + 1) := by
        have := List.take_append_drop (m + 1) (backs ps)
        rw [hsn, List.append_assoc] at this
        exact this.symm
      have hnx := upto_next (s := s) ((backs ps).take m) ((backs ps).drop (m + 1)) (k, y) hcl
      rw [← hsplit] at hnx
      have hupt : Hid (s (k, y) = true → upto s (backs ps) = (backs ps).take (m + 1)) := fun h => by
        rw [hsn]
        conv => lhs; rw [hsplit]
        exact upto_some _ _ hcl h
      have HYy := Lib.hid (fun mm => HY.out mm ((backs ps).take m) (k, y) F1 wr hnx hinv)
      have HGo : Hid (∀ W3 F', s (k, y) = false → J F' ((backs ps).take m ++ [(k, y)]) W3 → Round F1 F' wr W3 → Nonempty (BRel ps s (fun q => q = Bs ∨ (Value.slice (some ⟨g, off, none⟩) ps.length c).ownBlock = some q) J W k (.int .i64 ((k : Int) - 1)) W3)) := fun W3 F' hs hJ3 hr => by
        have hbound : ∀ q, q = Bs ∨ (Value.slice (some ⟨g, off, none⟩) ps.length c).ownBlock = some q → q < W.heap.size := fun q hq => by
          rcases hq with rfl | e
          · exact hBs
          · have : g = q := Option.some.inj e
            omega
        refine ⟨⟨m + 1, F', by omega, rfl, fun z hz => ?_, by rw [hsn]; exact hJ3, Nat.le_trans hsz hr.size, fun q hq hf => ?_, fun q hq hl => (hr.same q (by omega) (hap q hq)).trans (hkp q hq hl)⟩⟩
        · rw [hsn, List.mem_append] at hz
          rcases hz with hz | hz
          · exact hcl z hz
          · rw [List.mem_singleton.1 hz]; exact hs
        · rcases hr.more q hf with h | h
          · exact hap q hq h
          · have := hbound q hq; omega
      have j1 : (0 : Int) ≤ ((k + 1 : Nat) : Int) - 1 := by omega
      have j2 : ((k + 1 : Nat) : Int) - 1 = (k : Int) := by omega
      have j3 : (k : Int) < (ps.length : Int) := by omega
      have j4 : (0 : Int) ≤ (k : Int) := by omega
      rw [j2]
      obtain ⟨fn, tmps, assign, body, hy5, hR5⟩ := HYy.out (n - 1)
      obtain ⟨yx, yt⟩ := y
      unfold encB at hy5
      dsimp only at hy5 c0 c1
      have HK := Lib.hid (And.intro hk hy)
      clear hk hcl hinv hap hkp hy hb hsn hcells q0 q1 hkg hkb hsplit hnx HY HO HYy hc hgl
      generalize hut : yt.text = ut at *
      gi_wp2
      refine ⟨(fun h => nomatch h), hR5.mono ?_⟩
      rintro e W3 ⟨rfl, F', hJ3, hm3, hr3⟩
      cases hs : s (k, yx, yt) with
      | true =>
        have hE : Hid (∃ F', J F' (upto s (backs ps)) W3) := ⟨F', by rw [hupt.out hs, take_snoc (backs_at (by have := HK.out.1; omega) HK.out.2)]; exact hJ3⟩
        clear HGo hupt hr3 hm3 hJ3 hy5 hR5
        gi_wp2
        refine bodyPost_ret (results_none rfl _ _ _) rfl ?_
        exact ⟨⟨_, rfl⟩, hE.out⟩
      | false =>
        have HR := Lib.hid (HGo.out W3 F' hs hJ3 (hr3.go hm3 hs))
        clear HGo hupt hr3 hm3 hJ3 hy5 hR5
        gi_wp2
        gi_roundg k
        case measure => omega
        case rel => exact HR.out
theorem enters_back : ∀ args w, (callFunc 45 args).run Try.prog w = .ok (.enter 45 args) w := enters_of Try.func45 (by kernel_rfl) rfl
theorem backward_upto (ps : List Nd) (Bs : Nat) (A : Option Addr) (c B : Nat) (w : World) (hc : w.cell? ⟨Bs, 0, none⟩ = some (.slice A ps.length c)) (hBs : Bs < w.heap.size) (ho : w.ownsRow B 56 2 (.slice A ps.length c) ps.length (cellsQ ps)) (hfew : ps.length ≤ 1000) :
    SeqUpto Try.prog 45 #[.pointer (some ⟨Bs, 0, none⟩)] encB (fun q => q = Bs ∨ (Value.slice A ps.length c).ownBlock = some q) (backs ps) w := by
  intro s n l J F W hW hl hJ hF hY h0
  refine backward_in ps Bs A c B s n l J F W hF ((hW.cell (p := ⟨Bs, 0, none⟩) hBs).trans hc) (Nat.lt_of_lt_of_le hBs hW.size) ?_ hfew hY h0
  refine ⟨ho.1, ?_⟩
  rcases ho.2 with e | ⟨g, cap, cur, e, k1, k2, k3⟩
  · exact .inl e
  · exact .inr ⟨g, cap, cur, e, k1, (hW.block g (Array.getElem?_eq_some_iff.1 k2).1).trans k2, k3⟩
set_option maxHeartbeats 400000 in
theorem backward_calls (A : Option Addr) (len c : Nat) (w : World) :
    Calls Try.prog 37 #[.slice A len c] w fun e w' => e = .returned (.func (.func 45) #[] #[.pointer (some ⟨w.heap.size, 0, none⟩)]) ∧ w.alloc (.cells #[.slice A len c] 57) = w' := by
  go_enter Try.func37, Try.ntmps37
  go_wp2
  go_ret
  exact ⟨rfl, rfl⟩
end Go.Proofs.Ytlpabhgfmkilnaa.L14
