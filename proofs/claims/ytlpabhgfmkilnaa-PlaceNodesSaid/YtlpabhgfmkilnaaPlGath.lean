/- place.gather, and what the loops over a walk share: a row of texts in a box that each round may append to. -/
import Derived.Test.YtlpabhgfmkilnaaPlDown
import Derived.Maps.OwnIn
namespace Go.Proofs.Ytlpabhgfmkilnaa.L14
open Go.ChangeShapes Go.WideShapes Go.ChangeAt Go.RowKit Go.Deep
open Go.Proofs.Ytlpabhgfmkilnaa.L13
open Go.Proofs.Ytlpabhgfmkilnaa.L5 (One)

attribute [local go_sem] Oper.semAt_some

/-- A function that held one range over a function leaves. -/
theorem leave_mark {F : Fence} {n : Nat} {P : Program} {fn : Func} {R : Ending → World → Prop} {tmps : Array Value} {W : World} {D : Nat} {v : Value}
    (hK : W.heap[D]? = some (.deferred (some []))) (hr : ∀ V, V = W.putObj D (.deferred none) → (results fn tmps).run P V = .ok v V) (hR : R (.returned v) (W.putObj D (.deferred none))) :
    LeavesInM F n P fn tmps R [{ target := .collected D, args := #[] }] .returning W :=
  ⟨by simp, .inl ⟨D, _, rfl, run_takeDeferred hK, v, hr _ rfl, hR⟩⟩
def strV (xs : List (List UInt8)) : List Value := xs.map (fun x => .string ⟨x.toArray⟩)
theorem strV_len (xs : List (List UInt8)) : (strV xs).length = xs.length := by simp [strV]
theorem strV_append (xs ys : List (List UInt8)) : strV (xs ++ ys) = strV xs ++ strV ys := by simp [strV]
/-- A new row of texts. -/
def TextsOut (w : World) (xs : List (List UInt8)) (e : Ending) (w' : World) : Prop :=
  ∃ v, e = .returned v ∧ w'.ownsRow w.heap.size 9 1 v xs.length (strV xs) ∧ Below w.heap.size w w'
/-- A row of texts of the call's own, in a box: what the rounds work on. -/
structure TBox (B b : Nat) (w : World) (F : Nat → Prop) (xs : List (List UInt8)) (W : World) : Prop where
  base : B ≤ b
  low : b < W.heap.size
  val : ∃ v, W.heap[b]? = some (.cells #[v] 30 (0, 0)) ∧ W.ownsRow B 9 1 v xs.length (strV xs) ∧ ∀ q, F q ↔ q = b ∨ v.ownBlock = some q
  below : Below B w W
theorem TBox.new (w W : World) (B : Nat) (hB : Below B w W) (hs : B ≤ W.heap.size) : TBox B W.heap.size w (fun q => q = W.heap.size) [] (W.alloc (.cells #[.slice none 0 0] 30)) :=
  ⟨hs, by simp, ⟨.slice none 0 0, World.alloc_heap_new _ _, World.ownsRow_nil _ _ _ _, fun q => by simp [Value.ownBlock]⟩, hB.alloc hs _⟩
theorem TBox.kept {B b C : Nat} {w V V' : World} {F : Nat → Prop} {xs : List (List UInt8)} (h : TBox B b w F xs V) (hk : Beside C F V V') (hC : B ≤ C) : TBox B b w F xs V' := by
  obtain ⟨v, h1, h2, h3⟩ := h.val
  refine ⟨h.base, Nat.lt_of_lt_of_le h.low hk.size, ⟨v, (hk.same b h.low (.inr ((h3 b).2 (.inl rfl)))).trans h1, ?_, h3⟩, ?_⟩
  · refine ⟨h2.1, ?_⟩
    rcases h2.2 with e | ⟨g, cap, cur, e, k1, k2, k3⟩
    · exact .inl e
    · refine .inr ⟨g, cap, cur, e, k1, (hk.same g (Array.getElem?_eq_some_iff.1 k2).1 (.inr ((h3 g).2 (.inr (by rw [e]; rfl))))).trans k2, k3⟩
  · exact ⟨hk.os.trans h.below.os, hk.tape.trans h.below.tape, hk.output.trans h.below.output, Nat.le_trans h.below.size hk.size, fun q hq => (hk.same q (by
      by_cases hb : q < V.heap.size
      · exact hb
      · have := h.low; have := h.base; omega) (.inl (by omega))).trans (h.below.block q hq)⟩
theorem TBox.cells {B b : Nat} {w V : World} {F : Nat → Prop} {xs : List (List UInt8)} (h : TBox B b w F xs V) : ∃ A c, V.cell? ⟨b, 0, none⟩ = some (.slice A xs.length c) ∧ V.ownsRow B 9 1 (.slice A xs.length c) xs.length (strV xs) ∧ (∀ q, F q ↔ q = b ∨ (Value.slice A xs.length c).ownBlock = some q) ∧ V.heap[b]? = some (.cells #[.slice A xs.length c] 30 (0, 0)) := by
  obtain ⟨v, h1, h2, h3⟩ := h.val
  obtain ⟨A, c, rfl⟩ := L5.own_slice h2
  exact ⟨A, c, by rw [cell_of_row _ _ _ _ _ _ h1]; rfl, h2, h3, h1⟩
theorem TBox.lows {B b : Nat} {w V : World} {F : Nat → Prop} {xs : List (List UInt8)} (h : TBox B b w F xs V) : ∀ q, F q → B ≤ q ∧ q < V.heap.size := by
  obtain ⟨v, h1, h2, h3⟩ := h.val
  intro q hq
  rcases (h3 q).1 hq with rfl | e
  · exact ⟨h.base, h.low⟩
  · exact h2.lt q e
/-- append of one text, and the store. -/
theorem TBox.append {B b : Nat} {w V W1 W2 : World} {F : Nat → Prop} {xs : List (List UInt8)} {y : List UInt8} {A : Option Addr} {c : Nat} (h : TBox B b w F xs V)
    (hF : ∀ q, F q ↔ q = b ∨ (Value.slice A xs.length c).ownBlock = some q) (hrow : V.ownsRow B 9 1 (.slice A xs.length c) xs.length (strV xs)) (hbx : V.heap[b]? = some (.cells #[.slice A xs.length c] 30 (0, 0)))
    (hb1 : Below V.heap.size V W1) {v' : Value} (hown : W2.ownsRow B 9 1 v' (xs.length + 1) (strV xs ++ [.string ⟨y.toArray⟩])) (hg : W1.grownBy W2 (Value.slice A xs.length c).ownBlock) (hv' : v'.ownBlock = (Value.slice A xs.length c).ownBlock ∨ v'.ownBlock = some W1.heap.size) :
    (W2.cell? ⟨b, 0, none⟩ = some (.slice A xs.length c) ∧ W2.frozen? ⟨b, 0, none⟩ = false) ∧ ∃ F', TBox B b w F' (xs ++ [y]) (W2.setCell ⟨b, 0, none⟩ v') ∧ Round F F' V (W2.setCell ⟨b, 0, none⟩ v') := by
  have hbg : (Value.slice A xs.length c).ownBlock ≠ some b := by
    intro e
    rcases hrow.2 with ⟨e0, _⟩ | ⟨g, cap, cur, e0, k1, k2, _⟩
    · rw [e0] at e; cases e
    · rw [e0] at e
      have : g = b := Option.some.inj e
      subst this
      rw [hbx] at k2
      cases k2
  have hs1 := hb1.size
  have hs2 := hg.size
  have hlow := h.low
  have hbase := h.base
  have hb2 : W2.heap[b]? = some (.cells #[.slice A xs.length c] 30 (0, 0)) := (hg.block b (by omega) (fun e => hbg e.symm)).trans ((hb1.block b hlow).trans hbx)
  have hset := heap_setCell_same W2 b 0 _ _ v' hb2
  have hoth : ∀ q, q ≠ b → (W2.setCell ⟨b, 0, none⟩ v').heap[q]? = W2.heap[q]? := fun q hq => Below.heap_setCell _ _ _ _ (fun e => hq e)
  have hz : (W2.setCell ⟨b, 0, none⟩ v').heap.size = W2.heap.size := by simp [World.setCell]
  have hvb : v'.ownBlock ≠ some b := by
    rcases hv' with e | e
    · rw [e]; exact hbg
    · rw [e]; intro e2; have := Option.some.inj e2; omega
  have hrd : Round F (fun q => q = b ∨ v'.ownBlock = some q) V (W2.setCell ⟨b, 0, none⟩ v') := by
    refine ⟨hg.os.trans hb1.os, hg.tape.trans hb1.tape, hg.output.trans hb1.output, by omega, fun q hq hx => ?_, fun q hq => ?_, fun q hq => ?_⟩
    · have n1 : q ≠ b := fun e => hx ((hF q).2 (.inl e))
      have n2 : some q ≠ (Value.slice A xs.length c).ownBlock := fun e => hx ((hF q).2 (.inr e.symm))
      exact (hoth q n1).trans ((hg.block q (by omega) n2).trans (hb1.block q hq))
    · rcases hq with e | e
      · exact .inl ((hF q).2 (.inl e))
      · rcases hv' with e2 | e2
        · exact .inl ((hF q).2 (.inr (e2 ▸ e)))
        · rw [e2] at e; have := Option.some.inj e; exact .inr (by omega)
    · rcases hq with e | e
      · omega
      · have := (hown.lt q e).2; omega
  refine ⟨⟨by rw [cell_of_row _ _ _ _ _ _ hb2]; rfl, frozen_of_row _ _ _ _ _ hb2⟩, _, ⟨hbase, by omega, ⟨v', hset, ?_, fun q => Iff.rfl⟩, ?_⟩, hrd⟩
  · rw [strV_append, List.length_append]
    refine ⟨hown.1, ?_⟩
    rcases hown.2 with e | ⟨g, cap, cur, e, k1, k2, k3⟩
    · exact .inl e
    · exact .inr ⟨g, cap, cur, e, k1, (hoth g (fun e3 => hvb (by rw [e, e3]; rfl))).trans k2, k3⟩
  · have hlo := h.lows
    exact ⟨hrd.os.trans h.below.os, hrd.tape.trans h.below.tape, hrd.output.trans h.below.output, Nat.le_trans h.below.size hrd.size, fun q hq => (hrd.same q (by omega) (fun e => by have := (hlo q e).1; omega)).trans (h.below.block q hq)⟩
theorem info_str : (Try.prog.info? 9).map (fun i => (i.zero, i.size, i.bytes)) = some (some (.string ⟨#[]⟩), 1, 16) := by kernel_rfl
set_option maxRecDepth 100000 in
set_option maxHeartbeats 4000000 in
theorem gather_calls (gf : Nat) (lb : Array Value) (R : Nat → Prop) (xs : List Nd) (w : World) (eg : ∀ args w, (callFunc gf args).run Try.prog w = .ok (.enter gf args) w) (hseq : SeqUpto Try.prog gf lb encN R xs w) (hR : ∀ q, R q → q < w.heap.size) (hfew : xs.length ≤ 1000) :
    Calls Try.prog 24 #[.func (.func gf) #[] lb] w (TextsOut w (xs.map (fun s : Nd => s.1))) := by
  obtain ⟨i0, hi, hz0, hz1, hz2⟩ := info_parts info_str
  refine (callsIn_wide (n := 9)).1 ?_
  refine callsIn_of_wp_marks Try.func24 rfl trivial ?_ rfl
  simp only [Try.ntmps24, List.size_toArray, List.length_cons, List.length_nil, Nat.reduceAdd, Nat.reduceSub, Array.replicate_succ, Array.replicate_zero, List.push_toArray, List.append_toArray, List.nil_append, List.cons_append]
  gi_wp2
  have hN := TBox.new w w w.heap.size (Below.refl _ _) (Nat.le_refl _)
  have HN := Lib.hid hN
  have hup : upto (fun _ => false) xs = xs := upto_never xs
  refine wp_upto (gf := gf) (lb := lb) rfl eg hseq (fun q => q = w.heap.size) (fun q hq => ⟨by simp; omega, fun h => by have := hR q h; omega⟩) ((Below.refl _ w).alloc (Nat.le_refl _) _) (fun _ => rfl)
    (fun _ => false) (fun F pre W => TBox w.heap.size w.heap.size w F (pre.map (fun s : Nd => s.1)) W) (fun F pre V V' h hk => h.kept hk (by simp)) hN
    (fun y => { tmps := #[.func (.func gf) #[] lb, undef, .slice none 0 0, .pointer (some ⟨w.heap.size, 0, none⟩), .string ⟨y.1.toArray⟩, .func (.func gf) #[] lb, .string ⟨y.1.toArray⟩, .string ⟨y.2.text.toArray⟩, undef, undef, undef, undef, undef], defers := [] }) ?assign ?body ?done
  case assign =>
    intro m l y W K hK
    unfold encN
    gi_wp2
    exact hK
  case body =>
    rintro m l pre y F W hpre hT
    have hl : pre.length ≤ 1000 := by
      have := hpre.length_le
      rw [hup] at this
      simp at this
      omega
    obtain ⟨A, c, hc, hrow, hF, hbx⟩ := hT.cells
    have hm : (pre.map (fun s : Nd => s.1)).length = pre.length := by simp
    have HA := Lib.hid (fun W1 W2 v' (h1 : Below W.heap.size W W1) h2 h3 h4 => hT.append (W1 := W1) (W2 := W2) (y := y.1) (v' := v') hF hrow hbx h1 h2 h3 h4)
    have hsz := hT.below.size
    obtain ⟨yx, yt⟩ := y
    obtain ⟨zs, hzs⟩ : ∃ zs, pre.map (fun s : Nd => s.1) = zs := ⟨_, rfl⟩
    have hgoal : (pre ++ [(yx, yt)]).map (fun s : Nd => s.1) = zs ++ [yx] := by rw [List.map_append, hzs]; rfl
    rw [hzs] at HA hc hrow hm
    rw [hgoal]
    have hlz : zs.length ≤ 1000 := by omega
    clear hT hpre hbx hF hzs hgoal hm hl
    gi_wp2_with (gi_at_builtin; refine wpListIn_append_own_at _ rfl _ _ 30 rfl w.heap.size 9 i0 (.string ⟨#[]⟩) 1 16 Try.underlying30 hi hz0 hz1 hz2 rfl (by decide) _ _ _ rfl (hrow.alloc _) ⟨W.heap.size, 0, none⟩ 1 1 [.string ⟨yx.toArray⟩] rfl rfl (cell_one_new _ _ _) (by simp [Value.oneCell']) (by unfold maxLen; omega) (by omega) (by simp; omega) ?_; intro v' w2 hown' hgrow _ hat; obtain ⟨A3, c3, rfl⟩ := L5.own_slice hown'; obtain ⟨⟨hc2, hf2⟩, F', hT', hr'⟩ := HA.out _ w2 _ ((Below.refl _ W).alloc (Nat.le_refl _) _) hown' hgrow hat)
    exact ⟨rfl, F', hr', hT'⟩
  case done =>
    rintro D F W hD hFD hT hK
    have hst : stopped (fun _ : Nd => false) (upto (fun _ => false) xs) = false := by unfold stopped; simp
    rw [hst]
    rw [hup] at hT
    have hT2 := hT.kept (Beside.put (B := D) W (.deferred none) (Nat.le_refl _) hFD) (by simp at hD; omega)
    obtain ⟨A, c, hc, hrow, hF, hbx⟩ := hT.cells
    have hrow2 := ownsRow_putObj hrow (.deferred none) hK rfl
    have HB := Lib.hid hT2.below
    obtain ⟨zs, hzs⟩ : ∃ zs, zs = xs.map (fun s : Nd => s.1) := ⟨_, rfl⟩
    rw [← hzs] at hrow hc hrow2
    have HZ := Lib.hid hzs
    clear hzs hT hT2 hF hbx hseq hR hfew hup hst
    gi_wp2
    refine leave_mark hK (fun V hV => results_tmp rfl _ _ _) ⟨_, rfl, ?_, HB.out⟩
    rw [← HZ.out]
    exact hrow2
end Go.Proofs.Ytlpabhgfmkilnaa.L14
