/- The document's own right (gemotref7): is a message one that may be a frame's? The document's own ack (gemotref7): those that are open and above a number stay open. The document's own Take (gemotref7): over plain lists, and what its stores do in memory. -/
import Derived.Test.YtiodphkmllcjdaaGreatLkRG
import Derived.Test.YtiodphkmllcjdaaGreatLkNO
import Derived.Test.YtiodphkmllcjdaaGreatLkNews
section
namespace Go.Proofs.YtiodphkmllcjdaaGreat.L7
open Go.ChangeShapes Go.WideShapes Go.ChangeAt Go.RowKit L6

theorem forMe_not {me : Nat} {m : Msg} (h : m.mem ≠ [(me : Int)] ∨ m.e1 ≠ 0 ∨ m.c1 ≠ 0 ∨ m.e2 ≠ 0 ∨ m.c2 ≠ 0) : forMe me m = false := by
  unfold forMe
  rcases h with h | h | h | h | h
  · simp [h]
  · rw [decide_eq_false (p := m.e1 = 0 ∧ m.c1 = 0 ∧ m.e2 = 0 ∧ m.c2 = 0) (fun k => h k.1)]; simp
  · rw [decide_eq_false (p := m.e1 = 0 ∧ m.c1 = 0 ∧ m.e2 = 0 ∧ m.c2 = 0) (fun k => h k.2.1)]; simp
  · rw [decide_eq_false (p := m.e1 = 0 ∧ m.c1 = 0 ∧ m.e2 = 0 ∧ m.c2 = 0) (fun k => h k.2.2.1)]; simp
  · rw [decide_eq_false (p := m.e1 = 0 ∧ m.c1 = 0 ∧ m.e2 = 0 ∧ m.c2 = 0) (fun k => h k.2.2.2)]; simp
theorem forMe_rest {me : Nat} {m : Msg} (h1 : m.mem = [(me : Int)]) (h2 : m.e1 = 0) (h3 : m.c1 = 0) (h4 : m.e2 = 0) (h5 : m.c2 = 0) : forMe me m = (decide (m.kind = 1 ∧ m.terms.length = 1 ∧ 1 ≤ m.num) || decide (m.kind = 2 ∧ m.terms.length = 0)) := by
  unfold forMe
  rw [decide_eq_true h1, decide_eq_true (p := m.e1 = 0 ∧ m.c1 = 0 ∧ m.e2 = 0 ∧ m.c2 = 0) ⟨h2, h3, h4, h5⟩]
  rfl
theorem neq_false {a b : Int} (h : a ≠ b) : (a != b) = true ∧ (a == b) = false := by
  constructor
  · rw [bne_iff_ne]; exact h
  · rw [beq_eq_false_iff_ne]; exact h
set_option maxRecDepth 100000 in
set_option maxHeartbeats 8000000 in
theorem right7_calls (me : Nat) (m : Msg) (vm vt : Value) (w : World) (hm : MsgA w m vm vt) :
    Calls Tryz.prog 69 #[.agg (msgCells m vm vt), .int .i64 me] w (One w (.bool (forMe me m))) := by
  obtain ⟨mA, mc, rfl, _⟩ := hm.mem.reads
  obtain ⟨tA, tc, rfl, _⟩ := hm.terms.reads
  have hmem : IntsA w (.slice mA m.mem.length mc) m.mem := hm.mem
  have hbx := L4.boxed_new w m (.slice mA m.mem.length mc) (.slice tA m.terms.length tc) 52
  have hB0 : Below w.heap.size w (w.alloc (.cells (msgCells m (.slice mA m.mem.length mc) (.slice tA m.terms.length tc)) 52)) := (Below.refl _ w).alloc (Nat.le_refl _) _
  unfold msgCells at hbx hB0 ⊢
  obtain ⟨V, hV⟩ : ∃ V, w.alloc (.cells #[.int .i64 m.kind, .int .i64 m.e1, .int .i64 m.c1, .int .i64 m.e2, .int .i64 m.c2, .int .i64 m.num, .slice mA m.mem.length mc, .slice tA m.terms.length tc] 52) = V := ⟨_, rfl⟩
  rw [hV] at hbx hB0
  obtain ⟨y0, y1, y2, y3, y4, y5, y6, y7⟩ := hbx
  have hI := hmem.below hB0
  have HB := Lib.hid hB0
  have HF : Hid (∀ b, forMe me m = b → One w (.bool (forMe me m)) (.returned (.bool b)) V) := fun b hb => ⟨by rw [hb], HB.out⟩
  have hno := @forMe_not me m
  have hyes := @forMe_rest me m
  obtain ⟨fb, hfb⟩ : ∃ fb, forMe me m = fb := ⟨_, rfl⟩
  rw [hfb] at HF hno hyes ⊢
  have hl1 := hmem.few
  have ht1 := hm.terms.few
  unfold maxLen at hl1 ht1
  have hmr : (∀ z, m.mem = [z] → ∃ ad : Addr, mA = some ad ∧ V.cell? ad = some (.int .i64 z)) := fun z hz => by
    obtain ⟨A, c, e, k⟩ := hI.reads
    cases e
    obtain ⟨ad, e, h1⟩ := k 0 z (by rw [hz]; rfl)
    have e0 : ad.add 0 = ad := by simp [Addr.add]
    rw [e0] at h1
    exact ⟨ad, e, h1.2⟩
  clear hm hmem hB0 hI
  by_cases hlen : m.mem.length = 1
  · obtain ⟨z, hz⟩ : ∃ z, m.mem = [z] := List.length_eq_one_iff.1 hlen
    obtain ⟨ad, rfl, hcz⟩ := hmr z hz
    have hl2 : (m.mem.length : Int) = 1 := by omega
    have hl3 : ((m.mem.length : Int) != 1) = false := by rw [hl2]; rfl
    by_cases hzm : z = (me : Int)
    case neg =>
      have q1 := (neq_false hzm).1
      have HF := Lib.hid (HF.out false (hno (.inl (fun e => hzm (by rw [hz] at e; simpa using e)))))
      clear hno hyes hmr hlen hz hzm
      go_enter Tryz.func69, Tryz.ntmps69
      go_wp2
      go_ret
      exact HF.out

    subst hzm
    have q0 : ((me : Int) != (me : Int)) = false := by rw [bne_self_eq_false]
    by_cases h0 : m.e1 = 0
    case neg =>
      have q1 := (neq_false h0).1
      have HF := Lib.hid (HF.out false (hno (.inr (.inl h0))))
      clear hno hyes hmr hlen hz h0
      go_enter Tryz.func69, Tryz.ntmps69
      go_wp2
      go_ret
      exact HF.out

    rw [h0] at y1
    by_cases h1 : m.c1 = 0
    case neg =>
      have q1 := (neq_false h1).1
      have HF := Lib.hid (HF.out false (hno (.inr (.inr (.inl h1)))))
      clear hno hyes hmr hlen hz h0 h1
      go_enter Tryz.func69, Tryz.ntmps69
      go_wp2
      go_ret
      exact HF.out

    rw [h1] at y2
    by_cases h2 : m.e2 = 0
    case neg =>
      have q1 := (neq_false h2).1
      have HF := Lib.hid (HF.out false (hno (.inr (.inr (.inr (.inl h2))))))
      clear hno hyes hmr hlen hz h0 h1 h2
      go_enter Tryz.func69, Tryz.ntmps69
      go_wp2
      go_ret
      exact HF.out

    rw [h2] at y3
    by_cases h3 : m.c2 = 0
    case neg =>
      have q1 := (neq_false h3).1
      have HF := Lib.hid (HF.out false (hno (.inr (.inr (.inr (.inr (h3)))))))
      clear hno hyes hmr hlen hz h0 h1 h2 h3
      go_enter Tryz.func69, Tryz.ntmps69
      go_wp2
      go_ret
      exact HF.out

    rw [h3] at y4
    have hrest := hyes hz h0 h1 h2 h3
    clear hno hyes hmr hlen hz h0 h1 h2 h3
    by_cases k1 : m.kind = 1
    case pos =>
      rw [k1] at y0
      by_cases k2 : m.terms.length = 1
      case pos =>
        have f2 : ((m.terms.length : Int) == 1) = true := by rw [beq_iff_eq]; omega
        have f3 : ((1 : Int) == 2) = false := rfl
        by_cases k3 : 1 ≤ m.num
        case pos =>
          have HF := Lib.hid (HF.out true (by rw [hrest]; rw [decide_eq_true (p := m.kind = 1 ∧ m.terms.length = 1 ∧ 1 ≤ m.num) ⟨k1, k2, k3⟩]; rfl))
          clear hrest
          have E3 : Hid (decide (1 ≤ m.num) = true) := (by rw [decide_eq_true_iff]; exact k3 : decide (1 ≤ m.num) = true)
          clear k1 k2 k3
          go_enter Tryz.func69, Tryz.ntmps69
          go_wp2
          all_goals
            go_ret
            first
            | exact HF.out
            | (show One w (.bool fb) (.returned (.bool (decide (1 ≤ m.num)))) V
               rw [E3.out]
               exact HF.out)

        case neg =>
          have f4 : ¬ m.num ≥ 1 := k3
          have HF := Lib.hid (HF.out false (by rw [hrest]; rw [decide_eq_false (p := m.kind = 1 ∧ m.terms.length = 1 ∧ 1 ≤ m.num) (fun h => k3 h.2.2), decide_eq_false (p := m.kind = 2 ∧ m.terms.length = 0) (fun h => by omega)]; rfl))
          clear hrest
          clear k1 k2 k3
          go_enter Tryz.func69, Tryz.ntmps69
          go_wp2
          go_ret
          exact HF.out

      case neg =>
        have f2 : ((m.terms.length : Int) == 1) = false := by rw [beq_eq_false_iff_ne]; omega
        have f3 : ((1 : Int) == 2) = false := rfl
        have HF := Lib.hid (HF.out false (by rw [hrest]; rw [decide_eq_false (p := m.kind = 1 ∧ m.terms.length = 1 ∧ 1 ≤ m.num) (fun h => k2 h.2.1), decide_eq_false (p := m.kind = 2 ∧ m.terms.length = 0) (fun h => by omega)]; rfl))
        clear hrest
        clear k1 k2
        go_enter Tryz.func69, Tryz.ntmps69
        go_wp2
        go_ret
        exact HF.out

    have f1 : (m.kind == 1) = false := (neq_false k1).2
    by_cases k4 : m.kind = 2
    case pos =>
      rw [k4] at y0 f1
      by_cases k5 : m.terms.length = 0
      case pos =>
        have f2 : ((m.terms.length : Int) == 0) = true := by rw [beq_iff_eq]; omega
        have HF := Lib.hid (HF.out true (by rw [hrest]; rw [decide_eq_true (p := m.kind = 2 ∧ m.terms.length = 0) ⟨k4, k5⟩]; simp))
        clear hrest
        clear k1 k4 k5
        go_enter Tryz.func69, Tryz.ntmps69
        go_wp2
        go_ret
        exact HF.out

      case neg =>
        have f2 : ((m.terms.length : Int) == 0) = false := by rw [beq_eq_false_iff_ne]; omega
        have HF := Lib.hid (HF.out false (by rw [hrest]; rw [decide_eq_false (p := m.kind = 1 ∧ m.terms.length = 1 ∧ 1 ≤ m.num) (fun h => k1 h.1), decide_eq_false (p := m.kind = 2 ∧ m.terms.length = 0) (fun h => k5 h.2)]; rfl))
        clear hrest
        clear k1 k4 k5
        go_enter Tryz.func69, Tryz.ntmps69
        go_wp2
        go_ret
        exact HF.out

    have f5 : (m.kind == 2) = false := (neq_false k4).2
    have HF := Lib.hid (HF.out false (by rw [hrest]; rw [decide_eq_false (p := m.kind = 1 ∧ m.terms.length = 1 ∧ 1 ≤ m.num) (fun h => k1 h.1), decide_eq_false (p := m.kind = 2 ∧ m.terms.length = 0) (fun h => k4 h.1)]; rfl))
    clear hrest
    clear k1 k4
    go_enter Tryz.func69, Tryz.ntmps69
    go_wp2
    go_ret
    exact HF.out
  · have hl2 : ((m.mem.length : Int) != 1) = true := by rw [bne_iff_ne]; omega
    have HF := Lib.hid (HF.out false (hno (.inl (fun e => hlen (by rw [e]; rfl)))))
    clear hno hyes hmr hlen
    go_enter Tryz.func69, Tryz.ntmps69
    go_wp2
    go_ret
    exact HF.out
end Go.Proofs.YtiodphkmllcjdaaGreat.L7
end

section
namespace Go.Proofs.YtiodphkmllcjdaaGreat.L7
open Go.ChangeShapes Go.WideShapes Go.ChangeAt Go.RowKit L6

def above (l : List (Nat × Bytes)) (n : Nat) : List (Nat × Bytes) := l.filter (fun a => decide (n < a.1))
def rack (r : RSt) (n : Nat) : Nat × RSt :=
  if r.sent < n then (1, r) else if (above r.opens n).length = r.opens.length then (7, r) else (0, { r with opens := above r.opens n })
theorem above_take {l : List (Nat × Bytes)} {i : Nat} {a : Nat × Bytes} (h : l[i]? = some a) (n : Nat) : above (l.take (i + 1)) n = above (l.take i) n ++ (if n < a.1 then [a] else []) := by
  unfold above
  rw [List.take_add_one, h, List.filter_append]
  congr 1
  by_cases hn : n < a.1
  · rw [if_pos hn]; simp [hn]
  · rw [if_neg hn]; simp [hn]
theorem above_len (l : List (Nat × Bytes)) (n : Nat) : (above l n).length ≤ l.length := List.length_filter_le _ _
def RAckOut (w : World) (B g : Nat) (r : RSt) (vo vw : Value) (n : Nat) (e : Ending) (w' : World) : Prop :=
  ∃ vo', e = .returned (.int .i64 (rack r n).1) ∧ RefAt w' B g (rack r n).2 vo' vw ∧ Only (RIn g vo vw) w w' ∧ Fresh w vo vo'
def AckGo7 (w : World) (r : RSt) (n : Nat) (k : Nat) (v5 v6 : Value) (wr : World) : Prop := ∃ i : Nat, k + i = r.opens.length ∧ v6 = .int .i64 i ∧ wr.ownsRow w.heap.size 102 2 v5 (above (r.opens.take i) n).length (flatI (above (r.opens.take i) n)) ∧ Below w.heap.size w wr
theorem item_end : 102 ≠ 43 := by decide
/-- Other items are open. -/
theorem RefAt.opened {w V : World} {B g : Nat} {r : RSt} {vo vw v : Value} {l : List (Nat × Bytes)} (h : RefAt w B g r vo vw) (hB : B ≤ w.heap.size) (hb : Below w.heap.size w V) (hv : V.ownsRow w.heap.size 102 2 v l.length (flatI l)) : RefAt (V.setCell ⟨g, 4, none⟩ v) B g { r with opens := l } v vw ∧ Only (RIn g vo vw) w (V.setCell ⟨g, 4, none⟩ v) := by
  have hV := h.below hb
  have hg := h.lt
  have hgv : v.ownBlock ≠ some g := by
    intro e
    have := (hv.lt g e).1
    omega
  refine ⟨⟨?_, h.base, L5.own_same (row_down hv hB) (fun q e => ?_), L5.own_same hV.wait (fun q e => ?_), fun q e1 e2 => ?_⟩, (Only.of_below hb).setCell (.inl (.inl rfl)) _⟩
  · have k := blk_set6 (j := 4) hV.own v
    rw [rs4] at k
    exact k
  · exact Below.heap_setCell _ _ _ _ (fun e' => hgv (by rw [e]; exact congrArg some e'))
  · exact Below.heap_setCell _ _ _ _ (fun e' => hV.apart.2 (by rw [e]; exact congrArg some e'))
  · have k1 := (hv.lt q e1).1
    have k2 := (h.wait.lt q e2).2
    omega
set_option maxRecDepth 100000 in
set_option maxHeartbeats 4000000 in
theorem rack_calls {w : World} {B g : Nat} {r : RSt} {vo vw : Value} (h : RefAt w B g r vo vw) (hB : B ≤ w.heap.size) (hl : r.opens.length ≤ 64) (n : Nat) :
    Calls Tryz.prog 70 #[.pointer (some ⟨g, 0, none⟩), .int .i64 n] w (RAckOut w B g r vo vw n) := by
  obtain ⟨i0, hi, hz0, hz1, hz2⟩ := info_parts info_item
  obtain ⟨_, _, c2, _, c4, _⟩ := h.cells
  have hgw := h.lt
  have HH := Lib.hid h
  by_cases hs : r.sent < n
  · have e1 : rack r n = (1, r) := by unfold rack; rw [if_pos hs]
    have HF : Hid (RAckOut w B g r vo vw n (.returned (.int .i64 1)) w) := ⟨vo, by rw [e1]; rfl, by rw [e1]; exact h, Only.refl _ _, Fresh.refl _ _⟩
    have hs1 : (r.sent : Int) < (n : Int) := by omega
    clear h e1 hs
    go_enter Tryz.func70, Tryz.ntmps70
    go_wp2
    go_ret
    exact HF.out
  · have hs1 : ¬ (r.sent : Int) < (n : Int) := by omega
    obtain ⟨A, c, rfl, hit⟩ := items_at h.opens
    have HI := Lib.hid hit
    have HS := Lib.hid hs
    clear h hit hs
    go_enter Tryz.func70, Tryz.ntmps70
    go_wp2
    go_loopg [5, 6] r.opens.length (fun k v5 v6 wr => AckGo7 w r n k v5 v6 wr)
    case atStart => exact ⟨0, by omega, rfl, ⟨rfl, .inl ⟨rfl, rfl⟩⟩, Below.refl _ _⟩
    case round =>
      obtain ⟨i, hk, rfl, hrow, hb⟩ := hrel
      have d4 := (hb.cell (p := ⟨g, 4, none⟩) hgw).trans c4
      have hle : (above (r.opens.take i) n).length ≤ 64 := Nat.le_trans (above_len _ _) (by rw [List.length_take]; omega)
      by_cases hi' : i < r.opens.length
      · obtain ⟨⟨m, bb⟩, ha⟩ : ∃ a, r.opens[i]? = some a := ⟨_, List.getElem?_eq_getElem hi'⟩
        obtain ⟨q, rfl, hBq, hqw, k0, k1⟩ := HI.out i _ ha
        have j0 := (hb.cell (p := ⟨q, i * 2, none⟩) hqw).trans k0
        have j1 := (hb.cell (p := ⟨q, i * 2 + 1, none⟩) hqw).trans k1
        have i1 : (i : Int) < (r.opens.length : Int) := by omega
        have i2 : (0 : Int) ≤ (i : Int) := by omega
        have HM := Lib.hid (show r.opens.length - (i + 1) < gk by omega)
        have hst := above_take ha n
        obtain ⟨a5, c5, rfl⟩ := L5.own_slice hrow
        have HR := Lib.hid (And.intro hrow hb)
        by_cases hn : n < m
        · have hn1 : (n : Int) < (m : Int) := by omega
          rw [if_pos hn] at hst
          have HSt := Lib.hid hst
          have HO : Hid ((wr.alloc (.cells #[.int .i64 m, .string ⟨bb.toArray⟩] 102)).ownsRow w.heap.size 102 2 (.slice a5 (above (r.opens.take i) n).length c5) (above (r.opens.take i) n).length (flatI (above (r.opens.take i) n))) := hrow.alloc _
          have HNews : Hid (∀ (j : Nat) (u : Value), [(Value.int .i64 m), .string ⟨bb.toArray⟩][j]? = some u → (wr.alloc (.cells #[.int .i64 m, .string ⟨bb.toArray⟩] 102)).cell? ((⟨wr.heap.size, 0, none⟩ : Addr).add j) = some u) :=
            World.news_of_block (cs := #[.int .i64 m, .string ⟨bb.toArray⟩]) (t := 102) (fr := (0, 0)) (heap_alloc_new wr _)
          have HSz := Lib.hid hb.size
          have HFin : Hid (∀ v7 w7, w7.ownsRow w.heap.size 102 2 v7 ((above (r.opens.take i) n).length + 1) (flatI (above (r.opens.take i) n) ++ [.int .i64 m, .string ⟨bb.toArray⟩]) → (wr.alloc (.cells #[.int .i64 m, .string ⟨bb.toArray⟩] 102)).grownBy w7 (Value.slice a5 (above (r.opens.take i) n).length c5).ownBlock → AckGo7 w r n (r.opens.length - (i + 1)) v7 (.int .i64 ((i + 1 : Nat) : Int)) w7) := fun v7 w7 q1 q2 => by
            refine ⟨i + 1, by omega, rfl, ?_, HR.out.2.grown (L5.grow_trans (World.grownBy_alloc wr _ _) q2) HR.out.2.size (fun q e => (HR.out.1.lt q e).1)⟩
            rw [HSt.out, List.length_append]
            have e : flatI (above (r.opens.take i) n ++ [(m, bb)]) = flatI (above (r.opens.take i) n) ++ [.int .i64 m, .string ⟨bb.toArray⟩] := flatI_snoc _ _ _
            rw [e]
            exact q1
          clear hrow hb hk ha hst hn k0 k1
          go_wp2_with (at_builtin; refine wpList_append_own_at _ rfl _ _ 41 rfl w.heap.size 102 i0 _ 2 24 Tryz.underlying41 hi hz0 hz1 hz2 rfl (by decide) _ _ _ rfl HO.out ⟨wr.heap.size, 0, none⟩ 1 1 [.int .i64 m, .string ⟨bb.toArray⟩] rfl rfl HNews.out (by simp [Value.oneCell']) (by unfold maxLen; omega) (by omega) (by have := HSz.out; simp; omega) ?_; intro v2 w6 hown6 hgrow6 hnil6 hat6; have HF := Lib.hid (HFin.out v2 w6 hown6 hgrow6); clear hown6 hgrow6 hnil6 hat6)
          go_roundg (r.opens.length - (i + 1))
          case measure => exact HM.out
          case rel => simpa using HF.out
        · have hn1 : ¬ (n : Int) < (m : Int) := by omega
          rw [if_neg hn, List.append_nil] at hst
          have HF : Hid (AckGo7 w r n (r.opens.length - (i + 1)) (.slice a5 (above (r.opens.take i) n).length c5) (.int .i64 ((i + 1 : Nat) : Int)) wr) := ⟨i + 1, by omega, rfl, by rw [hst]; exact hrow, hb⟩
          clear hrow hb hk ha hst hn k0 k1
          go_wp2
          go_roundg (r.opens.length - (i + 1))
          case measure => exact HM.out
          case rel => simpa using HF.out
      · obtain rfl : i = r.opens.length := by omega
        have i1 : ¬ ((r.opens.length : Int) < (r.opens.length : Int)) := by omega
        rw [List.take_length] at hrow hle
        obtain ⟨a5, c5, rfl⟩ := L5.own_slice hrow
        by_cases hsame : (above r.opens n).length = r.opens.length
        · have e1 : rack r n = (7, r) := by unfold rack; rw [if_neg HS.out, if_pos hsame]
          have HF : Hid (RAckOut w B g r (.slice A r.opens.length c) vw n (.returned (.int .i64 7)) wr) := ⟨_, by rw [e1]; rfl, by rw [e1]; exact HH.out.below hb, Only.of_below hb, Fresh.refl _ _⟩
          have h1 : (((above r.opens n).length : Int) == (r.opens.length : Int)) = true := by rw [beq_iff_eq]; omega
          clear hrow hb hk e1 hsame hi'
          go_wp2
          go_ret
          exact HF.out
        · have e1 : rack r n = (0, { r with opens := above r.opens n }) := by unfold rack; rw [if_neg HS.out, if_neg hsame]
          have hop := HH.out.opened hB hb hrow
          have f4 : wr.frozen? ⟨g, 4, none⟩ = false := (HH.out.below hb).froze 4
          have HF : Hid (RAckOut w B g r (.slice A r.opens.length c) vw n (.returned (.int .i64 0)) (wr.setCell ⟨g, 4, none⟩ (.slice a5 (above r.opens n).length c5))) := ⟨_, by rw [e1]; rfl, by rw [e1]; exact hop.1, hop.2, fun q e => .inr (hrow.lt q e).1⟩
          have h1 : (((above r.opens n).length : Int) == (r.opens.length : Int)) = false := by rw [beq_eq_false_iff_ne]; omega
          clear hrow hb hk e1 hsame hi' hop
          go_wp2
          go_ret
          exact HF.out
end Go.Proofs.YtiodphkmllcjdaaGreat.L7
end

section
namespace Go.Proofs.YtiodphkmllcjdaaGreat.L7
open Go.ChangeShapes Go.WideShapes Go.ChangeAt Go.RowKit L6

def cutAt (l : List (Nat × Bytes)) (i : Nat) : List (Nat × Bytes) := l.take i ++ l.drop (i + 1)
def replyR (r : RSt) : Bytes := (frameL r.me r.peer 2 r.taken []).1
def rdrain : Nat → RSt → List Bytes × RSt
  | 0, r => ([], r)
  | k + 1, r => match widx r.wait (r.taken + 1) with
    | none => ([], r)
    | some i => ((r.wait.getD i (0, [])).2 :: (rdrain k { r with taken := r.taken + 1, wait := cutAt r.wait i }).1, (rdrain k { r with taken := r.taken + 1, wait := cutAt r.wait i }).2)
def rdata (r : RSt) (n : Nat) (b : Bytes) : (List Bytes × Bytes × Nat) × RSt :=
  if n ≤ r.taken ∨ (widx r.wait n).isSome = true then (([], replyR r, 7), r)
  else if r.taken + 32 < n then (([], replyR r, 5), r)
  else (((rdrain (r.wait.length + 2) { r with wait := r.wait ++ [(n, b)] }).1, replyR (rdrain (r.wait.length + 2) { r with wait := r.wait ++ [(n, b)] }).2, 0), (rdrain (r.wait.length + 2) { r with wait := r.wait ++ [(n, b)] }).2)
def rtake (r : RSt) : Rd → (List Bytes × Bytes × Nat) × RSt
  | .bad e => (([], [], e), r)
  | .ack n => (([], [], (rack r n).1), (rack r n).2)
  | .data n b => rdata r n b
theorem cutAt_len {l : List (Nat × Bytes)} {i : Nat} (h : i < l.length) : (cutAt l i).length + 1 = l.length := by
  unfold cutAt
  rw [List.length_append, List.length_take, List.length_drop]
  omega
theorem flatI_take (l : List (Nat × Bytes)) (i : Nat) : flatI (l.take i) = (flatI l).take (i * 2) := by
  induction l generalizing i with
  | nil => simp [flatI]
  | cons a l ih =>
    cases i with
    | zero => simp [flatI]
    | succ i =>
      have e : flatI (a :: l) = (.int .i64 a.1) :: (.string ⟨a.2.toArray⟩) :: flatI l := by simp [flatI]
      have e2 : flatI (a :: l.take i) = (.int .i64 a.1) :: (.string ⟨a.2.toArray⟩) :: flatI (l.take i) := by simp [flatI]
      rw [List.take_succ_cons, e2, e, ih, show (i + 1) * 2 = i * 2 + 1 + 1 by omega]
      rfl
theorem flatI_drop (l : List (Nat × Bytes)) (i : Nat) : flatI (l.drop i) = (flatI l).drop (i * 2) := by
  induction l generalizing i with
  | nil => simp [flatI]
  | cons a l ih =>
    cases i with
    | zero => simp
    | succ i =>
      have e : flatI (a :: l) = (.int .i64 a.1) :: (.string ⟨a.2.toArray⟩) :: flatI l := by simp [flatI]
      rw [List.drop_succ_cons, e, ih, show (i + 1) * 2 = i * 2 + 1 + 1 by omega]
      rfl
theorem flatI_append (a b : List (Nat × Bytes)) : flatI (a ++ b) = flatI a ++ flatI b := by simp [flatI]
theorem flatI_one (l : List (Nat × Bytes)) : ∀ u ∈ flatI l, u.oneCell' = true := by
  intro u hu
  unfold flatI at hu
  obtain ⟨a, _, ha⟩ := List.mem_flatMap.1 hu
  simp at ha
  rcases ha with rfl | rfl <;> rfl
theorem rs3 (a b c d : Nat) (vo vw : Value) : (refCells a b c d vo vw).setIfInBounds 3 (.int .i64 ((d : Int) + 1)) = refCells a b c (d + 1) vo vw := rfl
theorem rs5 (a b c d : Nat) (vo vw v : Value) : (refCells a b c d vo vw).setIfInBounds 5 v = refCells a b c d vo v := rfl
/-- What waits is another row, which lies apart. -/
theorem RefAt.waits {V W : World} {B g : Nat} {r : RSt} {vo vw v : Value} {l : List (Nat × Bytes)} (h : RefAt V B g r vo vw) (hgr : V.grownBy W vw.ownBlock) (hv : W.ownsRow B 102 2 v l.length (flatI l)) (hsep : ∀ q, vo.ownBlock = some q → v.ownBlock ≠ some q) :
    W.cell? ⟨g, 5, none⟩ = some vw ∧ W.frozen? ⟨g, 5, none⟩ = false ∧ RefAt (W.setCell ⟨g, 5, none⟩ v) B g { r with wait := l } vo v ∧ Only (RIn g vo vw) V (W.setCell ⟨g, 5, none⟩ v) := by
  have hg := h.lt
  have hown : W.heap[g]? = some (.cells (refCells r.me r.peer r.sent r.taken vo vw) 43 (0, 0)) := (hgr.block g hg (fun e => h.apart.2 e.symm)).trans h.own
  have hgv : v.ownBlock ≠ some g := by
    intro e
    rcases hv.2 with ⟨rfl, _⟩ | ⟨q, cap, cur, rfl, _, h2, _⟩
    · cases e
    · obtain rfl : q = g := by cases e; rfl
      rw [hown] at h2
      simp at h2
  refine ⟨by simp only [World.cell?]; rw [hown]; rfl, by simp only [World.frozen?]; rw [hown]; simp, ⟨?_, h.base, ?_, ?_, hsep⟩, ?_⟩
  · have k := blk_set6 (j := 5) hown v
    rw [rs5] at k
    exact k
  · refine L5.own_same (L5.own_same h.opens (fun q e => hgr.block q (h.opens.lt q e).2 (fun e' => h.sep q e e'.symm))) (fun q e => Below.heap_setCell _ _ _ _ (fun e' => h.apart.1 (by rw [e]; exact congrArg some e')))
  · exact L5.own_same hv (fun q e => Below.heap_setCell _ _ _ _ (fun e' => hgv (by rw [e]; exact congrArg some e')))
  · refine Only.setCell ?_ (.inl (.inl rfl)) _
    exact ⟨hgr.os, hgr.tape, hgr.output, hgr.size, fun k hk hn => hgr.block k hk (fun e => hn (.inr (.inr e.symm)))⟩
/-- One more was taken. -/
theorem RefAt.takes {V : World} {B g : Nat} {r : RSt} {vo vw : Value} (h : RefAt V B g r vo vw) : RefAt (V.setCell ⟨g, 3, none⟩ (.int .i64 ((r.taken : Int) + 1))) B g { r with taken := r.taken + 1 } vo vw := by
  refine ⟨?_, h.base, L5.own_same h.opens (fun q e => Below.heap_setCell _ _ _ _ (fun e' => h.apart.1 (by rw [e]; exact congrArg some e'))), L5.own_same h.wait (fun q e => Below.heap_setCell _ _ _ _ (fun e' => h.apart.2 (by rw [e]; exact congrArg some e'))), h.sep⟩
  have k := blk_set6 (j := 3) h.own (.int .i64 ((r.taken : Int) + 1))
  rw [rs3] at k
  exact k
theorem pack_ack_short (q k n : Nat) : (fmsg q k n []).pack.1.length ≤ 200 := by
  unfold Msg.pack
  split
  · unfold Tm.putRow
    split
    · show (Tm.rowL (fmsg q k n []).row).length ≤ _
      have e : (fmsg q k n []).row = [Tm.numL k, Tm.numL 0, Tm.numL 0, Tm.numL 0, Tm.numL 0, Tm.numL n, Tm.numL 1, Tm.numL q] := rfl
      rw [e]
      simp only [Tm.rowL_cons, List.length_cons, List.length_append, numL_len, Tm.rowL_len_nil]
      omega
    · simp
  · simp
/-- Another row grew: the end is as it was. -/
theorem RefAt.grown {W W' : World} {B g n : Nat} {r : RSt} {vo vw v : Value} {xs : List Value} {C : Nat} (h : RefAt W B g r vo vw) (hv : W.ownsRow C 9 1 v n xs) (hg : W.grownBy W' v.ownBlock) : RefAt W' B g r vo vw := by
  have key : ∀ (q : Nat) (cs : Array Value) (t : TypeId), W.heap[q]? = some (Obj.cells cs t (0, 0)) → t ≠ 9 → W'.heap[q]? = W.heap[q]? := fun q cs t hq ht => by
    refine hg.block q (Array.getElem?_eq_some_iff.1 hq).1 (fun e => ?_)
    rcases hv.2 with ⟨rfl, _⟩ | ⟨p, cap, cur, rfl, _, h1, _⟩
    · cases e
    · obtain rfl : q = p := by cases e; rfl
      rw [h1] at hq
      cases hq
      exact ht rfl
  have key2 : ∀ (u : Value) (k : Nat) (ys : List Value), W.ownsRow B 102 2 u k ys → ∀ q, u.ownBlock = some q → W'.heap[q]? = W.heap[q]? := fun u k ys hu q hq => by
    rcases hu.2 with ⟨rfl, _⟩ | ⟨p, cap, cur, rfl, _, h1, _⟩
    · cases hq
    · obtain rfl : p = q := by cases hq; rfl
      exact key _ _ _ h1 (by decide)
  exact h.same (key g _ _ h.own (by decide)) (key2 _ _ _ h.opens) (key2 _ _ _ h.wait)
/-- Where the taking stands: r0 is where it began. -/
def DrainGo (w : World) (B g : Nat) (vo vw : Value) (r0 : RSt) (k : Nat) (v11 : Value) (wr : World) : Prop := ∃ (r' : RSt) (vw' : Value) (out : List Bytes), r'.wait.length = k ∧ RefAt wr B g r' vo vw' ∧ wr.ownsRow w.heap.size 9 1 v11 out.length (strs out) ∧ (Only (RIn g vo vw) w wr ∧ Fresh w vw vw') ∧ rdrain (r0.wait.length + 1) r0 = (out ++ (rdrain (k + 1) r').1, (rdrain (k + 1) r').2) ∧ r'.me = r0.me ∧ r'.peer = r0.peer ∧ r'.taken + k ≤ r0.taken + r0.wait.length ∧ out.length + k ≤ r0.wait.length
/-- What the document's Take answers. -/
def RTookOut (w : World) (B g : Nat) (vo vw : Value) (o : (List Bytes × Bytes × Nat) × RSt) (e : Ending) (w' : World) : Prop :=
  ∃ v vo' vw', e = .returned (.tuple #[v, .string ⟨o.1.2.1.toArray⟩, .int .i64 o.1.2.2]) ∧ w'.ownsRow w.heap.size 9 1 v o.1.1.length (strs o.1.1) ∧ RefAt w' B g o.2 vo' vw' ∧ Only (RIn g vo vw) w w' ∧ Fresh w vo vo' ∧ Fresh w vw vw'
def RTakeOut (w : World) (B g : Nat) (r : RSt) (vo vw : Value) (f : Bytes) (e : Ending) (w' : World) : Prop := ∃ rd, ReadsAs r.me r.peer f rd ∧ RTookOut w B g vo vw (rtake r rd) e w'
theorem rtook_bad {w V : World} {B g er : Nat} {r : RSt} {vo vw : Value} (h : RefAt w B g r vo vw) (hb : Below w.heap.size w V) : RTookOut w B g vo vw (rtake r (.bad er)) (.returned (.tuple #[.slice none 0 0, .string ⟨#[]⟩, .int .i64 er])) V :=
  ⟨_, vo, vw, rfl, ⟨rfl, .inl ⟨rfl, rfl⟩⟩, h.below hb, Only.of_below hb, Fresh.refl _ _, Fresh.refl _ _⟩
theorem rtook_ack {w V V' : World} {B g num : Nat} {r : RSt} {vo vw : Value} {e : Ending} (hb : Below w.heap.size w V) (h : RAckOut V B g r vo vw num e V') : e = .returned (.int .i64 (rack r num).1) ∧ RTookOut w B g vo vw (rtake r (.ack num)) (.returned (.tuple #[.slice none 0 0, .string ⟨#[]⟩, .int .i64 (rack r num).1])) V' := by
  obtain ⟨vo', rfl, k1, k2, k3⟩ := h
  exact ⟨rfl, _, vo', vw, rfl, ⟨rfl, .inl ⟨rfl, rfl⟩⟩, k1, Only.of_later hb k2, fun q e => (k3 q e).imp id (fun h => Nat.le_trans hb.size h), Fresh.refl _ _⟩
theorem grown_refl (w : World) (r : Option Nat) : w.grownBy w r := ⟨rfl, rfl, rfl, Nat.le_refl _, fun _ _ _ => rfl⟩
/-- One item is cut out: what the two appends read. -/
theorem cut_facts2 {w7 V1 : World} {B g cap : Nat} {l : List (Nat × Bytes)} {at_ : Nat} (hrow : w7.ownsRow B 102 2 (.slice (some ⟨g, 0, none⟩) l.length cap) l.length (flatI l)) (hV1 : Below w7.heap.size w7 V1) :
    (∀ j u, (flatI (l.take at_))[j]? = some u → V1.cell? ((⟨g, 0, none⟩ : Addr).add j) = some u) ∧ (∀ V, V1.grownBy V (some w7.heap.size) → ∀ j u, (flatI (l.drop (at_ + 1)))[j]? = some u → V.cell? ((⟨g, (at_ + 1) * 2, none⟩ : Addr).add j) = some u) := by
  have hgl := (hrow.lt g rfl).2
  have hc := hrow.cells (g := g) rfl
  refine ⟨fun j u hu => ?_, fun V hV j u hu => ?_⟩
  · rw [flatI_take] at hu
    have hj := (List.getElem?_eq_some_iff.1 hu).1
    rw [List.getElem?_take_of_lt (by rw [List.length_take] at hj; omega)] at hu
    have := hc j u hu
    exact (hV1.cell (p := (⟨g, 0, none⟩ : Addr).add j) (by rw [addr_block]; exact hgl)).trans this
  · rw [flatI_drop, List.getElem?_drop] at hu
    have := hc _ u hu
    rw [add_zero_at] at this
    have e : (⟨g, (at_ + 1) * 2, none⟩ : Addr).add j = ⟨g, (at_ + 1) * 2 + j, none⟩ := by
      simp only [Addr.add]
      split <;> simp_all
    rw [e]
    have h1 : V1.cell? ⟨g, (at_ + 1) * 2 + j, none⟩ = some u := (hV1.cell (p := ⟨g, (at_ + 1) * 2 + j, none⟩) hgl).trans this
    have h2 : V.heap[g]? = V1.heap[g]? := hV.block g (Nat.lt_of_lt_of_le hgl hV1.size) (fun e => by simp at e; omega)
    exact (World.cell?_of_block (w := V1) h2).trans h1
/-- One item was cut out of what waits. -/
theorem cut_end2 {w w6 w8 w9 : World} {B g i : Nat} {r : RSt} {vo vw v0 v8 v9 : Value} (h : RefAt w6 B g r vo vw) (hB : B ≤ w6.heap.size) (hil : i < r.wait.length) (ho : Only (RIn g vo v0) w w6)
    (b8 : w8.ownsRow w6.heap.size 102 2 v8 i (flatI (r.wait.take i)) ∧ (w6.drew.alloc (.cells #[] 102)).grownBy w8 (some w6.heap.size)) (b9 : w9.ownsRow w6.heap.size 102 2 v9 (i + (r.wait.length - (i + 1))) (flatI (r.wait.take i) ++ flatI (r.wait.drop (i + 1))) ∧ w8.grownBy w9 v8.ownBlock) :
    Below w6.heap.size w6 w9 ∧ w9.cell? ⟨g, 5, none⟩ = some vw ∧ w9.frozen? ⟨g, 5, none⟩ = false ∧ RefAt (w9.setCell ⟨g, 5, none⟩ v9) B g { r with wait := cutAt r.wait i } vo v9 ∧ Only (RIn g vo v0) w (w9.setCell ⟨g, 5, none⟩ v9) := by
  have c8 : Below w6.heap.size w6 w8 := ((Below.refl w6.heap.size w6).drew.alloc (Nat.le_refl _) _).grown b8.2 (by rw [World.size_alloc]; exact Nat.le_succ _) (fun k e => by cases e; exact Nat.le_refl _)
  have c9 : Below w6.heap.size w6 w9 := c8.grown b9.2 c8.size (fun k e => (b8.1.lt k e).1)
  have h9 := h.below c9
  have hv : w9.ownsRow B 102 2 v9 (cutAt r.wait i).length (flatI (cutAt r.wait i)) := by
    have e : (cutAt r.wait i).length = i + (r.wait.length - (i + 1)) := by
      unfold cutAt
      rw [List.length_append, List.length_take, List.length_drop]
      omega
    rw [e]
    unfold cutAt
    rw [flatI_append]
    exact row_down b9.1 hB
  obtain ⟨a1, a2, a3, _⟩ := h9.waits (grown_refl w9 _) hv (fun q e1 e2 => by
    have k1 := (h.opens.lt q e1).2
    have k2 := (b9.1.lt q e2).1
    omega)
  exact ⟨c9, a1, a2, a3, Only.setCell (ho.trans (Only.of_below (c9.mono (Nat.le_refl _)))) (.inl (.inl rfl)) _⟩
end Go.Proofs.YtiodphkmllcjdaaGreat.L7
end
