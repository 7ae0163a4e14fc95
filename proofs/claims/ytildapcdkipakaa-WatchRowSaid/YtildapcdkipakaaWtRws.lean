/- WatchRow: who is there is a row with me in it; who is heard is there at once, and more ticks take none back. -/
import Derived.Test.YtildapcdkipakaaWtLater
namespace Go.Proofs.Ytildapcdkipakaa.L9
open Go.ChangeShapes Go.WideShapes Go.ChangeAt Go.RowKit Go.Deep

set_option maxRecDepth 100000 in
set_option maxHeartbeats 4000000 in
theorem row_out (me lim more : Int) (v : Value) (l : List Int) (w : World) (hI : IRow w v l) (h : me < 1 ∨ 8 < me ∨ lim < 1 ∨ 100 < lim) : Calls Try.prog 6 #[.int .i64 me, .int .i64 lim, v, .int .i64 more] w (L5.One w (.bool true)) := by
  obtain ⟨A, c, rfl, _⟩ := hI
  have HS := Lib.hid (shown_calls w)
  have HN := Lib.hid (fun V => New_no me lim V h)
  clear h
  go_enter Try.func6, Try.ntmps6
  go_wp2_with fail
  refine HS.out.mono ?_
  rintro e w1 ⟨rfl, b1⟩
  have HB1 := Lib.hid b1
  clear b1 HS
  go_wp2_with fail
  refine (HN.out _).mono ?_
  rintro e w2 ⟨rfl, b2⟩
  obtain ⟨W1, u1, u2, u3, k0, ⟨k1, k2, k3⟩, ⟨k4, k5, k6⟩, ⟨k7, k8, k9⟩, _, B3⟩ := fresh3 w2 (.int .i64 0) (.int .i64 0) (.slice none 0 0)
  have HB2 := HB1.out.trans (b2.mono HB1.out.size)
  have HB3 := Lib.hid (HB2.trans (B3.mono HB2.size))
  clear HN HB1 HB2 b2 B3
  go_wp2
  go_ret
  exact ⟨rfl, HB3.out⟩

/-- A watch in a variable of the law's own. -/
structure Own (w W : World) (g : Nat) (v : Value) (me lim : Int) (L : List Int) : Prop where
  a : HAt W g v me lim L
  below : Below w.heap.size w W
  low : w.heap.size ≤ g
  ok : WOk me lim L
  me : Meok me L
theorem Own.step {w W W' : World} {g : Nat} {v : Value} {me lim : Int} {L : List Int} (h : Own w W g v me lim L) (hb : Below W.heap.size W W') : Own w W' g v me lim L :=
  ⟨h.a.below hb, h.below.trans (hb.mono h.below.size), h.low, h.ok, h.me⟩
theorem Own.put {w W0 W : World} {g B : Nat} {v v' : Value} {me lim : Int} {L L' : List Int} (h0 : Own w W0 g v me lim L) (hb : Below W0.heap.size W0 W) (r : W.ownsRow B 3 1 v' 8 (ints L')) (hok : WOk me lim L') (hme : Meok me L') : ∃ (q c : Nat) (u1 u2 u3 : World), v' = .slice (some ⟨q, 0, none⟩) 8 c ∧ (W.setCell ⟨g, 0, none⟩ (.int .i64 me) = u1 ∧ W.cell? ⟨g, 0, none⟩ = some (.int .i64 me) ∧ W.frozen? ⟨g, 0, none⟩ = false) ∧ (u1.setCell ⟨g, 1, none⟩ (.int .i64 lim) = u2 ∧ u1.cell? ⟨g, 1, none⟩ = some (.int .i64 lim) ∧ u1.frozen? ⟨g, 1, none⟩ = false) ∧ (u2.setCell ⟨g, 2, none⟩ v' = u3 ∧ u2.cell? ⟨g, 2, none⟩ = some v ∧ u2.frozen? ⟨g, 2, none⟩ = false) ∧ Own w u3 g v' me lim L' ∧ Below g W u3 := by
  have h := h0.step hb
  obtain ⟨q, c, u1, u2, u3, e, k1, k2, k3, ha, hB, hk⟩ := h.a.put r
  exact ⟨q, c, u1, u2, u3, e, k1, k2, k3, ⟨ha, h.below.trans (hB.mono h.low), h.low, hok, hme⟩, hB⟩
def RowGo (w : World) (g : Nat) (me lim : Int) (n k : Nat) (v12 : Value) (wr : World) : Prop := ∃ (i : Nat) (v : Value) (L : List Int), k + i = n ∧ v12 = .int .i64 i ∧ Own w wr g v me lim L

theorem addr_zero (ad : Addr) : ad.add 0 = ad := by simp [Addr.add]
def RowIn (w : World) (W : World) (n k : Nat) (v14 : Value) (wr : World) : Prop := ∃ i : Nat, k + i = n ∧ v14 = .int .i64 i ∧ Below w.heap.size w wr ∧ Below W.heap.size W wr
/-- Two watches in variables. -/
structure Pair2 (w W : World) (g1 g2 : Nat) (v1 v2 : Value) (me lim : Int) (L1 L2 : List Int) : Prop where
  a : Own w W g1 v1 me lim L1
  b : Own w W g2 v2 me lim L2
  ne : g1 ≠ g2
theorem Pair2.step {w W W' : World} {g1 g2 : Nat} {v1 v2 : Value} {me lim : Int} {L1 L2 : List Int} (h : Pair2 w W g1 g2 v1 v2 me lim L1 L2) (hb : Below W.heap.size W W') : Pair2 w W' g1 g2 v1 v2 me lim L1 L2 := ⟨h.a.step hb, h.b.step hb, h.ne⟩
def RowTick (w W : World) (g : Nat) (me lim : Int) (L : List Int) (n k : Nat) (v16 : Value) (wr : World) : Prop := ∃ (i : Nat) (v : Value), k + i = n ∧ v16 = .int .i64 i ∧ Own w wr g v me lim (tickN me lim L i) ∧ W.heap.size ≤ g ∧ Below W.heap.size W wr
set_option maxRecDepth 100000 in
set_option maxHeartbeats 8000000 in
theorem row_in (me lim more : Int) (v : Value) (l : List Int) (w : World) (hI : IRow w v l) (hlen : l.length ≤ maxLen) (hint : ∀ x ∈ l, isInt x) (m1 : 1 ≤ me) (m2 : me ≤ 8) (l1 : 1 ≤ lim) (l2 : lim ≤ 100) : Calls Try.prog 6 #[.int .i64 me, .int .i64 lim, v, .int .i64 more] w (L5.One w (.bool true)) := by
  obtain ⟨A, c, rfl, hcl⟩ := hI
  have HS := Lib.hid (shown_calls w)
  have HN := Lib.hid (fun V => New_yes me lim V m1 m2 l1 l2)
  have HOk1 := Lib.hid (WOk.new m1 m2 l1 l2)
  have HCl : Hid (∀ (j : Nat) (x : Int), l[j]? = some x → (∃ ad : Addr, A = some ad ∧ ad.block < w.heap.size ∧ w.cell? (ad.add j) = some (.int .i64 x)) ∧ isInt x) := fun j x hx => ⟨hcl j x hx, hint x (List.mem_of_getElem? hx)⟩
  unfold maxLen at hlen
  clear hcl m1 m2 l1 l2 hint
  go_enter Try.func6, Try.ntmps6
  go_wp2_with fail
  refine HS.out.mono ?_
  rintro e w1 ⟨rfl, b1⟩
  have HB1 := Lib.hid b1
  clear b1 HS
  go_wp2_with fail
  refine (HN.out _).mono ?_
  rintro e w2 ⟨v2, rfl, r2, b2⟩
  obtain ⟨q2, c2, W2, u1, u2, x1, rfl, k0, ⟨k1, k2, k3⟩, ⟨k4, k5, k6⟩, ⟨k7, k8, k9⟩, h1, B3, _⟩ := HAt.fresh (w := w) (me := me) (lim := lim) r2 (HB1.out.trans (b2.mono HB1.out.size))
  have HO : Hid (Own w x1 w2.heap.size (.slice (some ⟨q2, 0, none⟩) 8 c2) me lim (newL me lim)) := ⟨h1, B3, (HB1.out.trans (b2.mono HB1.out.size)).size, HOk1.out, Meok.new HOk1.out⟩
  clear HN HB1 b2 r2 B3 h1
  by_cases hl : 60 < l.length
  · have hl2 : (60 : Int) < (l.length : Int) := by omega
    go_wp2
    go_ret
    exact ⟨rfl, HO.out.below⟩
  · have hl2 : ¬ (60 : Int) < (l.length : Int) := by omega
    go_wp2
    clear k0 k1 k2 k3 k4 k5 k6 k7 k8 k9
    generalize w2.heap.size = g at *
    go_loopg [12] l.length (fun k v12 wr => RowGo w g me lim l.length k v12 wr)
    case atStart => exact ⟨0, _, _, by omega, rfl, HO.out⟩
    case round =>
      obtain ⟨i, v, L, hk, rfl, hT⟩ := hrel
      by_cases hi : i < l.length
      · obtain ⟨x, hx⟩ : ∃ x, l[i]? = some x := ⟨_, List.getElem?_eq_getElem hi⟩
        obtain ⟨⟨ad, rfl, hb0, hcx⟩, hxi⟩ := HCl.out i x hx
        have i1 : (i : Int) < (l.length : Int) := by omega
        have i2 : (0 : Int) ≤ (i : Int) := by omega
        have HM := Lib.hid (show l.length - (i + 1) < gk by omega)
        have HK := Lib.hid (show l.length - (i + 1) + (i + 1) = l.length by omega)
        obtain ⟨qv, cv, rfl, _⟩ := own_eight hT.a.row
        have c1 : wr.cell? (ad.add i) = some (.int .i64 x) := (hT.below.cell (p := ad.add i) (by rw [addr_block]; exact hb0)).trans hcx
        have HXi := Lib.hid hxi
        have HAd := Lib.hid (And.intro hb0 hcx)
        have H0 := Lib.hid hT
        obtain ⟨z0, z1, z2, _, _, _⟩ := cells3 hT.a.blk
        have HRest : Hid (∀ (V : World) (v' : Value) (L' : List Int), Own w V g v' me lim L' → RowGo w g me lim l.length (l.length - (i + 1)) (.int .i64 ((i + 1 : Nat) : Int)) V) := fun V v' L' q2 => ⟨i + 1, v', L', HK.out, rfl, q2⟩
        clear hT hk hx hxi hb0 hcx HO
        by_cases hx0 : x = 0
        · subst hx0
          have HC := Lib.hid (H0.out.a.tick H0.out.ok)
          go_wp2_with fail
          refine HC.out.mono ?_
          rintro e w5 ⟨v5, rfl, r5, b5⟩
          obtain ⟨q5, c5, u1, u2, u3, rfl, ⟨k1, k2, k3⟩, ⟨k4, k5, k6⟩, ⟨k7, k8, k9⟩, ho, _⟩ := H0.out.put b5 r5 H0.out.ok.tick (H0.out.me.tick H0.out.ok)
          have HF := Lib.hid (HRest.out _ _ _ ho)
          clear r5 b5 ho HC z0 z1 z2
          go_wp2
          go_roundg (l.length - (i + 1))
          case measure => exact HM.out
          case rel => simpa using HF.out
        · have hx1 : (x == 0) = false := by rw [beq_eq_false_iff_ne]; exact hx0
          have HD0 := Lib.hid (H0.out.step (Below.refl _ _).drew)
          have HC := Lib.hid (HD0.out.a.hear HD0.out.ok x HXi.out)
          obtain ⟨y0, y1, y2, _, _, _⟩ := cells3 HD0.out.a.blk
          have c2' : wr.drew.cell? (ad.add i) = some (.int .i64 x) := c1
          go_wp2
          go_region_law (go_simp; go_at_call 23; refine HC.out.mono ?_; rintro e w5 ⟨v5, rfl, r5, b5⟩; obtain ⟨q5, c5, u1, u2, u3, rfl, ⟨k1, k2, k3⟩, ⟨k4, k5, k6⟩, ⟨k7, k8, k9⟩, ho, _⟩ := HD0.out.put b5 r5 (HD0.out.ok.hear x) (HD0.out.me.hear HD0.out.ok x); have HO5 := Lib.hid ho; clear ho r5 b5)
          all_goals
            clear k1 k2 k3 k4 k5 k6 k7 k8 k9 y0 y1 y2 z0 z1 z2 HC c2' c1
            have c3' : u3.cell? (ad.add i) = some (.int .i64 x) := (HO5.out.below.cell (p := ad.add i) (by rw [addr_block]; exact HAd.out.1)).trans HAd.out.2
            have hLt : ∀ X : Later u3, X.world.cell? (ad.add i) = some (.int .i64 x) := fun X => (X.kept.cell (p := ad.add i) (by rw [addr_block]; exact Nat.lt_of_lt_of_le HAd.out.1 HO5.out.below.size)).trans c3'
            by_cases hx1' : 1 ≤ x
            · by_cases hx8 : x ≤ 8
              · obtain ⟨z0, z1, z2, _, _, _⟩ := cells3 HO5.out.a.blk
                have HTh : Hid (∀ V : World, Below u3.heap.size u3 V → Calls Try.prog 26 #[.agg #[.int .i64 me, .int .i64 lim, .slice (some ⟨q5, 0, none⟩) 8 c5]] V fun e w' => ∃ v', e = .returned v' ∧ w'.cell? (ad.add i) = some (.int .i64 x) ∧ w'.cell? ⟨g, 0, none⟩ = some (.int .i64 me) ∧ w'.cell? ⟨g, 1, none⟩ = some (.int .i64 lim) ∧ w'.cell? ⟨g, 2, none⟩ = some (.slice (some ⟨q5, 0, none⟩) 8 c5) ∧ Below u3.heap.size u3 w' ∧ Hid (IRow w' v' (thereL lim (hearL L x)))) := fun V hV => by
                  have hOV := HO5.out.step hV
                  refine (hOV.a.there hOV.ok).mono ?_
                  rintro e w' ⟨v', rfl, r, b⟩
                  have hOW := hOV.step b
                  obtain ⟨t0, t1, t2, _, _, _⟩ := cells3 hOW.a.blk
                  exact ⟨v', rfl, (hOW.below.cell (p := ad.add i) (by rw [addr_block]; exact HAd.out.1)).trans HAd.out.2, t0, t1, t2, hV.trans (b.mono hV.size), IRow.of_own r⟩
                have HHas : Hid (∀ (V : World) (v' : Value), Hid (IRow V v' (thereL lim (hearL L x))) → Below u3.heap.size u3 V → Calls Try.prog 29 #[v', .int .i64 x] V fun e w' => e = .returned (.bool true) ∧ w'.cell? (ad.add i) = some (.int .i64 x) ∧ w'.cell? ⟨g, 0, none⟩ = some (.int .i64 me) ∧ w'.cell? ⟨g, 1, none⟩ = some (.int .i64 lim) ∧ w'.cell? ⟨g, 2, none⟩ = some (.slice (some ⟨q5, 0, none⟩) 8 c5) ∧ Below u3.heap.size u3 w') := fun V v' hv hV => by
                  refine (has_calls _ x v' V hv.out (by have := thereL_len lim (hearL L x); omega)).mono ?_
                  rintro e w' ⟨rfl, b⟩
                  have hOW := (HO5.out.step hV).step b
                  obtain ⟨t0, t1, t2, _, _, _⟩ := cells3 hOW.a.blk
                  exact ⟨by rw [decide_eq_true (heard_mem H0.out.ok hx1' hx8)], (hOW.below.cell (p := ad.add i) (by rw [addr_block]; exact HAd.out.1)).trans HAd.out.2, t0, t1, t2, hV.trans (b.mono hV.size)⟩
                have g1 : decide (1 ≤ x) = true := by rw [decide_eq_true_iff]; exact hx1'
                have g2 : decide (x ≤ 8) = true := by rw [decide_eq_true_iff]; exact hx8
                have hbl : Below u3.heap.size u3 u3.drew := (Below.refl _ _).drew
                go_wp2
                go_region_held3 (fun w' => w'.cell? (ad.add i) = some (.int .i64 x) ∧ w'.cell? ⟨g, 0, none⟩ = some (.int .i64 me) ∧ w'.cell? ⟨g, 1, none⟩ = some (.int .i64 lim) ∧ w'.cell? ⟨g, 2, none⟩ = some (.slice (some ⟨q5, 0, none⟩) 8 c5) ∧ Below u3.heap.size u3 w') ((first | exact ⟨c3', z0, z1, z2, hbl⟩ | (go_split_ands; refine ⟨?_, ?_, ?_, ?_, ?_⟩ <;> assumption)))
                  (first
                    | (go_at_call 26; refine (HTh.out _ (by first | exact hbl | assumption)).mono ?_; rintro e w9 ⟨v9, rfl, f1, f2, f3, f4, b9, hr9⟩)
                    | (go_at_call 29; refine (HHas.out _ _ (by assumption) (by assumption)).mono ?_; rintro e w10 ⟨rfl, f1, f2, f3, f4, b10⟩))
                have HF := Lib.hid (HRest.out _ _ _ (HO5.out.step b10))
                clear b10 b9 hr9 HHas HTh HO5
                go_wp2
                go_roundg (l.length - (i + 1))
                case measure => exact HM.out
                case rel => simpa using HF.out
              · have hx8' : (8 : Int) < x := by omega
                have g2 : decide (x ≤ 8) = false := by rw [decide_eq_false_iff_not]; exact hx8
                go_wp2
                refine wp_region_later (by kernel_rfl) (by kernel_rfl) ?_
                repeat
                  (refine Quietly.step (fun K hK => ?_)
                   go_simp
                   refine hK _ ?_
                   clear hK K)
                refine Quietly.none ?_
                rintro w2 ⟨⟨V, b2⟩, rfl⟩
                have HF := Lib.hid (HRest.out _ _ _ (HO5.out.step b2))
                clear b2
                go_wp2
                go_roundg (l.length - (i + 1))
                case measure => exact HM.out
                case rel => simpa using HF.out
            · have hx1'' : x < 1 := by omega
              have g1 : decide (1 ≤ x) = false := by rw [decide_eq_false_iff_not]; exact hx1'
              go_wp2
              refine wp_region_later (by kernel_rfl) (by kernel_rfl) ?_
              repeat
                (refine Quietly.step (fun K hK => ?_)
                 go_simp
                 refine hK _ ?_
                 clear hK K)
              refine Quietly.none ?_
              rintro w2 ⟨⟨V, b2⟩, rfl⟩
              have HF := Lib.hid (HRest.out _ _ _ (HO5.out.step b2))
              clear b2
              go_wp2
              go_roundg (l.length - (i + 1))
              case measure => exact HM.out
              case rel => simpa using HF.out
      · obtain rfl : i = l.length := by omega
        have i1 : ¬ ((l.length : Int) < (l.length : Int)) := by omega
        obtain ⟨z0, z1, z2, _, _, _⟩ := cells3 hT.a.blk
        obtain ⟨qv, cv, rfl, _⟩ := own_eight hT.a.row
        have HC := Lib.hid (hT.a.there hT.ok)
        have H0 := Lib.hid hT
        clear hT hk hi HO
        go_wp2_with fail
        refine HC.out.mono ?_
        rintro e w5 ⟨v5, rfl, r5, b5⟩
        have hO5 := H0.out.step b5
        have hrow5 := IRow.of_own r5
        obtain ⟨a, ha⟩ : ∃ a, thereL lim L = a := ⟨_, rfl⟩
        have hlen8 : a.length ≤ 8 := by rw [← ha]; exact thereL_len lim L
        have hmeA : me ∈ a := by rw [← ha]; exact hO5.me.mem hO5.ok
        have hbnd : ∀ x ∈ a, 1 ≤ x ∧ x ≤ 8 := fun x hx => by rw [← ha] at hx; exact there_bounds hx
        have hrise : ∀ i x y, a[i]? = some x → a[i + 1]? = some y → x < y := fun i x y h1 h2 => by rw [← ha] at h1 h2; exact there_rise h1 h2
        have hback : ∀ n x, x ∈ thereL lim (tickN me lim L n) → x ∈ a := fun n x hx => by rw [← ha]; exact ticks_there hO5.ok n hx
        rw [ha] at hrow5
        have HRowA := Lib.hid hrow5
        obtain ⟨A5, c5, rfl, hcl5⟩ := hrow5
        have HO5 := Lib.hid hO5
        have HCl5 := Lib.hid hcl5
        have HMeA := Lib.hid hmeA
        have HBnd := Lib.hid hbnd
        have HRise := Lib.hid hrise
        have HBack := Lib.hid hback
        clear r5 b5 hO5 hcl5 hmeA hbnd hrise hback ha HC H0 z0 z1 z2
        go_wp2
        go_loopg [14] a.length (fun k v14 wr => RowIn w w5 a.length k v14 wr)
        case atStart => exact ⟨0, by omega, rfl, HO5.out.below, Below.refl _ _⟩
        case round =>
          obtain ⟨i', hk, rfl, hbw, hb5⟩ := hrel
          by_cases hi : i' < a.length
          · obtain ⟨x, hx⟩ : ∃ x, a[i']? = some x := ⟨_, List.getElem?_eq_getElem hi⟩
            obtain ⟨ad, rfl, hb0, hcx⟩ := HCl5.out i' x hx
            have i1 : (i' : Int) < (a.length : Int) := by omega
            have i2 : (0 : Int) ≤ (i' : Int) := by omega
            have hxb := HBnd.out x (List.mem_of_getElem? hx)
            have g1 : decide (x < 1) = false := by rw [decide_eq_false_iff_not]; omega
            have g2 : decide (8 < x) = false := by rw [decide_eq_false_iff_not]; omega
            have HM := Lib.hid (show a.length - (i' + 1) < gk by omega)
            have HNext : Hid (∀ V, Below wr.heap.size wr V → RowIn w w5 a.length (a.length - (i' + 1)) (.int .i64 ((i' + 1 : Nat) : Int)) V) := fun V hV => ⟨i' + 1, by omega, rfl, hbw.trans (hV.mono hbw.size), hb5.trans (hV.mono hb5.size)⟩
            have hLt : ∀ X : Later wr, X.world.cell? (ad.add i') = some (.int .i64 x) := fun X => ((hb5.trans (X.kept.mono hb5.size)).cell (p := ad.add i') (by rw [addr_block]; exact hb0)).trans hcx
            by_cases hi0 : i' = 0
            · subst hi0
              have hLt0 : ∀ X : Later wr, X.world.cell? ad = some (.int .i64 x) := fun X => by have h := hLt X; rwa [addr_zero] at h
              clear hLt
              clear hbw hb5 hk hx hxb hb0 hcx hi
              go_wp2
              refine wp_region_later (by kernel_rfl) (by kernel_rfl) ?_
              repeat
                (refine Quietly.step (fun K hK => ?_)
                 go_simp
                 refine hK _ ?_
                 clear hK K)
              refine Quietly.none ?_
              rintro w2 ⟨⟨V, b2⟩, rfl⟩
              have HF := Lib.hid (HNext.out _ b2)
              clear b2
              go_wp2
              go_roundg (a.length - (0 + 1))
              case measure => exact HM.out
              case rel => simpa using HF.out
            · obtain ⟨m, hm⟩ : ∃ m, m + 1 = i' := ⟨i' - 1, by omega⟩
              obtain ⟨y, hy⟩ : ∃ y, a[m]? = some y := ⟨_, List.getElem?_eq_getElem (by omega)⟩
              obtain ⟨ad', e', hb0', hcy⟩ := HCl5.out m y hy
              cases e'
              have hlt := HRise.out m y x hy (by rw [hm]; exact hx)
              have g3 : decide ((0 : Int) < (i' : Int)) = true := by rw [decide_eq_true_iff]; omega
              have g5 : decide (0 < i') = true := by rw [decide_eq_true_iff]; omega
              have g6 : 0 < i' := by omega
              have g4 : decide (x ≤ y) = false := by rw [decide_eq_false_iff_not]; omega
              have jw : IntKind.i64.wrap ((i' : Int) - 1) = (m : Int) := by rw [IntKind.wrap_i64]; omega
              have hLt2 : ∀ X : Later wr, X.world.cell? (ad.add m) = some (.int .i64 y) := fun X => ((hb5.trans (X.kept.mono hb5.size)).cell (p := ad.add m) (by rw [addr_block]; exact hb0')).trans hcy
              have i3 : (0 : Int) ≤ (m : Int) := by omega
              have i4 : (m : Int) < (a.length : Int) := by omega
              clear hbw hb5 hk hx hxb hb0 hcx hi hb0' hcy hlt hy hm hi0
              go_wp2
              refine wp_region_later (by kernel_rfl) (by kernel_rfl) ?_
              repeat
                (refine Quietly.step (fun K hK => ?_)
                 go_simp
                 refine hK _ ?_
                 clear hK K)
              refine Quietly.none ?_
              rintro w2 ⟨⟨V, b2⟩, rfl⟩
              have HF := Lib.hid (HNext.out _ b2)
              clear b2
              go_wp2
              go_roundg (a.length - (i' + 1))
              case measure => exact HM.out
              case rel => simpa using HF.out
          · obtain rfl : i' = a.length := by omega
            have i1 : ¬ ((a.length : Int) < (a.length : Int)) := by omega
            obtain ⟨w6, rfl⟩ : ∃ z, z = wr := ⟨wr, rfl⟩
            have HO6 := Lib.hid (HO5.out.step hb5)
            obtain ⟨z0, z1, z2, _, _, _⟩ := cells3 HO6.out.a.blk
            obtain ⟨q7, c7, W7, u1, u2, x7, _, d0, ⟨d1, d2, d3⟩, ⟨d4, d5, d6⟩, ⟨d7, d8, d9⟩, h7, B7, B7'⟩ := HAt.fresh (w := w) (me := me) (lim := lim) HO6.out.a.row HO6.out.below
            have HT0 : Hid (RowTick w w6 w6.heap.size me lim L ((more % 64).toNat + 1) ((more % 64).toNat + 1) (.int .i64 0) x7) := ⟨0, _, by omega, rfl, ⟨h7, B7, HO6.out.below.size, HO6.out.ok, HO6.out.me⟩, Nat.le_refl _, B7'⟩
            have HRw := Lib.hid (HRowA.out.below hb5)
            obtain ⟨nn, hnn⟩ : ∃ nn : Nat, (more % 64).toNat = nn := ⟨_, rfl⟩
            have hand : bits .and .i64 more 63 = (nn : Int) := by rw [i64_and63]; omega
            have hn64 : nn < 64 := by omega
            have jn : IntKind.i64.wrap (1 + (nn : Int)) = 1 + (nn : Int) := by rw [IntKind.wrap_i64]; omega
            rw [hnn] at HT0
            have HOk6 := Lib.hid (And.intro HO6.out.ok HO6.out.me)
            clear h7 B7 B7' hbw hb5 hk hi hnn HO6 HO5 HCl5 HBnd HRise
            go_wp2
            clear d0 d1 d2 d3 d4 d5 d6 d7 d8 d9 z0 z1 z2
            go_loopg [16] (nn + 1) (fun k v16 wr => RowTick w w6 w6.heap.size me lim L (nn + 1) k v16 wr)
            case atStart => exact HT0.out
            case round =>
              obtain ⟨i', v', hk, rfl, hO, hgg, hbV⟩ := hrel
              obtain ⟨z0, z1, z2, _, _, _⟩ := cells3 hO.a.blk
              obtain ⟨q8, c8, rfl, _⟩ := own_eight hO.a.row
              by_cases hi : i' < nn + 1
              · have i1 : (i' : Int) < 1 + (nn : Int) := by omega
                have HM := Lib.hid (show nn + 1 - (i' + 1) < gk by omega)
                have HK := Lib.hid (show nn + 1 - (i' + 1) + (i' + 1) = nn + 1 by omega)
                have HC := Lib.hid (hO.a.tick hO.ok)
                have H0 := Lib.hid (And.intro hO hbV)
                clear hO hk hi hbV HT0
                go_wp2_with fail
                refine HC.out.mono ?_
                rintro e w5' ⟨v5', rfl, r5, b5⟩
                obtain ⟨q5, c5', u1, u2, u3, rfl, ⟨k1, k2, k3⟩, ⟨k4, k5, k6⟩, ⟨k7, k8, k9⟩, ho, hBg⟩ := H0.out.1.put b5 r5 H0.out.1.ok.tick (H0.out.1.me.tick H0.out.1.ok)
                have HF : Hid (RowTick w w6 w6.heap.size me lim L (nn + 1) (nn + 1 - (i' + 1)) (.int .i64 ((i' + 1 : Nat) : Int)) u3) := by
                  exact ⟨i' + 1, _, HK.out, rfl, ho, hgg, (H0.out.2.trans (b5.mono H0.out.2.size)).trans (hBg.mono hgg)⟩
                clear r5 b5 ho HC z0 z1 z2
                go_wp2
                go_roundg (nn + 1 - (i' + 1))
                case measure => exact HM.out
                case rel => simpa using HF.out
              · obtain rfl : i' = nn + 1 := by omega
                have i1 : ¬ (((nn + 1 : Nat) : Int) < 1 + (nn : Int)) := by omega
                have HC := Lib.hid (hO.a.there hO.ok)
                have hmeB := hO.me.mem hO.ok
                have hlB := thereL_len lim (tickN me lim L (nn + 1))
                have hinA := HBack.out (nn + 1)
                have H0 := Lib.hid (And.intro hO hbV)
                clear hO hk hi hbV HT0
                go_wp2_with fail
                refine HC.out.mono ?_
                rintro e w8 ⟨v8, rfl, r8, b8⟩
                have hrow8 := IRow.of_own r8
                obtain ⟨b, hb⟩ : ∃ b, thereL lim (tickN me lim L (nn + 1)) = b := ⟨_, rfl⟩
                rw [hb] at hrow8 hmeB hlB hinA
                have HRowB := Lib.hid hrow8
                obtain ⟨A8, c8', rfl, hcl8⟩ := hrow8
                have HRowA8 := Lib.hid ((HRw.out.below H0.out.2).below b8)
                have HB8 := Lib.hid (H0.out.1.below.trans (b8.mono H0.out.1.below.size))
                have HCl8 := Lib.hid hcl8
                have HMeB := Lib.hid hmeB
                have HInA := Lib.hid hinA
                clear r8 b8 hcl8 hmeB hinA hb H0 HC z0 z1 z2 HRw
                go_wp2
                go_loopg [18] b.length (fun k v18 wr => RowIn w w8 b.length k v18 wr)
                case atStart => exact ⟨0, by omega, rfl, HB8.out, Below.refl _ _⟩
                case round =>
                  obtain ⟨i', hk, rfl, hbw, hb8⟩ := hrel
                  by_cases hi : i' < b.length
                  · obtain ⟨x, hx⟩ : ∃ x, b[i']? = some x := ⟨_, List.getElem?_eq_getElem hi⟩
                    obtain ⟨ad, rfl, hb0, hcx⟩ := HCl8.out i' x hx
                    have i1 : (i' : Int) < (b.length : Int) := by omega
                    have i2 : (0 : Int) ≤ (i' : Int) := by omega
                    have c1 : wr.cell? (ad.add i') = some (.int .i64 x) := (hb8.cell (p := ad.add i') (by rw [addr_block]; exact hb0)).trans hcx
                    have hhas := has_calls a x _ wr (HRowA8.out.below hb8) (by omega)
                    rw [decide_eq_true (HInA.out x (List.mem_of_getElem? hx))] at hhas
                    have HC := Lib.hid hhas
                    have HM := Lib.hid (show b.length - (i' + 1) < gk by omega)
                    have HNext : Hid (∀ V, Below wr.heap.size wr V → RowIn w w8 b.length (b.length - (i' + 1)) (.int .i64 ((i' + 1 : Nat) : Int)) V) := fun V hV => ⟨i' + 1, by omega, rfl, hbw.trans (hV.mono hbw.size), hb8.trans (hV.mono hb8.size)⟩
                    clear hhas hx hk hi hb0 hcx hbw hb8
                    go_wp2_with fail
                    refine HC.out.mono ?_
                    rintro e w9 ⟨rfl, b9⟩
                    have HF := Lib.hid (HNext.out _ b9)
                    clear b9 HC c1
                    go_wp2
                    go_roundg (b.length - (i' + 1))
                    case measure => exact HM.out
                    case rel => simpa using HF.out
                  · obtain rfl : i' = b.length := by omega
                    have i1 : ¬ ((b.length : Int) < (b.length : Int)) := by omega
                    have hhas := has_calls a me _ wr (HRowA8.out.below hb8) (by omega)
                    rw [decide_eq_true HMeA.out] at hhas
                    have HC := Lib.hid hhas
                    have HW := Lib.hid hbw
                    have HRB := Lib.hid (HRowB.out.below hb8)
                    clear hhas hk hi hbw hb8
                    go_wp2_with fail
                    refine HC.out.mono ?_
                    rintro e w9 ⟨rfl, b9⟩
                    have hhas := has_calls b me _ w9 (HRB.out.below b9) (by omega)
                    rw [decide_eq_true HMeB.out] at hhas
                    have HC := Lib.hid hhas
                    have HW := Lib.hid (HW.out.trans (b9.mono HW.out.size))
                    clear hhas b9
                    go_wp2_with fail
                    refine HC.out.mono ?_
                    rintro e w10 ⟨rfl, b10⟩
                    have HF := Lib.hid (HW.out.trans (b10.mono HW.out.size))
                    clear b10 HC HW
                    go_wp2
                    go_ret
                    exact ⟨rfl, HF.out⟩
theorem row_all (me lim : Int) (v : Value) (l : List Int) (more : Int) (w : World) (hI : IRow w v l) (hlen : l.length ≤ maxLen) (hint : ∀ x ∈ l, isInt x) : Calls Try.prog 6 #[.int .i64 me, .int .i64 lim, v, .int .i64 more] w (L5.One w (.bool true)) := by
  by_cases h : me < 1 ∨ 8 < me ∨ lim < 1 ∨ 100 < lim
  · exact row_out me lim more v l w hI h
  · exact row_in me lim more v l w hI hlen hint (by omega) (by omega) (by omega) (by omega)
end Go.Proofs.Ytildapcdkipakaa.L9
