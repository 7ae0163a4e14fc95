/- WatchLimits where all is as it may be. -/
import Derived.Test.YtildapcdkipakaaWtLimits
namespace Go.Proofs.Ytildapcdkipakaa.L9
open Go.ChangeShapes Go.WideShapes Go.ChangeAt Go.RowKit Go.Deep

set_option maxRecDepth 100000 in
set_option maxHeartbeats 8000000 in
theorem limits_in (me lim p : Int) (ticks : Nat) (w : World) (m1 : 1 ≤ me) (m2 : me ≤ 8) (l1 : 1 ≤ lim) (l2 : lim ≤ 100) (p1 : 1 ≤ p) (p2 : p ≤ 8) (ht : ticks ≤ 300) : Calls Try.prog 5 #[.int .i64 me, .int .i64 lim, .int .i64 p, .int .i64 ticks] w (L5.One w (.bool true)) := by
  have HS := Lib.hid (shown_calls w)
  have HN := Lib.hid (fun V => New_yes me lim V m1 m2 l1 l2)
  have ok1 := WOk.new m1 m2 l1 l2
  have HOk := Lib.hid ok1
  have HP := Lib.hid (And.intro p1 p2)
  have HPi : Hid (isInt p) := (by unfold isInt; omega : isInt p)
  have j1 : ¬ p < 1 := by omega
  have j2 : ¬ 8 < p := by omega
  have j3 : ¬ (ticks : Int) < 0 := by omega
  have j4 : ¬ 300 < (ticks : Int) := by omega
  clear m1 m2 l1 l2 p1 p2 ok1
  go_enter Try.func5, Try.ntmps5
  go_wp2_with fail
  refine HS.out.mono ?_
  rintro e w1 ⟨rfl, b1⟩
  have HB1 := Lib.hid b1
  clear b1 HS
  go_wp2_with fail
  refine (HN.out _).mono ?_
  rintro e w2 ⟨v2, rfl, r2, b2⟩
  obtain ⟨q2, c2, W2, u1, u2, x1, rfl, k0, ⟨k1, k2, k3⟩, ⟨k4, k5, k6⟩, ⟨k7, k8, k9⟩, h1, B3, _⟩ := HAt.fresh (w := w) (me := me) (lim := lim) r2 (HB1.out.trans (b2.mono HB1.out.size))
  have HB3 := Lib.hid B3
  obtain ⟨z0, z1, z2, _, _, _⟩ := cells3 h1.blk
  have HH := Lib.hid (h1.hear HOk.out p HPi.out)
  have H1 := Lib.hid h1
  clear HN HB1 b2 r2 B3 h1
  go_wp2_with fail
  refine HH.out.mono ?_
  rintro e w3 ⟨v3, rfl, r3, b3⟩
  clear k0 k1 k2 k3 k4 k5 k6 k7 k8 k9 z0 z1 z2 HH
  obtain ⟨q3, c3, W3, u1, u2, x2, rfl, k0, ⟨k1, k2, k3⟩, ⟨k4, k5, k6⟩, ⟨k7, k8, k9⟩, h2, B4, B4'⟩ := HAt.fresh (w := w) (me := me) (lim := lim) r3 (HB3.out.trans (b3.mono HB3.out.size))
  obtain ⟨z0, z1, z2, _, _, _⟩ := cells3 h2.blk
  have r2' : x2.ownsRow 0 3 1 (.slice (some ⟨q3, 0, none⟩) 8 c3) 8 (ints (hearL (newL me lim) p)) := h2.row
  obtain ⟨q4, c4, W4, y1, y2, x3, e4, d0, ⟨d1, d2, d3⟩, ⟨d4, d5, d6⟩, ⟨d7, d8, d9⟩, h3, B5, B5'⟩ := HAt.fresh (w := w) (me := me) (lim := lim) r2' B4
  have HT : Hid (Three w x3 w2.heap.size w3.heap.size x2.heap.size (.slice (some ⟨q2, 0, none⟩) 8 c2) (.slice (some ⟨q3, 0, none⟩) 8 c3) (.slice (some ⟨q3, 0, none⟩) 8 c3) me lim (newL me lim) (hearL (newL me lim) p) (hearL (newL me lim) p)) := by
    have ha := ((H1.out.below b3).below B4')
    have l1 := ha.lt
    have l2 := h2.lt
    exact ⟨ha.below B5', h2.below B5', h3, B5, by have := B4.size; omega, by omega, by omega⟩
  clear e4 r2' r3 b3 B4 B4' B5 B5' h2 h3 H1 HB3
  go_wp2
  clear k0 k1 k2 k3 k4 k5 k6 k7 k8 k9 z0 z1 z2 d0 d1 d2 d3 d4 d5 d6 d7 d8 d9
  generalize w2.heap.size = g1 at *
  generalize w3.heap.size = g2 at *
  generalize x2.heap.size = g3 at *
  go_loopg [14] ticks (fun k v14 wr => LimGo w g1 g2 g3 (.slice (some ⟨q2, 0, none⟩) 8 c2) (.slice (some ⟨q3, 0, none⟩) 8 c3) me lim (newL me lim) (hearL (newL me lim) p) ticks k v14 wr)
  case atStart => exact ⟨0, _, rfl, rfl, HT.out⟩
  case round =>
    obtain ⟨i, v3, hk, rfl, hT⟩ := hrel
    by_cases hi : i < ticks
    · have i1 : (i : Int) < (ticks : Int) := by omega
      obtain ⟨z0, z1, z2, _, _, _⟩ := cells3 hT.c.blk
      have HC := Lib.hid (hT.c.tick ((HOk.out.hear p).ticks i))
      have HM := Lib.hid (show ticks - (i + 1) < gk by omega)
      have HK := Lib.hid (show ticks - (i + 1) + (i + 1) = ticks by omega)
      obtain ⟨q5, c5, rfl, _⟩ := own_eight hT.c.row
      have H3 := Lib.hid hT
      clear hT hk HT
      go_wp2_with fail
      refine HC.out.mono ?_
      rintro e w5 ⟨v5, rfl, r5, b5⟩
      have h5 := H3.out.step b5
      obtain ⟨q6, c6, u1, u2, u3, rfl, ⟨k1, k2, k3⟩, ⟨k4, k5, k6⟩, ⟨k7, k8, k9⟩, hc, hB, hk⟩ := h5.c.put r5
      have HF : Hid (LimGo w g1 g2 g3 (.slice (some ⟨q2, 0, none⟩) 8 c2) (.slice (some ⟨q3, 0, none⟩) 8 c3) me lim (newL me lim) (hearL (newL me lim) p) ticks (ticks - (i + 1)) (.int .i64 ((i + 1 : Nat) : Int)) u3) :=
        ⟨i + 1, _, HK.out, rfl, ⟨h5.a.same hk h5.ac h5.c.blk, h5.b.same hk h5.bc h5.c.blk, hc, h5.below.trans (hB.mono h5.low), h5.low, h5.ac, h5.bc⟩⟩
      clear h5 r5 b5 hc hB hk HC H3 z0 z1 z2
      go_wp2
      go_roundg (ticks - (i + 1))
      case measure => exact HM.out
      case rel => simpa using HF.out
    · obtain rfl : i = ticks := by omega
      have i1 : ¬ (i : Int) < (i : Int) := by omega
      obtain ⟨z0, z1, z2, _, _, _⟩ := cells3 hT.c.blk
      have HC := Lib.hid (hT.c.there ((HOk.out.hear p).ticks i))
      have H3 := Lib.hid hT
      obtain ⟨q5, c5, rfl, _⟩ := own_eight hT.c.row
      clear hT hk HT
      go_wp2_with fail
      refine HC.out.mono ?_
      rintro e w5 ⟨v5, rfl, r5, b5⟩
      have hmeL := ticked_me (p := p) HOk.out i
      have hpL := ticked_p HOk.out HP.out.1 HP.out.2 i
      have hlen := thereL_len lim (tickN me lim (hearL (newL me lim) p) i)
      obtain ⟨l, hl⟩ : ∃ l, thereL lim (tickN me lim (hearL (newL me lim) p) i) = l := ⟨_, rfl⟩
      rw [hl] at r5 hmeL hpL hlen
      obtain ⟨A, c, rfl, hcl⟩ := IRow.of_own r5
      have H5 := Lib.hid (H3.out.step b5)
      have HCl := Lib.hid hcl
      have HMe := Lib.hid hmeL
      have HPl := Lib.hid hpL
      clear r5 b5 hmeL hpL hl hcl HC H3 z0 z1 z2
      go_wp2
      go_loopg [15, 16, 18] l.length (fun k v15 v16 v18 wr => InGo me p l w5 k v15 v16 v18 wr)
      case atStart => exact ⟨0, by omega, rfl, by simp, by simp, rfl⟩
      case round =>
        obtain ⟨i', hk, rfl, rfl, rfl, rfl⟩ := hrel
        by_cases hi : i' < l.length
        · obtain ⟨x, hx⟩ : ∃ x, l[i']? = some x := ⟨_, List.getElem?_eq_getElem hi⟩
          obtain ⟨ad, rfl, _, hcx⟩ := HCl.out i' x hx
          have i1 : (i' : Int) < (l.length : Int) := by omega
          have i2 : (0 : Int) ≤ (i' : Int) := by omega
          have hs1 := mem_take_succ hx p
          have hs2 := mem_take_succ hx me
          have HM := Lib.hid (show l.length - (i' + 1) < gk by omega)
          have HF : Hid (InGo me p l w5 (l.length - (i' + 1)) (.bool (decide (p ∈ l.take i') || (x == p))) (.bool (decide (me ∈ l.take i') || (x == me))) (.int .i64 ((i' + 1 : Nat) : Int)) w5) := ⟨i' + 1, by omega, rfl, by rw [hs1], by rw [hs2], rfl⟩
          generalize decide (p ∈ l.take i') = a at *
          generalize decide (me ∈ l.take i') = b at *
          clear hx hs1 hs2 hk
          cases a <;> cases b <;> cases h1 : (x == p) <;> cases h2 : (x == me)
          all_goals
            rw [h1, h2] at HF
            go_wp2
            go_roundg (l.length - (i' + 1))
            case measure => exact HM.out
            case rel => simpa using HF.out
        · obtain rfl : i' = l.length := by omega
          have hmeT : decide (me ∈ l.take l.length) = true := by rw [List.take_length, decide_eq_true_iff]; exact HMe.out
          have hpT : decide (p ∈ l.take l.length) = decide (p = me ∨ (i : Int) ≤ lim) := by rw [List.take_length]; exact decide_eq_decide.2 HPl.out
          obtain ⟨dd, hdd⟩ : ∃ d, decide (p = me ∨ (i : Int) ≤ lim) = d := ⟨_, rfl⟩
          rw [hdd] at hpT
          have HDD := Lib.hid hdd
          rw [hmeT, hpT]
          clear hdd
          have i1 : ¬ ((l.length : Int) < (l.length : Int)) := by omega
          obtain ⟨z0, z1, z2, _, _, _⟩ := cells3 H5.out.b.blk
          have HC := Lib.hid (H5.out.b.there (HOk.out.hear p))
          have HLen : Hid ((thereL lim (hearL (newL me lim) p)).length = if p = me then 1 else 2) := there_heard HOk.out HP.out.1 HP.out.2
          have HLen1 : Hid ((thereL lim (newL me lim)).length = 1) := there_new HOk.out
          clear hmeT hpT hi hk HPl HMe HCl
          go_wp2_with fail
          refine HC.out.mono ?_
          rintro e w6 ⟨v6, rfl, r6, b6⟩
          rw [HLen.out] at r6
          have H6 := Lib.hid (H5.out.step b6)
          obtain ⟨y0, y1, y2, _, _, _⟩ := cells3 H6.out.a.blk
          have HD := Lib.hid (H6.out.a.there HOk.out)
          clear b6 HC z0 z1 z2 H5
          obtain ⟨j, hpj⟩ : ∃ j : Nat, p = (j : Int) + 1 := ⟨(p - 1).toNat, by have := HP.out; omega⟩
          have hj8 : j < 8 := by have := HP.out; omega
          have hq0 : (hearL (newL me lim) p).getD j 0 = 0 := by rw [heard_get HOk.out hj8, if_pos (by omega)]
          have hend : ∀ V, Below w6.heap.size w6 V → V.cell? ⟨g2, 2, none⟩ = some (.slice (some ⟨q3, 0, none⟩) 8 c3) ∧ V.cell? ⟨q3, j, none⟩ = some (.int .i64 0) ∧ Below w.heap.size w V := fun V hV => by
            have h7 := H6.out.step hV
            have hc := (own_cell h7.b.row hj8 (HOk.out.hear p).len).1
            rw [hq0] at hc
            exact ⟨(cells3 h7.b.blk).2.2.1, hc, h7.below⟩
          have HE := Lib.hid hend
          clear hend hq0
          have jw : IntKind.i64.wrap ((j : Int) + 1 - 1) = (j : Int) := by rw [IntKind.wrap_i64]; omega
          have jw2 : IntKind.i64.wrap (j : Int) = (j : Int) := by rw [IntKind.wrap_i64]; omega
          have jj1 : (0 : Int) ≤ (j : Int) := by omega
          have jj2 : (j : Int) < 8 := by omega
          by_cases hp : p = me
          · rw [if_pos hp] at r6
            obtain ⟨a6, c6, rfl⟩ := L5.own_slice r6
            obtain rfl : dd = true := by rw [← HDD.out, decide_eq_true_iff]; exact .inl hp
            have hpm : ((j : Int) + 1 == me) = true := by rw [beq_iff_eq]; omega
            have hpm2 : ((j : Int) + 1 != me) = false := by rw [bne, hpm]; rfl
            clear r6 HDD hp
            subst hpj
            go_wp2_with fail
            refine HD.out.mono ?_
            rintro e w7 ⟨v7, rfl, r7, b7⟩
            rw [HLen1.out] at r7
            obtain ⟨a7, c7, rfl⟩ := L5.own_slice r7
            obtain ⟨x0, x1, x2⟩ := HE.out w7 b7
            have HF := Lib.hid x2
            clear r7 b7 x2 y0 y1 y2
            go_wp2
            go_ret
            exact ⟨rfl, HF.out⟩
          · rw [if_neg hp] at r6
            obtain ⟨a6, c6, rfl⟩ := L5.own_slice r6
            have hpm : ((j : Int) + 1 == me) = false := by rw [beq_eq_false_iff_ne]; omega
            have hpm2 : ((j : Int) + 1 != me) = true := by rw [bne, hpm]; rfl
            by_cases hli : (i : Int) ≤ lim
            · obtain rfl : dd = true := by rw [← HDD.out, decide_eq_true_iff]; exact .inr hli
              clear r6 HDD hp
              subst hpj
              go_wp2_with fail
              refine HD.out.mono ?_
              rintro e w7 ⟨v7, rfl, r7, b7⟩
              rw [HLen1.out] at r7
              obtain ⟨a7, c7, rfl⟩ := L5.own_slice r7
              obtain ⟨x0, x1, x2⟩ := HE.out w7 b7
              have HF := Lib.hid x2
              clear r7 b7 x2 y0 y1 y2
              go_wp2
              go_ret
              exact ⟨rfl, HF.out⟩
            · obtain rfl : dd = false := by rw [← HDD.out, decide_eq_false_iff_not]; exact fun h => h.elim hp hli
              clear r6 HDD hp
              subst hpj
              go_wp2_with fail
              refine HD.out.mono ?_
              rintro e w7 ⟨v7, rfl, r7, b7⟩
              rw [HLen1.out] at r7
              obtain ⟨a7, c7, rfl⟩ := L5.own_slice r7
              obtain ⟨x0, x1, x2⟩ := HE.out w7 b7
              have HF := Lib.hid x2
              clear r7 b7 x2 y0 y1 y2
              go_wp2
              go_ret
              have hli2 : decide ((i : Int) ≤ lim) = false := by rw [decide_eq_false_iff_not]; omega
              exact ⟨by show Ending.returned (.bool (!decide ((i : Int) ≤ lim))) = _; rw [hli2]; rfl, HF.out⟩
theorem limits_all (me lim p ticks : Int) (w : World) : Calls Try.prog 5 #[.int .i64 me, .int .i64 lim, .int .i64 p, .int .i64 ticks] w (L5.One w (.bool true)) := by
  by_cases h : me < 1 ∨ 8 < me ∨ lim < 1 ∨ 100 < lim
  · exact limits_out me lim p ticks w h
  · by_cases h2 : p < 1 ∨ 8 < p ∨ ticks < 0 ∨ 300 < ticks
    · exact limits_args me lim p ticks w (by omega) (by omega) (by omega) (by omega) h2
    · obtain ⟨n, rfl⟩ : ∃ n : Nat, ticks = n := ⟨ticks.toNat, by omega⟩
      exact limits_in me lim p n w (by omega) (by omega) (by omega) (by omega) (by omega) (by omega) (by omega)
end Go.Proofs.Ytildapcdkipakaa.L9
