/- WatchTells where all is as it may be. -/
import Derived.Test.YtildapcdkipakaaWtTells
namespace Go.Proofs.Ytildapcdkipakaa.L9
open Go.ChangeShapes Go.WideShapes Go.ChangeAt Go.RowKit Go.Deep

set_option maxRecDepth 100000 in
set_option maxHeartbeats 8000000 in
theorem tells_in (me lim : Int) (v : Value) (l : List Int) (w : World) (hI : IRow w v l) (hlen : l.length ≤ maxLen) (hint : ∀ x ∈ l, isInt x) (m1 : 1 ≤ me) (m2 : me ≤ 8) (l1 : 1 ≤ lim) (l2 : lim ≤ 100) : Calls Try.prog 4 #[.int .i64 me, .int .i64 lim, v] w (L5.One w (.bool true)) := by
  have HIv := Lib.hid hI
  obtain ⟨A, c, rfl, hcl⟩ := hI
  have HS := Lib.hid (shown_calls w)
  have HN := Lib.hid (fun V => New_yes me lim V m1 m2 l1 l2)
  have HR := Lib.hid (fun V => RNew_yes me lim V m1 m2 l1 l2)
  unfold maxLen at hlen
  by_cases hl : 100 < l.length
  · have hl2 : (100 : Int) < (l.length : Int) := by omega
    clear hcl m1 m2 l1 l2
    go_enter Try.func4, Try.ntmps4
    go_wp2_with fail
    refine HS.out.mono ?_
    rintro e w1 ⟨rfl, b1⟩
    have HB1 := Lib.hid b1
    clear b1 HS
    go_wp2
    go_ret
    exact ⟨rfl, HB1.out⟩
  · have hl2 : ¬ (100 : Int) < (l.length : Int) := by omega
    have HOk1 := Lib.hid (WOk.new m1 m2 l1 l2)
    have HCl : Hid (∀ (j : Nat) (x : Int), l[j]? = some x → (∃ ad : Addr, A = some ad ∧ ad.block < w.heap.size ∧ w.cell? (ad.add j) = some (.int .i64 x)) ∧ isInt x) := fun j x hx => ⟨hcl j x hx, hint x (List.mem_of_getElem? hx)⟩
    have HLl : Hid (1 ≤ lim ∧ lim ≤ 100) := ⟨l1, l2⟩
    clear hcl m1 m2 l1 l2 hint HIv
    go_enter Try.func4, Try.ntmps4
    go_wp2_with fail
    refine HS.out.mono ?_
    rintro e w1 ⟨rfl, b1⟩
    have HB1 := Lib.hid b1
    clear b1 HS
    go_wp2_with fail
    refine (HN.out _).mono ?_
    rintro e w2 ⟨v2, rfl, r2, b2⟩
    obtain ⟨q2, c2, W2, u1, u2, x1, rfl, k0, ⟨k1, k2, k3⟩, ⟨k4, k5, k6⟩, ⟨k7, k8, k9⟩, h1, B3, _⟩ := HAt.fresh (w := w) (me := me) (lim := lim) r2 (HB1.out.trans (b2.mono HB1.out.size))
    have HB3 := Lib.hid B3
    have H1 := Lib.hid h1
    have hlow : w.heap.size ≤ w2.heap.size := (HB1.out.trans (b2.mono HB1.out.size)).size
    clear HN HB1 b2 r2 B3 h1
    go_wp2_with fail
    refine (HR.out _).mono ?_
    rintro e w4 ⟨d, vh, rfl, hd, b4⟩
    clear k0 k1 k2 k3 k4 k5 k6 k7 k8 k9
    have HT : Hid (Two w w4 w2.heap.size d (.slice (some ⟨q2, 0, none⟩) 8 c2) vh me lim 0 (List.replicate 8 (-1)) (newL me lim)) := by
      refine ⟨H1.out.below b4, ⟨Nat.le_trans HB3.out.size hd.low, hd.blk, own_base hd.row HB3.out.size⟩, fun q e1 e2 => ?_, HB3.out.trans (b4.mono HB3.out.size), hlow, HOk1.out, HOk.new, Says.new⟩
      have k1 := (H1.out.row.lt q e1).2
      have k2 := (hd.row.lt q e2).1
      omega
    obtain ⟨z0, z1, z2, _, _, _⟩ := cells3 HT.out.a.blk
    clear HB3 H1 hlow hd b4 HR
    go_wp2
    clear z0 z1 z2
    generalize w2.heap.size = g at *
    go_loopg [12] l.length (fun k v12 wr => TellGo w g d me lim l.length k v12 wr)
    case atStart => exact ⟨0, _, _, 0, _, _, by omega, rfl, by omega, HT.out⟩
    case round =>
      obtain ⟨i, v, vh, now, H, L, hk, rfl, hnow, hT⟩ := hrel
      by_cases hi : i < l.length
      · obtain ⟨x, hx⟩ : ∃ x, l[i]? = some x := ⟨_, List.getElem?_eq_getElem hi⟩
        obtain ⟨⟨ad, rfl, hb0, hcx⟩, hxi⟩ := HCl.out i x hx
        have i1 : (i : Int) < (l.length : Int) := by omega
        have i2 : (0 : Int) ≤ (i : Int) := by omega
        have HM := Lib.hid (show l.length - (i + 1) < gk by omega)
        have HK := Lib.hid (show l.length - (i + 1) + (i + 1) = l.length by omega)
        have HNow := Lib.hid (show now < 1000 ∧ now + 1 ≤ ((i + 1 : Nat) : Int) by omega)
        obtain ⟨qv, cv, rfl, _⟩ := own_eight hT.a.row
        have c1 : wr.cell? (ad.add i) = some (.int .i64 x) := (hT.below.cell (p := ad.add i) (by rw [addr_block]; exact hb0)).trans hcx
        have HXi := Lib.hid hxi
        have HAd := Lib.hid (And.intro hb0 hcx)
        have H0 := Lib.hid hT
        obtain ⟨z0, z1, z2, _, _, _⟩ := cells3 hT.a.blk
        -- what both say behind the act
        have HRest : Hid (∀ (V : World) (v' vh' : Value) (now' : Int) (H' L' : List Int), now' ≤ ((i + 1 : Nat) : Int) → Two w V g d v' vh' me lim now' H' L' → TellGo w g d me lim l.length (l.length - (i + 1)) (.int .i64 ((i + 1 : Nat) : Int)) V) := fun V v' vh' now' H' L' q1 q2 => ⟨i + 1, v', vh', now', H', L', HK.out, rfl, q1, q2⟩
        clear hT hk hx hnow hxi hb0 hcx
        by_cases hx0 : x = 0
        · subst hx0
          have HC := Lib.hid (H0.out.a.tick H0.out.ok)
          go_wp2_with fail
          refine HC.out.mono ?_
          rintro e w5 ⟨v5, rfl, r5, b5⟩
          have r5' : w5.ownsRow wr.heap.size 3 1 v5 8 (ints (tickL me lim L)) := r5
          obtain ⟨q5, c5, u1, u2, u3, rfl, ⟨k1, k2, k3⟩, ⟨k4, k5, k6⟩, ⟨k7, k8, k9⟩, ha, hd, hn, hB⟩ := H0.out.put b5 r5'
          obtain ⟨_, _, d2, _, f2, _⟩ := hd.cells
          have jwn : IntKind.i64.wrap (now + 1) = now + 1 := by rw [IntKind.wrap_i64]; have h1 := HNow.out.1; have h2 := H0.out.hok.pos; omega
          obtain ⟨u4, hu4⟩ : ∃ u4, u3.setCell ⟨d, 2, none⟩ (.int .i64 (now + 1)) = u4 := ⟨_, rfl⟩
          have HT5 : Hid (Two w u4 g d (.slice (some ⟨q5, 0, none⟩) 8 c5) vh me lim (now + 1) H (tickL me lim L)) := by
            rw [← hu4]
            exact Two.ticked ha hn hB H0.out.low H0.out.ok H0.out.hok HNow.out.1 H0.out.says hd
          clear r5 r5' b5 ha hd hn hB HC z0 z1 z2
          obtain ⟨z0, z1, z2, _, _, _⟩ := cells3 HT5.out.a.blk
          have HC := Lib.hid (HT5.out.a.there HT5.out.ok)
          go_wp2_with fail
          clear k1 k2 k3 k4 k5 k6 k7 k8 k9 d2 f2 hu4 z0 z1 z2
          refine HC.out.mono ?_
          rintro e w6 ⟨v6, rfl, r6, b6⟩
          have HT6 := Lib.hid (HT5.out.step b6)
          have HC := Lib.hid (RThere_calls HT6.out.d HT6.out.hok HLl.out)
          have HR6 := Lib.hid r6
          clear b6 r6
          go_wp2_with fail
          refine HC.out.mono ?_
          rintro e w7 ⟨v7, rfl, r7, b7⟩
          rw [HT5.out.quiet] at r7
          have HT7 := Lib.hid (HT6.out.step b7)
          have hsame := same_calls _ _ v6 v7 w7 ((IRow.of_own HR6.out).below b7) (IRow.of_own r7) (by have := thereL_len lim (tickL me lim L); omega)
          rw [decide_eq_true (rfl : thereL lim (tickL me lim L) = thereL lim (tickL me lim L))] at hsame
          have HC := Lib.hid hsame
          clear r7 b7 hsame
          go_wp2_with fail
          refine HC.out.mono ?_
          rintro e w8 ⟨rfl, b8⟩
          have HT8 := Lib.hid (HT7.out.step b8)
          clear b8 HC HT7 HR6
          go_wp2
          go_loopg [13] 8 (fun k v13 wr => TellIn w g d (.slice (some ⟨q5, 0, none⟩) 8 c5) vh me lim (now + 1) H (tickL me lim L) k v13 wr)
          case atStart => exact ⟨0, rfl, rfl, HT8.out⟩
          case round =>
            obtain ⟨j, hk, rfl, hT⟩ := hrel
            have HK2 := Lib.hid hk
            by_cases hj : j < 8
            · obtain ⟨z0, z1, z2, _, _, _⟩ := cells3 hT.a.blk
              have hcq := (own_cell hT.a.row hj hT.ok.len).1
              have hsj := hT.says j hj
              obtain ⟨y, hy⟩ : ∃ y, ((tickL me lim L)).getD j 0 = y := ⟨_, rfl⟩
              rw [hy] at hcq hsj
              have HY := Lib.hid hsj
              have j1 : (j : Int) + 1 ≤ 8 := by omega
              have j2 : (0 : Int) ≤ (j : Int) := by omega
              have j3 : (j : Int) < 8 := by omega
              have jw : IntKind.i64.wrap ((j : Int) + 1 - 1) = (j : Int) := by rw [IntKind.wrap_i64]; omega
              have jw2 : IntKind.i64.wrap (j : Int) = (j : Int) := by rw [IntKind.wrap_i64]; omega
              have HQ : Hid (∀ V : World, Below wr.heap.size wr V → Calls Try.prog 28 #[.pointer (some ⟨d, 0, none⟩), .int .i64 ((j : Int) + 1)] V fun e w' => e = .returned (.int .i64 y) ∧ w'.cell? ⟨g, 2, none⟩ = some (.slice (some ⟨q5, 0, none⟩) 8 c5) ∧ w'.cell? ⟨q5, j, none⟩ = some (.int .i64 y) ∧ Below wr.heap.size wr w') := fun V hV => by
                have hTV := hT.step hV
                refine (RQuiet_calls hTV.d hTV.hok HLl.out j hj).mono ?_
                rintro e w' ⟨rfl, b⟩
                have hTW := hTV.step b
                refine ⟨by rw [HY.out], (cells3 hTW.a.blk).2.2.1, ?_, hV.trans (b.mono hV.size)⟩
                rw [(own_cell hTW.a.row hj hTW.ok.len).1, hy]
              have HM2 := Lib.hid (show 8 - (j + 1) < gk by omega)
              have HF : Hid (∀ V, Below wr.heap.size wr V → TellIn w g d (.slice (some ⟨q5, 0, none⟩) 8 c5) vh me lim (now + 1) H (tickL me lim L) (8 - (j + 1)) (.int .i64 ((j : Int) + 1 + 1)) V) := fun V hV => ⟨j + 1, by omega, by simp, hT.step hV⟩
              have hbl : Below wr.heap.size wr wr.drew := (Below.refl _ _).drew
              clear hT hsj hy hk HT8
              go_wp2
              go_region_held3 (fun w' => w'.cell? ⟨g, 2, none⟩ = some (.slice (some ⟨q5, 0, none⟩) 8 c5) ∧ w'.cell? ⟨q5, j, none⟩ = some (.int .i64 y) ∧ Below wr.heap.size wr w') ((first | exact ⟨z2, hcq, hbl⟩ | (go_split_ands; refine ⟨?_, ?_, ?_⟩ <;> assumption)))
                ((go_at_call 28; refine (HQ.out _ (by first | exact hbl | assumption)).mono ?_; rintro e w9 ⟨rfl, f9, f10, b9⟩))
              have HF2 := Lib.hid (HF.out _ b9)
              clear b9 f9 f10 hbl HF
              go_wp2
              go_roundg (8 - (j + 1))
              case measure => exact HM2.out
              case rel => simpa using HF2.out
            · obtain rfl : j = 8 := by omega
              have HF := Lib.hid (HRest.out _ _ _ _ _ _ HNow.out.2 hT)
              clear hT hk HT8
              go_wp2
              go_roundg (l.length - (i + 1))
              case measure => exact HM.out
              case rel => simpa using HF.out
        · have hx1 : (x == 0) = false := by rw [beq_eq_false_iff_ne]; exact hx0
          have HD0 := Lib.hid (H0.out.step (Below.refl _ _).drew)
          have HC := Lib.hid (HD0.out.a.hear HD0.out.ok x HXi.out)
          obtain ⟨y0, y1, y2, _, _, _⟩ := cells3 HD0.out.a.blk
          have c2' : wr.drew.cell? (ad.add i) = some (.int .i64 x) := c1
          go_wp2
          go_region_law (go_simp; go_at_call 23; refine HC.out.mono ?_; rintro e w5 ⟨v5, rfl, r5, b5⟩; obtain ⟨q5, c5, u1, u2, u3, rfl, ⟨k1, k2, k3⟩, ⟨k4, k5, k6⟩, ⟨k7, k8, k9⟩, ha, hd, hn, hB⟩ := HD0.out.put b5 (show w5.ownsRow wr.drew.heap.size 3 1 v5 8 (ints (hearL L x)) from r5); have HA := Lib.hid (And.intro ha (And.intro hd (And.intro hn hB))); clear ha hd hn hB r5 b5)
          all_goals
            clear k1 k2 k3 k4 k5 k6 k7 k8 k9 y0 y1 y2 z0 z1 z2 HC c2' c1
            have c3' : u3.cell? (ad.add i) = some (.int .i64 x) := (HA.out.2.2.2.cell (p := ad.add i) (by rw [addr_block]; exact HAd.out.1)).trans HAd.out.2
            have HC := Lib.hid (RHear_calls HA.out.2.1 H0.out.hok.len x HXi.out)
            go_wp2_with fail
            refine HC.out.mono ?_
            rintro e w10 ⟨rfl, g1, g2⟩
            have HT5 : Hid (Two w w10 g d (.slice (some ⟨q5, 0, none⟩) 8 c5) vh me lim now (hearD now H x) (hearL L x)) := Two.heard HA.out.1 HA.out.2.2.1 HA.out.2.2.2 H0.out.low H0.out.ok H0.out.hok H0.out.says HA.out.2.1 g1 g2
            clear g1 g2 HC HA c3'
            obtain ⟨z0, z1, z2, _, _, _⟩ := cells3 HT5.out.a.blk
            have HC := Lib.hid (HT5.out.a.there HT5.out.ok)
            go_wp2_with fail
            refine HC.out.mono ?_
            rintro e w6 ⟨v6, rfl, r6, b6⟩
            have HT6 := Lib.hid (HT5.out.step b6)
            have HC := Lib.hid (RThere_calls HT6.out.d HT6.out.hok HLl.out)
            have HR6 := Lib.hid r6
            clear b6 r6
            go_wp2_with fail
            refine HC.out.mono ?_
            rintro e w7 ⟨v7, rfl, r7, b7⟩
            rw [HT5.out.quiet] at r7
            have HT7 := Lib.hid (HT6.out.step b7)
            have hsame := same_calls _ _ v6 v7 w7 ((IRow.of_own HR6.out).below b7) (IRow.of_own r7) (by have := thereL_len lim (hearL L x); omega)
            rw [decide_eq_true (rfl : thereL lim (hearL L x) = thereL lim (hearL L x))] at hsame
            have HC := Lib.hid hsame
            clear r7 b7 hsame z0 z1 z2
            go_wp2_with fail
            refine HC.out.mono ?_
            rintro e w8 ⟨rfl, b8⟩
            have HT8 := Lib.hid (HT7.out.step b8)
            clear b8 HC HT7 HR6
            go_wp2
            go_loopg [13] 8 (fun k v13 wr => TellIn w g d (.slice (some ⟨q5, 0, none⟩) 8 c5) vh me lim now (hearD now H x) (hearL L x) k v13 wr)
            case atStart => exact ⟨0, rfl, rfl, HT8.out⟩
            case round =>
              obtain ⟨j, hk, rfl, hT⟩ := hrel
              have HK2 := Lib.hid hk
              by_cases hj : j < 8
              · obtain ⟨z0, z1, z2, _, _, _⟩ := cells3 hT.a.blk
                have hcq := (own_cell hT.a.row hj hT.ok.len).1
                have hsj := hT.says j hj
                obtain ⟨y, hy⟩ : ∃ y, ((hearL L x)).getD j 0 = y := ⟨_, rfl⟩
                rw [hy] at hcq hsj
                have HY := Lib.hid hsj
                have j1 : (j : Int) + 1 ≤ 8 := by omega
                have j2 : (0 : Int) ≤ (j : Int) := by omega
                have j3 : (j : Int) < 8 := by omega
                have jw : IntKind.i64.wrap ((j : Int) + 1 - 1) = (j : Int) := by rw [IntKind.wrap_i64]; omega
                have jw2 : IntKind.i64.wrap (j : Int) = (j : Int) := by rw [IntKind.wrap_i64]; omega
                have HQ : Hid (∀ V : World, Below wr.heap.size wr V → Calls Try.prog 28 #[.pointer (some ⟨d, 0, none⟩), .int .i64 ((j : Int) + 1)] V fun e w' => e = .returned (.int .i64 y) ∧ w'.cell? ⟨g, 2, none⟩ = some (.slice (some ⟨q5, 0, none⟩) 8 c5) ∧ w'.cell? ⟨q5, j, none⟩ = some (.int .i64 y) ∧ Below wr.heap.size wr w') := fun V hV => by
                  have hTV := hT.step hV
                  refine (RQuiet_calls hTV.d hTV.hok HLl.out j hj).mono ?_
                  rintro e w' ⟨rfl, b⟩
                  have hTW := hTV.step b
                  refine ⟨by rw [HY.out], (cells3 hTW.a.blk).2.2.1, ?_, hV.trans (b.mono hV.size)⟩
                  rw [(own_cell hTW.a.row hj hTW.ok.len).1, hy]
                have HM2 := Lib.hid (show 8 - (j + 1) < gk by omega)
                have HF : Hid (∀ V, Below wr.heap.size wr V → TellIn w g d (.slice (some ⟨q5, 0, none⟩) 8 c5) vh me lim now (hearD now H x) (hearL L x) (8 - (j + 1)) (.int .i64 ((j : Int) + 1 + 1)) V) := fun V hV => ⟨j + 1, by omega, by simp, hT.step hV⟩
                have hbl : Below wr.heap.size wr wr.drew := (Below.refl _ _).drew
                clear hT hsj hy hk HT8
                go_wp2
                go_region_held3 (fun w' => w'.cell? ⟨g, 2, none⟩ = some (.slice (some ⟨q5, 0, none⟩) 8 c5) ∧ w'.cell? ⟨q5, j, none⟩ = some (.int .i64 y) ∧ Below wr.heap.size wr w') ((first | exact ⟨z2, hcq, hbl⟩ | (go_split_ands; refine ⟨?_, ?_, ?_⟩ <;> assumption)))
                  ((go_at_call 28; refine (HQ.out _ (by first | exact hbl | assumption)).mono ?_; rintro e w9 ⟨rfl, f9, f10, b9⟩))
                have HF2 := Lib.hid (HF.out _ b9)
                clear b9 f9 f10 hbl HF
                go_wp2
                go_roundg (8 - (j + 1))
                case measure => exact HM2.out
                case rel => simpa using HF2.out
              · obtain rfl : j = 8 := by omega
                have HF := Lib.hid (HRest.out _ _ _ _ _ _ (by have := HNow.out.2; omega) hT)
                clear hT hk HT8
                go_wp2
                go_roundg (l.length - (i + 1))
                case measure => exact HM.out
                case rel => simpa using HF.out
      · obtain rfl : i = l.length := by omega
        have i1 : ¬ ((l.length : Int) < (l.length : Int)) := by omega
        have HF := Lib.hid hT.below
        clear hT hk hi hnow
        go_wp2
        go_ret
        exact ⟨rfl, HF.out⟩
theorem tells_all (me lim : Int) (v : Value) (l : List Int) (w : World) (hI : IRow w v l) (hlen : l.length ≤ maxLen) (hint : ∀ x ∈ l, isInt x) : Calls Try.prog 4 #[.int .i64 me, .int .i64 lim, v] w (L5.One w (.bool true)) := by
  by_cases h : me < 1 ∨ 8 < me ∨ lim < 1 ∨ 100 < lim
  · exact tells_out me lim v l w hI hlen h
  · exact tells_in me lim v l w hI hlen hint (by omega) (by omega) (by omega) (by omega)
end Go.Proofs.Ytildapcdkipakaa.L9
