/- Contracts of watch.Tick and watch.There. -/
import Derived.Test.YtildapcdkipakaaWtHear
namespace Go.Proofs.Ytildapcdkipakaa.L9
open Go.ChangeShapes Go.WideShapes Go.ChangeAt Go.RowKit Go.Deep

theorem tickTo_low (me lim : Int) (L : List Int) {i j : Nat} (hij : i ≤ j) (hj : j < L.length) : (tickTo me lim L i).getD j 0 = L.getD j 0 := by
  rw [List.getD, tickTo_at me lim L hj i, Option.getD_some, if_neg (by omega)]
def TickGo (w : World) (me lim : Int) (v : Value) (L : List Int) (k : Nat) (v10 : Value) (wr : World) : Prop := ∃ i : Nat, k + i = 8 ∧ v10 = .int .i64 i ∧ Boxed w me lim v (tickTo me lim L i) wr
theorem Boxed.drew {w W : World} {me lim : Int} {v : Value} {L : List Int} (h : Boxed w me lim v L W) : Boxed w me lim v L W.drew := h.step (Below.drew (Below.refl _ W))
set_option maxRecDepth 100000 in
set_option maxHeartbeats 2000000 in
theorem Tick_calls (B : Nat) (me lim : Int) (v : Value) (L : List Int) (w : World) (h : WOk me lim L) (r : w.ownsRow B 3 1 v 8 (ints L)) :
    Calls Try.prog 22 #[.agg #[.int .i64 me, .int .i64 lim, v]] w (WOut w me lim (tickL me lim L)) := by
  have hl := h.len
  obtain ⟨W0, e0, h1, h2, hs, hb⟩ := two_boxed w me lim v
  obtain ⟨_, _, c2, _, _, f2⟩ := cells3 h1
  have HC : Hid (Calls Try.prog 41 #[v] W0 (OutRow W0 L)) := Clone_calls B v L W0 (by rw [hl]; exact L5.own_below r (hb)) (by omega) (by omega)
  have HST := Lib.hid (fun v1 w1 => @Boxed.start w W0 w1 me lim v v1 L h1 h2 hs hb hl)
  have HL := Lib.hid h
  clear h1 h2 hs hb r f2 h hl
  go_enter Try.func22, Try.ntmps22
  go_wp2_with fail
  refine HC.out.mono ?_
  rintro e w1 ⟨v1, rfl, hown, b1⟩
  obtain ⟨u, ⟨g1, g2, g3⟩, hu⟩ := HST.out v1 w1 hown b1
  obtain ⟨A1, k1, rfl, _⟩ := own_eight hu.row
  clear e0 c2 HST HC hown b1
  obtain ⟨x0, x1, x2, _, _, _⟩ := cells3 hu.box
  have HU := Lib.hid hu
  have HT := Lib.hid (told_calls (.int .i64 me) (.int .i64 lim) (some ⟨A1, 0, none⟩) k1 u)
  clear hu
  go_wp2_with fail
  refine HT.out.mono ?_
  rintro e w2 ⟨rfl, b2⟩
  have HV := Lib.hid (HU.out.step b2)
  clear g1 g2 g3 x0 x1 x2 HT HU b2
  go_wp2
  go_loopg [10] 8 (fun k v10 wr => TickGo w me lim (.slice (some ⟨A1, 0, none⟩) 8 k1) L k v10 wr)
  case atStart => exact ⟨0, rfl, rfl, HV.out⟩
  case round =>
    obtain ⟨i, hk, rfl, hv⟩ := hrel
    have hlT : (tickTo me lim L i).length = 8 := (tickTo_len me lim L i).trans HL.out.len
    by_cases hi : i < 8
    · have j1 : (i : Int) < 8 := by omega
      have j2 : (0 : Int) ≤ (i : Int) := by omega
      have hgd : (tickTo me lim L i).getD i 0 = L.getD i 0 := tickTo_low me lim L (Nat.le_refl _) (by rw [HL.out.len]; exact hi)
      obtain ⟨x0, x1, x2, _, _, _⟩ := cells3 hv.box
      have HM := Lib.hid (show 8 - (i + 1) < gk by omega)
      have HK := Lib.hid (show 8 - (i + 1) + (i + 1) = 8 by omega)
      by_cases hm : (i : Int) + 1 = me
      · have hstep : tickTo me lim L (i + 1) = tickTo me lim L i := by
          show (if (i : Int) + 1 = me then _ else _) = _
          rw [if_pos hm]
        have HF : Hid (TickGo w me lim (.slice (some ⟨A1, 0, none⟩) 8 k1) L (8 - (i + 1)) (.int .i64 ((i + 1 : Nat) : Int)) wr) := ⟨i + 1, HK.out, rfl, by rw [hstep]; exact hv⟩
        subst hm
        clear hv hk hgd hstep hlT
        go_wp2
        go_roundg (8 - (i + 1))
        case measure => exact HM.out
        case rel => simpa using HF.out
      · have j3 : ((i : Int) + 1 == me) = false := by rw [beq_eq_false_iff_ne]; exact hm
        obtain ⟨x, hx⟩ : ∃ x, L.getD i 0 = x := ⟨_, rfl⟩
        have hxb : 0 ≤ x ∧ x ≤ lim + 1 := by rw [← hx]; exact HL.out.all _ (getD_mem (by rw [HL.out.len]; exact hi))
        have hlb := HL.out.l2
        obtain ⟨y, hy⟩ : ∃ y, min x lim + 1 = y := ⟨_, rfl⟩
        have hstep : tickTo me lim L (i + 1) = (tickTo me lim L i).set i y := by
          show (if (i : Int) + 1 = me then _ else _) = _
          rw [if_neg hm, hx, hy]
        have hv2 := hv.drew
        obtain ⟨u, ⟨g1, g2, g3⟩, hu⟩ := hv2.store hlT hi y
        rw [hgd, hx] at g2
        subst g1
        obtain ⟨y0, y1, y2, _, _, _⟩ := cells3 hv2.box
        have HF : Hid (TickGo w me lim (.slice (some ⟨A1, 0, none⟩) 8 k1) L (8 - (i + 1)) (.int .i64 ((i + 1 : Nat) : Int)) (wr.setCell ⟨A1, i, none⟩ (.int .i64 y)).drew) := ⟨i + 1, HK.out, rfl, by rw [hstep]; exact hu⟩
        by_cases hxl : x ≤ lim
        · obtain rfl : y = x + 1 := by omega
          have j4 : ¬ lim < x := by omega
          have jw : IntKind.i64.wrap (x + 1) = x + 1 := by rw [IntKind.wrap_i64]; omega
          clear hv hv2 hu hk hgd hstep hlT hx hxb hy hm
          go_wp2
          go_region_law (fail)
          all_goals
            go_wp2
            go_roundg (8 - (i + 1))
            case measure => exact HM.out
            case rel => simpa using HF.out
        · obtain rfl : y = lim + 1 := by omega
          have j4 : lim < x := by omega
          have jw : IntKind.i64.wrap (lim + 1) = lim + 1 := by rw [IntKind.wrap_i64]; omega
          clear hv hv2 hu hk hgd hstep hlT hx hxb hy hm
          go_wp2
          go_region_law (fail)
          all_goals
            go_wp2
            go_roundg (8 - (i + 1))
            case measure => exact HM.out
            case rel => simpa using HF.out
    · have j1 : ¬ (i : Int) < 8 := by omega
      obtain rfl : i = 8 := by omega
      obtain ⟨x0, x1, x2, _, _, _⟩ := cells3 hv.box
      obtain ⟨u1, u2, u3, ⟨m1, m2, m3⟩, ⟨m4, m5, m6⟩, ⟨m7, m8, m9⟩, hlast, hout⟩ := hv.ends
      have HLast := Lib.hid hlast
      have HF : Hid (WOut w me lim (tickL me lim L) (.returned (.agg #[.int .i64 me, .int .i64 lim, .slice (some ⟨A1, 0, none⟩) 8 k1])) u3) := hout
      clear hlast hout hv hk hlT
      go_wp2
      refine bodyPost_ret (results_cell_row rfl _ _ (w.heap.size + 1) 55 _ (0, 0) _ rfl HLast.out Try.underlying55 rfl (by kernel_rfl)) rfl ?_
      exact HF.out
end Go.Proofs.Ytildapcdkipakaa.L9
