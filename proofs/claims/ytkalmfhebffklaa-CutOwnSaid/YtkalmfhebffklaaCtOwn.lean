/- The law CutOwn: for all rows of ints, and any int, it returns true. -/
import Derived.Test.YtkalmfhebffklaaCtFacts
import Derived.Deep.RegionHeld3
namespace Go.Proofs.Ytkalmfhebffklaa.L11
open Go.ChangeShapes Go.WideShapes Go.ChangeAt Go.RowKit Go.Deep

/-- While one looks at them one by one. -/
def OwnGo (w8 : World) (n k : Nat) (vi : Value) (wr : World) : Prop := ∃ i : Nat, k + i = n ∧ vi = .int .i64 i ∧ Below w8.heap.size w8 wr
theorem core_at {ps : List Pt} {cs : List Core} (h : ps.map Pt.core = cs) {i : Nat} {c : Core} (hc : cs[i]? = some c) : ∃ p, ps[i]? = some p ∧ p.core = c := by
  subst h
  rw [List.getElem?_map, Option.map_eq_some_iff] at hc
  exact hc
theorem lcore_at {ps : List Lg} {cs : List LCore} (h : ps.map Lg.core = cs) {i : Nat} {c : LCore} (hc : cs[i]? = some c) : ∃ p, ps[i]? = some p ∧ p.core = c := by
  subst h
  rw [List.getElem?_map, Option.map_eq_some_iff] at hc
  exact hc
set_option maxRecDepth 100000 in
set_option maxHeartbeats 8000000 in
theorem own_calls {v : Value} {xs : List Int} {ep : Int} (hx : isInt ep) (w : World) (h : IntsI w v xs) : Calls Try.prog 7 #[v, .int .i64 ep] w (One w (.bool true)) := by
  have HS := Lib.hid (shown_calls w)
  obtain ⟨⟨A, c, rfl, hr⟩, hf⟩ := id h
  unfold maxLen at hf
  by_cases h20 : 20 < xs.length
  · have j1 : (20 : Int) < (xs.length : Int) := by omega
    clear h hr
    go_enter Try.func7, Try.ntmps7
    go_wp2_with fail
    refine HS.out.mono ?_
    rintro e w1 ⟨rfl, b1⟩
    have HB := Lib.hid b1
    clear b1
    go_wp2
    go_ret
    exact ⟨rfl, HB.out⟩
  have j1 : ¬ (20 : Int) < (xs.length : Int) := by omega
  have HI := Lib.hid h
  have HPk := Lib.hid (fun V => pick_is hx (n := 100) (by omega) (by omega) V)
  have hpk := pickN_lt ep (n := 100) (by omega)
  generalize pickN ep 100 = p at *
  obtain ⟨lc, hlc⟩ : ∃ lc, rowsC (nOf xs) 3 = lc := ⟨_, rfl⟩
  have hris : RisingC lc := by rw [← hlc]; exact rowsC_rising _ _
  have hlen : lc.length ≤ 3 := by rw [← hlc]; exact rowsC_len _ _
  have HRow : Hid (∀ V, Below w.heap.size w V → Calls Try.prog 33 #[.slice A xs.length c] V (LogsOut V lc)) := fun V hV => by rw [← hlc]; exact rows_calls V (h.below hV)
  have hits : ∀ c ∈ lc, c.2.length ≤ 5 := fun c hc => by
    rw [← hlc] at hc
    obtain ⟨s, _, _, _, rfl⟩ := rowsC_mem hc
    rw [numsL_len]
    unfold nOf
    split
    · have := pickN_lt (xs.getD (s - 1) 0) (n := 6) (by omega); omega
    · omega
  have HRi := Lib.hid hris
  have HIt := Lib.hid hits
  clear h hr hx hlc hits hris
  go_enter Try.func7, Try.ntmps7
  go_wp2_with fail
  refine HS.out.mono ?_
  rintro e w1 ⟨rfl, b1⟩
  have HB1 := Lib.hid b1
  clear b1 HS
  go_wp2_with fail
  refine (HPk.out _).mono ?_
  rintro e w2 ⟨rfl, rfl⟩
  obtain ⟨W2, hW2⟩ : ∃ W2, w1.alloc (.cells #[.int .i64 p, .int .i64 1] 55) = W2 := ⟨_, rfl⟩
  obtain ⟨p2, b2, s2⟩ := box_new hW2
  have hB2 : Below w.heap.size w W2 := HB1.out.trans (b2.mono HB1.out.size)
  have HB2 := Lib.hid hB2
  have HR2 := Lib.hid (HRow.out W2 hB2)
  have HP2 := Lib.hid p2
  clear p2 b2 s2 hB2 HRow HB1 HPk
  go_wp2_with fail
  refine HR2.out.mono ?_
  rintro e w3 ⟨v3, ls, rfl, hls, hL, b3⟩
  obtain ⟨A3, c3, rfl, _, _⟩ := hL.get
  have q3 := (b3.block _ (Array.getElem?_eq_some_iff.1 HP2.out).1).trans HP2.out
  have hll : ls.length = lc.length := by rw [← hls, List.length_map]
  obtain ⟨W4, hW4⟩ : ∃ W4, w3.alloc (.cells #[.int .i64 2, .int .i64 p, .int .i64 1, .slice A3 ls.length c3] 73) = W4 := ⟨_, rfl⟩
  obtain ⟨p4, b4, s4⟩ := box_new hW4
  have c0 : w3.cell? ⟨w1.heap.size, 0, none⟩ = some (.int .i64 p) := box_cell q3 0
  have c1 : w3.cell? ⟨w1.heap.size, 1, none⟩ = some (.int .i64 1) := box_cell q3 1
  have hi1 := isInt_small 1 (by omega)
  have hip := isInt_small p (by omega)
  have hR : RepsA W4 (.slice (some ⟨w3.heap.size, 0, none⟩) 1 1) [⟨2, p, 1, .slice A3 ls.length c3, ls⟩] := by
    refine RepsA.of_block [_] p4 rfl (by simp [maxLen]) (fun r hr => ?_)
    simp at hr
    subst hr
    exact ⟨hL.below b4, hip, hi1⟩
  have hcp := cut_one (r := ⟨2, p, 1, .slice A3 ls.length c3, ls⟩) hls HRi.out
  simp only at hcp
  have hcut := cut_calls W4 hR (by simp [ptsOf]; omega) (fun x hx => by
    have : x.core ∈ (cutP [⟨2, p, 1, .slice A3 ls.length c3, ls⟩]).map Pt.core := List.mem_map.2 ⟨x, hx, rfl⟩
    rw [hcp] at this
    obtain ⟨d, hd, e⟩ := List.mem_map.1 this
    have := HIt.out d hd
    have e2 : d.2 = x.it.l := congrArg (fun c : Core => c.2.2.2) e
    rw [← e2]; omega)
  rw [hcp] at hcut
  have HCut := Lib.hid hcut
  have HL4 := Lib.hid (hL.below b4)
  have HB4 : Hid (Below w.heap.size w W4) := (HB2.out.trans (b3.mono HB2.out.size)).trans (b4.mono (Nat.le_trans HB2.out.size b3.size))
  have HQ4 := Lib.hid ((b4.block _ (Array.getElem?_eq_some_iff.1 q3).1).trans q3)
  rw [hll] at HL4
  rw [hll] at hW4
  clear hcp hcut hR hL b3 q3 p4 b4 s4 HR2 HP2 HB2
  rw [hll]
  go_wp2_with fail
  refine HCut.out.mono ?_
  rintro e w5 ⟨v5, ps, rfl, hps, hP, b5⟩
  obtain ⟨A5, c5, rfl, _, _⟩ := hP.get
  have hpl : ps.length = lc.length := by have := congrArg List.length hps; simpa using this
  rw [hpl]
  rw [hpl] at hP
  have hitp : ∀ x ∈ ps, x.it.l.length ≤ 4000000000 := fun x hx => by
    have : x.core ∈ ps.map Pt.core := List.mem_map.2 ⟨x, hx, rfl⟩
    rw [hps] at this
    obtain ⟨d, hd, e⟩ := List.mem_map.1 this
    have := HIt.out d hd
    have e2 : d.2 = x.it.l := congrArg (fun c : Core => c.2.2.2) e
    rw [← e2]; omega
  have HAll : Hid (∀ V, Below w5.heap.size w5 V → PartsA V (.slice A5 lc.length c5) ps ∧ LogsA V (.slice A3 lc.length c3) ls ∧ V.cell? ⟨w1.heap.size, 0, none⟩ = some (.int .i64 p) ∧ V.cell? ⟨w1.heap.size, 1, none⟩ = some (.int .i64 1) ∧ Below w.heap.size w V) := fun V hV => by
    have b4V := b5.trans (hV.mono b5.size)
    have hq := (b4V.block _ (Array.getElem?_eq_some_iff.1 HQ4.out).1).trans HQ4.out
    exact ⟨hP.below hV, HL4.out.below b4V, box_cell hq 0, box_cell hq 1, HB4.out.trans (b4V.mono HB4.out.size)⟩
  have HM : Hid (∀ V u ks e' c', Below w5.heap.size w5 V → LogsA V u ks → ks.length ≤ 3 → Calls Try.prog 31 #[.slice A5 lc.length c5, .agg #[.int .i64 e', .int .i64 c'], u] V (LogsOut V (missC (lc.map (fun c => ((p : Int), (1 : Int), c.1, c.2))) e' c' (ks.map Lg.core)))) := fun V u ks e' c' hV hk hk3 => by
    have := miss_calls (ep := e') (co := c') V (HAll.out V hV).1 hk (by omega) (by omega) hitp
    rw [hps] at this
    exact this
  obtain ⟨_, l5, o0, o1, _⟩ := HAll.out w5 (Below.refl _ _)
  have HM1 := HM.out w5 _ ls p 1 (Below.refl _ _) l5 (by omega)
  rw [hls, miss_own HRi.out] at HM1
  have HM1 := Lib.hid HM1
  clear hP b5 HL4 HB4 HQ4 l5 HCut c0 c1
  go_wp2_with fail
  refine HM1.out.mono ?_
  rintro e w6 ⟨v6, ms, rfl, hm, hL6, b6⟩
  obtain rfl : ms = [] := by simpa using hm
  obtain ⟨A6, c6, rfl, _, _⟩ := hL6.get
  obtain ⟨_, _, o0, o1, _⟩ := HAll.out w6 b6
  have HM2 := HM.out w6 (.slice none 0 0) [] p 2 b6 (logs_none _ _) (by simp)
  rw [miss_other _ _ _ _ (by simp)] at HM2
  have HM2 := Lib.hid HM2
  have HB6 := Lib.hid b6
  clear hL6 hm b6 HM1
  go_wp2_with fail
  refine HM2.out.mono ?_
  rintro e w7 ⟨v7, ms, rfl, hm, hL7, b7⟩
  obtain rfl : ms = [] := by simpa using hm
  obtain ⟨A7, c7, rfl, _, _⟩ := hL7.get
  have b57 : Below w5.heap.size w5 w7 := HB6.out.trans (b7.mono HB6.out.size)
  obtain ⟨_, _, o0, o1, _⟩ := HAll.out w7 b57
  have HM3 := HM.out w7 (.slice none 0 0) [] p 1 b57 (logs_none _ _) (by simp)
  rw [show ([] : List Lg).map Lg.core = [] from rfl, miss_all HRi.out.2] at HM3
  have HM3 := Lib.hid HM3
  have HB7 := Lib.hid b57
  clear hL7 hm b7 b57 HM2 HM
  go_wp2_with fail
  refine HM3.out.mono ?_
  rintro e w8 ⟨v8, ms, rfl, hms, hL8, b8⟩
  obtain ⟨A8, c8, rfl, _, _⟩ := hL8.get
  have hml : ms.length = lc.length := by rw [← hms, List.length_map]
  rw [hml] at hL8 ⊢
  have HB8 : Hid (Below w5.heap.size w5 w8) := HB7.out.trans (b8.mono HB7.out.size)
  have HL8 := Lib.hid hL8
  clear hL8 b8 HM3 HB7 HB6
  go_wp2
  clear o0 o1 j1
  go_loopg [10] lc.length (fun k v10 wr => OwnGo w8 lc.length k v10 wr)
  case atStart => exact ⟨0, by omega, rfl, Below.refl _ _⟩
  case round =>
    obtain ⟨i, hk, rfl, hB⟩ := hrel
    by_cases hil : i < lc.length
    · obtain ⟨⟨s, its⟩, hx⟩ : ∃ c, lc[i]? = some c := ⟨_, List.getElem?_eq_getElem hil⟩
      have hgk := Lib.hid (show gk - 1 < gk by omega)
      have hk' := Lib.hid (show gk - 1 + (i + 1) = lc.length by omega)
      have j1 : (i : Int) < (lc.length : Int) := by omega
      have j2 : (0 : Int) ≤ (i : Int) := by omega
      have hits := HIt.out _ (List.mem_of_getElem? hx)
      simp only at hits
      obtain ⟨⟨ms0, ⟨ma, mk, ml⟩⟩, hm1, hm2⟩ := lcore_at hms hx
      obtain ⟨⟨ls0, ⟨la, lk, ll⟩⟩, hl1, hl2⟩ := lcore_at hls hx
      have hx' : (lc.map (fun c => ((p : Int), (1 : Int), c.1, c.2)))[i]? = some ((p : Int), (1 : Int), s, its) := by rw [List.getElem?_map, hx]; rfl
      obtain ⟨⟨pe, pc, ps0, ⟨pa, pk, pl⟩⟩, hp1, hp2⟩ := core_at hps hx'
      simp only [Lg.core, Pt.core, Prod.mk.injEq] at hm2 hl2 hp2
      obtain ⟨rfl, rfl⟩ := hm2
      obtain ⟨rfl, rfl⟩ := hl2
      obtain ⟨rfl, rfl, rfl, rfl⟩ := hp2
      obtain ⟨hP0, hL0, _, _, _⟩ := HAll.out w8 HB8.out
      obtain ⟨Am, cm, em, _, hmr⟩ := logs_read HL8.out
      obtain ⟨Al, cl, el, _, hlr⟩ := logs_read hL0
      obtain ⟨Ap, cp, ep', _, hpr⟩ := parts_read hP0
      rw [hml] at em
      rw [hll] at el
      rw [hpl] at ep'
      cases em
      cases el
      cases ep'
      obtain ⟨adm, rfl, him, _, hmc⟩ := hmr i _ hm1
      obtain ⟨adl, rfl, hil2, _, hlc⟩ := hlr i _ hl1
      obtain ⟨adp, rfl, hip2, _, hpc⟩ := hpr i _ hp1
      simp only [It.v] at hmc hlc hpc
      have HS : Hid (∀ V, Below w8.heap.size w8 V → (ItAt V ⟨ma, mk, pl⟩ ∧ ItAt V ⟨la, lk, pl⟩ ∧ Below w.heap.size w V) ∧
          V.cell? (adm.add (i * 2)) = some (.int .i64 ps0) ∧ V.cell? ⟨(adm.add (i * 2)).block, (adm.add (i * 2)).off + 1, none⟩ = some (.slice ma pl.length mk) ∧
          V.cell? (adl.add (i * 2)) = some (.int .i64 ps0) ∧ V.cell? ⟨(adl.add (i * 2)).block, (adl.add (i * 2)).off + 1, none⟩ = some (.slice la pl.length lk) ∧
          V.cell? (adp.add (i * 4)) = some (.int .i64 p) ∧ V.cell? ⟨(adp.add (i * 4)).block, (adp.add (i * 4)).off + 1, none⟩ = some (.int .i64 1) ∧ V.cell? ⟨(adp.add (i * 4)).block, (adp.add (i * 4)).off + 2, none⟩ = some (.int .i64 ps0) ∧
          V.cell? ⟨w1.heap.size, 0, none⟩ = some (.int .i64 p) ∧ V.cell? ⟨w1.heap.size, 1, none⟩ = some (.int .i64 1) ∧ Below w8.heap.size w8 V) := fun V hV => by
        obtain ⟨_, _, o0, o1, hbw⟩ := HAll.out V (HB8.out.trans (hV.mono HB8.out.size))
        exact ⟨⟨him.below hV, hil2.below hV, hbw⟩, (hmc V hV).1, (hmc V hV).2, (hlc V hV).1, (hlc V hV).2, (hpc V hV).1, (hpc V hV).2.1, (hpc V hV).2.2.1, o0, o1, hV⟩
      have K1 : Hid (∀ V, Below w8.heap.size w8 V → Calls Try.prog 28 #[.slice la pl.length lk] V fun e V' => ∃ A c, e = .returned (.slice A pl.length c) ∧ ItAt V' ⟨A, c, pl⟩ ∧ Below w8.heap.size w8 V') := fun V hV => by
        have := texts_calls ⟨la, lk, pl⟩ V (HS.out V hV).1.2.1 (by simp only; omega)
        simp only [It.v] at this
        refine this.mono ?_
        rintro e V' ⟨⟨A, c, l⟩, rfl, rfl, h3, _, h5⟩
        exact ⟨A, c, rfl, h3, hV.trans (h5.mono hV.size)⟩
      have K2 : Hid (∀ V A c, Below w8.heap.size w8 V → ItAt V ⟨A, c, pl⟩ → Calls Try.prog 18 #[.slice ma pl.length mk, .slice A pl.length c] V fun e V' => e = .returned (.bool true) ∧ Below w8.heap.size w8 V') := fun V A c hV hi => by
        have := same_calls ⟨ma, mk, pl⟩ ⟨A, c, pl⟩ V (HS.out V hV).1.1 hi
        simp only [It.v, decide_true] at this
        refine this.mono ?_
        rintro e V' ⟨rfl, h5⟩
        exact ⟨rfl, hV.trans (h5.mono hV.size)⟩
      have HNext : Hid (∀ V, Below w8.heap.size w8 V → OwnGo w8 lc.length (gk - 1) (.int .i64 ((i + 1 : Nat) : Int)) V) := fun V hV => ⟨i + 1, hk'.out, rfl, hV⟩
      have hD : Below w8.heap.size w8 wr.drew := hB.drew
      obtain ⟨_, t0, t1, t2, t3, t4, t5, t6, t7, t8, _⟩ := HS.out wr hB
      clear hk hx hx' hm1 hl1 hp1 hP0 hL0 hmr hlr hpr him hil2 hip2 hmc hlc hpc hil hB
      go_wp2_with fail
      go_region_held3 (fun V => V.cell? (adm.add (i * 2)) = some (.int .i64 ps0) ∧ V.cell? ⟨(adm.add (i * 2)).block, (adm.add (i * 2)).off + 1, none⟩ = some (.slice ma pl.length mk) ∧
          V.cell? (adl.add (i * 2)) = some (.int .i64 ps0) ∧ V.cell? ⟨(adl.add (i * 2)).block, (adl.add (i * 2)).off + 1, none⟩ = some (.slice la pl.length lk) ∧
          V.cell? (adp.add (i * 4)) = some (.int .i64 p) ∧ V.cell? ⟨(adp.add (i * 4)).block, (adp.add (i * 4)).off + 1, none⟩ = some (.int .i64 1) ∧ V.cell? ⟨(adp.add (i * 4)).block, (adp.add (i * 4)).off + 2, none⟩ = some (.int .i64 ps0) ∧
          V.cell? ⟨w1.heap.size, 0, none⟩ = some (.int .i64 p) ∧ V.cell? ⟨w1.heap.size, 1, none⟩ = some (.int .i64 1) ∧ Below w8.heap.size w8 V)
        (first | exact ⟨t0, t1, t2, t3, t4, t5, t6, t7, t8, hD⟩ | exact (HS.out _ (by assumption)).2) (first
          | (go_at_call 18; refine (K2.out _ _ _ d1 i1).mono ?_; rintro e' w2 ⟨rfl, d2⟩)
          | (go_at_call 28; refine (K1.out _ hD).mono ?_; rintro e' w1' ⟨a1, k1, rfl, i1, d1⟩))
      have HF := Lib.hid (HNext.out _ d2)
      clear t0 t1 t2 t3 t4 t5 t6 t7 t8 d1 d2 i1 hD K1 K2 HS HNext
      go_wp2
      go_roundg (gk - 1)
      case measure => exact hgk.out
      case rel => exact HF.out
    · have j1 : ¬ (i : Int) < (lc.length : Int) := by omega
      have HF : Hid (Below w.heap.size w wr) := (HAll.out wr (HB8.out.trans (hB.mono HB8.out.size))).2.2.2.2
      clear hk hB
      go_wp2
      go_ret
      exact ⟨rfl, HF.out⟩
end Go.Proofs.Ytkalmfhebffklaa.L11
