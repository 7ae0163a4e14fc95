/- Frames that another process signed, or that are meant for another one: what is read of them. LinkForged: what another process signed, or what is meant for another one, changes nothing. The statement LinkForged: for every input the law returns true, and its arguments read as they did. -/
import Derived.Test.YtiodphkmllcjdaaGreatLkDB
import Derived.Test.YtiodphkmllcjdaaGreatLkE
import Derived.Test.YtiodphkmllcjdaaGreatLkPl
import Derived.Deep.CutBlock
import Derived.Deep.DeepCutAuto
section
namespace Go.Proofs.YtiodphkmllcjdaaGreat.L7
open Go.ChangeShapes Go.WideShapes Go.ChangeAt Go.RowKit L6

/-- A small frame that another one signed, or that is meant for another one. -/
theorem forged_reads {p q kind n : Nat} {ts : List Bytes} (hp : 1 ≤ p) (hp8 : p ≤ 8) (h : Small q kind n ts) (hne : ¬ (p = 2 ∧ q = 1)) :
    ∃ t e, (fmsg q kind n ts).pack = (t, 0) ∧ Tm.Good 41 600 t ∧ (e = 6 ∨ e = 2) ∧ ReadsAs 1 2 (120 :: (privL p ++ t)) (.bad e) := by
  obtain ⟨t, h1, h2⟩ := h.pack
  by_cases hp2 : p = 2
  · subst hp2
    have hq : q ≠ 1 := fun e => hne ⟨rfl, e⟩
    have hc := check_yes hp hp8 h2
    refine ⟨t, 2, h1, h2, .inr rfl, .inr (.inl ?_)⟩
    rw [hc]
    refine ⟨rfl, fun m hm => ?_, rfl⟩
    rw [says_one hm (Msg.pack_says h1)]
    unfold forMe fmsg
    have : decide ([(q : Int)] = [((1 : Nat) : Int)]) = false := by rw [decide_eq_false_iff_not]; intro e; simp at e; omega
    simp only [this, Bool.false_and]
  · have hc := check_no (p := p) (q := 2) hp hp8 (by omega) (by omega) h2 hp2
    refine ⟨t, 6, h1, h2, .inl rfl, .inl ?_⟩
    rw [hc]
    exact ⟨by simp, rfl⟩
/-- What Take tells of it. -/
theorem forged_take {w : World} {x : Blk} {n : Nat} {s : St} {f : Bytes} {e : Nat} {er : Ending} {w' : World} (h : TakeOut w x n s f er w') (hm : s.me = 1) (hpe : s.peer = 2) (hr : ReadsAs 1 2 f (.bad e)) : TookOut w x n (([], [], e), s) er w' := by
  obtain ⟨r, h1, h2⟩ := h
  rw [hm, hpe] at h1
  have := reads_one h1 hr
  subst this
  exact h2
end Go.Proofs.YtiodphkmllcjdaaGreat.L7
end

section
namespace Go.Proofs.YtiodphkmllcjdaaGreat.L7
open Go.ChangeShapes Go.WideShapes Go.ChangeAt Go.RowKit L6

def ForgeGo (w : World) (B z : Nat) (x y : Blk) (gx gy n0 k : Nat) (v16 : Value) (wr : World) : Prop := ∃ i : Nat, k + i = n0 ∧ v16 = .int .i64 i ∧ Play w B z x y gx gy i (200 * i) wr
theorem eight {V : World} {g : Nat} {a0 a1 a2 a3 a4 a5 a6 a7 : Value} {t : TypeId} (h : V.heap[g]? = some (.cells #[a0, a1, a2, a3, a4, a5, a6, a7] t (0, 0))) : V.cell? ⟨g, 0, none⟩ = some a0 ∧ V.cell? ⟨g, 1, none⟩ = some a1 ∧ V.cell? ⟨g, 2, none⟩ = some a2 ∧ V.cell? ⟨g, 3, none⟩ = some a3 ∧ V.cell? ⟨g, 4, none⟩ = some a4 ∧ V.cell? ⟨g, 5, none⟩ = some a5 ∧ V.cell? ⟨g, 6, none⟩ = some a6 ∧ V.cell? ⟨g, 7, none⟩ = some a7 := by
  refine ⟨?_, ?_, ?_, ?_, ?_, ?_, ?_, ?_⟩ <;> (simp only [World.cell?]; rw [h]; rfl)
set_option maxRecDepth 100000 in
set_option maxHeartbeats 16000000 in
theorem forged_calls {A : Option Addr} {n0 c0 : Nat} (w : World) (hA : Acts w A n0) (hn : n0 ≤ maxLen) (fr dd nu ki nn : Int) (hfr : isInt fr) (hdd : isInt dd) (hnu : isInt nu) (hki : isInt ki) (hnn : isInt nn) : Calls Tryz.prog 4 #[.slice A n0 c0, .int .i64 fr, .int .i64 dd, .int .i64 nu, .int .i64 ki, .int .i64 nn] w (One w (.bool true)) := by
  have HSh := Lib.hid (shown_calls w)
  have HM := Lib.hid (fun V => made_calls V)
  have HA := Lib.hid hA
  have HPf := Lib.hid (fun V => pick_is hfr (n := 8) (by omega) (by omega) V)
  have HPd := Lib.hid (fun V => pick_is hdd (n := 8) (by omega) (by omega) V)
  have HPk := Lib.hid (fun V => pick_is hki (n := 2) (by omega) (by omega) V)
  have HPn := Lib.hid (fun V => pick_is hnu (n := 50) (by omega) (by omega) V)
  have HBo := Lib.hid (fun V => body_calls hnn V)
  have hpf := pickN_lt fr (n := 8) (by omega)
  have hpd := pickN_lt dd (n := 8) (by omega)
  have hpk := pickN_lt ki (n := 2) (by omega)
  have hpn := pickN_lt nu (n := 50) (by omega)
  have hsb := Lib.hid (small_body nn)
  generalize pickN fr 8 = pf at *
  generalize pickN dd 8 = pd at *
  generalize pickN ki 2 = pk at *
  generalize pickN nu 50 = pn at *
  generalize bodyL nn = bo at *
  unfold maxLen at hn
  clear hA hfr hdd hnu hki hnn
  go_enter Tryz.func4, Tryz.ntmps4
  go_wp2_with fail
  refine HSh.out.mono ?_
  rintro e w1 ⟨rfl, b1⟩
  have HB1 := Lib.hid b1
  have HM := Lib.hid (HM.out w1)
  clear b1 HSh
  go_wp2_with fail
  refine HM.out.mono ?_
  rintro e w2 ⟨b2, z, x, y, gx, gy, rfl, hb2⟩
  have HB2 := Lib.hid (HB1.out.trans (b2.mono HB1.out.size))
  have HP := Lib.hid hb2
  clear b2 hb2 HM
  have hws := HB1.out.size
  generalize w1.heap.size = B at *
  by_cases h120 : 60 < n0
  · have h120i : (60 : Int) < (n0 : Int) := by omega
    go_wp2
    go_ret
    exact ⟨rfl, HB2.out⟩
  have h120i : ¬ (60 : Int) < (n0 : Int) := by omega
  have h120n : n0 ≤ 60 := by omega
  have H0 : Hid (Play w B z x y gx gy 0 0 w2) := ⟨_, _, _, _, _, _, _, _, _, _, _, _, _, _, HP.out, alike_new, by simp, by simp, HB2.out⟩
  clear HP HB2 HB1 h120 hn
  go_wp2_with fail
  go_loopg [16] n0 (fun k v16 wr => ForgeGo w B z x y gx gy n0 k v16 wr)
  case atStart => exact ⟨0, by omega, rfl, H0.out⟩
  clear H0 h120i
  case round =>
    obtain ⟨i, hk, rfl, n, m, s, t, rx, ry, vox, vwx, voy, vwy, tos, fs, vt, vl, hb, hal, hfl, htos, hbw⟩ := hrel
    by_cases hi : i < n0
    · obtain ⟨ad, o0, o1, s2, rfl, hadb, ⟨ho0, ho1⟩, d0, d1, d2⟩ := HA.out i hi
      obtain ⟨txt, rfl⟩ : ∃ txt : Bytes, s2 = ⟨txt.toArray⟩ := ⟨s2.data.toList, by simp⟩
      have hlb : (ad.add (i * 3)).block < w.heap.size := by rw [addr_block]; exact hadb
      have c0 := (hbw.cell (p := ad.add (i * 3)) hlb).trans d0
      have c1 := (hbw.cell (p := ⟨(ad.add (i * 3)).block, (ad.add (i * 3)).off + 1, none⟩) hlb).trans d1
      have c2 := (hbw.cell (p := ⟨(ad.add (i * 3)).block, (ad.add (i * 3)).off + 2, none⟩) hlb).trans d2
      have s1 : (i : Int) < (n0 : Int) := by omega
      have s2 : (0 : Int) ≤ (i : Int) := by omega
      have HBw := Lib.hid hbw
      have hmm := Lib.hid (show gk - 1 < gk by omega)
      have hkk := Lib.hid (show (gk - 1) + (i + 1) = n0 by omega)
      generalize gk - 1 = ko at *
      have HPo := Lib.hid (pick_is ho0 (n := 13) (by omega) (by omega) wr)
      by_cases h12 : pickN o0 13 = 12
      · rw [h12] at HPo
        have HF : Hid (Play w B z x y gx gy (i + 1) (200 * (i + 1)) wr) := ⟨_, _, _, _, _, _, _, _, _, _, _, _, _, _, hb, hal.more (fun f h => h), by omega, htos, hbw⟩
        clear d0 d1 d2 hb hal htos hadb hlb hk HA ho0 ho1 HBw hbw
        go_wp2_with fail
        refine HPo.out.mono ?_
        rintro e w6 ⟨rfl, rfl⟩
        clear HPo
        go_wp2
        go_roundg ko
        case measure => exact hmm.out
        case rel => exact ⟨i + 1, hkk.out, by simp, HF.out⟩
      have HD := Lib.hid (does_all hb hal htos (by omega) (by omega) o0 o1 txt ho0 ho1 (fun h => absurd h h12))
      have p1 : ((pickN o0 13 : Nat) : Int) ≠ 12 := by omega
      generalize pickN o0 13 = o at *
      have p2 : ((o : Int) != 12) = true := by rw [bne_iff_ne]; exact p1
      clear d0 d1 d2 hb hal htos hadb hlb hk HA ho0 ho1 p1 h12
      go_wp2_with fail
      refine HPo.out.mono ?_
      rintro e w6 ⟨rfl, rfl⟩
      clear HPo
      go_wp2_with fail
      refine HD.out.mono ?_
      rintro e w3 ⟨rfl, b3, n', m', s', t', rx', ry', vox', vwx', voy', vwy', tos', fs', vt', vl', hb3, hal3, hfl3, htos3⟩
      have HF : Hid (Play w B z x y gx gy (i + 1) (200 * (i + 1)) w3) := ⟨_, _, _, _, _, _, _, _, _, _, _, _, _, _, hb3, hal3, by omega, htos3, hbw.trans (b3.mono hws)⟩
      clear b3 HD c0 c1 c2 HBw hbw hb3 hal3 hfl3 htos3
      go_wp2
      go_roundg ko
      case measure => exact hmm.out
      case rel => exact ⟨i + 1, hkk.out, by simp, HF.out⟩
    · have s1 : ¬ (i : Int) < (n0 : Int) := by omega
      have HBw := Lib.hid hbw
      have HX := Lib.hid hb
      have HAl := Lib.hid hal
      have hin : i ≤ n0 := by omega
      clear hb hal htos hk hbw HA
      go_wp2_with fail
      refine (HPf.out wr).mono ?_
      rintro e w5 ⟨rfl, rfl⟩
      go_wp2_with fail
      refine (HPd.out wr).mono ?_
      rintro e w5 ⟨rfl, rfl⟩
      clear HPf HPd
      have hq1 : Hid ((1 + (pd : Int)) = ((1 + pd : Nat) : Int)) := Lib.hid (by omega)
      have tri : (∃ p : Nat, 1 ≤ p ∧ p ≤ 8 ∧ ¬ (p = 2 ∧ 1 + pd = 1) ∧ (if pf = 1 ∧ pd = 0 then (3 : Int) else 1 + (pf : Int)) = (p : Int)) := by
        by_cases h : pf = 1 ∧ pd = 0
        · exact ⟨3, by omega, by omega, by omega, by rw [if_pos h]; rfl⟩
        · exact ⟨1 + pf, by omega, by omega, by omega, by rw [if_neg h]; omega⟩
      obtain ⟨p, hp1, hp8, hpq, hpe⟩ := tri
      have hcx : (pf = 1 ∧ pd = 0) ∨ (pf = 1 ∧ ¬ pd = 0) ∨ ¬ pf = 1 := by omega
      have HPv := Lib.hid (fun V => Private_calls (p : Int) (by omega) (by omega) V)
      have hpr : (⟨#[105, UInt8.ofNat ((p : Int)).toNat]⟩ : ByteArray) = ⟨(privL p).toArray⟩ := rfl
      rw [hpr, ← hpe] at HPv
      clear hpr
      have HWho := Lib.hid (And.intro (HAl.out.one.me.trans HAl.out.who.1) (HAl.out.one.peer.trans HAl.out.who.2))
      have HN1 := Lib.hid (show n < maxLen by have := HAl.out.n1; unfold maxLen; omega)
      have HLo := Lib.hid HX.out.lows.2.1
      have HBb := Lib.hid HX.out.base
      have h1q : 1 + pd ≤ 8 := by omega
      have hk2 : pk < 2 := hpk
      clear HAl hpf hpd hpk
      by_cases hc : pf = 1 ∧ pd = 0
      case' pos =>
        have g1 : ((1 + (pf : Int)) == 2) = true := by rw [beq_iff_eq]; omega
        have g2 : ((1 + (pd : Int)) == 1) = true := by rw [beq_iff_eq]; omega
        rw [if_pos hc] at HPv
        clear hc hpe hcx
      case' neg =>
        rw [if_neg hc] at HPv
        by_cases h1 : pf = 1
        case' pos =>
          have g1 : ((1 + (pf : Int)) == 2) = true := by rw [beq_iff_eq]; omega
          have g2 : ((1 + (pd : Int)) == 1) = false := by rw [beq_eq_false_iff_ne]; omega
        case' neg =>
          have g1 : ((1 + (pf : Int)) == 2) = false := by rw [beq_eq_false_iff_ne]; omega
        all_goals clear hc hpe hcx h1
      all_goals
        go_upto_region 12 with fail
        go_wp2_with fail
        refine (HPk.out wr).mono ?_
        rintro e w5 ⟨rfl, rfl⟩
        go_wp2_with fail
        refine (HPn.out wr).mono ?_
        rintro e w5 ⟨rfl, rfl⟩
        go_wp2_with fail
        refine (HBo.out _).mono ?_
        rintro e w5 ⟨rfl, b5⟩
        go_upto_region 15 with fail
        have n5 : wr.heap.size + 1 ≤ w5.heap.size := by have := b5.size; simpa using this
        have bW : Below wr.heap.size wr w5 := ((Below.refl _ wr).alloc (Nat.le_refl _) _).trans (b5.mono (by simp))
        have e1 : w5.heap[wr.heap.size]? = some (.cells #[.int .i64 (1 + (pd : Int))] 3 (0, 0)) := (b5.block _ (by simp)).trans (World.alloc_heap_new wr _)
        obtain ⟨U, hU⟩ : ∃ U, w5.alloc (.cells #[.string ⟨bo.toArray⟩] 9) = U := ⟨_, rfl⟩
        have bU : Below w5.heap.size w5 U := by rw [← hU]; exact (Below.refl _ w5).alloc (Nat.le_refl _) _
        have eU : U.heap[w5.heap.size]? = some (.cells #[.string ⟨bo.toArray⟩] 9 (0, 0)) := by rw [← hU]; exact World.alloc_heap_new w5 _
        have sU : U.heap.size = w5.heap.size + 1 := by rw [← hU]; simp
        rw [hU]
        rw [← sU]
        obtain ⟨V, hV⟩ : ∃ V, U.alloc (.cells #[.int .i64 (1 + (pk : Int)), .int .i64 0, .int .i64 0, .int .i64 0, .int .i64 0, .int .i64 pn, .slice (some ⟨wr.heap.size, 0, none⟩) 1 1, .slice (some ⟨w5.heap.size, 0, none⟩) 1 1] 52) = V := ⟨_, rfl⟩
        have bV : Below U.heap.size U V := by rw [← hV]; exact (Below.refl _ U).alloc (Nat.le_refl _) _
        have eV : V.heap[U.heap.size]? = some (.cells #[.int .i64 (1 + (pk : Int)), .int .i64 0, .int .i64 0, .int .i64 0, .int .i64 0, .int .i64 pn, .slice (some ⟨wr.heap.size, 0, none⟩) 1 1, .slice (some ⟨w5.heap.size, 0, none⟩) 1 1] 52 (0, 0)) := by rw [← hV]; exact World.alloc_heap_new U _
        rw [hV]
        have fV : V.frozen? ⟨U.heap.size, 7, none⟩ = false := by simp only [World.frozen?]; rw [eV]; rfl
        have bUV : Below wr.heap.size wr V := bW.trans ((bU.trans (bV.mono (by omega))).mono (by omega))
        have e1V := (bV.block _ (by omega)).trans ((bU.block _ (by omega)).trans e1)
        have i1 : IntsA V (.slice (some ⟨wr.heap.size, 0, none⟩) 1 1) [((1 + pd : Nat) : Int)] := by
          rw [← hq1.out]
          exact ints_one e1V (by omega) (by omega)
        have t1 : RowA V (.slice (some ⟨w5.heap.size, 0, none⟩) 1 1) [bo] := rowA_one ((bV.block _ (by omega)).trans eU) (by have := hsb.out.2; unfold maxLen; omega)
        have hUs : wr.heap.size + 2 ≤ U.heap.size := by omega
        clear hU hV b5 bU bV eU e1 bW sU n5
        have hq2 : Hid ((1 + (pk : Int)) = ((1 + pk : Nat) : Int)) := Lib.hid (by omega)
        by_cases h0 : pk = 0
        case' pos =>
          obtain ⟨y0, y1, y2, y3, y4, y5, y6, y7⟩ := eight eV
          have g3 : ((1 + (pk : Int)) == 2) = false := by rw [beq_eq_false_iff_ne]; omega
          obtain ⟨t, er, hpk4, hgt, her, hrd⟩ := forged_reads hp1 hp8 (⟨by omega, h1q, by omega, by omega, by intro x hx; simp at hx; subst hx; exact hsb.out, by simp⟩ : Small (1 + pd) (1 + pk) pn [bo]) hpq
          have HP4 := L4.pack4_calls (fmsg (1 + pd) (1 + pk) pn [bo]) (.slice (some ⟨wr.heap.size, 0, none⟩) 1 1) (.slice (some ⟨w5.heap.size, 0, none⟩) 1 1) V ⟨i1, t1⟩ (fun n c e => by cases e) (fun n c e => by cases e) (by simp [fmsg])
          rw [hpk4] at HP4
          have HP4 : Hid (Calls Tryz.prog 12 #[.agg #[.int .i64 (1 + (pk : Int)), .int .i64 0, .int .i64 0, .int .i64 0, .int .i64 0, .int .i64 pn, .slice (some ⟨wr.heap.size, 0, none⟩) 1 1, .slice (some ⟨w5.heap.size, 0, none⟩) 1 1]] V (Pair2 V (t, 0))) := by
            refine Lib.hid ?_
            rw [hq2.out]
            exact HP4
          have HBV := Lib.hid bUV
          clear hpk4 i1 t1 hpq h1q hk2 bUV eV fV h0 hq1 hq2 hUs
          go_upto_region 17 with fail
        case' neg =>
          obtain ⟨y0, y1, y2, y3, y4, y5, y6, y7⟩ := eight eV
          have g3 : ((1 + (pk : Int)) == 2) = true := by rw [beq_iff_eq]; omega
          obtain ⟨t, er, hpk4, hgt, her, hrd⟩ := forged_reads hp1 hp8 (⟨by omega, h1q, by omega, by omega, by intro x hx; simp at hx, by simp⟩ : Small (1 + pd) (1 + pk) pn []) hpq
          have eV2 := L4.set_blk (i := 7) eV (.slice none 0 0)
          have bV2 : Below wr.heap.size wr (V.setCell ⟨U.heap.size, 7, none⟩ (.slice none 0 0)) := bUV.setCell (by show wr.heap.size ≤ U.heap.size; omega) _
          have e1W : (V.setCell ⟨U.heap.size, 7, none⟩ (.slice none 0 0)).heap[wr.heap.size]? = _ := (RowKit.Below.heap_setCell _ _ _ _ (by show wr.heap.size ≠ U.heap.size; omega)).trans e1V
          obtain ⟨X, hX⟩ : ∃ X, V.setCell ⟨U.heap.size, 7, none⟩ (.slice none 0 0) = X := ⟨_, rfl⟩
          rw [hX] at eV2 bV2 e1W
          obtain ⟨x0, x1, x2, x3, x4, x5, x6, x7⟩ := eight eV2
          have HP4 := L4.pack4_calls (fmsg (1 + pd) (1 + pk) pn []) (.slice (some ⟨wr.heap.size, 0, none⟩) 1 1) (.slice none 0 0) X ⟨by show IntsA X _ [((1 + pd : Nat) : Int)]; rw [← hq1.out]; exact ints_one e1W (by omega) (by omega), rowA_nil X⟩ (fun n c e => by cases e) (fun n c e => by cases e; rfl) (by simp [fmsg])
          rw [hpk4] at HP4
          have HP4 : Hid (Calls Tryz.prog 12 #[.agg #[.int .i64 (1 + (pk : Int)), .int .i64 0, .int .i64 0, .int .i64 0, .int .i64 0, .int .i64 pn, .slice (some ⟨wr.heap.size, 0, none⟩) 1 1, .slice none 0 0]] X (Pair2 X (t, 0))) := by
            refine Lib.hid ?_
            rw [hq2.out]
            exact HP4
          have HBV := Lib.hid bV2
          clear hpk4 i1 t1 hpq h1q hk2 bUV eV h0 hq1 hq2 hUs eV2 e1V e1W bV2
          go_upto_region 17 with fail
        all_goals
          have HSg := Lib.hid (fun W => sign_fine (good_priv hp1 hp8) hgt W)
          obtain ⟨f, hf⟩ : ∃ f, 120 :: (privL p ++ t) = f := ⟨_, rfl⟩
          have hfl2 : f.length ≤ 20000 := by rw [← hf]; exact (sign_good (good_priv hp1 hp8) hgt).2.2.2
          rw [hf] at HSg hrd
          have HFl := Lib.hid hfl2
          have HRd := Lib.hid hrd
          generalize privL p = pv at *
          clear hf hfl2 hrd hgt hp8
          go_wp2_with fail
          refine HP4.out.mono ?_
          rintro e w7 ⟨rfl, b7⟩
          have HB7 := Lib.hid (HBV.out.trans (b7.mono HBV.out.size))
          clear b7 HP4 HBV
          go_wp2_with fail
          refine (HPv.out _).mono ?_
          rintro e w8 ⟨rfl, b8⟩
          have HB8 := Lib.hid (HB7.out.trans (b8.mono HB7.out.size))
          clear b8 HPv HB7
          go_wp2_with fail
          refine (HSg.out _).mono ?_
          rintro e w9 ⟨rfl, b9⟩
          have hB9 := HB8.out.trans (b9.mono HB8.out.size)
          have hX9 := HX.out.below hB9
          have HB9 := Lib.hid (HBw.out.trans (hB9.mono HBw.out.size))
          obtain ⟨z0, z1, z2, z3, z4, z5⟩ := hX9.cells
          unfold ptrAt at z0
          have HX9 := Lib.hid hX9
          have HOp := Lib.hid (open_calls hX9.one)
          have HSt := Lib.hid (state_calls hX9.one)
          clear b9 HSg HB8 hB9 hX9 z1 z2 z3 z4 z5 HX HBw
          go_wp2_with fail
          refine HOp.out.mono ?_
          rintro e w10 ⟨rfl, rfl⟩
          go_wp2_with fail
          refine HSt.out.mono ?_
          rintro e w10 ⟨rfl, md, rfl⟩
          have bD : Below w9.heap.size w9 (w9.drewN md) := L5.below_drewN (Below.refl _ _) _
          have hXA := HX9.out.below bD
          have HBA := Lib.hid (HB9.out.trans (bD.mono HB9.out.size))
          generalize w9.drewN md = wA at *
          obtain ⟨z0, z1, z2, z3, z4, z5⟩ := hXA.cells
          unfold ptrAt at z0
          have HTk := Lib.hid (take_calls hXA.one f (by have := HFl.out; unfold maxLen; omega) HN1.out)
          have HXA := Lib.hid hXA
          clear HX9 HB9 bD hXA z1 z2 z3 z4 z5 HOp HSt
          go_wp2_with fail
          refine HTk.out.mono ?_
          rintro e wB htk
          obtain ⟨vx, rfl, hrow, hend, hon⟩ := forged_take htk HWho.out.1 HWho.out.2 HRd.out
          obtain ⟨Ax, cx, rfl⟩ := L5.own_slice hrow
          have hXB := HXA.out.left hend hon
          have HBB := Lib.hid (Only.below HBA.out hon (Nat.le_trans hws HXA.out.base) (fun q hq => Nat.le_trans hws (HLo.out q hq)))
          obtain ⟨z0, z1, z2, z3, z4, z5⟩ := hXB.cells
          unfold ptrAt at z0
          have HSt := Lib.hid (state_calls hend)
          have HXB := Lib.hid hXB
          clear htk hrow hend hon hXB z1 z2 z3 z4 z5 HTk HBA HXA HRd HWho HN1 HFl
          go_wp2_with fail
          refine HSt.out.mono ?_
          rintro e w10 ⟨rfl, md, rfl⟩
          have bD : Below wB.heap.size wB (wB.drewN md) := L5.below_drewN (Below.refl _ _) _
          have hXC := HXB.out.below bD
          have HBC := Lib.hid (HBB.out.trans (bD.mono HBB.out.size))
          generalize wB.drewN md = wC at *
          obtain ⟨z0, z1, z2, z3, z4, z5⟩ := hXC.cells
          unfold ptrAt at z0
          have HOp := Lib.hid (open_calls hXC.one)
          clear HXB HBB bD hXC z1 z2 z3 z4 z5 HSt
          obtain ⟨eI, heI, g6⟩ : ∃ eI : Int, (er : Int) = eI ∧ (eI = 6 ∨ eI = 2) := ⟨er, rfl, by omega⟩
          rw [heI]
          clear heI her
          rcases g6 with rfl | rfl
          all_goals
            go_wp2_with fail
            refine HOp.out.mono ?_
            rintro e w10 ⟨rfl, rfl⟩
            go_wp2
            go_ret
            exact ⟨rfl, HBC.out⟩
end Go.Proofs.YtiodphkmllcjdaaGreat.L7
end

section
namespace Go.Proofs.YtiodphkmllcjdaaGreat
open Go.ChangeShapes Go.WideShapes Go.ChangeAt Go.RowKit

set_option maxRecDepth 100000 in
theorem lkforged_lifted (os : Os) (started : os.Started) (H : Type) (enc : TypeId × Value → H) :
    ReturnsInHanded {} Tryz.checked os 4 .any (Rows.linkForgedSpec.pre6 enc Tryz.prog Tryz.f4 Rows.linkForgedRow.domain false) (Rows.linkForgedSpec.post enc Tryz.prog Tryz.f4 false true false false) := by
  refine returnsInHanded_of_change (C := Tryz.checked) L5.own started (by kernel_rfl) Tryz.func4
    (ChangeSpec.witness6 (enc := enc) (C := Tryz.checked) false ⟨#[], #[.slice none 0 0, .int .i64 0, .int .i64 0, .int .i64 0, .int .i64 0, .int .i64 0], []⟩ 8 (by kernel_rfl) (by kernel_rfl) (by kernel_rfl) (by kernel_rfl)) ?_
  intro W base args ds gs before hval0 hW hcnd _
  have hval : ∀ (j : Nat) t v, Tryz.f4.params[j]? = some t → args[j]? = some v → Value.okWide Tryz.prog W .any base t v := hval0
  have hW' := hW
  obtain ⟨p, q, hA0, hV, rfl, hfz, hnd⟩ := hW
  have hA : DataW.TrodAll enc Tryz.prog W 0 (fun _ => true) true Tryz.f4.params.toList args.toList ds p := hA0
  rw [Tryz.params4] at hA hval
  obtain ⟨v0, vs0, d0, ds0, p0, q0, hargs, rfl, rfl, h0, r0⟩ := trodAll_cons hA
  obtain ⟨v1, vs1, d1, ds1, p1, q1, rfl, rfl, rfl, h1, r1⟩ := trodAll_cons r0
  obtain ⟨v2, vs2, d2, ds2, p2, q2, rfl, rfl, rfl, h2, r2⟩ := trodAll_cons r1
  obtain ⟨v3, vs3, d3, ds3, p3, q3, rfl, rfl, rfl, h3, r3⟩ := trodAll_cons r2
  obtain ⟨v4, vs4, d4, ds4, p4, q4, rfl, rfl, rfl, h4, r4⟩ := trodAll_cons r3
  obtain ⟨v5, vs5, d5, ds5, p5, q5, rfl, rfl, rfl, h5, r5⟩ := trodAll_cons r4
  obtain ⟨rfl, rfl, rfl⟩ := trodAll_nil r5
  obtain rfl : args = #[v0, v1, v2, v3, v4, v5] := by cases args; simp_all
  obtain ⟨rfl, rfl⟩ := trodVars_none hV
  have h0k := h0
  obtain ⟨A0, n0, c0, rfl, hS0, hn0⟩ := L7.open_acts (hval 0 22 v0 rfl rfl) h0
  obtain ⟨a1, rfl, rfl, rfl, w1⟩ := open_int Tryz.underlying3 (hval 1 3 v1 rfl rfl) h1
  obtain ⟨a2, rfl, rfl, rfl, w2⟩ := open_int Tryz.underlying3 (hval 2 3 v2 rfl rfl) h2
  obtain ⟨a3, rfl, rfl, rfl, w3⟩ := open_int Tryz.underlying3 (hval 3 3 v3 rfl rfl) h3
  obtain ⟨a4, rfl, rfl, rfl, w4⟩ := open_int Tryz.underlying3 (hval 4 3 v4 rfl rfl) h4
  obtain ⟨a5, rfl, rfl, rfl, w5⟩ := open_int Tryz.underlying3 (hval 5 3 v5 rfl rfl) h5
  clear hA0 hval0
  simp only [List.append_nil] at hW'
  have hlt : ∀ x ∈ p0, x.block < W.heap.size := fun x hx => by simpa using hW'.lt x (by simpa using hx)
  refine (L7.forged_calls W hS0 hn0 a1 a2 a3 a4 a5 (L5.i64_of_wf w1) (L5.i64_of_wf w2) (L5.i64_of_wf w3) (L5.i64_of_wf w4) (L5.i64_of_wf w5)).mono fun e W' ⟨he, hg⟩ => ?_
  subst he
  exact ⟨_, rfl, L5.post_law_at (pv := []) hW' (trodAll_cons_mk (shut_bool Tryz.underlying4 _) trodAll_mk0) (trodAll_cons_mk (Below.trod L5.laid_out (by kernel_rfl) (of_decide_eq_true (by kernel_rfl)) h0k hg hlt) (trodAll_cons_mk (shut_int Tryz.underlying3 w1) (trodAll_cons_mk (shut_int Tryz.underlying3 w2) (trodAll_cons_mk (shut_int Tryz.underlying3 w3) (trodAll_cons_mk (shut_int Tryz.underlying3 w4) (trodAll_cons_mk (shut_int Tryz.underlying3 w5) trodAll_mk0)))))) rfl (by simp) hg⟩

theorem lkforged_over : Rows.linkForgedRow.holds Tryz.pinned (OpenSpec.ofChange Rows.linkForgedSpec) :=
  OpenClaim.holds_of_wide 4 Tryz.f4 rfl rfl rfl rfl rfl rfl rfl ⟨rfl, rfl, rfl, rfl, rfl⟩ rfl rfl rfl rfl rfl (by kernel_rfl) Tryz.func4 (by kernel_rfl)
    (of_decide_eq_true (by kernel_rfl)) (by unfold Func.isWrapper; first | (rw [if_pos (by decide +kernel)]; kernel_rfl) | (rw [if_neg (by decide +kernel)]; exact ⟨rfl, rfl⟩))
    (fun os started H enc _ => lkforged_lifted os started H enc)

theorem lkforged_proved : Rows.LinkForgedSaid := lkforged_over

end Go.Proofs.YtiodphkmllcjdaaGreat
end
