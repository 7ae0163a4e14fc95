/- The document's own Take (gemotref7). -/
import Derived.Test.YtiodphkmllcjdaaGreatLkRH
import Derived.Test.YtiodphkmllcjdaaGreatR4UG
import Derived.Test.YtiodphkmllcjdaaGreatLater
import Derived.Deep.CutRange
section
namespace Go.Proofs.YtiodphkmllcjdaaGreat.L7
open Go.ChangeShapes Go.WideShapes Go.ChangeAt Go.RowKit L6

set_option maxRecDepth 100000 in
set_option maxHeartbeats 8000000 in
theorem rtake_calls {w : World} {B g : Nat} {r : RSt} {vo vw : Value} (h : RefAt w B g r vo vw) (hB : B ≤ w.heap.size) (h1 : 1 ≤ r.me) (h8 : r.me ≤ 8) (hp8 : r.peer ≤ 8) (hol : r.opens.length ≤ 64) (hwl : r.wait.length ≤ 900) (htk : r.taken ≤ 2147483647) (f : Bytes) (hf : f.length ≤ maxLen) :
    Calls Tryz.prog 45 #[.pointer (some ⟨g, 0, none⟩), .string ⟨f.toArray⟩] w (RTakeOut w B g r vo vw f) := by
  obtain ⟨i0, hi, hz0, hz1, hz2⟩ := info_parts info_item
  obtain ⟨i1, hj, hy0, hy1, hy2⟩ := info_parts info_string
  obtain ⟨c0, c1, c2, c3, c4, c5⟩ := h.cells
  have HC := RCheck_calls ⟨f.toArray⟩ r.peer (by rw [size_list]; unfold maxLen at hf; omega) w
  have e0 : (⟨f.toArray⟩ : ByteArray).data.toList = f := by simp
  rw [e0] at HC
  have hlen : (Tm.checkT f r.peer).1.length ≤ 20000 ∨ (Tm.checkT f r.peer).2 ≠ 0 := by
    unfold Tm.checkT
    split
    · exact .inr (by simp)
    · rename_i hk
      split
      · exact .inr (by simp)
      · split
        · exact .inr (by simp)
        · have hk' : Tm.kindOf f = 120 := by simpa using hk
          obtain ⟨k1, k2⟩ := Tm.kind_right hk' (by decide)
          obtain ⟨a, b, hab⟩ := Tm.sign_parts k1 k2
          have := (Tm.ofL_ok k1).2.1 b (by rw [hab]; simp)
          have hfl := Tm.depthOf_short (z := f) (by have := (Tm.right_iff _).1 k1; omega)
          left
          rw [hab]
          show b.length ≤ 20000
          have := this.2.2
          omega
  obtain ⟨⟨t, er⟩, hr⟩ : ∃ r', Tm.checkT f r.peer = r' := ⟨_, rfl⟩
  have HRd := Lib.hid (fun rd => reads_of (me := r.me) hr rd)
  rw [hr] at HC hlen
  have HC := Lib.hid HC
  have HH := Lib.hid h
  have HBB := Lib.hid hB
  by_cases her : er = 0
  case neg =>
    have hne : ((er : Int) != 0) = true := by simp; omega
    have HF : Hid (∀ V, Below w.heap.size w V → RTakeOut w B g r vo vw f (.returned (.tuple #[.slice none 0 0, .string ⟨#[]⟩, .int .i64 er])) V) := fun V hV =>
      ⟨.bad er, HRd.out _ (.inl ⟨her, rfl⟩), rtook_bad h hV⟩
    clear h hr e0 hlen her HRd
    go_enter Tryz.func45, Tryz.ntmps45
    go_wp2_with fail
    refine HC.out.mono ?_
    rintro e w1 ⟨rfl, b1⟩
    have HF1 := Lib.hid (HF.out _ b1)
    clear b1
    go_wp2
    go_ret3
    exact HF1.out
  subst her
  have ht : t.length ≤ 20000 := by
    rcases hlen with h | h
    · exact h
    · exact absurd rfl h
  have HU := Lib.hid (fun V => L4.unpack4_calls t (by unfold maxLen; omega) V)
  have HR2 : Hid ((∀ m, Says t m → forMe r.me m = false) → ReadsAs r.me r.peer f (.bad 2)) := fun k => HRd.out _ (.inr (.inl ⟨rfl, k, rfl⟩))
  have HR3 : Hid (∀ m, Says t m → forMe r.me m = true → ReadsAs r.me r.peer f (rdOf m)) := fun m k1 k2 => HRd.out _ (.inr (.inr ⟨rfl, m, k1, k2, rfl⟩))
  clear hr e0 hlen ht HRd
  have HLt := Lib.hid h.lt
  go_enter Tryz.func45, Tryz.ntmps45
  go_wp2_with fail
  refine HC.out.mono ?_
  rintro e w1 ⟨rfl, b1⟩
  have HB1 := Lib.hid b1
  have HU := Lib.hid (HU.out w1)
  clear b1 h HC
  go_wp2_with fail
  refine HU.out.mono ?_
  rintro e w2 (⟨m, vm, vt, hsay, rfl, hm, hnil, b2⟩ | ⟨rfl, hno, b2⟩)
  · have hB2 := HB1.out.trans (b2.mono HB1.out.size)
    obtain ⟨mA, mn, mc, rfl⟩ : ∃ A k c, vm = .slice A k c := ⟨_, _, _, hm.mem.reads.choose_spec.choose_spec.1⟩
    obtain ⟨tA, tc, rfl, htA⟩ := hm.terms.reads
    have hbx := L4.boxed_new w2 m (.slice mA mn mc) (.slice tA m.terms.length tc) 52
    have hMA := hm
    unfold msgCells at hbx ⊢
    obtain ⟨V, hV⟩ : ∃ V, w2.alloc (.cells #[.int .i64 m.kind, .int .i64 m.e1, .int .i64 m.c1, .int .i64 m.e2, .int .i64 m.c2, .int .i64 m.num, .slice mA mn mc, .slice tA m.terms.length tc] 52) = V := ⟨_, rfl⟩
    have hB2V : Below w2.heap.size w2 V := by rw [← hV]; exact (Below.refl _ w2).alloc (Nat.le_refl _) _
    have hsV : V.heap.size = w2.heap.size + 1 := by rw [← hV]; simp
    rw [hV] at hbx
    have HBx := Lib.hid hbx
    have HBV := Lib.hid (hB2.trans (hB2V.mono hB2.size))
    have HRV := Lib.hid (HH.out.below HBV.out)
    have HSz := Lib.hid (And.intro hB2V hsV)
    have HSay := Lib.hid hsay
    have HBz := Lib.hid hB2.size
    have HKp : Hid (∀ V', Below V.heap.size V V' → V'.cell? ⟨g, 0, none⟩ = some (.int .i64 r.me) ∧ L4.Boxed V' w2.heap.size m (.slice mA mn mc) (.slice tA m.terms.length tc)) := fun V' hV' =>
      ⟨(HRV.out.below hV').cells.1, L4.Boxed.below HBx.out hV' (by have := HSz.out.2; omega)⟩
    have HFM : Hid (∀ V', Below V.heap.size V V' → Calls Tryz.prog 69 #[.agg (msgCells m (.slice mA mn mc) (.slice tA m.terms.length tc)), .int .i64 r.me] V' fun e w' => e = .returned (.bool (forMe r.me m)) ∧ w'.cell? ⟨g, 0, none⟩ = some (.int .i64 r.me) ∧ w'.cell? ⟨w2.heap.size, 0, none⟩ = some (.int .i64 m.kind) ∧ w'.cell? ⟨w2.heap.size, 1, none⟩ = some (.int .i64 m.e1) ∧ w'.cell? ⟨w2.heap.size, 2, none⟩ = some (.int .i64 m.c1) ∧ w'.cell? ⟨w2.heap.size, 3, none⟩ = some (.int .i64 m.e2) ∧ w'.cell? ⟨w2.heap.size, 4, none⟩ = some (.int .i64 m.c2) ∧ w'.cell? ⟨w2.heap.size, 5, none⟩ = some (.int .i64 m.num) ∧ w'.cell? ⟨w2.heap.size, 6, none⟩ = some (.slice mA mn mc) ∧ w'.cell? ⟨w2.heap.size, 7, none⟩ = some (.slice tA m.terms.length tc) ∧ Below V.heap.size V w') := fun V' hV' => by
      refine (right7_calls r.me m _ _ V' (hMA.below ((HSz.out.1).trans (hV'.mono HSz.out.1.size)))).mono ?_
      rintro e w' ⟨rfl, b⟩
      obtain ⟨k0, y0, y1, y2, y3, y4, y5, y6, y7⟩ := HKp.out w' (hV'.trans (b.mono hV'.size))
      exact ⟨rfl, k0, y0, y1, y2, y3, y4, y5, y6, y7, hV'.trans (b.mono hV'.size)⟩
    unfold msgCells at HFM
    obtain ⟨k0, y0, y1, y2, y3, y4, y5, y6, y7⟩ := HKp.out V (Below.refl _ _)
    have hbl : Below V.heap.size V V.drew := (Below.refl _ _).drew
    have HTx : Hid (∀ y, m.terms = [y] → ∃ ad : Addr, tA = some ad ∧ ad.block < w2.heap.size ∧ w2.cell? ad = some (.string ⟨y.toArray⟩)) := fun y hy => by
      obtain ⟨ad, e, h1, _, h2⟩ := htA 0 y (by rw [hy]; rfl)
      rw [add_none] at h2
      exact ⟨ad, e, h1, h2⟩
    clear hB2 hB2V hsV hm hnil b2 hsay hMA HU htA
    cases hfm : forMe r.me m with
    | false =>
      rw [hfm] at HFM
      have HF : Hid (∀ V', Below V.heap.size V V' → RTakeOut w B g r vo vw f (.returned (.tuple #[.slice none 0 0, .string ⟨#[]⟩, .int .i64 2])) V') := fun V' hV' =>
        ⟨.bad 2, HR2.out (fun m' hm' => by rw [says_one hm' HSay.out]; exact hfm), rtook_bad HH.out (HBV.out.trans (hV'.mono HBV.out.size))⟩
      clear hfm
      go_wp2
      go_region_held3 (fun w' => w'.cell? ⟨g, 0, none⟩ = some (.int .i64 r.me) ∧ w'.cell? ⟨w2.heap.size, 0, none⟩ = some (.int .i64 m.kind) ∧ w'.cell? ⟨w2.heap.size, 1, none⟩ = some (.int .i64 m.e1) ∧ w'.cell? ⟨w2.heap.size, 2, none⟩ = some (.int .i64 m.c1) ∧ w'.cell? ⟨w2.heap.size, 3, none⟩ = some (.int .i64 m.e2) ∧ w'.cell? ⟨w2.heap.size, 4, none⟩ = some (.int .i64 m.c2) ∧ w'.cell? ⟨w2.heap.size, 5, none⟩ = some (.int .i64 m.num) ∧ w'.cell? ⟨w2.heap.size, 6, none⟩ = some (.slice mA mn mc) ∧ w'.cell? ⟨w2.heap.size, 7, none⟩ = some (.slice tA m.terms.length tc) ∧ Below V.heap.size V w') ((first | exact ⟨k0, y0, y1, y2, y3, y4, y5, y6, y7, hbl⟩ | (go_split_ands; refine ⟨?_, ?_, ?_, ?_, ?_, ?_, ?_, ?_, ?_, ?_⟩ <;> assumption)))
        ((go_at_call 69; refine (HFM.out _ (by first | exact hbl | assumption)).mono ?_; rintro e w3 ⟨rfl, f0, f1, f2, f3, f4, f5, f6, f7, f8, b3⟩))
      have HF1 := Lib.hid (HF.out _ b3)
      clear HF b3 hbl
      go_wp2
      go_ret3
      exact HF1.out
    | true =>
      rw [hfm] at HFM
      have HFm := Lib.hid hfm
      clear hfm
      go_wp2
      go_region_held3 (fun w' => w'.cell? ⟨g, 0, none⟩ = some (.int .i64 r.me) ∧ w'.cell? ⟨w2.heap.size, 0, none⟩ = some (.int .i64 m.kind) ∧ w'.cell? ⟨w2.heap.size, 1, none⟩ = some (.int .i64 m.e1) ∧ w'.cell? ⟨w2.heap.size, 2, none⟩ = some (.int .i64 m.c1) ∧ w'.cell? ⟨w2.heap.size, 3, none⟩ = some (.int .i64 m.e2) ∧ w'.cell? ⟨w2.heap.size, 4, none⟩ = some (.int .i64 m.c2) ∧ w'.cell? ⟨w2.heap.size, 5, none⟩ = some (.int .i64 m.num) ∧ w'.cell? ⟨w2.heap.size, 6, none⟩ = some (.slice mA mn mc) ∧ w'.cell? ⟨w2.heap.size, 7, none⟩ = some (.slice tA m.terms.length tc) ∧ Below V.heap.size V w') ((first | exact ⟨k0, y0, y1, y2, y3, y4, y5, y6, y7, hbl⟩ | (go_split_ands; refine ⟨?_, ?_, ?_, ?_, ?_, ?_, ?_, ?_, ?_, ?_⟩ <;> assumption)))
        ((go_at_call 69; refine (HFM.out _ (by first | exact hbl | assumption)).mono ?_; rintro e w3 ⟨rfl, f0, f1, f2, f3, f4, f5, f6, f7, f8, b3⟩))
      obtain ⟨num, hnum⟩ : ∃ num : Nat, m.num = num := ⟨m.num.toNat, by
        obtain ⟨zs, _, _, ho⟩ := HSay.out
        have := (Msg.ok_all ho).1 m.num (List.mem_append.2 (.inl (by simp [Msg.head])))
        omega⟩
      have hnum2 : m.num.toNat = num := by omega
      have hnumb : num ≤ 2147483647 := by
        obtain ⟨zs, _, _, ho⟩ := HSay.out
        have := (Msg.ok_all ho).1 m.num (List.mem_append.2 (.inl (by simp [Msg.head])))
        omega
      have HB3 := Lib.hid (HBV.out.trans (b3.mono HBV.out.size))
      have HR3V := Lib.hid (HRV.out.below b3)
      rcases forMe_kinds HFm.out with ⟨k2, _⟩ | ⟨k1, k1l⟩
      · have HRr := HR3.out m HSay.out HFm.out
        rw [rdOf_ack k2, hnum2] at HRr
        have HRr := Lib.hid HRr
        have hA := rack_calls HR3V.out (Nat.le_trans HBB.out HB3.out.size) hol num
        rw [← hnum] at hA
        have HA := Lib.hid hA
        rw [k2] at f1
        clear y0 y1 y2 y3 y4 y5 y6 y7 k0 hbl HFM hV hnum hnum2 k2 hnumb b3 hA
        go_wp2_with fail
        refine HA.out.mono ?_
        rintro e w4 hack
        obtain ⟨rfl, hto⟩ := rtook_ack HB3.out hack
        have HF1 : Hid (RTakeOut w B g r vo vw f _ w4) := ⟨_, HRr.out, hto⟩
        clear hack hto
        go_wp2
        go_ret3
        exact HF1.out
      · have HRr := HR3.out m HSay.out HFm.out
        rw [rdOf_data (by omega), hnum2] at HRr
        obtain ⟨y, hy⟩ := List.length_eq_one_iff.1 k1l
        rw [hy] at HRr
        obtain ⟨ad, rfl, hadc⟩ := HTx.out y hy
        have hyl : y.length ≤ 20000 := by
          obtain ⟨zs, _, _, ho⟩ := HSay.out
          have k4 := (Msg.ok_all ho).2.2.2
          rw [hy] at k4
          exact Tm.depthOf_short (Tm.wrongIn_cons k4).1
        have HRr : Hid (ReadsAs r.me r.peer f (.data num y)) := HRr
        rw [k1] at f1
        rw [k1l] at f8
        have c2' : w3.cell? ad = some (.string ⟨y.toArray⟩) := ((HSz.out.1.trans (b3.mono HSz.out.1.size)).cell (p := ad) hadc.1).trans hadc.2
        have hadz : ad.block < w3.heap.size := by have := HSz.out.2; have := b3.size; have := hadc.1; omega
        have HRc := HR3V.out.cells
        have g3 := HRc.2.2.2.1
        have hm1 : 1 ≤ r.me := h1
        have hm8 : r.me ≤ 8 := h8
        have hmp : r.peer ≤ 8 := hp8
        clear y0 y1 y2 y3 y4 y5 y6 y7 k0 hbl HFM hV hnum2 k1 hy k1l HRc
        have HNum := Lib.hid hnum
        clear hnum
        by_cases hnt : num ≤ r.taken
        · have q1 : decide (m.num ≤ (r.taken : Int)) = true := by rw [decide_eq_true_iff, HNum.out]; omega
          have hLt1 : ∀ X : Later w3, X.world.cell? ⟨w2.heap.size, 5, none⟩ = some (.int .i64 m.num) := fun X => (X.kept.cell (p := ⟨w2.heap.size, 5, none⟩) (World.block_lt_of_cell? w3 _ f6)).trans f6
          have hLt2 : ∀ X : Later w3, X.world.cell? ⟨g, 3, none⟩ = some (.int .i64 r.taken) := fun X => (X.kept.cell (p := ⟨g, 3, none⟩) HR3V.out.lt).trans g3
          have hrt : rtake r (.data num y) = (([], replyR r, 7), r) := by
            show rdata r num y = _
            unfold rdata
            rw [if_pos (.inl hnt)]
          have HRt := Lib.hid hrt
          clear hrt hnt f0 f2 f3 f4 f5 f7 f8 c2' hadz hadc
          go_wp2
          refine wp_region_later (by kernel_rfl) (by kernel_rfl) ?_
          repeat
            (refine Quietly.step (fun K hK => ?_)
             go_simp
             refine hK _ ?_
             clear hK K)
          refine Quietly.none ?_
          rintro w4 ⟨⟨V', b4⟩, rfl⟩
          have HR4 := Lib.hid (HR3V.out.below b4)
          have HFin : Hid (∀ V', Below w4.heap.size w4 V' → RTakeOut w B g r vo vw f (.returned (.tuple #[.slice none 0 0, .string ⟨(replyR r).toArray⟩, .int .i64 7])) V') := fun V' hV' => by
            refine ⟨_, HRr.out, .slice none 0 0, vo, vw, ?_, ?_, ?_, ?_, Fresh.refl _ _, Fresh.refl _ _⟩
            · rw [HRt.out]
              rfl
            · rw [HRt.out]
              exact ⟨rfl, .inl ⟨rfl, rfl⟩⟩
            · rw [HRt.out]
              exact HR4.out.below hV'
            · exact Only.of_below ((HB3.out.trans (b4.mono HB3.out.size)).trans (hV'.mono (HB3.out.trans (b4.mono HB3.out.size)).size))
          clear b4
          obtain ⟨fe, hfe⟩ : ∃ fe, (frameL r.me r.peer 2 r.taken []).2 = fe := ⟨_, rfl⟩
          have HFr : Hid (∀ V', Below w4.heap.size w4 V' → Calls Tryz.prog 43 #[.int .i64 r.me, .int .i64 r.peer, .int .i64 2, .int .i64 r.taken, .slice none 0 0] V' fun e w' => e = .returned (.tuple #[.string ⟨(replyR r).toArray⟩, .int .i64 fe]) ∧ w'.cell? ⟨g, 0, none⟩ = some (.int .i64 r.me) ∧ w'.cell? ⟨g, 1, none⟩ = some (.int .i64 r.peer) ∧ w'.cell? ⟨g, 3, none⟩ = some (.int .i64 r.taken) ∧ Below w4.heap.size w4 w') := fun V' hV' => by
            refine (frame7_calls hm1 hm8 hmp 2 r.taken (.slice none 0 0) [] V' (rowA_nil V') (fun n c e => by cases e; rfl) (by simp) (Nat.le_trans (pack_ack_short _ _ _) (by decide))).mono ?_
            rintro e w' ⟨rfl, b⟩
            obtain ⟨p0, p1, _, p3, _, _⟩ := (HR4.out.below (hV'.trans (b.mono hV'.size))).cells
            exact ⟨by rw [hfe]; rfl, p0, p1, p3, hV'.trans (b.mono hV'.size)⟩
          obtain ⟨p0, p1, _, p3, _, _⟩ := HR4.out.cells
          have hblW : Below w4.heap.size w4 w4.drew := (Below.refl _ _).drew
          clear hfe
          go_wp2
          go_region_held3 (fun w' => w'.cell? ⟨g, 0, none⟩ = some (.int .i64 r.me) ∧ w'.cell? ⟨g, 1, none⟩ = some (.int .i64 r.peer) ∧ w'.cell? ⟨g, 3, none⟩ = some (.int .i64 r.taken) ∧ Below w4.heap.size w4 w') ((first | exact ⟨p0, p1, p3, hblW⟩ | (go_split_ands; refine ⟨?_, ?_, ?_, ?_⟩ <;> assumption)))
            ((go_at_call 43; refine (HFr.out _ (by first | exact hblW | assumption)).mono ?_; rintro e w9 ⟨rfl, f0, f1, f3, b9⟩))
          have HF1 := Lib.hid (HFin.out _ b9)
          clear b9 f0 f1 f3 HFr hblW p0 p1 p3
          go_wp2
          go_ret3
          exact HF1.out
        · have q1 : decide (m.num ≤ (r.taken : Int)) = false := by rw [decide_eq_false_iff_not, HNum.out]; omega
          have q2 : (r.taken : Int) < m.num := by rw [HNum.out]; omega
          have hlt5 := World.block_lt_of_cell? w3 _ f6
          obtain ⟨wi, hwi⟩ : ∃ wi, widx r.wait num = wi := ⟨_, rfl⟩
          have HW : Hid (∀ V', Below w3.heap.size w3 V' → Calls Tryz.prog 71 #[.pointer (some ⟨g, 0, none⟩), .int .i64 m.num] V' fun e w' => e = .returned (.int .i64 (wval wi)) ∧ w'.cell? ⟨w2.heap.size, 5, none⟩ = some (.int .i64 m.num) ∧ w'.cell? ⟨g, 3, none⟩ = some (.int .i64 r.taken) ∧ Below w3.heap.size w3 w') := fun V' hV' => by
            have hw := waits_calls (HR3V.out.below hV') (by omega) num
            rw [← HNum.out, hwi] at hw
            refine hw.mono ?_
            rintro e w' ⟨rfl, rfl⟩
            exact ⟨rfl, (hV'.cell (p := ⟨w2.heap.size, 5, none⟩) hlt5).trans f6, (hV'.cell (p := ⟨g, 3, none⟩) HR3V.out.lt).trans g3, hV'⟩
          have hbl : Below w3.heap.size w3 w3.drew := (Below.refl _ _).drew
          cases hwc : wi with
          | some iw =>
            rw [hwc] at HW
            have HW : Hid (∀ V', Below w3.heap.size w3 V' → Calls Tryz.prog 71 #[.pointer (some ⟨g, 0, none⟩), .int .i64 m.num] V' fun e w' => e = .returned (.int .i64 (iw : Int)) ∧ w'.cell? ⟨w2.heap.size, 5, none⟩ = some (.int .i64 m.num) ∧ w'.cell? ⟨g, 3, none⟩ = some (.int .i64 r.taken) ∧ Below w3.heap.size w3 w') := HW
            have j0 : (0 : Int) ≤ (iw : Int) := by omega
            have hrt : rtake r (.data num y) = (([], replyR r, 7), r) := by
              show rdata r num y = _
              unfold rdata
              rw [if_pos (.inr (by rw [hwi, hwc]; rfl))]
            have HRt := Lib.hid hrt
            clear hrt hnt hwi hwc f0 f2 f3 f4 f5 f7 f8 c2' hadz hadc
            go_wp2
            go_region_held3 (fun w' => w'.cell? ⟨w2.heap.size, 5, none⟩ = some (.int .i64 m.num) ∧ w'.cell? ⟨g, 3, none⟩ = some (.int .i64 r.taken) ∧ Below w3.heap.size w3 w') ((first | exact ⟨f6, g3, hbl⟩ | (go_split_ands; refine ⟨?_, ?_, ?_⟩ <;> assumption)))
              ((go_at_call 71; refine (HW.out _ (by first | exact hbl | assumption)).mono ?_; rintro e w4 ⟨rfl, e6, e3, b4⟩))
            have HR4 := Lib.hid (HR3V.out.below b4)
            have HFin : Hid (∀ V', Below w4.heap.size w4 V' → RTakeOut w B g r vo vw f (.returned (.tuple #[.slice none 0 0, .string ⟨(replyR r).toArray⟩, .int .i64 7])) V') := fun V' hV' => by
              refine ⟨_, HRr.out, .slice none 0 0, vo, vw, ?_, ?_, ?_, ?_, Fresh.refl _ _, Fresh.refl _ _⟩
              · rw [HRt.out]
                rfl
              · rw [HRt.out]
                exact ⟨rfl, .inl ⟨rfl, rfl⟩⟩
              · rw [HRt.out]
                exact HR4.out.below hV'
              · exact Only.of_below ((HB3.out.trans (b4.mono HB3.out.size)).trans (hV'.mono (HB3.out.trans (b4.mono HB3.out.size)).size))
            clear b4 hbl
            obtain ⟨fe, hfe⟩ : ∃ fe, (frameL r.me r.peer 2 r.taken []).2 = fe := ⟨_, rfl⟩
            have HFr : Hid (∀ V', Below w4.heap.size w4 V' → Calls Tryz.prog 43 #[.int .i64 r.me, .int .i64 r.peer, .int .i64 2, .int .i64 r.taken, .slice none 0 0] V' fun e w' => e = .returned (.tuple #[.string ⟨(replyR r).toArray⟩, .int .i64 fe]) ∧ w'.cell? ⟨g, 0, none⟩ = some (.int .i64 r.me) ∧ w'.cell? ⟨g, 1, none⟩ = some (.int .i64 r.peer) ∧ w'.cell? ⟨g, 3, none⟩ = some (.int .i64 r.taken) ∧ Below w4.heap.size w4 w') := fun V' hV' => by
              refine (frame7_calls hm1 hm8 hmp 2 r.taken (.slice none 0 0) [] V' (rowA_nil V') (fun n c e => by cases e; rfl) (by simp) (Nat.le_trans (pack_ack_short _ _ _) (by decide))).mono ?_
              rintro e w' ⟨rfl, b⟩
              obtain ⟨p0, p1, _, p3, _, _⟩ := (HR4.out.below (hV'.trans (b.mono hV'.size))).cells
              exact ⟨by rw [hfe]; rfl, p0, p1, p3, hV'.trans (b.mono hV'.size)⟩
            obtain ⟨p0, p1, _, p3, _, _⟩ := HR4.out.cells
            have hblW : Below w4.heap.size w4 w4.drew := (Below.refl _ _).drew
            clear hfe
            go_wp2
            go_region_held3 (fun w' => w'.cell? ⟨g, 0, none⟩ = some (.int .i64 r.me) ∧ w'.cell? ⟨g, 1, none⟩ = some (.int .i64 r.peer) ∧ w'.cell? ⟨g, 3, none⟩ = some (.int .i64 r.taken) ∧ Below w4.heap.size w4 w') ((first | exact ⟨p0, p1, p3, hblW⟩ | (go_split_ands; refine ⟨?_, ?_, ?_, ?_⟩ <;> assumption)))
              ((go_at_call 43; refine (HFr.out _ (by first | exact hblW | assumption)).mono ?_; rintro e w9 ⟨rfl, f0, f1, f3, b9⟩))
            have HF1 := Lib.hid (HFin.out _ b9)
            clear b9 f0 f1 f3 HFr hblW p0 p1 p3
            go_wp2
            go_ret3
            exact HF1.out
          | none =>
            rw [hwc] at HW
            have HW : Hid (∀ V', Below w3.heap.size w3 V' → Calls Tryz.prog 71 #[.pointer (some ⟨g, 0, none⟩), .int .i64 m.num] V' fun e w' => e = .returned (.int .i64 (-1)) ∧ w'.cell? ⟨w2.heap.size, 5, none⟩ = some (.int .i64 m.num) ∧ w'.cell? ⟨g, 3, none⟩ = some (.int .i64 r.taken) ∧ Below w3.heap.size w3 w') := HW
            have hwno : ¬ (num ≤ r.taken ∨ (widx r.wait num).isSome = true) := by
              rintro (h | h)
              · exact hnt h
              · rw [hwi, hwc] at h; cases h
            have HWno := Lib.hid hwno
            clear hnt hwi hwc hwno f0 f2 f3 f4 f5
            go_wp2
            go_region_held3 (fun w' => w'.cell? ⟨w2.heap.size, 5, none⟩ = some (.int .i64 m.num) ∧ w'.cell? ⟨g, 3, none⟩ = some (.int .i64 r.taken) ∧ Below w3.heap.size w3 w') ((first | exact ⟨f6, g3, hbl⟩ | (go_split_ands; refine ⟨?_, ?_, ?_⟩ <;> assumption)))
              ((go_at_call 71; refine (HW.out _ (by first | exact hbl | assumption)).mono ?_; rintro e w4 ⟨rfl, e6, e3, b4⟩))
            have jw : IntKind.i64.wrap ((r.taken : Int) + 32) = (r.taken : Int) + 32 := by rw [IntKind.wrap_i64]; omega
            have hLt1 : ∀ X : Later w4, X.world.cell? ⟨w2.heap.size, 5, none⟩ = some (.int .i64 m.num) := fun X => (X.kept.cell (p := ⟨w2.heap.size, 5, none⟩) (World.block_lt_of_cell? w4 _ e6)).trans e6
            have hLt2 : ∀ X : Later w4, X.world.cell? ⟨g, 3, none⟩ = some (.int .i64 r.taken) := fun X => (X.kept.cell (p := ⟨g, 3, none⟩) (World.block_lt_of_cell? w4 _ e3)).trans e3
            by_cases hfar : r.taken + 32 < num
            · have q3 : (r.taken : Int) + 32 < m.num := by rw [HNum.out]; omega
              have hrt : rtake r (.data num y) = (([], replyR r, 5), r) := by
                show rdata r num y = _
                unfold rdata
                rw [if_neg HWno.out, if_pos hfar]
              have HRt := Lib.hid hrt
              have B4 := Lib.hid b4
              clear hrt hfar f7 f8 c2' hadz hadc b4 hbl HW
              go_wp2
              refine wp_region_later (by kernel_rfl) (by kernel_rfl) ?_
              repeat
                (refine Quietly.step (fun K hK => ?_)
                 go_simp
                 refine hK _ ?_
                 clear hK K)
              refine Quietly.none ?_
              rintro w5 ⟨⟨V', b5⟩, rfl⟩
              have B5 := Lib.hid (B4.out.trans (b5.mono B4.out.size))
              have HR4 := Lib.hid (HR3V.out.below B5.out)
              have HFin : Hid (∀ V', Below w5.heap.size w5 V' → RTakeOut w B g r vo vw f (.returned (.tuple #[.slice none 0 0, .string ⟨(replyR r).toArray⟩, .int .i64 5])) V') := fun V' hV' => by
                refine ⟨_, HRr.out, .slice none 0 0, vo, vw, ?_, ?_, ?_, ?_, Fresh.refl _ _, Fresh.refl _ _⟩
                · rw [HRt.out]
                  rfl
                · rw [HRt.out]
                  exact ⟨rfl, .inl ⟨rfl, rfl⟩⟩
                · rw [HRt.out]
                  exact HR4.out.below hV'
                · exact Only.of_below ((HB3.out.trans (B5.out.mono HB3.out.size)).trans (hV'.mono (HB3.out.trans (B5.out.mono HB3.out.size)).size))
              clear b5
              obtain ⟨fe, hfe⟩ : ∃ fe, (frameL r.me r.peer 2 r.taken []).2 = fe := ⟨_, rfl⟩
              have HFr : Hid (∀ V', Below w5.heap.size w5 V' → Calls Tryz.prog 43 #[.int .i64 r.me, .int .i64 r.peer, .int .i64 2, .int .i64 r.taken, .slice none 0 0] V' fun e w' => e = .returned (.tuple #[.string ⟨(replyR r).toArray⟩, .int .i64 fe]) ∧ w'.cell? ⟨g, 0, none⟩ = some (.int .i64 r.me) ∧ w'.cell? ⟨g, 1, none⟩ = some (.int .i64 r.peer) ∧ w'.cell? ⟨g, 3, none⟩ = some (.int .i64 r.taken) ∧ Below w5.heap.size w5 w') := fun V' hV' => by
                refine (frame7_calls hm1 hm8 hmp 2 r.taken (.slice none 0 0) [] V' (rowA_nil V') (fun n c e => by cases e; rfl) (by simp) (Nat.le_trans (pack_ack_short _ _ _) (by decide))).mono ?_
                rintro e w' ⟨rfl, b⟩
                obtain ⟨p0, p1, _, p3, _, _⟩ := (HR4.out.below (hV'.trans (b.mono hV'.size))).cells
                exact ⟨by rw [hfe]; rfl, p0, p1, p3, hV'.trans (b.mono hV'.size)⟩
              obtain ⟨p0, p1, _, p3, _, _⟩ := HR4.out.cells
              have hblW : Below w5.heap.size w5 w5.drew := (Below.refl _ _).drew
              clear hfe
              go_wp2
              go_region_held3 (fun w' => w'.cell? ⟨g, 0, none⟩ = some (.int .i64 r.me) ∧ w'.cell? ⟨g, 1, none⟩ = some (.int .i64 r.peer) ∧ w'.cell? ⟨g, 3, none⟩ = some (.int .i64 r.taken) ∧ Below w5.heap.size w5 w') ((first | exact ⟨p0, p1, p3, hblW⟩ | (go_split_ands; refine ⟨?_, ?_, ?_, ?_⟩ <;> assumption)))
                ((go_at_call 43; refine (HFr.out _ (by first | exact hblW | assumption)).mono ?_; rintro e w9 ⟨rfl, f0, f1, f3, b9⟩))
              have HF1 := Lib.hid (HFin.out _ b9)
              clear b9 f0 f1 f3 HFr hblW p0 p1 p3
              go_wp2
              go_ret3
              exact HF1.out
            · have q3 : ¬ (r.taken : Int) + 32 < m.num := by rw [HNum.out]; omega
              have B4 := Lib.hid b4
              have HAdc := Lib.hid (And.intro c2' hadz)
              have F8 := Lib.hid f8
              have HFar := Lib.hid hfar
              clear hfar f7 f8 c2' hadz hadc b4 hbl HW
              go_wp2
              refine wp_region_later (by kernel_rfl) (by kernel_rfl) ?_
              repeat
                (refine Quietly.step (fun K hK => ?_)
                 go_simp
                 refine hK _ ?_
                 clear hK K)
              refine Quietly.none ?_
              rintro w5 ⟨⟨V', b5⟩, rfl⟩
              have B5 := Lib.hid (B4.out.trans (b5.mono B4.out.size))
              have HR5 := Lib.hid (HR3V.out.below B5.out)
              have n5 := (b5.cell (p := ⟨w2.heap.size, 5, none⟩) (World.block_lt_of_cell? w4 _ e6)).trans e6
              have n7 := (B5.out.cell (p := ⟨w2.heap.size, 7, none⟩) (World.block_lt_of_cell? w3 _ F8.out)).trans F8.out
              have nad := (B5.out.cell (p := ad) HAdc.out.2).trans HAdc.out.1
              have H5B : Hid (Below w.heap.size w w5) := HB3.out.trans (B5.out.mono HB3.out.size)
              clear b5 e6 e3 g3 hLt1 hLt2 f6 F8
              obtain ⟨Aw, cw, rfl, hit⟩ := items_at HR5.out.wait
              have d5 := HR5.out.cells.2.2.2.2.2
              have bA : Below w5.heap.size w5 (w5.drew.alloc (.cells #[.int .i64 m.num, .string ⟨y.toArray⟩] 102)) := (Below.refl _ w5).drew.alloc (Nat.le_refl _) _
              have g5 := (bA.cell (p := ⟨g, 5, none⟩) HR5.out.lt).trans d5
              have g5' : (w5.alloc (.cells #[.int .i64 m.num, .string ⟨y.toArray⟩] 102)).cell? ⟨g, 5, none⟩ = some (.slice Aw r.wait.length cw) := g5
              have HRA := Lib.hid (HR5.out.below bA)
              have HNews : Hid (∀ (j : Nat) (u : Value), [(Value.int .i64 m.num), .string ⟨y.toArray⟩][j]? = some u → (w5.drew.alloc (.cells #[.int .i64 m.num, .string ⟨y.toArray⟩] 102)).cell? ((⟨w5.heap.size, 0, none⟩ : Addr).add j) = some u) :=
                World.news_of_block (cs := #[.int .i64 m.num, .string ⟨y.toArray⟩]) (t := 102) (fr := (0, 0)) (heap_alloc_new w5.drew _)
              have hBA : B ≤ (w5.drew.alloc (.cells #[.int .i64 m.num, .string ⟨y.toArray⟩] 102)).heap.size := Nat.le_trans (Nat.le_trans HBB.out H5B.out.size) bA.size
              have hzA : (w5.drew.alloc (.cells #[.int .i64 m.num, .string ⟨y.toArray⟩] 102)).heap.size = w5.heap.size + 1 := by rw [World.size_alloc]; rfl
              have HEnd : Hid (∀ gg cc W3, W3.ownsRow B 102 2 (.slice (some ⟨gg, 0, none⟩) (r.wait.length + 1) cc) (r.wait.length + 1) (flatI r.wait ++ [.int .i64 m.num, .string ⟨y.toArray⟩]) → (w5.drew.alloc (.cells #[.int .i64 m.num, .string ⟨y.toArray⟩] 102)).grownBy W3 (Value.slice Aw r.wait.length cw).ownBlock → ((Value.slice Aw r.wait.length cw).ownBlock = some gg ∨ gg = w5.heap.size + 1) →
                  W3.cell? ⟨g, 5, none⟩ = some (.slice Aw r.wait.length cw) ∧ W3.frozen? ⟨g, 5, none⟩ = false ∧ RefAt (W3.setCell ⟨g, 5, none⟩ (.slice (some ⟨gg, 0, none⟩) (r.wait.length + 1) cc)) B g { r with wait := r.wait ++ [(num, y)] } vo (.slice (some ⟨gg, 0, none⟩) (r.wait.length + 1) cc) ∧ Only (RIn g vo (.slice Aw r.wait.length cw)) w (W3.setCell ⟨g, 5, none⟩ (.slice (some ⟨gg, 0, none⟩) (r.wait.length + 1) cc)) ∧ Fresh w (.slice Aw r.wait.length cw) (.slice (some ⟨gg, 0, none⟩) (r.wait.length + 1) cc)) := fun gg cc W3 k1 k2 k3 => by
                have e : flatI (r.wait ++ [(num, y)]) = flatI r.wait ++ [.int .i64 m.num, .string ⟨y.toArray⟩] := by rw [flatI_snoc, HNum.out]
                have hv : W3.ownsRow B 102 2 (.slice (some ⟨gg, 0, none⟩) (r.wait.length + 1) cc) (r.wait ++ [(num, y)]).length (flatI (r.wait ++ [(num, y)])) := by
                  rw [e, List.length_append]
                  exact k1
                obtain ⟨a1, a2, a3, a4⟩ := HRA.out.waits k2 hv (fun q e1 e2 => by
                  have e3 : gg = q := by cases e2; rfl
                  rcases k3 with k3 | k3
                  · exact HRA.out.sep q e1 (by rw [k3, e3])
                  · have := (HR5.out.opens.lt q e1).2
                    omega)
                exact ⟨a1, a2, a3, (Only.of_below (H5B.out.trans (bA.mono H5B.out.size))).trans a4, fun q e => by
                  have e3 : gg = q := by cases e; rfl
                  rcases k3 with k3 | k3
                  · exact .inl (by rw [k3, e3])
                  · exact .inr (by have := H5B.out.size; omega)⟩
              have HSz := Lib.hid bA.size
              have hlw := hwl
              clear bA HR5 HRV HR3V HAdc HBx HKp hit HTx
              go_wp2
              go_cut [] from 16 (fun wc => ∃ vw1, RefAt wc B g { r with wait := r.wait ++ [(num, y)] } vo vw1 ∧ Only (RIn g vo (.slice Aw r.wait.length cw)) w wc ∧ Fresh w (.slice Aw r.wait.length cw) vw1)
              case first =>
                go_region_law (first
                  | (refine step_append_lies _ rfl (.tmp 77) (.tmp 85) 41 rfl B 102 i0 (.agg #[.int .i64 0, .string ⟨#[]⟩]) 2 24 Tryz.underlying41 hi hz0 hz1 hz2 rfl (by decide) (.slice Aw r.wait.length cw) r.wait.length (flatI r.wait) (by simp [Act.eval]) HRA.out.wait ⟨w5.heap.size, 0, none⟩ 1 1 [.int .i64 m.num, .string ⟨y.toArray⟩] (by simp [Act.eval]) rfl HNews.out (by simp [Value.oneCell']) (by decide) (by unfold maxLen; omega) (by omega) hBA (w5.heap.size + 1) hzA ?_
                     intro gg cc W3 k1 k2 k3 k4
                     obtain ⟨j4, jf, jr⟩ := HEnd.out gg cc W3 k1 k2 k3
                     have HJr := Lib.hid jr
                     clear k1 k2 k3 k4 jr))
                all_goals
                  go_wp2
                  go_meet
                  case rel => exact ⟨_, HJr.out⟩
              case rest =>
                obtain ⟨vw1, hR1, ho1, hfr1⟩ := hcut
                have HNI : Hid (¬ (num ≤ r.taken ∨ (widx r.wait num).isSome = true) ∧ ¬ r.taken + 32 < num) := ⟨HWno.out, HFar.out⟩
                have hln : (r.wait ++ [(num, y)]).length = r.wait.length + 1 := by simp
                have H0 : Hid (DrainGo w B g vo (.slice Aw r.wait.length cw) { r with wait := r.wait ++ [(num, y)] } (r.wait.length + 1) (.slice none 0 0) wc) := by
                  refine ⟨{ r with wait := r.wait ++ [(num, y)] }, vw1, [], hln, hR1, ⟨rfl, .inl ⟨rfl, rfl⟩⟩, ⟨ho1, hfr1⟩, ?_, rfl, rfl, ?_, ?_⟩
                  · show rdrain ((r.wait ++ [(num, y)]).length + 1) _ = _
                    rw [hln]
                    rfl
                  · show r.taken + (r.wait.length + 1) ≤ r.taken + (r.wait ++ [(num, y)]).length
                    rw [hln]
                    exact Nat.le_refl _
                  · show 0 + (r.wait.length + 1) ≤ (r.wait ++ [(num, y)]).length
                    rw [hln]
                    omega
                obtain ⟨r0, hr0⟩ : ∃ r0, ({ r with wait := r.wait ++ [(num, y)] } : RSt) = r0 := ⟨_, rfl⟩
                have HR0 : Hid (r0.me = r.me ∧ r0.peer = r.peer ∧ r0.taken = r.taken ∧ r0.wait.length = r.wait.length + 1) := by
                  rw [← hr0]
                  exact ⟨rfl, rfl, rfl, hln⟩
                have HRt : Hid (rtake r (.data num y) = (((rdrain (r0.wait.length + 1) r0).1, replyR (rdrain (r0.wait.length + 1) r0).2, 0), (rdrain (r0.wait.length + 1) r0).2)) := by
                  show rdata r num y = _
                  unfold rdata
                  rw [if_neg HNI.out.1, if_neg HNI.out.2, HR0.out.2.2.2, ← hr0]
                rw [hr0] at H0
                clear hR1 ho1 hfr1 HEnd HNews HRA d5 g5 g5' hBA hzA n5 n7 nad hln hr0
                go_wp2
                go_loopg [11] (r.wait.length + 1) (fun k v11 wr => DrainGo w B g vo (.slice Aw r.wait.length cw) r0 k v11 wr)
                case atStart => exact H0.out
                case round =>
                  obtain ⟨r', vw', out, hkk, hR', hown, honly, heq, hme, hpe, htk', hol'⟩ := hrel
                  have hr0l := HR0.out
                  have hw := waits_calls hR' (by omega) (r'.taken + 1)
                  have e1 : ((r'.taken + 1 : Nat) : Int) = (r'.taken : Int) + 1 := by simp
                  rw [e1] at hw
                  have jw : IntKind.i64.wrap ((r'.taken : Int) + 1) = (r'.taken : Int) + 1 := by rw [IntKind.wrap_i64]; omega
                  have p3 := hR'.cells.2.2.2.1
                  obtain ⟨wi, hwi⟩ : ∃ wi, widx r'.wait (r'.taken + 1) = wi := ⟨_, rfl⟩
                  rw [hwi] at hw
                  cases hwc : wi with
                  | none =>
                    rw [hwc] at hw
                    have HW : Hid (Calls Tryz.prog 71 #[.pointer (some ⟨g, 0, none⟩), .int .i64 ((r'.taken : Int) + 1)] wr fun e w' => e = .returned (.int .i64 (-1)) ∧ wr = w') := hw
                    have hfin : rdrain (r'.wait.length + 1) r' = ([], r') := by
                      show (match widx r'.wait (r'.taken + 1) with | none => ([], r') | some i => _) = _
                      rw [hwi, hwc]
                    rw [← hkk, hfin] at heq
                    have hfin2 : rdrain (r0.wait.length + 1) r0 = (out, r') := by rw [heq, List.append_nil]
                    have hm1 : 1 ≤ r'.me := by rw [hme, hr0l.1]; exact h1
                    have hm8 : r'.me ≤ 8 := by rw [hme, hr0l.1]; exact h8
                    have hmp : r'.peer ≤ 8 := by rw [hpe, hr0l.2.1]; exact hp8
                    obtain ⟨a11, c11, rfl⟩ := L5.own_slice hown
                    have HR4 := Lib.hid hR'
                    have HFin : Hid (∀ V', Below wr.heap.size wr V' → RTakeOut w B g r vo (.slice Aw r.wait.length cw) f (.returned (.tuple #[.slice a11 out.length c11, .string ⟨(replyR r').toArray⟩, .int .i64 0])) V') := fun V' hV' => by
                      refine ⟨_, HRr.out, .slice a11 out.length c11, vo, vw', ?_, ?_, ?_, ?_, Fresh.refl _ _, honly.2⟩
                      · rw [HRt.out, hfin2]
                        rfl
                      · rw [HRt.out, hfin2]
                        exact L5.own_below hown hV'
                      · rw [HRt.out, hfin2]
                        exact hR'.below hV'
                      · exact honly.1.trans (Only.of_below hV')
                    clear hw hwi hwc hfin hfin2 heq hR' hown honly hkk hol' htk' hme hpe hr0l H0
                    go_wp2_with fail
                    refine HW.out.mono ?_
                    rintro e w8 ⟨rfl, rfl⟩
                    clear HW
                    obtain ⟨fe, hfe⟩ : ∃ fe, (frameL r'.me r'.peer 2 r'.taken []).2 = fe := ⟨_, rfl⟩
                    have HFr : Hid (∀ V', Below wr.heap.size wr V' → Calls Tryz.prog 43 #[.int .i64 r'.me, .int .i64 r'.peer, .int .i64 2, .int .i64 r'.taken, .slice none 0 0] V' fun e w' => e = .returned (.tuple #[.string ⟨(replyR r').toArray⟩, .int .i64 fe]) ∧ w'.cell? ⟨g, 0, none⟩ = some (.int .i64 r'.me) ∧ w'.cell? ⟨g, 1, none⟩ = some (.int .i64 r'.peer) ∧ w'.cell? ⟨g, 3, none⟩ = some (.int .i64 r'.taken) ∧ Below wr.heap.size wr w') := fun V' hV' => by
                      refine (frame7_calls hm1 hm8 hmp 2 r'.taken (.slice none 0 0) [] V' (rowA_nil V') (fun n c e => by cases e; rfl) (by simp) (Nat.le_trans (pack_ack_short _ _ _) (by decide))).mono ?_
                      rintro e w' ⟨rfl, b⟩
                      obtain ⟨p0, p1, _, p3, _, _⟩ := (HR4.out.below (hV'.trans (b.mono hV'.size))).cells
                      exact ⟨by rw [hfe]; rfl, p0, p1, p3, hV'.trans (b.mono hV'.size)⟩
                    clear p3
                    obtain ⟨p0, p1, _, p3, _, _⟩ := HR4.out.cells
                    have hblW : Below wr.heap.size wr wr.drew := (Below.refl _ _).drew
                    clear hfe
                    go_wp2
                    go_region_held3 (fun w' => w'.cell? ⟨g, 0, none⟩ = some (.int .i64 r'.me) ∧ w'.cell? ⟨g, 1, none⟩ = some (.int .i64 r'.peer) ∧ w'.cell? ⟨g, 3, none⟩ = some (.int .i64 r'.taken) ∧ Below wr.heap.size wr w') ((first | exact ⟨p0, p1, p3, hblW⟩ | (go_split_ands; refine ⟨?_, ?_, ?_, ?_⟩ <;> assumption)))
                      ((go_at_call 43; refine (HFr.out _ (by first | exact hblW | assumption)).mono ?_; rintro e w9 ⟨rfl, f0, f1, f3, b9⟩))
                    have HF1 := Lib.hid (HFin.out _ b9)
                    clear b9 f0 f1 f3 HFr hblW p0 p1 p3
                    go_wp2
                    go_ret3
                    exact HF1.out
                  | some iw =>
                    rw [hwc] at hw
                    have HW : Hid (Calls Tryz.prog 71 #[.pointer (some ⟨g, 0, none⟩), .int .i64 ((r'.taken : Int) + 1)] wr fun e w' => e = .returned (.int .i64 (iw : Int)) ∧ wr = w') := hw
                    obtain ⟨bb, hit⟩ := widx_is (hwi.trans hwc)
                    obtain ⟨Ax, cx, rfl, hits⟩ := items_at hR'.wait
                    obtain ⟨q, rfl, hBq, hqw, k0, k1⟩ := hits iw _ hit
                    have hil := (List.getElem?_eq_some_iff.1 hit).1
                    have p5 := hR'.cells.2.2.2.2.2
                    have j0 : (0 : Int) ≤ (iw : Int) := by omega
                    have j1 : (iw : Int) < (r'.wait.length : Int) := by omega
                    obtain ⟨a11, c11, rfl⟩ := L5.own_slice hown
                    have HO : Hid ((wr.alloc (.cells #[.string ⟨bb.toArray⟩] 9)).ownsRow w.heap.size 9 1 (.slice a11 out.length c11) out.length (strs out)) := hown.alloc _
                    have HSz1 := Lib.hid honly.1.size
                    have H18 : Hid (∀ v2 w6, w6.ownsRow w.heap.size 9 1 v2 (out.length + 1) (strs out ++ [.string ⟨bb.toArray⟩]) → (wr.alloc (.cells #[.string ⟨bb.toArray⟩] 9)).grownBy w6 (Value.slice a11 out.length c11).ownBlock → RefAt w6 B g r' vo (.slice (some ⟨q, 0, none⟩) r'.wait.length cx) ∧ w6.ownsRow w.heap.size 9 1 v2 (out ++ [bb]).length (strs (out ++ [bb])) ∧ Only (RIn g vo (.slice Aw r.wait.length cw)) w w6) := fun v2 w6 q1 q2 => by
                      refine ⟨(hR'.below ((Below.refl _ wr).alloc (Nat.le_refl _) _)).grown HO.out q2, ?_, ?_⟩
                      · rw [List.length_append]
                        simpa [strs] using q1
                      · have o1 : Only (RIn g vo (.slice Aw r.wait.length cw)) w (wr.alloc (.cells #[.string ⟨bb.toArray⟩] 9)) := honly.1.alloc _
                        exact ⟨q2.os.trans o1.os, q2.tape.trans o1.tape, q2.output.trans o1.output, Nat.le_trans o1.size q2.size, fun k hk hn => (q2.block k (Nat.lt_of_lt_of_le hk o1.size) (fun e => by have := (HO.out.lt k e.symm).1; omega)).trans (o1.block k hk hn)⟩
                    obtain ⟨kk, hgk⟩ : ∃ kk, gk = kk + 1 := ⟨gk - 1, by omega⟩
                    have hstep : rdrain (gk + 1) r' = (bb :: (rdrain (kk + 1) { r' with taken := r'.taken + 1, wait := cutAt r'.wait iw }).1, (rdrain (kk + 1) { r' with taken := r'.taken + 1, wait := cutAt r'.wait iw }).2) := by
                      rw [hgk]
                      show (match widx r'.wait (r'.taken + 1) with | none => ([], r') | some i => ((r'.wait.getD i (0, [])).2 :: (rdrain (kk + 1) { r' with taken := r'.taken + 1, wait := cutAt r'.wait i }).1, (rdrain (kk + 1) { r' with taken := r'.taken + 1, wait := cutAt r'.wait i }).2)) = _
                      rw [hwi, hwc]
                      show ((r'.wait.getD iw (0, [])).2 :: _, _) = _
                      rw [List.getD, hit]
                      rfl
                    have HM := Lib.hid (show gk - 1 < gk by omega)
                    have hle := hol'
                    clear hw hwi hwc
                    go_wp2_with fail
                    refine HW.out.mono ?_
                    rintro e w8 ⟨rfl, rfl⟩
                    go_wp2_with fail
                    refine HW.out.mono ?_
                    rintro e w8 ⟨rfl, rfl⟩
                    have HQ : Hid (out.length ≤ 902) := (by have := hr0l.2.2.2; omega : out.length ≤ 902)
                    have HEq : Hid (gk = kk + 1 ∧ r'.wait.length = gk ∧ r'.taken + gk ≤ r0.taken + r0.wait.length ∧ out.length + gk ≤ r0.wait.length ∧ r'.me = r0.me ∧ r'.peer = r0.peer ∧ rdrain (r0.wait.length + 1) r0 = (out ++ (rdrain (gk + 1) r').1, (rdrain (gk + 1) r').2)) := ⟨hgk, hkk, htk', hol', hme, hpe, heq⟩
                    have HSt := Lib.hid hstep
                    have HIl := Lib.hid hil
                    have hq902 : out.length ≤ 902 := HQ.out
                    clear heq hstep hgk hkk htk' hol' hme hpe hR' hown honly HW hle hr0l hit hits hqw k0
                    go_wp2_with (at_builtin; refine wpList_append_own_at _ rfl _ _ 48 rfl w.heap.size 9 i1 _ 1 16 Tryz.underlying48 hj hy0 hy1 hy2 rfl (by decide) _ _ _ rfl HO.out ⟨wr.heap.size, 0, none⟩ 1 1 [.string ⟨bb.toArray⟩] rfl rfl (cell_one_new _ _ _) (by simp [Value.oneCell']) (by unfold maxLen; omega) (by omega) (by have := HSz1.out; simp; omega) ?_; intro v2 w6 hown6 hgrow6 hnil6 hat6; have H6 := Lib.hid (H18.out v2 w6 hown6 hgrow6); clear hown6 hgrow6 hnil6 hat6)
                    go_cut [11] from 89 to 140 (fun s11 wc => ∃ vw2, v2 = s11 ∧ RefAt wc B g { r' with wait := cutAt r'.wait iw } vo vw2 ∧ wc.ownsRow w.heap.size 9 1 v2 (out ++ [bb]).length (strs (out ++ [bb])) ∧ Only (RIn g vo (.slice Aw r.wait.length cw)) w wc ∧ Fresh w (.slice Aw r.wait.length cw) vw2)
                    case first =>
                      have hR6 := H6.out.1
                      have d5 := hR6.cells.2.2.2.2.2
                      have hrow6 := hR6.wait
                      have hV1 : Below w6.heap.size w6 (w6.drew.alloc (.cells #[] 102)) := (Below.refl _ w6).drew.alloc (Nat.le_refl _) _
                      have d5A : (w6.alloc (.cells #[] 102)).cell? ⟨g, 5, none⟩ = some (.slice (some ⟨q, 0, none⟩) r'.wait.length cx) := (hV1.cell (p := ⟨g, 5, none⟩) hR6.lt).trans d5
                      have HLit : Hid ((w6.drew.alloc (.cells #[] 102)).ownsRow w6.heap.size 102 2 (.slice (some ⟨w6.heap.size, 0, none⟩) 0 0) 0 []) := World.ownsRow_lit (e := 102) (base := w6.heap.size) (size := 2) w6.drew #[] 0 (Nat.le_refl _) (by unfold maxLen; omega) rfl
                      have hcut := cut_facts2 (at_ := iw) hrow6 hV1
                      have HN1' := Lib.hid hcut.1
                      have HFarC := Lib.hid hcut.2
                      have hL1 : Hid ((flatI (r'.wait.take iw)).length = iw * 2) := by show _ = _; rw [flatI_len, List.length_take]; have := HIl.out; omega
                      have hL2 : Hid ((flatI (r'.wait.drop (iw + 1))).length = (r'.wait.length - (iw + 1)) * 2) := by show _ = _; rw [flatI_len, List.length_drop]
                      have HOne : Hid ((∀ u ∈ flatI (r'.wait.take iw), u.oneCell' = true) ∧ (∀ u ∈ flatI (r'.wait.drop (iw + 1)), u.oneCell' = true)) := ⟨flatI_one _, flatI_one _⟩
                      have hwl6 : r'.wait.length ≤ 902 := by have h1 := HEq.out.2.1; have h2 := HEq.out.2.2.2.1; have h3 := HR0.out.2.2.2; omega
                      have m1 : Hid (0 + iw ≤ maxLen ∧ (0 + iw) * 24 ≤ 140737488355328 ∧ iw + (r'.wait.length - (iw + 1)) ≤ maxLen ∧ (iw + (r'.wait.length - (iw + 1))) * 24 ≤ 140737488355328) := by have := HIl.out; exact ⟨by unfold maxLen; omega, by omega, by unfold maxLen; omega, by omega⟩
                      have m2 : Hid (w6.heap.size ≤ (w6.drew.alloc (.cells #[] 102)).heap.size) := hV1.size
                      have HB6 : Hid (B ≤ w6.heap.size) := Nat.le_trans HBB.out H6.out.2.2.size
                      have HGk : Hid (∀ k, v2.ownBlock = some k → k ≠ g) := fun k e e' => by
                        have h1 := (H6.out.2.1.lt k e).1
                        have h2 := HLt.out
                        omega
                      have hcx : r'.wait.length ≤ cx := by
                        rcases hrow6.2 with ⟨e, _⟩ | ⟨_, cap, cur, e, _, _, h4, _⟩
                        · cases e
                        · cases e; exact h4
                      have z3 : (iw : Int) ≤ (r'.wait.length : Int) := by omega
                      have z4 : (iw : Int) ≤ (cx : Int) := by omega
                      have z5 : (iw : Int) + 1 ≤ (r'.wait.length : Int) := by omega
                      have z6 : (r'.wait.length : Int) ≤ (cx : Int) := by omega
                      have z8 : (0 : Int) ≤ (iw : Int) + 1 := by omega
                      have jwi : IntKind.i64.wrap ((iw : Int) + 1) = (iw : Int) + 1 := by rw [IntKind.wrap_i64]; omega
                      have htn : ((iw : Int) + 1).toNat = iw + 1 := by omega
                      clear hcut hV1 hR6 hrow6
                      by_cases hcap' : cx = iw + 1
                      · have HNil : Hid (flatI (r'.wait.drop (iw + 1)) = []) := (by rw [List.drop_of_length_le (by omega)]; rfl : flatI (r'.wait.drop (iw + 1)) = [])
                        subst hcap'
                        have z9 : (iw : Int) ≤ (iw : Int) + 1 := by omega
                        go_region_law (first
                          | (refine step_append_owned rfl (.tmp 123) (.tmp 130) 41 rfl w6.heap.size 102 i0 (.agg #[.int .i64 0, .string ⟨#[]⟩]) 2 24 Tryz.underlying41 hi hz0 hz1 hz2 rfl (by decide) v8 iw (flatI (r'.wait.take iw)) (by simp [Act.eval, Act.put]) X8.out.1 ⟨q, 0, none⟩ (r'.wait.length - (iw + 1)) 0 (flatI (r'.wait.drop (iw + 1))) (by first | (simp [Act.eval, Act.put]; done) | (simp [Act.eval, Act.put]; omega)) hL2.out (fun j u hu => by rw [HNil.out] at hu; simp at hu) HOne.out.2 m1.out.2.2.1 m1.out.2.2.2 (Nat.le_trans m2.out X8.out.2.size) ?_
                             intro v9 w9 hown5 hgrow5
                             obtain ⟨A9, c9, rfl⟩ := L5.own_slice hown5
                             have X9 := Lib.hid (cut_end2 H6.out.1 HB6.out HIl.out H6.out.2.2 X8.out ⟨hown5, hgrow5⟩)
                             have cc9 := X9.out.2.1
                             have cf9 := X9.out.2.2.1
                             have hfr9 : Hid (Fresh w (.slice Aw r.wait.length cw) (.slice A9 (iw + (r'.wait.length - (iw + 1))) c9)) := fun k e => .inr (Nat.le_trans H6.out.2.2.size (hown5.lt k e).1)
                             clear hown5 hgrow5)
                          | (refine step_append_owned rfl (.tmp 116) (.tmp 122) 41 rfl w6.heap.size 102 i0 (.agg #[.int .i64 0, .string ⟨#[]⟩]) 2 24 Tryz.underlying41 hi hz0 hz1 hz2 rfl (by decide) (.slice (some ⟨w6.heap.size, 0, none⟩) 0 0) 0 [] (by simp [Act.eval, Act.put]) HLit.out ⟨q, 0, none⟩ iw (iw + 1) (flatI (r'.wait.take iw)) (by simp [Act.eval, Act.put]) hL1.out HN1'.out HOne.out.1 m1.out.1 m1.out.2.1 m2.out ?_
                             intro v8 w8 hown4 hgrow4
                             have X8 : Hid (w8.ownsRow w6.heap.size 102 2 v8 iw (flatI (r'.wait.take iw)) ∧ (w6.drew.alloc (.cells #[] 102)).grownBy w8 (some w6.heap.size)) := ⟨by rw [Nat.zero_add] at hown4; exact hown4, hgrow4⟩
                             have cc8 : w8.cell? ⟨g, 5, none⟩ = some (.slice (some ⟨q, 0, none⟩) r'.wait.length (iw + 1)) := ((((Below.refl w6.heap.size w6).drew.alloc (Nat.le_refl _) _).grown hgrow4 (by rw [World.size_alloc]; exact Nat.le_succ _) (fun k e => by cases e; exact Nat.le_refl _)).cell (p := ⟨g, 5, none⟩) H6.out.1.lt).trans d5
                             clear hown4 hgrow4))
                        all_goals
                          have HMid := Lib.hid (And.intro X9.out.2.2.2.1 (And.intro (L5.own_same (W' := w9.setCell ⟨g, 5, none⟩ (.slice A9 (iw + (r'.wait.length - (iw + 1))) c9)) (L5.own_below H6.out.2.1 X9.out.1) (fun k e => Below.heap_setCell _ _ _ _ (fun e' => HGk.out k e e'))) (And.intro X9.out.2.2.2.2 hfr9.out)))
                          clear hfr9
                          have e0 : r'.wait.length - (iw + 1) = 0 := by omega
                          rw [e0, Nat.add_zero] at HMid
                          clear e0
                          go_wp2
                          go_meet
                          case rel => exact ⟨_, rfl, HMid.out⟩
                      · go_region_law (first
                          | (refine step_append_owned rfl (.tmp 123) (.tmp 130) 41 rfl w6.heap.size 102 i0 (.agg #[.int .i64 0, .string ⟨#[]⟩]) 2 24 Tryz.underlying41 hi hz0 hz1 hz2 rfl (by decide) v8 iw (flatI (r'.wait.take iw)) (by simp [Act.eval, Act.put]) X8.out.1 ⟨q, (iw + 1) * 2, none⟩ (r'.wait.length - (iw + 1)) (cx - (iw + 1)) (flatI (r'.wait.drop (iw + 1))) (by first | (simp [Act.eval, Act.put]; done) | (simp [Act.eval, Act.put]; omega)) hL2.out (HFarC.out _ X8.out.2) HOne.out.2 m1.out.2.2.1 m1.out.2.2.2 (Nat.le_trans m2.out X8.out.2.size) ?_
                             intro v9 w9 hown5 hgrow5
                             obtain ⟨A9, c9, rfl⟩ := L5.own_slice hown5
                             have X9 := Lib.hid (cut_end2 H6.out.1 HB6.out HIl.out H6.out.2.2 X8.out ⟨hown5, hgrow5⟩)
                             have cc9 := X9.out.2.1
                             have cf9 := X9.out.2.2.1
                             have hfr9 : Hid (Fresh w (.slice Aw r.wait.length cw) (.slice A9 (iw + (r'.wait.length - (iw + 1))) c9)) := fun k e => .inr (Nat.le_trans H6.out.2.2.size (hown5.lt k e).1)
                             clear hown5 hgrow5)
                          | (refine step_append_owned rfl (.tmp 116) (.tmp 122) 41 rfl w6.heap.size 102 i0 (.agg #[.int .i64 0, .string ⟨#[]⟩]) 2 24 Tryz.underlying41 hi hz0 hz1 hz2 rfl (by decide) (.slice (some ⟨w6.heap.size, 0, none⟩) 0 0) 0 [] (by simp [Act.eval, Act.put]) HLit.out ⟨q, 0, none⟩ iw cx (flatI (r'.wait.take iw)) (by simp [Act.eval, Act.put]) hL1.out HN1'.out HOne.out.1 m1.out.1 m1.out.2.1 m2.out ?_
                             intro v8 w8 hown4 hgrow4
                             have X8 : Hid (w8.ownsRow w6.heap.size 102 2 v8 iw (flatI (r'.wait.take iw)) ∧ (w6.drew.alloc (.cells #[] 102)).grownBy w8 (some w6.heap.size)) := ⟨by rw [Nat.zero_add] at hown4; exact hown4, hgrow4⟩
                             have cc8 : w8.cell? ⟨g, 5, none⟩ = some (.slice (some ⟨q, 0, none⟩) r'.wait.length cx) := ((((Below.refl w6.heap.size w6).drew.alloc (Nat.le_refl _) _).grown hgrow4 (by rw [World.size_alloc]; exact Nat.le_succ _) (fun k e => by cases e; exact Nat.le_refl _)).cell (p := ⟨g, 5, none⟩) H6.out.1.lt).trans d5
                             clear hown4 hgrow4))
                        all_goals
                          have HMid := Lib.hid (And.intro X9.out.2.2.2.1 (And.intro (L5.own_same (W' := w9.setCell ⟨g, 5, none⟩ (.slice A9 (iw + (r'.wait.length - (iw + 1))) c9)) (L5.own_below H6.out.2.1 X9.out.1) (fun k e => Below.heap_setCell _ _ _ _ (fun e' => HGk.out k e e'))) (And.intro X9.out.2.2.2.2 hfr9.out)))
                          clear hfr9
                          go_wp2
                          go_meet
                          case rel => exact ⟨_, rfl, HMid.out⟩
                    case rest =>
                      obtain ⟨vw2, rfl, hR7, hown7, ho7, hfr7⟩ := hcut
                      have hl2 := cutAt_len (l := r'.wait) (i := iw) HIl.out
                      have p3' := hR7.cells.2.2.2.1
                      have f3' := hR7.froze 3
                      have HF : Hid (DrainGo w B g vo (.slice Aw r.wait.length cw) r0 (gk - 1) v2 (wc.setCell ⟨g, 3, none⟩ (.int .i64 ((r'.taken : Int) + 1)))) := by
                        obtain ⟨e0, e1, e2, e3, e4, e5, e6⟩ := HEq.out
                        refine ⟨{ r' with taken := r'.taken + 1, wait := cutAt r'.wait iw }, vw2, out ++ [bb], ?_, hR7.takes, ?_, ⟨Only.setCell ho7 (.inl (.inl rfl)) _, hfr7⟩, ?_, e4, e5, ?_, ?_⟩
                        · show (cutAt r'.wait iw).length = gk - 1
                          omega
                        · refine L5.own_same hown7 (fun k e => Below.heap_setCell _ _ _ _ (fun e' => ?_))
                          rcases hown7.2 with ⟨rfl, _⟩ | ⟨k2, cap, cur, rfl, _, h1', _⟩
                          · cases e
                          · have e2' : k2 = g := by cases e; exact e'
                            rw [e2', hR7.own] at h1'
                            cases h1'
                        · rw [e6, HSt.out, show gk - 1 = kk by omega]
                          simp
                        · show r'.taken + 1 + (gk - 1) ≤ _
                          omega
                        · rw [List.length_append]
                          show out.length + 1 + (gk - 1) ≤ _
                          omega
                      have p3'' : wc.cell? ⟨g, 3, none⟩ = some (.int .i64 (r'.taken : Int)) := p3'
                      clear hR7 hown7 ho7 hfr7 hl2 p3' HEq HSt HIl H6 H18 HO
                      go_wp2
                      go_roundg (gk - 1)
                      case measure => exact HM.out
                      case rel => simpa using HF.out
  · have hB2 := HB1.out.trans (b2.mono HB1.out.size)
    have HF : Hid (∀ V', Below w2.heap.size w2 V' → RTakeOut w B g r vo vw f (.returned (.tuple #[.slice none 0 0, .string ⟨#[]⟩, .int .i64 2])) V') := fun V' hV' =>
      ⟨.bad 2, HR2.out (fun m' hm' => absurd ⟨m', hm'⟩ hno), rtook_bad HH.out (hB2.trans (hV'.mono hB2.size))⟩
    unfold zeroMsg
    have hB3 : Below w2.heap.size w2 (w2.alloc (.cells #[.int .i64 0, .int .i64 0, .int .i64 0, .int .i64 0, .int .i64 0, .int .i64 0, .slice none 0 0, .slice none 0 0] 52)) := (Below.refl _ w2).alloc (Nat.le_refl _) _
    have HB3 := Lib.hid hB3
    clear hB2 hB3 hno b2 HU HR2 HR3 HB1
    go_wp2
    refine wp_region_later (by kernel_rfl) (by kernel_rfl) ?_
    repeat
      (refine Quietly.step (fun K hK => ?_)
       go_simp
       refine hK _ ?_
       clear hK K)
    refine Quietly.none ?_
    rintro w4 ⟨⟨V, b4⟩, rfl⟩
    have HF1 := Lib.hid (HF.out _ (HB3.out.trans (b4.mono HB3.out.size)))
    clear b4 HF
    go_wp2
    go_ret3
    exact HF1.out
end Go.Proofs.YtiodphkmllcjdaaGreat.L7
end
