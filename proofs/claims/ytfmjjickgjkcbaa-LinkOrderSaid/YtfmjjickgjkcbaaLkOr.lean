/- LinkOrder: what is taken is the beginning of what was sent; when all that is open is sent again, and comes, all is taken. The statement LinkOrder: for every input the law returns true, and its arguments read as they did. -/
import Derived.Test.YtfmjjickgjkcbaaLkP
import Derived.Deep.CutBlock
import Derived.Deep.DeepCutAuto
section
namespace Go.Proofs.Ytfmjjickgjkcbaa.L7
open Go.ChangeShapes Go.WideShapes Go.ChangeAt Go.RowKit L6

theorem order_start {w w3 : World} {x y : Blk} (hT : Two7 w3 x y 0 0 (newL 1 2) (newL 2 1)) (hB : Below w.heap.size w w3) (hA : x.Above w.heap.size ∧ y.Above w.heap.size) :
    Ost w w3.heap.size x y [] [] 0 0 (newL 1 2) (newL 2 1) [] [] (.slice none 0 0) (.slice none 0 0) (.slice none 0 0) (.slice none 0 0) (w3.alloc (.cells #[.slice none 0 0, .slice none 0 0] 32)) := by
  have bA : Below w3.heap.size w3 (w3.alloc (.cells #[.slice none 0 0, .slice none 0 0] 32)) := (Below.refl _ w3).alloc (Nat.le_refl _) _
  have l1 := hT.one.lt
  have l2 := hT.two.lt
  refine ⟨⟨⟨heap_alloc_new w3 _, hB.size, ⟨rfl, .inl ⟨rfl, rfl⟩⟩, ⟨rfl, .inl ⟨rfl, rfl⟩⟩, rfl⟩, hT.below bA, fun k hk hx => ?_⟩, Ordr.start, NetOk.nil _ _, ⟨rfl, .inl ⟨rfl, rfl⟩⟩, ⟨rfl, .inl ⟨rfl, rfl⟩⟩, (fun q e => by cases e), hB.trans (bA.mono hB.size), hA⟩
  rcases hk with e | e | e
  · unfold In4 at hx; omega
  · cases e
  · cases e

set_option maxRecDepth 100000 in
set_option maxHeartbeats 16000000 in
theorem order_calls {A : Option Addr} {n0 c0 : Nat} (w : World) (hA : Acts w A n0) (hn : n0 ≤ maxLen) : Calls Try.prog 3 #[.slice A n0 c0] w (One w (.bool true)) := by
  obtain ⟨i0, hi, hz0, hz1, hz2⟩ := info_parts info_term
  obtain ⟨i1, hj, hy0, hy1, hy2⟩ := info_parts info_string
  have HSh := Lib.hid (shown_calls w)
  have HN1 := Lib.hid (fun V => new_calls 1 2 (by omega) (by omega) (by omega) (by omega) (by omega) V)
  have HN2 := Lib.hid (fun V => new_calls 2 1 (by omega) (by omega) (by omega) (by omega) (by omega) V)
  have HA := Lib.hid hA
  unfold maxLen at hn
  clear hA
  go_enter Try.func3, Try.ntmps3
  go_wp2_with fail
  refine HSh.out.mono ?_
  rintro e w1 ⟨rfl, b1⟩
  have HB1 := Lib.hid b1
  have HN1 := Lib.hid (HN1.out w1)
  clear b1 HSh
  go_wp2_with fail
  refine HN1.out.mono ?_
  rintro e w2 ⟨x, rfl, x2, b2, a2⟩
  have HB2 := Lib.hid (HB1.out.trans (b2.mono HB1.out.size))
  have HX := Lib.hid (And.intro x2 a2)
  have HN2 := Lib.hid (HN2.out w2)
  clear b2 x2 a2 HN1
  go_wp2_with fail
  refine HN2.out.mono ?_
  rintro e w3 ⟨y, rfl, y3, b3, a3⟩
  have HT := Lib.hid (two_new HX.out.1 b3 y3 a3)
  have HB3 := Lib.hid (HB2.out.trans (b3.mono HB2.out.size))
  have HAb : Hid (x.Above w.heap.size ∧ y.Above w.heap.size) := by
    have h1 := HX.out.2
    have h2 := HB1.out.size
    have h3 := HB2.out.size
    simp only [Blk.Above] at h1 a3 ⊢
    show _ ∧ _
    omega
  clear b3 y3 a3 HN2 HX
  by_cases h120 : 120 < n0
  · have h120i : (120 : Int) < (n0 : Int) := by omega
    go_wp2
    go_ret
    exact ⟨rfl, HB3.out⟩
  have h120i : ¬ (120 : Int) < (n0 : Int) := by omega
  have H0 := Lib.hid (order_start HT.out HB3.out HAb.out)
  clear HT HB3 HAb HB1 HB2
  go_upto_block 0 with fail
  generalize w3.heap.size = h at *
  go_cut [9, 10] (fun v9 v10 wc => OMid w h x y 120 v9 v10 wc)
  case first =>
    have h120n : n0 ≤ 120 := by omega
    clear h120 h120i hn
    go_wp2_with fail
    go_loopg [9, 10, 11] n0 (fun k v9 v10 v11 wr => OGo w h x y n0 k v9 v10 v11 wr)
    case atStart => exact ⟨0, by omega, rfl, _, _, _, _, _, _, _, _, _, H0.out, by omega, by simp, by simp⟩
    clear H0
    case round =>
      obtain ⟨i, hk, rfl, sent, n, m, s, t, tos, fs, vt, vl, ho, hnm, hsl, hfl⟩ := hrel
      obtain ⟨Al, cl, rfl⟩ := L5.own_slice ho.z.net.l
      obtain ⟨At, ct, rfl⟩ := L5.own_slice ho.z.net.to
      obtain ⟨q0, q1, _, _⟩ := ho.z.net.cells
      have HO := Lib.hid ho
      by_cases hlt : i < n0 ∧ fs.length < 400
      · obtain ⟨ad, o0, o1, s2, rfl, hadb, ⟨ho0, ho1⟩, d0, d1, _⟩ := HA.out i hlt.1
        have c0 : wr.cell? (ad.add (i * 3)) = some (.int .i64 o0) := (ho.below.cell (p := ad.add (i * 3)) (by rw [addr_block]; exact hadb)).trans d0
        have HC1 : Hid (∀ V, Below w.heap.size w V → V.cell? ⟨(ad.add (i * 3)).block, (ad.add (i * 3)).off + 1, none⟩ = some (.int .i64 o1)) := fun V hV => (hV.cell (p := ⟨(ad.add (i * 3)).block, (ad.add (i * 3)).off + 1, none⟩) (by show (ad.add (i * 3)).block < _; rw [addr_block]; exact hadb)).trans d1
        have c1 := HC1.out wr ho.below
        have s1 : (i : Int) < (n0 : Int) := by omega
        have s2 : (0 : Int) ≤ (i : Int) := by omega
        have s3 : (fs.length : Int) < 400 := by omega
        have HPk := Lib.hid (pick_is ho0 (n := 13) (by omega) (by omega) wr)
        have HI1 := Lib.hid ho1
        have hp := pickN_lt o0 (n := 13) (by omega)
        generalize pickN o0 13 = o at *
        have hmm := Lib.hid (show gk - 1 < gk by omega)
        have hkk := Lib.hid (show (gk - 1) + (i + 1) = n0 by omega)
        have hi' := Lib.hid (show i ≤ 119 by omega)
        have hf4 : fs.length < 400 := hlt.2
        clear d0 d1 hadb hk ho0 ho1 ho hlt hfl
        go_wp2_with fail
        refine HPk.out.mono ?_
        rintro e w6 ⟨rfl, rfl⟩
        clear HPk
        go_upto_block 2 with fail
        go_cut [9, 10] (fun v9 v10 wc => OMid w h x y (i + 1) v9 v10 wc)
        case first =>
          by_cases t4 : o < 4
          · have p1 : (o : Int) < 4 := by omega
            have HBd := Lib.hid (body_calls HI1.out wr)
            clear q0 q1 c0
            go_wp2_with fail
            refine HBd.out.mono ?_
            rintro e w7 ⟨rfl, b7⟩
            have A7 := Lib.hid (HO.out.next b7)
            have hi9 := hi'.out
            clear HBd b7 HO c1
            by_cases h64 : s.opens.length < 64
            · obtain ⟨hs1, hs2⟩ := A7.out.sends (small_body o1) (by omega) h64
              have HSn := send_calls A7.out.z.two.one (bodyL o1) (by have := (small_body o1).2; unfold maxLen; omega)
              unfold SendOut at HSn
              rw [hs1] at HSn
              have HS2 := Lib.hid hs2
              have HSn := Lib.hid HSn
              clear hs1 hs2 h64
              go_wp2_with fail
              refine HSn.out.mono ?_
              rintro e w8 ⟨rfl, e8, o8⟩
              have A8 := Lib.hid (HS2.out w8 e8 o8)
              have c8 := HC1.out w8 A8.out.below
              have HBd8 := Lib.hid (body_calls HI1.out w8)
              clear HSn HS2 e8 o8 A7
              generalize (sendL s (bodyL o1)).2 = s8 at *
              generalize hbo : bodyL o1 = bo at *
              clear hbo
              go_wp2_with fail
              refine HBd8.out.mono ?_
              rintro e w9 ⟨rfl, b9⟩
              have A9 := Lib.hid (A8.out.next b9)
              clear HBd8 A8 b9 c8
              have HNx : Hid (∀ v9 w10, w10.ownsRow w.heap.size 9 1 v9 (sent.length + 1) (strs sent ++ [.string ⟨bo.toArray⟩]) → (w9.alloc (.cells #[.string ⟨bo.toArray⟩] 9)).grownBy w10 (Value.ownBlock _) → Ost w h x y (sent ++ [bo]) (sent ++ [bo]) n m s8 t tos fs _ _ v9 _ w10) := fun v9 w10 k1 k2 => A9.out.rowed k1 (L5.grow_trans (World.grownBy_alloc w9 _ _) k2)
              have hw9 : w.heap.size ≤ w9.heap.size := A9.out.size
              have HSr := Lib.hid A9.out.snt
              have HOk := Lib.hid (frok_new sent bo t.taken)
              clear A9
              go_wp2_with (at_builtin; refine wpList_append_own_at _ rfl _ _ 33 rfl (w.heap.size) 9 i1 _ 1 16 Try.underlying33 hj hy0 hy1 hy2 rfl (by decide) _ _ _ rfl (HSr.out.alloc _) ⟨w9.heap.size, 0, none⟩ 1 1 [.string ⟨bo.toArray⟩] rfl rfl (cell_one_new _ _ _) (by simp [Value.oneCell']) (by unfold maxLen; omega) (by omega) (by simp; omega) ?_; intro v9' w10 hown' hgrow hnil hat; have A10 := Lib.hid (HNx.out v9' w10 hown' hgrow); clear hown' hgrow hnil hat)
              have HAd := Lib.hid (A10.out.add_one 2 (by omega) HOk.out)
              clear HNx HSr HOk
              refine HAd.out.mono ?_
              rintro e w11 ⟨rfl, vt', vl', a11⟩
              have HF : Hid (OMid w h x y (i + 1) v9' _ w11) := ⟨_, _, _, _, _, _, _, _, _, a11, by omega, by simp; omega, by have := laid_len [dataF 1 2 (sent.length + 1) bo]; simp at this ⊢; omega⟩
              clear a11 HAd A10
              go_wp2_with fail
              go_meet
              case rel => exact HF.out
            · have h64' : s.opens.length = 64 := by have := A7.out.z.two.one.ok.room; omega
              have HSn := send_calls A7.out.z.two.one (bodyL o1) (by have := (small_body o1).2; unfold maxLen; omega)
              unfold SendOut at HSn
              rw [sendL_full (small_body o1) h64'] at HSn
              have HSn := Lib.hid HSn
              clear h64 h64'
              go_wp2_with fail
              refine HSn.out.mono ?_
              rintro e w8 ⟨rfl, e8, o8⟩
              have HF : Hid (OMid w h x y (i + 1) _ _ w8) := ⟨_, _, _, _, _, _, _, _, _, A7.out.one0 e8 o8 A7.out.o, by omega, by omega, by omega⟩
              clear HSn e8 o8 A7
              go_wp2_with fail
              go_meet
              case rel => exact HF.out
          · have p1 : ¬ (o : Int) < 4 := by omega
            by_cases t10 : 10 < o
            · have p2 : (10 : Int) < (o : Int) := by omega
              have HAg := Lib.hid (HO.out.again (by omega))
              have h64 := HO.out.z.two.one.ok.room
              clear q0 q1 c0 c1
              go_wp2_with fail
              refine HAg.out.mono ?_
              rintro e w7 ⟨Aa, ca, rfl, a7, hadd⟩
              have HAd := Lib.hid hadd
              clear HAg a7 hadd HO
              go_wp2_with fail
              refine HAd.out.mono ?_
              rintro e w8 ⟨rfl, vt', vl', a8⟩
              have HF : Hid (OMid w h x y (i + 1) _ _ w8) := ⟨_, _, _, _, _, _, _, _, _, a8, by omega, by omega, by have := laid_len s.opens; simp; omega⟩
              clear HAd a8
              go_wp2_with fail
              go_meet
              case rel => exact HF.out
            · have p2 : ¬ (10 : Int) < (o : Int) := by omega
              by_cases hfz : 0 < fs.length
              · have p3 : (0 : Int) < (fs.length : Int) := by omega
                have HPk := Lib.hid (pick_is HI1.out (n := fs.length) hfz (by omega) wr)
                have hkl := pickN_lt o1 hfz
                generalize pickN o1 fs.length = k at *
                by_cases t9 : o < 9
                · have p4 : (o : Int) < 9 := by omega
                  have hi9 := hi'.out
                  have HCm := Lib.hid (HO.out.comes hkl (by omega) (by unfold maxLen; omega) (by unfold maxLen; omega) (by omega))
                  clear q0 q1 c0
                  go_wp2_with fail
                  refine HPk.out.mono ?_
                  rintro e w7 ⟨rfl, rfl⟩
                  clear HPk c1
                  go_wp2_with fail
                  refine HCm.out.mono ?_
                  rintro e w7 ⟨v, l, n', m', s', t', T, F, vt', vl', rfl, r7, c7⟩
                  have HG : Hid (w7.ownsRow w.heap.size 37 1 _ t.taken (strs (sent.take t.taken)) ∧ ∀ vg' w8, w8.ownsRow w.heap.size 37 1 vg' (t.taken + (ba l).length) (strs (sent.take t.taken) ++ strV (ba l)) → w7.grownBy w8 (Value.ownBlock _) → (vg'.ownBlock = Value.ownBlock _ ∨ vg'.ownBlock = some w7.heap.size) → OMid w h x y (i + 1) _ vg' w8) :=
                    ⟨(HO.out.came (w' := w7) c7).1, fun vg' w8 k1 k2 k3 => ⟨_, _, _, _, _, _, _, _, _, (HO.out.came (w' := w8) c7).2 vg' (by rw [ba_length, strV_ba] at k1; exact k1) k2 k3, by have := c7.count; omega, by omega, by have := c7.len; omega⟩⟩
                  have hll : (ba l).length ≤ 120 := by
                    have h1 := congrArg List.length c7.got
                    have h2 := c7.ord.taken
                    rw [List.length_take, List.length_append] at h1
                    rw [ba_length]
                    omega
                  have htt : t.taken ≤ 120 := by have := HO.out.o.taken; omega
                  have hw7 : w.heap.size ≤ w7.heap.size := Nat.le_trans HO.out.size c7.only.size
                  have HSrc := Lib.hid (sin_row r7)
                  clear r7 c7 HCm HO
                  go_wp2_with (at_builtin; refine wpList_append_texts_at (by rfl) _ _ 30 rfl (w.heap.size) 37 i0 _ 16 Try.underlying30 hi hz0 hz1 hz2 rfl _ t.taken (strs (sent.take t.taken)) (by rfl) HG.out.1 _ (ba l) (by rfl) HSrc.out (by unfold maxLen; omega) (by omega) (by omega) ?_; intro vg' w8 hown' hgrow hat'; have HF := Lib.hid (HG.out.2 vg' w8 hown' hgrow hat'); clear hown' hgrow hat')
                  clear HG HSrc
                  go_meet
                  case rel => exact HF.out
                · have p4 : ¬ (o : Int) < 9 := by omega
                  by_cases t99 : o = 9
                  · have p5 : ((o : Int) == 9) = true := by rw [beq_iff_eq]; omega
                    have HOt := Lib.hid (HO.out.out hkl (by omega))
                    clear q0 q1 c0 HO t99
                    go_wp2_with fail
                    refine HPk.out.mono ?_
                    rintro e w7 ⟨rfl, rfl⟩
                    clear HPk c1
                    go_wp2_with fail
                    refine HOt.out.mono ?_
                    rintro e w8 ⟨rfl, vt', vl', a8⟩
                    have HF : Hid (OMid w h x y (i + 1) _ _ w8) := ⟨_, _, _, _, _, _, _, _, _, a8, by omega, by omega, by simp; omega⟩
                    clear HOt a8
                    go_wp2_with fail
                    go_meet
                    case rel => exact HF.out
                  · have p5 : ((o : Int) == 9) = false := by rw [beq_eq_false_iff_ne]; omega
                    have hle := HO.out.z.net.len
                    obtain ⟨dst, f, hf1, hf2, hf3⟩ := HO.out.no.at hkl
                    obtain ⟨gl, cl', e1, hgl, _, _, _⟩ := row_shape HO.out.z.net.l hfz
                    obtain ⟨gt, ct', e2, hgt, _, _, _⟩ := row_shape HO.out.z.net.to (by omega)
                    simp only [Value.slice.injEq, true_and] at e1 e2
                    obtain ⟨rfl, rfl⟩ := e1
                    obtain ⟨rfl, rfl⟩ := e2
                    have r1 := row_cells HO.out.z.net.l k _ (show (strs fs)[k]? = some (.string ⟨f.toArray⟩) by simp [strs, hf1])
                    have r2 := row_cells HO.out.z.net.to k _ (show (nums tos)[k]? = some (.int .i64 (dst : Int)) by simp [nums, hf2])
                    have bA : Below wr.heap.size wr (wr.alloc (.cells #[.string ⟨f.toArray⟩] 37)) := (Below.refl _ wr).alloc (Nat.le_refl _) _
                    have hhl := HO.out.z.net.lt
                    have q0' := (bA.cell (p := ⟨h, 0, none⟩) hhl).trans q0
                    have q1' := (bA.cell (p := ⟨h, 1, none⟩) hhl).trans q1
                    have r1' := (bA.cell (p := ⟨gl, k, none⟩) hgl).trans r1
                    have r2' := (bA.cell (p := ⟨gt, k, none⟩) hgt).trans r2
                    have HAd := Lib.hid (HO.out.add_one_drew dst (by omega) hf3)
                    have u1 : (0 : Int) ≤ (k : Int) := by omega
                    have u2 : (k : Int) < (fs.length : Int) := by omega
                    have u3 : (k : Int) < (tos.length : Int) := by omega
                    have hkl' := Lib.hid hkl
                    clear hf1 hf2 hf3 hle HO t99 bA hkl
                    go_wp2_with fail
                    refine HPk.out.mono ?_
                    rintro e w7 ⟨rfl, rfl⟩
                    clear HPk c1 c0
                    go_wp2
                    go_region_law (go_simp; go_at_call 10; refine HAd.out.mono ?_; rintro e w8 ⟨rfl, vt', vl', a8⟩; have HF : Hid (OMid w h x y (i + 1) _ _ w8) := ⟨_, _, _, _, _, _, _, _, _, a8, by omega, by omega, by have := laid_len [f]; simp at this ⊢; omega⟩; clear a8)
                    all_goals
                      clear HAd
                      go_wp2_with fail
                      go_meet
                      case rel => exact HF.out
              · have p3 : ¬ (0 : Int) < (fs.length : Int) := by omega
                have HF : Hid (OMid w h x y (i + 1) _ _ wr) := ⟨_, _, _, _, _, _, _, _, _, HO.out, by omega, by omega, by omega⟩
                clear HO q0 q1 c0 c1
                go_wp2_with fail
                go_meet
                case rel => exact HF.out
        case rest =>
          obtain ⟨XX, rfl⟩ : ∃ z, z = wc := ⟨wc, rfl⟩
          obtain ⟨sent', n', m', s', t', tos', fs', vt', vl', ho', hnm', hsl', hfl'⟩ := hcut
          have hi9 := hi'.out
          obtain ⟨As, cs, Ag, cg, rfl, rfl, k1, k2, k3, hsm⟩ := ho'.begins (by omega)
          have HSm := Lib.hid (hsm XX (Below.refl _ _))
          have k4 : ¬ (sent'.length : Int) < (t'.taken : Int) := by omega
          have k5 : (0 : Int) ≤ (t'.taken : Int) := by omega
          have k6 : (t'.taken : Int) ≤ (cs : Int) := by omega
          have HF : Hid (∀ q, OGo w h x y n0 (gk - 1) (.slice As sent'.length cs) (.slice Ag t'.taken cg) (.int .i64 ((i : Int) + 1)) (XX.drewN q)) := fun q => ⟨i + 1, hkk.out, rfl, sent', n', m', s', t', tos', fs', vt', vl', ho'.next (L5.below_drewN (Below.refl _ _) q), hnm', hsl', hfl'⟩
          clear ho' hsm hnm' hsl' hfl' HO q0 q1 c0 c1 HC1 k1 k2 k3
          go_wp2_with fail
          refine HSm.out.mono ?_
          rintro e w8 ⟨rfl, q, rfl⟩
          have HF := Lib.hid (HF.out q)
          clear HSm
          go_wp2
          go_roundg (gk - 1)
          case measure => exact hmm.out
          case rel => exact HF.out
      · have HF : Hid (∃ s t tos fs n m vt vl sent, Ost w h x y sent sent n m s t tos fs vt vl _ _ wr ∧ n + m ≤ 120 ∧ sent.length ≤ 120 ∧ fs.length ≤ 464) := ⟨_, _, _, _, _, _, _, _, _, ho, by omega, by omega, hfl⟩
        by_cases hin : i < n0
        · have s1 : (i : Int) < (n0 : Int) := by omega
          have s3 : ¬ (fs.length : Int) < 400 := by omega
          clear ho hlt hk HO
          go_wp2_with fail
          go_meet
          case rel =>
            obtain ⟨s, t, tos, fs, n, m, vt, vl, sent, h1, h2, h3, h4⟩ := HF.out
            exact ⟨_, _, _, _, _, _, _, _, _, h1, h2, h3, h4⟩
        · have s1 : ¬ (i : Int) < (n0 : Int) := by omega
          clear ho hlt hk HO
          go_wp2_with fail
          go_meet
          case rel =>
            obtain ⟨s, t, tos, fs, n, m, vt, vl, sent, h1, h2, h3, h4⟩ := HF.out
            exact ⟨_, _, _, _, _, _, _, _, _, h1, h2, h3, h4⟩
  case rest =>
    obtain ⟨XX, rfl⟩ : ∃ z, z = wc := ⟨wc, rfl⟩
    have H2 : Hid (∀ vs vg, OMid w h x y 120 vs vg XX → OGo2 w h x y vs 5 vg (.int .i64 0) XX) := fun vs vg ⟨sent, n, m, s, t, tos, fs, vt, vl, h1, h2, h3, h4⟩ => ⟨0, sent, n, m, s, t, tos, fs, vt, vl, rfl, rfl, h1, by omega, h3, h4, .inl rfl⟩
    have H2 := Lib.hid (H2.out _ _ hcut)
    clear hcut H0 HA hn h120 h120i
    go_wp2_with fail
    go_loopg [10, 18] 5 (fun k v10 v18 wr => OGo2 w h x y _ k v10 v18 wr)
    case atStart => exact H2.out
    clear H2
    case round =>
      obtain ⟨j, sent, n, m, s, t, tos, fs, vt, vl, hk, rfl, ho, hnm, hsl, hfl, hjj⟩ := hrel
      by_cases hlt : j < 5
      · have s1 : (j : Int) < 5 := by omega
        have HAg := Lib.hid (ho.again (by omega))
        have hmm := Lib.hid (show gk - 1 < gk by omega)
        have hkk := Lib.hid (show (gk - 1) + (j + 1) = 5 by omega)
        generalize gk - 1 = ko at *
        have HNx : Hid (∀ vt' vl' w8, Ost w h x y sent sent n m s t (tos ++ tosOf 2 s.opens) (fs ++ laid s.opens) vt' vl' _ _ w8 → OGo3 w h x y _ j sent 1100 _ w8) := fun vt' vl' w8 a8 => again_go ho hnm hsl hfl a8
        have hsl' := Lib.hid hsl
        clear ho hjj hk hnm hsl hfl
        go_wp2_with fail
        refine HAg.out.mono ?_
        rintro e w7 ⟨Aa, ca, rfl, a7, hadd⟩
        have HAd := Lib.hid hadd
        clear HAg a7 hadd
        go_wp2_with fail
        refine HAd.out.mono ?_
        rintro e w8 ⟨rfl, vt', vl', a8⟩
        have H3 := Lib.hid (HNx.out vt' vl' w8 a8)
        clear HNx a8 HAd
        go_wp2_with fail
        go_loopg [10] 1100 (fun k v10 wr' => OGo3 w h x y _ j sent k v10 wr')
        case atStart => exact H3.out
        clear H3
        case round =>
          obtain ⟨n, m, s, t, tos, fs, vt, vl, ho, hwk, hcn, hfl, hJ⟩ := hrel
          obtain ⟨Al, cl, rfl⟩ := L5.own_slice ho.z.net.l
          obtain ⟨q0, q1, _, _⟩ := ho.z.net.cells
          have hsl := hsl'.out
          by_cases hf0 : fs.length = 0
          · have HF := Lib.hid (done_go ho hcn hsl hJ hf0 hkk.out)
            have p1 : ¬ (0 : Int) < (fs.length : Int) := by omega
            clear ho hwk hcn hfl hJ hf0 q0 hsl
            go_wp2_with fail
            go_roundg ko
            case measure => exact hmm.out
            case rel => exact HF.out
          · have p1 : (0 : Int) < (fs.length : Int) := by omega
            have HCm := Lib.hid (ho.comes (k := 0) (by omega) (by omega) (by unfold maxLen; omega) (by unfold maxLen; omega) (by omega))
            have HO := Lib.hid ho
            have hgk : Hid (gk - 1 < gk) := by
              have : 0 < weight (tos.zip fs) := by
                have hle := ho.z.net.len
                match tos, fs, hle, hf0 with
                | _ :: _, _ :: _, _, _ => rw [List.zip_cons_cons, weight_cons]; split <;> omega
                | [], [], _, hf0 => exact absurd rfl hf0
              show _ < _
              omega
            have HJ := Lib.hid (And.intro hwk (And.intro hcn (And.intro hfl hJ)))
            clear ho hwk hcn hfl hJ hf0
            go_wp2_with fail
            refine HCm.out.mono ?_
            rintro e w7 ⟨v, l, n', m', s', t', T, F, vt', vl', rfl, r7, c7⟩
            have HG : Hid (w7.ownsRow w.heap.size 37 1 _ t.taken (strs (sent.take t.taken)) ∧ ∀ vg' w8, w8.ownsRow w.heap.size 37 1 vg' (t.taken + (ba l).length) (strs (sent.take t.taken) ++ strV (ba l)) → w7.grownBy w8 (Value.ownBlock _) → (vg'.ownBlock = Value.ownBlock _ ∨ vg'.ownBlock = some w7.heap.size) → OGo3 w h x y _ j sent (gk - 1) vg' w8) :=
              ⟨(HO.out.came (w' := w7) c7).1, fun vg' w8 k1 k2 k3 => came_go HO.out HJ.out.1 HJ.out.2.1 HJ.out.2.2.1 HJ.out.2.2.2 c7 k1 k2 k3⟩
            have hll : (ba l).length ≤ 120 := by
              have h1 := congrArg List.length c7.got
              have h2 := c7.ord.taken
              rw [List.length_take, List.length_append] at h1
              rw [ba_length]
              omega
            have htt : t.taken ≤ 120 := by have := HO.out.o.taken; omega
            have hw7 : w.heap.size ≤ w7.heap.size := Nat.le_trans HO.out.size c7.only.size
            have HSrc := Lib.hid (sin_row r7)
            clear r7 c7 HCm HO q0 q1 HJ
            go_wp2_with (at_builtin; refine wpList_append_texts_at (by rfl) _ _ 30 rfl (w.heap.size) 37 i0 _ 16 Try.underlying30 hi hz0 hz1 hz2 rfl _ t.taken (strs (sent.take t.taken)) (by rfl) HG.out.1 _ (ba l) (by rfl) HSrc.out (by unfold maxLen; omega) (by omega) (by omega) ?_; intro vg' w8 hown' hgrow hat'; have HF := Lib.hid (HG.out.2 vg' w8 hown' hgrow hat'); clear hown' hgrow hat')
            clear HG HSrc
            go_roundg (gk - 1)
            case measure => exact hgk.out
            case rel => exact HF.out
      · have s1 : ¬ (j : Int) < 5 := by omega
        obtain ⟨ho0, htk⟩ := hjj.resolve_left (by omega)
        obtain ⟨As, cs, Ag, cg, e1, e2, k1, k2, k3, hsm⟩ := ho.begins (by omega)
        have HOp : Hid (∀ q, Calls Try.prog 15 #[.pointer (some ⟨x.g, 0, none⟩)] (wr.drewN q) fun e w' => e = .returned (.int .i64 0) ∧ wr.drewN q = w') := fun q => by
          have := open_calls (ho.z.two.one.drewN q)
          rw [ho0] at this
          exact this
        have HB : Hid (∀ q, Below w.heap.size w (wr.drewN q)) := fun q => L5.below_drewN ho.below q
        rw [htk] at e2 hsm
        subst e1 e2
        have HSm := Lib.hid (hsm wr (Below.refl _ _))
        clear ho hsm k1 k2 k3 hk hnm hsl hfl hlt htk ho0 hjj
        go_wp2_with fail
        refine HSm.out.mono ?_
        rintro e w7 ⟨rfl, q, rfl⟩
        have HOp := Lib.hid (HOp.out q)
        have HB := Lib.hid (HB.out q)
        clear HSm
        go_wp2_with fail
        refine HOp.out.mono ?_
        rintro e w8 ⟨rfl, rfl⟩
        go_wp2
        go_ret
        exact ⟨rfl, HB.out⟩
end Go.Proofs.Ytfmjjickgjkcbaa.L7
end

section
namespace Go.Proofs.Ytfmjjickgjkcbaa
open Go.ChangeShapes Go.WideShapes Go.ChangeAt Go.RowKit

set_option maxRecDepth 100000 in
theorem lkorder_lifted (os : Os) (started : os.Started) (H : Type) (enc : TypeId × Value → H) :
    ReturnsInHanded {} Try.checked os 3 .any (Rows.linkOrderSpec.pre6 enc Try.prog Try.f3 Rows.linkOrderRow.domain false) (Rows.linkOrderSpec.post enc Try.prog Try.f3 false true false false) := by
  refine returnsInHanded_of_change (C := Try.checked) L5.own started (by kernel_rfl) Try.func3
    (ChangeSpec.witness6 (enc := enc) (C := Try.checked) false ⟨#[], #[.slice none 0 0], []⟩ 8 (by kernel_rfl) (by kernel_rfl) (by kernel_rfl) (by kernel_rfl)) ?_
  intro W base args ds gs before hval0 hW hcnd _
  have hval : ∀ (j : Nat) t v, Try.f3.params[j]? = some t → args[j]? = some v → Value.okWide Try.prog W .any base t v := hval0
  have hW' := hW
  obtain ⟨p, q, hA0, hV, rfl, hfz, hnd⟩ := hW
  have hA : DataW.TrodAll enc Try.prog W 0 (fun _ => true) true Try.f3.params.toList args.toList ds p := hA0
  rw [Try.params3] at hA hval
  obtain ⟨v0, vs0, d0, ds0, p0, q0, hargs, rfl, rfl, h0, r0⟩ := trodAll_cons hA
  obtain ⟨rfl, rfl, rfl⟩ := trodAll_nil r0
  obtain rfl : args = #[v0] := by cases args; simp_all
  obtain ⟨rfl, rfl⟩ := trodVars_none hV
  have h0k := h0
  obtain ⟨A0, n0, c0, rfl, hS0, hn0⟩ := L7.open_acts (hval 0 22 v0 rfl rfl) h0
  clear hA0 hval0
  simp only [List.append_nil] at hW'
  have hlt : ∀ x ∈ p0, x.block < W.heap.size := fun x hx => by simpa using hW'.lt x (by simpa using hx)
  refine (L7.order_calls W hS0 hn0).mono fun e W' ⟨he, hg⟩ => ?_
  subst he
  exact ⟨_, rfl, L5.post_law_at (pv := []) hW' (trodAll_cons_mk (shut_bool Try.underlying4 _) trodAll_mk0) (trodAll_cons_mk (Below.trod L5.laid_out (by kernel_rfl) (of_decide_eq_true (by kernel_rfl)) h0k hg hlt) trodAll_mk0) rfl (by simp) hg⟩

theorem lkorder_over : Rows.linkOrderRow.holds Try.pinned (OpenSpec.ofChange Rows.linkOrderSpec) :=
  OpenClaim.holds_of_wide 3 Try.f3 rfl rfl rfl rfl rfl rfl rfl ⟨rfl, rfl, rfl, rfl, rfl⟩ rfl rfl rfl rfl rfl (by kernel_rfl) Try.func3 (by kernel_rfl)
    (of_decide_eq_true (by kernel_rfl)) (by unfold Func.isWrapper; first | (rw [if_pos (by decide +kernel)]; kernel_rfl) | (rw [if_neg (by decide +kernel)]; exact ⟨rfl, rfl⟩))
    (fun os started H enc _ => lkorder_lifted os started H enc)

theorem lkorder_proved : Rows.LinkOrderSaid := lkorder_over

end Go.Proofs.Ytfmjjickgjkcbaa
end
