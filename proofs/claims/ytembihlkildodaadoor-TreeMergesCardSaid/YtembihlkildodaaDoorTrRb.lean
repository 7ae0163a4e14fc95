/- The law TreeReadBack. -/
import Derived.Test.YtembihlkildodaaDoorTrMade
namespace Go.Proofs.YtembihlkildodaaDoor.L13
open Go.ChangeShapes Go.WideShapes Go.ChangeAt Go.RowKit Go.Deep
open Go.Proofs.YtembihlkildodaaDoor.L5 (One)

theorem cat_bytes (a b : List UInt8) : (⟨a.toArray⟩ : ByteArray) ++ ⟨b.toArray⟩ = ⟨(a ++ b).toArray⟩ := by
  apply ByteArray.ext
  simp
theorem readT_open {t : Tr} (h : t.ok) (z : List UInt8) (hz : ∀ r, parse 22 (t.procs.reverse ++ []) z = some r → r.2.2 = []) : readT (40 :: (t.text ++ z)) = none := by
  unfold readT
  split
  · rfl
  · rw [show (23 : Nat) = 22 + 1 from rfl, parse_open, parse_full t 22 [] z h.len h (by simp)]
    cases hp : parse 22 (t.procs.reverse ++ []) z with
    | none => simp only [hp]
    | some r =>
      obtain ⟨a, b, y⟩ := r
      have := hz _ hp
      dsimp only at this
      subst this
      simp only [hp]
theorem read_again {t : Tr} (h : t.ok) {q : Nat} (h1 : 1 ≤ q) (h8 : q ≤ 8) (hm : q ∈ t.procs) : readT (40 :: (t.text ++ ((Tr.leaf q).text ++ [41]))) = none := by
  refine readT_open h _ (fun r hr => ?_)
  have hb := digit_byte h1 h8
  simp only [Tr.text, List.cons_append, List.nil_append] at hr
  have e : 48 + q - 48 = q := by omega
  rw [parse, if_neg (by rw [hb, e]; intro g; exact g.2.2 (by simp [hm])), if_pos (fun g => by rw [g] at hb; have : (40 : UInt8).toNat = 40 := rfl; omega)] at hr
  cases hr
theorem read_shut {t : Tr} (h : t.ok) : readT (40 :: (t.text ++ [41])) = none := by
  refine readT_open h _ (fun r hr => ?_)
  rw [parse, if_neg (fun g => absurd g.1 (by decide)), if_pos (by decide)] at hr
  cases hr
theorem read_behind {t : Tr} (h : t.ok) (q : Nat) : readT (t.text ++ (Tr.leaf q).text) = none := by
  unfold readT
  split
  · rfl
  · rw [parse_full t 23 [] _ (by have := h.len; omega) h (by simp)]
    rfl
theorem read_short {t : Tr} (h : t.ok) {q : Nat} (h1 : 1 ≤ q) (h8 : q ≤ 8) (hm : q ∉ t.procs) : readT (40 :: (t.text ++ (Tr.leaf q).text)) = none := by
  refine readT_open h _ (fun r hr => ?_)
  have hp := parse_full (.leaf q) 22 (t.procs.reverse ++ []) [] (by simp [Tr.text]) (Tr.ok.leaf h1 h8) (by simpa [Tr.procs] using hm)
  simp only [List.append_nil] at hp hr
  rw [hp] at hr
  cases hr
  rfl
theorem ahead_leaf {t : Tr} {q : Nat} (h : aheadB t (.leaf q) = false) : t.deep = 0 := by
  unfold aheadB at h
  by_cases e : t.deep = 0
  · exact e
  · rw [if_pos (by simpa [Tr.deep] using e)] at h
    have := of_decide_eq_false h
    simp only [Tr.deep] at this
    omega
set_option maxRecDepth 100000 in
set_option maxHeartbeats 8000000 in
theorem readback_calls (v : Value) (xs : List Int) (p : Int) (w : World) (hI : IntsA w v xs) (hp : -9223372036854775808 ≤ p ∧ p ≤ 9223372036854775807) : Calls Tryd.prog 9 #[v, .int .i64 p] w (One w (.bool true)) := by
  have hSh := shown_calls w
  have HMa := Lib.hid (fun V (hb : Below w.heap.size w V) => made_calls v xs V (hI.below hb))
  obtain ⟨A, c, rfl, _⟩ := id hI.reads
  clear hI
  have HP := Lib.hid (fun V => pick_calls p 8 hp (by omega) V)
  obtain ⟨hq1, hq2⟩ := pickI_bounds p (show (1 : Int) ≤ 8 by omega)
  generalize pickI p 8 = q at *
  obtain ⟨m, rfl⟩ : ∃ m : Nat, q = m := ⟨q.toNat, by omega⟩
  have hL : leafX (1 + (m : Int)) = ((Tr.leaf (1 + m)).text, 0) := by
    unfold leafX
    rw [if_pos (by omega)]
    congr 3
  have ol : (Tr.leaf (1 + m)).ok := Tr.ok.leaf (by omega) (by omega)
  have HL := Lib.hid (fun V => leaf_top (1 + (m : Int)) V)
  rw [hL] at HL
  unfold Str2 at HL
  dsimp only at HL
  clear hL
  go_enter Tryd.func9, Tryd.ntmps9
  go_wp2_with fail
  refine hSh.mono ?_
  rintro e w1 ⟨rfl, b1⟩
  have hMa := HMa.out _ b1
  have B1 := Lib.hid b1
  clear b1 hSh
  go_wp2_with fail
  refine hMa.mono ?_
  rintro e w2 ⟨t, ot, rfl, b2⟩
  have B2 := Lib.hid (B1.out.trans (b2.mono B1.out.size))
  clear b2 hMa HMa
  go_wp2_with fail
  refine (HP.out _).mono ?_
  rintro e w3 ⟨rfl, rfl⟩
  go_wp2_with fail
  refine (HL.out _).mono ?_
  rintro e w4 ⟨rfl, b4⟩
  have B4 := Lib.hid (B2.out.trans (b4.mono B2.out.size))
  clear b4 HL HP
  have hMx : mergeX t.text (Tr.leaf (1 + m)).text = if 0 < (sharedL t (.leaf (1 + m))).length then ([], 1) else ((t.merge (.leaf (1 + m))).text, 0) := by
    unfold mergeX
    rw [readT_text ot, readT_text ol]
  have hMt := merge_top t.text (Tr.leaf (1 + m)).text w4
  unfold Str2 at hMt
  rw [hMx] at hMt
  have HO := Lib.hid (And.intro ot ol)
  clear hMx
  by_cases hsh : 0 < (sharedL t (.leaf (1 + m))).length
  · rw [if_pos hsh] at hMt
    dsimp only at hMt
    go_wp2_with fail
    refine hMt.mono ?_
    rintro e w5 ⟨rfl, b5⟩
    have B5 := Lib.hid (B4.out.trans (b5.mono B4.out.size))
    have ht1 := ot.len
    have ht2 := ol.len
    have hcat := cat_bytes
    have hm : 1 + m ∈ t.procs := by
      refine Classical.byContradiction fun hn => ?_
      have : sharedL t (.leaf (1 + m)) = [] := List.filter_eq_nil_iff.2 (fun y hy hc => hn (by
        have e1 := ot.contains y
        rw [List.contains_iff_mem.2 hy] at e1
        have e2 := ol.contains y
        rw [hc] at e2
        have g1 := of_decide_eq_true e1.symm
        have g2 := of_decide_eq_true e2.symm
        simp only [Tr.procs, List.mem_singleton] at g2
        rw [← g2.2]
        exact g1.2))
      rw [this] at hsh
      simp at hsh
    have hR := right_top (40 :: (t.text ++ ((Tr.leaf (1 + m)).text ++ [41]))) w5
    rw [read_again ot (by omega) (by omega) hm] at hR
    clear b5 hMt ot ol hsh hm HO
    generalize t.text = tx at *
    generalize (Tr.leaf (1 + m)).text = lx at *
    go_wp2_with fail
    refine hR.mono ?_
    rintro e w6 ⟨rfl, b6⟩
    have B6 := Lib.hid (B5.out.trans (b6.mono B5.out.size))
    clear b6
    go_wp2
    go_ret
    exact ⟨rfl, B6.out⟩
  · rw [if_neg hsh] at hMt
    dsimp only at hMt
    have hdis := shared_none ot ol hsh
    have hm : 1 + m ∉ t.procs := fun h => hdis _ h (by simp [Tr.procs])
    have hcat := cat_bytes
    have ht1 := ot.len
    have ht2 := ol.len
    have o1 := ot.node ol hdis
    have o2 := ol.node ot (fun p hp hq => hdis p hq hp)
    have HR2 := Lib.hid (fun V => right_top (40 :: ((Tr.leaf (1 + m)).text ++ (t.text ++ [41]))) V)
    have HR3 := Lib.hid (fun V => right_top (40 :: (t.text ++ [41])) V)
    have HR4 := Lib.hid (fun V => right_top (t.text ++ (Tr.leaf (1 + m)).text) V)
    have HR5 := Lib.hid (fun V => right_top (40 :: (t.text ++ (Tr.leaf (1 + m)).text)) V)
    rw [show 40 :: ((Tr.leaf (1 + m)).text ++ (t.text ++ [41])) = (Tr.node (.leaf (1 + m)) t).text from rfl, readT_text o2] at HR2
    rw [show (Tr.node (.leaf (1 + m)) t).text = 40 :: ((Tr.leaf (1 + m)).text ++ (t.text ++ [41])) from rfl] at HR2
    rw [read_shut ot] at HR3
    rw [read_behind ot] at HR4
    rw [read_short ot (by omega) (by omega) hm] at HR5
    cases hab : aheadB t (.leaf (1 + m)) with
    | true =>
      have hme : (t.merge (.leaf (1 + m))).text = 40 :: (t.text ++ ((Tr.leaf (1 + m)).text ++ [41])) := by unfold Tr.merge; rw [if_pos hab]; rfl
      rw [hme] at hMt
      have HR1 := Lib.hid (fun V => right_top (40 :: (t.text ++ ((Tr.leaf (1 + m)).text ++ [41]))) V)
      rw [show 40 :: (t.text ++ ((Tr.leaf (1 + m)).text ++ [41])) = (Tr.node t (.leaf (1 + m))).text from rfl, readT_text o1] at HR1
      rw [show (Tr.node t (.leaf (1 + m))).text = 40 :: (t.text ++ ((Tr.leaf (1 + m)).text ++ [41])) from rfl] at HR1
      clear ot ol hsh hm HO hdis o1 o2 hab hme
      generalize t.text = tx at *
      generalize (Tr.leaf (1 + m)).text = lx at *
      go_wp2_with fail
      refine hMt.mono ?_
      rintro e w5 ⟨rfl, b5⟩
      have B5 := Lib.hid (B4.out.trans (b5.mono B4.out.size))
      clear b5 hMt
      go_wp2_with fail
      refine (HR1.out _).mono ?_
      rintro e w6 ⟨rfl, b6⟩
      have B6 := Lib.hid (B5.out.trans (b6.mono B5.out.size))
      clear b6
      go_wp2_with fail
      refine (HR2.out _).mono ?_
      rintro e w7 ⟨rfl, b7⟩
      have B7 := Lib.hid (B6.out.trans (b7.mono B6.out.size))
      clear b7
      go_wp2_with fail
      refine (HR3.out _).mono ?_
      rintro e w8 ⟨rfl, b8⟩
      have B8 := Lib.hid (B7.out.trans (b8.mono B7.out.size))
      clear b8
      go_wp2_with fail
      refine (HR4.out _).mono ?_
      rintro e w9 ⟨rfl, b9⟩
      have B9 := Lib.hid (B8.out.trans (b9.mono B8.out.size))
      clear b9
      go_wp2_with fail
      refine (HR5.out _).mono ?_
      rintro e w10 ⟨rfl, b10⟩
      have B10 := Lib.hid (B9.out.trans (b10.mono B9.out.size))
      clear b10
      go_wp2
      go_ret
      exact ⟨rfl, B10.out⟩
    | false =>
      have hme : (t.merge (.leaf (1 + m))).text = 40 :: ((Tr.leaf (1 + m)).text ++ (t.text ++ [41])) := by unfold Tr.merge; rw [if_neg (by rw [hab]; decide)]; rfl
      rw [hme] at hMt
      have hdp := ahead_leaf hab
      have HD := Lib.hid (fun V => depth_top t.text V)
      have hdx : deepX t.text = 0 := by unfold deepX; rw [readT_text ot]; show ((t.deep : Nat) : Int) = 0; rw [hdp]; rfl
      rw [hdx] at HD
      have hne : ¬ (Tr.leaf (1 + m)).text ++ (t.text ++ [41]) = t.text ++ ((Tr.leaf (1 + m)).text ++ [41]) := fun e => by
        have e2 := text_inj o2 o1 (congrArg (40 :: ·) e)
        injection e2 with e3 e4
        exact hdis (1 + m) (by rw [← e3]; simp [Tr.procs]) (by simp [Tr.procs])
      clear ot ol hsh hm HO hdis o1 o2 hab hme hdp hdx
      generalize t.text = tx at *
      generalize (Tr.leaf (1 + m)).text = lx at *
      go_wp2_with fail
      refine hMt.mono ?_
      rintro e w5 ⟨rfl, b5⟩
      have B5 := Lib.hid (B4.out.trans (b5.mono B4.out.size))
      clear b5 hMt
      go_wp2_with fail
      refine (HD.out _).mono ?_
      rintro e w6 ⟨rfl, b6⟩
      have B6 := Lib.hid (B5.out.trans (b6.mono B5.out.size))
      clear b6
      go_wp2_with fail
      refine (HR2.out _).mono ?_
      rintro e w7 ⟨rfl, b7⟩
      have B7 := Lib.hid (B6.out.trans (b7.mono B6.out.size))
      clear b7
      go_wp2_with fail
      refine (HR2.out _).mono ?_
      rintro e w8 ⟨rfl, b8⟩
      have B8 := Lib.hid (B7.out.trans (b8.mono B7.out.size))
      clear b8
      go_wp2_with fail
      refine (HR3.out _).mono ?_
      rintro e w9 ⟨rfl, b9⟩
      have B9 := Lib.hid (B8.out.trans (b9.mono B8.out.size))
      clear b9
      go_wp2_with fail
      refine (HR4.out _).mono ?_
      rintro e w10 ⟨rfl, b10⟩
      have B10 := Lib.hid (B9.out.trans (b10.mono B9.out.size))
      clear b10
      go_wp2_with fail
      refine (HR5.out _).mono ?_
      rintro e w11 ⟨rfl, b11⟩
      have B11 := Lib.hid (B10.out.trans (b11.mono B10.out.size))
      clear b11
      go_wp2
      go_ret
      exact ⟨rfl, B11.out⟩
end Go.Proofs.YtembihlkildodaaDoor.L13
