/- NetHeard: whatever lies in a net was heard, and what was heard stays heard, in order, each once. -/
import Derived.Test.YtcdhfkfokckjgaaNtActs
import Derived.Deep.RegionHeld3
import Derived.Deep.CutBlock
import Derived.Deep.DeepCutAuto
import Derived.Sort.LoopGhostIn
namespace Go.Proofs.Ytcdhfkfokckjgaa.L8
open Go.ChangeShapes Go.WideShapes Go.ChangeAt Go.RowKit Go.Deep

/-- A row of terms lies apart from a net. -/
theorem NtAt.term_not {W : World} {B h : Nat} {l : List Dg} {v : Value} {b n : Nat} {hs : List Bytes} (a : NtAt W B h l v b n hs) {B' N : Nat} {u : Value} {ys : List Value} (r : W.ownsRow B' 34 1 u N ys) : ∀ q, u.ownBlock = some q → ¬ NtIn h v b q := by
  intro q hq hn
  rcases r.2 with ⟨e3, _⟩ | ⟨g, cap, cur, e3, _, e4, _⟩
  · rw [e3] at hq; cases hq
  · rw [e3] at hq
    obtain rfl : g = q := by cases hq; rfl
    rcases hn with e | e | e
    · have := a.own
      rw [← e, e4] at this
      simp at this
    · obtain ⟨es, cl, e5⟩ := a.map.block
      rw [← e, e4] at e5
      simp at e5
    · rcases a.row.2 with ⟨e6, _⟩ | ⟨g2, cap2, cur2, e6, _, e7, _⟩
      · rw [e6] at e; cases e
      · rw [e6] at e
        obtain rfl : g2 = g := by cases e; rfl
        rw [e4] at e7
        simp at e7
theorem row_lower {W : World} {B B' : Nat} {e : TypeId} {size n : Nat} {v : Value} {xs : List Value} (h : W.ownsRow B e size v n xs) (hB : B' ≤ B) : W.ownsRow B' e size v n xs :=
  ⟨h.1, h.2.imp id (fun ⟨g, cap, cur, a, b, c⟩ => ⟨g, cap, cur, a, Nat.le_trans hB b, c⟩)⟩
/-- What is known behind an act: whatever lies was heard, and what was heard before is heard. -/
def HMid (w : World) (B h b : Nat) (was : List Bytes) (vw : Value) (i : Nat) (wr : World) : Prop :=
  ∃ (l : List Dg) (v : Value) (n : Nat) (hs : List Bytes), NtAt wr B h l v b n hs ∧ (∀ d ∈ l, d.fr ∈ hs) ∧ was ⊆ hs ∧ n ≤ i ∧ hs.length ≤ i ∧ l.length ≤ i ∧ wr.ownsRow B 34 1 vw was.length (strs (inOrder was)) ∧ Below w.heap.size w wr ∧ B ≤ wr.heap.size
def HGo (w : World) (B h b N k : Nat) (vw vi : Value) (wr : World) : Prop :=
  ∃ (i : Nat) (was : List Bytes), k + i = N ∧ vi = .int .i64 i ∧ (∃ (l : List Dg) (v : Value) (n : Nat), NtAt wr B h l v b n was ∧ (∀ d ∈ l, d.fr ∈ was) ∧ n ≤ i ∧ was.length ≤ i ∧ l.length ≤ i ∧ wr.ownsRow B 34 1 vw was.length (strs (inOrder was)) ∧ Below w.heap.size w wr ∧ B ≤ wr.heap.size)
theorem heard_step {w wr w' : World} {B h b n n' i : Nat} {l l' : List Dg} {v vw : Value} {hs hs' : List Bytes} (a : NtAt wr B h l v b n hs) (r : wr.ownsRow B 34 1 vw hs.length (strs (inOrder hs))) (hB : Below w.heap.size w wr) (hwB : w.heap.size ≤ B) (hb : B ≤ wr.heap.size) (k : Ntd wr B h v b l' n' hs' w') (h1 : ∀ d ∈ l', d.fr ∈ hs') (h2 : hs ⊆ hs') (h3 : n' ≤ i) (h4 : hs'.length ≤ i) (h5 : l'.length ≤ i) : HMid w B h b hs vw i w' := by
  obtain ⟨v', k1, k2, k3⟩ := k
  exact ⟨l', v', n', hs', k1, h1, h2, h3, h4, h5, L5.own_same r (fun q e => k2.block q (r.lt q e).2 (a.term_not r q e)), Only.below hB k2 hB.size (fun q hq => Nat.le_trans hwB (a.inlt hq).1), Nat.le_trans hb k2.size⟩
theorem heard_same {w wr w' : World} {B h b n i : Nat} {l : List Dg} {v vw : Value} {hs : List Bytes} (a : NtAt wr B h l v b n hs) (r : wr.ownsRow B 34 1 vw hs.length (strs (inOrder hs))) (hB : Below w.heap.size w wr) (hb : B ≤ wr.heap.size) (k : Below wr.heap.size wr w') (h1 : ∀ d ∈ l, d.fr ∈ hs) (h3 : n ≤ i) (h4 : hs.length ≤ i) (h5 : l.length ≤ i) : HMid w B h b hs vw i w' :=
  ⟨l, v, n, hs, a.below k, h1, fun _ hx => hx, h3, h4, h5, L5.own_below r k, hB.trans (k.mono hB.size), Nat.le_trans hb k.size⟩
theorem layL_len (l : List Dg) (d : Dg) : (layL l d).length ≤ l.length + 1 := by
  unfold layL
  split
  · omega
  · simp
theorem mem_layL {l : List Dg} {d x : Dg} (h : x ∈ layL l d) : x ∈ l ∨ x = d := by
  unfold layL at h
  split at h
  · exact .inl h
  · rcases List.mem_append.1 h with h | h
    · exact .inl h
    · exact .inr (by simpa using h)
theorem putH_len (hs : List Bytes) (k : Bytes) : (putH hs k).length ≤ hs.length + 1 := by
  unfold putH
  split
  · omega
  · simp

set_option maxRecDepth 100000 in
set_option maxHeartbeats 16000000 in
theorem heard_calls {A : Option Addr} {N c0 : Nat} (w : World) (hA : Acts w A N) (hn : N ≤ maxLen) : Calls Try.prog 5 #[.slice A N c0] w (L5.One w (.bool true)) := by
  have HSh := Lib.hid (shown_calls w)
  have HN := Lib.hid (fun V => New_calls V)
  have HA := Lib.hid hA
  unfold maxLen at hn
  clear hA
  go_enter Try.func5, Try.ntmps5
  go_wp2_with fail
  refine HSh.out.mono ?_
  rintro e w1 ⟨rfl, b1⟩
  have HN := Lib.hid (HN.out w1)
  have HB1 := Lib.hid b1
  clear b1 HSh
  go_wp2_with fail
  refine HN.out.mono ?_
  rintro e w2 ⟨rfl, a2, b2⟩
  have HB2 : Hid (Below w.heap.size w w2) := HB1.out.trans (b2.mono HB1.out.size)
  have hw01 : w.heap.size ≤ w1.heap.size := HB1.out.size
  by_cases h60 : 60 < N
  · have j1 : (60 : Int) < (N : Int) := by omega
    clear a2 b2 HN HB1
    go_wp2
    go_ret
    exact ⟨rfl, HB2.out⟩
  have j1 : ¬ (60 : Int) < (N : Int) := by omega
  have hN60 : N ≤ 60 := by omega
  have HA2 := Lib.hid a2
  have hb2 : w1.heap.size ≤ w2.heap.size := b2.size
  have HHd := Lib.hid (Heard_calls a2 (by simp))
  clear a2 b2 HN HB1 hn h60
  go_wp2_with fail
  refine HHd.out.mono ?_
  rintro e w3 ⟨v3, rfl, k1, k2⟩
  have H0 : Hid (HGo w w1.heap.size (w1.heap.size + 1) w1.heap.size N N v3 (.int .i64 0) w3) := ⟨0, [], by omega, rfl, [], _, _, HA2.out.below k2, by simp, by omega, by simp, by simp, row_lower k1 hb2, HB2.out.trans (k2.mono HB2.out.size), Nat.le_trans hb2 k2.size⟩
  clear k1 k2 HHd HA2 hb2
  generalize w1.heap.size = B at *
  obtain ⟨h, hh⟩ : ∃ h, B + 1 = h := ⟨_, rfl⟩
  go_upto_region 6 with fail
  rw [hh] at H0
  clear hh
  go_wp2_with fail
  go_loopg [5, 6] N (fun k v5 v6 wr => HGo w B h B N k v5 v6 wr)
  case atStart => exact H0.out
  clear H0
  case round =>
    obtain ⟨i, was, hk, rfl, l, v, n, ha, hfr, hni, hwi, hli, hr, hB, hb⟩ := hrel
    obtain ⟨A5, c5, rfl⟩ := L5.own_slice hr
    by_cases hin : i < N
    · obtain ⟨ad, o0, o1, o2, o3, s4, rfl, hadb, ⟨ho0, ho1, ho2, ho3⟩, d0, d1, d2, d3, _⟩ := HA.out i hin
      have hlb : (ad.add (i * 5)).block < w.heap.size := by rw [addr_block8]; exact hadb
      have HC : Hid (∀ V, Below w.heap.size w V → V.cell? (ad.add (i * 5)) = some (.int .i64 o0) ∧ V.cell? ⟨(ad.add (i * 5)).block, (ad.add (i * 5)).off + 1, none⟩ = some (.int .i64 o1) ∧ V.cell? ⟨(ad.add (i * 5)).block, (ad.add (i * 5)).off + 2, none⟩ = some (.int .i64 o2) ∧ V.cell? ⟨(ad.add (i * 5)).block, (ad.add (i * 5)).off + 3, none⟩ = some (.int .i64 o3)) := fun V hV =>
        ⟨(hV.cell (p := ad.add (i * 5)) hlb).trans d0, (hV.cell (p := ⟨(ad.add (i * 5)).block, (ad.add (i * 5)).off + 1, none⟩) hlb).trans d1, (hV.cell (p := ⟨(ad.add (i * 5)).block, (ad.add (i * 5)).off + 2, none⟩) hlb).trans d2, (hV.cell (p := ⟨(ad.add (i * 5)).block, (ad.add (i * 5)).off + 3, none⟩) hlb).trans d3⟩
      obtain ⟨c0, c1, c2, c3⟩ := HC.out wr hB
      have s1 : (i : Int) < (N : Int) := by omega
      have s2 : (0 : Int) ≤ (i : Int) := by omega
      have HPk := Lib.hid (pick_is ho0 (n := 5) (by omega) (by omega) wr)
      have hp := pickN_lt o0 (n := 5) (by omega)
      generalize pickN o0 5 = o at *
      have HP3 := Lib.hid (fun V => pick_is ho3 (n := 20) (by omega) (by omega) V)
      have hp3 := pickN_lt o3 (n := 20) (by omega)
      obtain ⟨p3, hp3e⟩ : ∃ p, pickN o3 20 = p := ⟨_, rfl⟩
      rw [hp3e] at HP3 hp3
      clear hp3e
      have HP1 := Lib.hid (fun V => pick_is ho1 (n := 8) (by omega) (by omega) V)
      have hp1 := pickN_lt o1 (n := 8) (by omega)
      obtain ⟨p1, hp1e⟩ : ∃ p, pickN o1 8 = p := ⟨_, rfl⟩
      rw [hp1e] at HP1 hp1
      clear hp1e
      have HP2 := Lib.hid (fun V => pick_is ho2 (n := 8) (by omega) (by omega) V)
      have hp2 := pickN_lt o2 (n := 8) (by omega)
      obtain ⟨p2, hp2e⟩ : ∃ p, pickN o2 8 = p := ⟨_, rfl⟩
      rw [hp2e] at HP2 hp2
      clear hp2e
      have hmm := Lib.hid (show gk - 1 < gk by omega)
      have hkk := Lib.hid (show (gk - 1) + (i + 1) = N by omega)
      generalize gk - 1 = ko at *
      have HNt := Lib.hid ha
      have HFr := Lib.hid hfr
      have HR := Lib.hid hr
      have HB := Lib.hid hB
      have hi60 : i ≤ 59 := by omega
      clear d0 d1 d2 d3 hadb hlb ho0 ho1 ho2 ho3 ha hfr hr hB hk hin HA
      go_wp2_with fail
      refine HPk.out.mono ?_
      rintro e w5 ⟨rfl, rfl⟩
      clear HPk
      go_upto_block 2 with fail
      go_cut [] (fun wc => HMid w B h B was (.slice A5 was.length c5) (i + 1) wc)
      case first =>
        rcases (by omega : o = 3 ∨ o = 4 ∨ (o ≠ 3 ∧ o ≠ 4)) with rfl | rfl | ⟨ho3, ho4⟩
        · have HP3 := Lib.hid (HP3.out wr)
          clear HP1 HP2
          go_wp2_with fail
          refine HP3.out.mono ?_
          rintro e w6 ⟨rfl, rfl⟩
          clear HP3
          by_cases hlt : p3 < l.length
          · obtain ⟨d, hd⟩ : ∃ d, l[p3]? = some d := ⟨_, List.getElem?_eq_getElem hlt⟩
            have HT := Lib.hid (take_yes HNt.out hd (by omega))
            clear hd hlt
            go_wp2_with fail
            refine HT.out.mono ?_
            rintro e w6 ⟨rfl, k6⟩
            have HF : Hid (HMid w B h B was (.slice A5 was.length c5) (i + 1) w6) := heard_step HNt.out HR.out HB.out hw01 hb k6 (fun x hx => by
              rcases List.mem_append.1 hx with hx | hx
              · exact HFr.out x (List.mem_of_mem_take hx)
              · exact HFr.out x (List.mem_of_mem_drop hx)) (fun _ hx => hx) (by omega) (by omega) (by simp; omega)
            clear k6 HT
            go_wp2_with fail
            go_meet
            case rel => exact HF.out
          · have HT := Lib.hid (take_no HNt.out (i := (p3 : Int)) (by omega))
            clear hlt
            go_wp2_with fail
            refine HT.out.mono ?_
            rintro e w6 ⟨rfl, k6⟩
            have HF : Hid (HMid w B h B was (.slice A5 was.length c5) (i + 1) w6) := heard_same HNt.out HR.out HB.out hb k6 HFr.out (by omega) (by omega) (by omega)
            clear k6 HT
            go_wp2_with fail
            go_meet
            case rel => exact HF.out
        · have HP3 := Lib.hid (HP3.out wr)
          clear HP1 HP2
          go_wp2_with fail
          refine HP3.out.mono ?_
          rintro e w6 ⟨rfl, rfl⟩
          clear HP3
          by_cases hlt : p3 < l.length
          · obtain ⟨d, hd⟩ : ∃ d, l[p3]? = some d := ⟨_, List.getElem?_eq_getElem hlt⟩
            have HT := Lib.hid (double_yes HNt.out hb hd (by omega))
            have hdm := Lib.hid (List.mem_of_getElem? hd)
            clear hd hlt
            go_wp2_with fail
            refine HT.out.mono ?_
            rintro e w6 ⟨rfl, k6⟩
            have HF : Hid (HMid w B h B was (.slice A5 was.length c5) (i + 1) w6) := heard_step HNt.out HR.out HB.out hw01 hb k6 (fun x hx => by
              rcases mem_layL hx with hx | hx
              · exact HFr.out x hx
              · rw [hx]; exact HFr.out d hdm.out) (fun _ hx => hx) (by omega) (by omega) (by have := layL_len l d; omega)
            clear k6 HT
            go_wp2_with fail
            go_meet
            case rel => exact HF.out
          · have HT := Lib.hid (double_no HNt.out (i := (p3 : Int)) (by omega))
            clear hlt
            go_wp2_with fail
            refine HT.out.mono ?_
            rintro e w6 ⟨rfl, rfl⟩
            have HF : Hid (HMid w B h B was (.slice A5 was.length c5) (i + 1) wr) := heard_same HNt.out HR.out HB.out hb (Below.refl _ _) HFr.out (by omega) (by omega) (by omega)
            clear HT
            go_wp2_with fail
            go_meet
            case rel => exact HF.out
        · have q3 : ((o : Int) == 3) = false := by rw [beq_eq_false_iff_ne]; omega
          have q4 : ((o : Int) == 4) = false := by rw [beq_eq_false_iff_ne]; omega
          have hwq1 : IntKind.i64.wrap (1 + (p1 : Int)) = 1 + (p1 : Int) := by simp [IntKind.wrap, IntKind.bits, IntKind.signed]; omega
          have hwq2 : IntKind.i64.wrap (1 + (p2 : Int)) = 1 + (p2 : Int) := by simp [IntKind.wrap, IntKind.bits, IntKind.signed]; omega
          have hwq3 : IntKind.u64.wrap (p3 : Int) = (p3 : Int) := by simp [IntKind.wrap, IntKind.bits, IntKind.signed]; omega
          have HNu2 : Hid (∀ V, (V.cell? ⟨(ad.add (i * 5)).block, (ad.add (i * 5)).off + 1, none⟩ = some (.int .i64 o1) ∧ V.cell? ⟨(ad.add (i * 5)).block, (ad.add (i * 5)).off + 2, none⟩ = some (.int .i64 o2) ∧ V.cell? ⟨(ad.add (i * 5)).block, (ad.add (i * 5)).off + 3, none⟩ = some (.int .i64 o3)) → Below wr.heap.size wr V → Calls Try.prog 21 #[.int .u64 p3] V fun e w' => e = .returned (.string ⟨(numB p3).toArray⟩) ∧ (w'.cell? ⟨(ad.add (i * 5)).block, (ad.add (i * 5)).off + 1, none⟩ = some (.int .i64 o1) ∧ w'.cell? ⟨(ad.add (i * 5)).block, (ad.add (i * 5)).off + 2, none⟩ = some (.int .i64 o2) ∧ w'.cell? ⟨(ad.add (i * 5)).block, (ad.add (i * 5)).off + 3, none⟩ = some (.int .i64 o3)) ∧ Below wr.heap.size wr w') := fun V _ hV => by
            refine (number_is (n := p3) (by omega) V).mono ?_
            rintro e w' ⟨rfl, k2⟩
            have h2 := hV.trans (k2.mono hV.size)
            exact ⟨rfl, (HC.out w' (HB.out.trans (h2.mono HB.out.size))).2, h2⟩
          have HSd : Hid (∀ V, Below wr.heap.size wr V → Calls Try.prog 16 #[.pointer (some ⟨h, 0, none⟩), .agg #[.int .i64 (1 + (p1 : Int)), .int .i64 (1 + (p2 : Int)), .string ⟨(numB p3).toArray⟩]] V fun e w' => ∃ c : Int, e = .returned (.int .i64 c) ∧ (w'.cell? ⟨(ad.add (i * 5)).block, (ad.add (i * 5)).off + 1, none⟩ = some (.int .i64 o1) ∧ w'.cell? ⟨(ad.add (i * 5)).block, (ad.add (i * 5)).off + 2, none⟩ = some (.int .i64 o2) ∧ w'.cell? ⟨(ad.add (i * 5)).block, (ad.add (i * 5)).off + 3, none⟩ = some (.int .i64 o3)) ∧ HMid w B h B was (.slice A5 was.length c5) (i + 1) w') := fun V hV => by
            have a' := HNt.out.below hV
            have r' := L5.own_below HR.out hV
            have b' := HB.out.trans (hV.mono HB.out.size)
            have hb' := Nat.le_trans hb hV.size
            refine (send_yes a' hb' (d := ⟨1 + (p1 : Int), 1 + (p2 : Int), numB p3⟩) ⟨⟨by show (1 : Int) ≤ 1 + (p1 : Int); omega, by show 1 + (p1 : Int) ≤ 8; omega⟩, ⟨by show (1 : Int) ≤ 1 + (p2 : Int); omega, by show 1 + (p2 : Int) ≤ 8; omega⟩, numB_right p3⟩ (by show (numB p3).length ≤ maxLen; rw [numB_len]; simp [maxLen]) (by unfold maxLen; omega) (by omega)).mono ?_
            rintro e w' ⟨rfl, k6⟩
            have hm : HMid w B h B was (.slice A5 was.length c5) (i + 1) w' := heard_step a' r' b' hw01 hb' k6 (fun x hx => by
              rcases mem_layL hx with hx | hx
              · exact mem_putH.2 (.inl (HFr.out x hx))
              · rw [hx]; exact mem_putH.2 (.inr rfl)) (fun x hx => mem_putH.2 (.inl hx)) (by omega) (by have := putH_len was (numB p3); show (putH was (numB p3)).length ≤ _; omega) (by have := layL_len l ⟨1 + (p1 : Int), 1 + (p2 : Int), numB p3⟩; omega)
            have hm' := hm
            obtain ⟨_, _, _, _, _, _, _, _, _, _, _, hbl, _⟩ := hm'
            exact ⟨_, rfl, (HC.out w' hbl).2, hm⟩
          have HP1 : Hid (∀ V, Calls Try.prog 11 #[.int .i64 o1, .int .i64 8] V fun e w' => e = .returned (.int .i64 (p1 : Nat)) ∧ V = w') := HP1
          have HP2 : Hid (∀ V, Calls Try.prog 11 #[.int .i64 o2, .int .i64 8] V fun e w' => e = .returned (.int .i64 (p2 : Nat)) ∧ V = w') := HP2
          have HP3 : Hid (∀ V, Calls Try.prog 11 #[.int .i64 o3, .int .i64 20] V fun e w' => e = .returned (.int .i64 (p3 : Nat)) ∧ V = w') := HP3
          have hS0 : Below wr.heap.size wr wr.drew := (Below.refl _ _).drew
          generalize numB p3 = np at *
          clear c0 ho3 ho4
          go_wp2
          go_region_held3 (fun w' => w'.cell? ⟨(ad.add (i * 5)).block, (ad.add (i * 5)).off + 1, none⟩ = some (.int .i64 o1) ∧ w'.cell? ⟨(ad.add (i * 5)).block, (ad.add (i * 5)).off + 2, none⟩ = some (.int .i64 o2) ∧ w'.cell? ⟨(ad.add (i * 5)).block, (ad.add (i * 5)).off + 3, none⟩ = some (.int .i64 o3))
            ((first | exact ⟨c1, c2, c3⟩ | (go_split_ands; refine ⟨?_, ?_, ?_⟩ <;> assumption)))
            (first
              | (go_at_call 11; first | ((with_reducible refine (HP1.out _).mono ?_); rintro e x1 ⟨rfl, rfl⟩) | ((with_reducible refine (HP2.out _).mono ?_); rintro e x2 ⟨rfl, rfl⟩) | ((with_reducible refine (HP3.out _).mono ?_); rintro e x3 ⟨rfl, rfl⟩))
              | (go_at_call 21; refine (HNu2.out _ (by first | exact ⟨c1, c2, c3⟩ | (refine ⟨?_, ?_, ?_⟩ <;> assumption)) (by first | exact hS0 | assumption)).mono ?_; rintro e wn ⟨rfl, ⟨m1, m2, m3⟩, m4⟩)
              | (go_at_call 16; refine (HSd.out _ (by assumption)).mono ?_; rintro e ws ⟨cc, rfl, ⟨n1, n2, n3⟩, n4⟩))
          all_goals
            have HF := Lib.hid n4
            clear n1 n2 n3 n4 m1 m2 m3 m4 HSd HNu2 HP1 HP2 HP3
            go_wp2_with fail
            go_meet
            case rel => exact HF.out
      case rest =>
        clear HP1 HP2 HP3 HNt HFr HR HB HC c0 c1 c2 c3 hni hli hb hp hp1 hp2 hp3
        obtain ⟨XX, rfl⟩ : ∃ z, z = wc := ⟨wc, rfl⟩
        obtain ⟨l', v', n', hs', ha', hfr', hsub, hn', hh', hl', hr', hB', hb'⟩ := hcut
        have HHd := Lib.hid (Heard_calls ha' (by omega))
        have HNd := Lib.hid ha'.map
        have HA7 := Lib.hid ha'
        have HR7 := Lib.hid hr'
        have HB7 := Lib.hid hB'
        have HFr := Lib.hid hfr'
        have HSub := Lib.hid hsub
        have hnd : Hid hs'.Nodup := by obtain ⟨D, _, h2, _⟩ := ha'.map; exact h2
        clear ha' hr' hB' hfr' hsub
        go_wp2_with fail
        refine HHd.out.mono ?_
        rintro e w8 ⟨v7, rfl, k1, k2⟩
        obtain ⟨A7, c7, rfl⟩ := L5.own_slice k1
        have HA8 := Lib.hid (HA7.out.below k2)
        have HR8 := Lib.hid (L5.own_below HR7.out k2)
        have H8 := Lib.hid (row_lower k1 hb')
        have HB8 : Hid (Below w.heap.size w w8) := HB7.out.trans (k2.mono HB7.out.size)
        have hb8 : B ≤ w8.heap.size := Nat.le_trans hb' k2.size
        clear k1 k2 HHd HA7 HR7 HB7 HNd hb'
        go_wp2_with fail
        go_loopg [8] hs'.length (fun k v8 wy => ∃ j m : Nat, k + j = hs'.length ∧ v8 = .int .i64 j ∧ wy = w8.drewN m)
        case atStart => exact ⟨0, 0, by omega, rfl, rfl⟩
        case round =>
          obtain ⟨j, m, hkj, rfl, rfl⟩ := hrel
          by_cases hj : j < hs'.length
          · have hlen : (inOrder hs').length = hs'.length := inOrder_len hs'
            obtain ⟨x, hx⟩ : ∃ x, (inOrder hs')[j]? = some x := ⟨_, List.getElem?_eq_getElem (by omega)⟩
            obtain ⟨g7, c7', e7, _, _, hcell⟩ := row_shape_t H8.out (by omega)
            simp only [Value.slice.injEq, true_and] at e7
            obtain ⟨rfl, rfl⟩ := e7
            have cx := hcell j (.string ⟨x.toArray⟩) (by simp [strs, hx])
            have hm1 := Lib.hid (show gk - 1 < gk by omega)
            have hm2 := Lib.hid (show (gk - 1) + (j + 1) = hs'.length by omega)
            have hj60 : j ≤ 60 := by omega
            cases j with
            | zero =>
              have s3 : (0 : Int) < (hs'.length : Int) := by omega
              clear hx hcell hlen hkj
              go_wp2
              go_quiet (fail)
              go_wp2
              go_roundg (gk - 1)
              case measure => exact hm1.out
              case rel => exact ⟨1, _, by simpa using hm2.out, rfl, rfl⟩
            | succ q =>
              obtain ⟨y, hy⟩ : ∃ y, (inOrder hs')[q]? = some y := ⟨_, List.getElem?_eq_getElem (by omega)⟩
              have cy := hcell q (.string ⟨y.toArray⟩) (by simp [strs, hy])
              obtain ⟨q7, q9⟩ := inOrder_strict hnd.out hy hx
              have q8 : (x == y) = false := by simpa using q9
              have s3 : (q : Int) + 1 < (hs'.length : Int) := by omega
              have s4 : (q : Int) < (hs'.length : Int) := by omega
              have s5 : (0 : Int) ≤ (q : Int) + 1 := by omega
              have s6 : (0 : Int) ≤ (q : Int) := by omega
              have s7 : IntKind.i64.wrap (q : Int) = (q : Int) := by rw [IntKind.wrap_i64]; omega
              have s8 : (0 : Int) < (q : Int) + 1 := by omega
              clear hx hy hcell hlen hkj
              go_wp2
              go_quiet (fail)
              go_wp2
              go_roundg (gk - 1)
              case measure => exact hm1.out
              case rel => exact ⟨q + 1 + 1, _, hm2.out, rfl, rfl⟩
          · have s3 : ¬ (j : Int) < (hs'.length : Int) := by omega
            obtain ⟨W9, hW9⟩ : ∃ W9, w8.drewN m = W9 := ⟨_, rfl⟩
            have HA9 : Hid (NtAt W9 B h l' v' B n' hs') := by rw [← hW9]; exact HA8.out.same fun _ _ => rfl
            have HR9 : Hid (W9.ownsRow B 34 1 (.slice A5 was.length c5) was.length (strs (inOrder was))) := by rw [← hW9]; exact HR8.out
            have H9 : Hid (W9.ownsRow B 34 1 (.slice A7 hs'.length c7) hs'.length (strs (inOrder hs'))) := by rw [← hW9]; exact H8.out
            have HB9 : Hid (Below w.heap.size w W9) := by rw [← hW9]; exact L5.below_drewN HB8.out m
            have hb9 : B ≤ W9.heap.size := by rw [← hW9]; exact hb8
            rw [hW9]
            clear hW9 HA8 HR8 H8 HB8 hb8 hkj hj
            go_wp2_with fail
            go_loopg [9] was.length (fun k v9 wy => ∃ j : Nat, k + j = was.length ∧ v9 = .int .i64 j ∧ wy = W9)
            case atStart => exact ⟨0, by omega, rfl, rfl⟩
            case round =>
              obtain ⟨j, hkj, rfl, rfl⟩ := hrel
              by_cases hj : j < was.length
              · have hlen : (inOrder was).length = was.length := inOrder_len was
                obtain ⟨x, hx⟩ : ∃ x, (inOrder was)[j]? = some x := ⟨_, List.getElem?_eq_getElem (by omega)⟩
                obtain ⟨g5, c5', e5, _, _, hcell⟩ := row_shape_t HR9.out (by omega)
                simp only [Value.slice.injEq, true_and] at e5
                obtain ⟨rfl, rfl⟩ := e5
                have cx := hcell j (.string ⟨x.toArray⟩) (by simp [strs, hx])
                have hxm : x ∈ inOrder hs' := mem_inOrder.2 (HSub.out (mem_inOrder.1 (List.mem_of_getElem? hx)))
                have HH := has_calls (v := .slice A7 hs'.length c7) (zs := inOrder hs') (t := x) (w := wr) (B := B) (by rw [inOrder_len]; exact H9.out) hxm (by rw [inOrder_len]; omega)
                have HH := Lib.hid HH
                have hm1 := Lib.hid (show gk - 1 < gk by omega)
                have hm2 := Lib.hid (show (gk - 1) + (j + 1) = was.length by omega)
                have hj60 : j ≤ 60 := by omega
                have s4 : (j : Int) < (was.length : Int) := by omega
                have s5 : (0 : Int) ≤ (j : Int) := by omega
                clear hx hcell hlen hkj hxm
                go_wp2_with fail
                refine HH.out.mono ?_
                rintro e wz ⟨rfl, rfl⟩
                clear HH
                go_wp2
                go_roundg (gk - 1)
                case measure => exact hm1.out
                case rel => exact ⟨j + 1, hm2.out, rfl, rfl⟩
              · have s4 : ¬ (j : Int) < (was.length : Int) := by omega
                have HL := Lib.hid (Lie_calls HA9.out (by omega))
                clear hkj hj
                go_wp2_with fail
                refine HL.out.mono ?_
                rintro e w10 ⟨v10, rfl, k1, k2⟩
                obtain ⟨A10, c10, rfl⟩ := L5.own_slice k1
                have HD := Lib.hid k1
                have H10 := Lib.hid (L5.own_below H9.out k2)
                have HF : Hid (HGo w B h B N ko (.slice A7 hs'.length c7) (.int .i64 ((i : Int) + 1)) w10) := ⟨i + 1, hs', hkk.out, rfl, l', v', n', HA9.out.below k2, HFr.out, hn', hh', hl', H10.out, HB9.out.trans (k2.mono HB9.out.size), Nat.le_trans hb9 k2.size⟩
                clear k1 k2 HL HA9 HR9 H9 HB9 hb9
                go_wp2_with fail
                go_loopg [11] l'.length (fun k v11 wy => ∃ j : Nat, k + j = l'.length ∧ v11 = .int .i64 j ∧ wy = w10)
                case atStart => exact ⟨0, by omega, rfl, rfl⟩
                case round =>
                  obtain ⟨j, hkj, rfl, rfl⟩ := hrel
                  by_cases hj : j < l'.length
                  · obtain ⟨d, hd⟩ : ∃ d, l'[j]? = some d := ⟨_, List.getElem?_eq_getElem hj⟩
                    obtain ⟨g10, c10', e10, _⟩ := dg_shape HD.out (by omega)
                    simp only [Value.slice.injEq, true_and] at e10
                    obtain ⟨rfl, rfl⟩ := e10
                    obtain ⟨_, _, cx⟩ := dg_cells HD.out hd
                    have hxm : d.fr ∈ inOrder hs' := mem_inOrder.2 (HFr.out d (List.mem_of_getElem? hd))
                    have HH := Lib.hid (has_calls (v := .slice A7 hs'.length c7) (zs := inOrder hs') (t := d.fr) (w := wr) (B := B) (by rw [inOrder_len]; exact H10.out) hxm (by rw [inOrder_len]; omega))
                    have hm1 := Lib.hid (show gk - 1 < gk by omega)
                    have hm2 := Lib.hid (show (gk - 1) + (j + 1) = l'.length by omega)
                    have hj60 : j ≤ 60 := by omega
                    have s5 : (j : Int) < (l'.length : Int) := by omega
                    have s6 : (0 : Int) ≤ (j : Int) := by omega
                    clear hd hkj hxm
                    go_wp2_with fail
                    refine HH.out.mono ?_
                    rintro e wz ⟨rfl, rfl⟩
                    clear HH
                    go_wp2
                    go_roundg (gk - 1)
                    case measure => exact hm1.out
                    case rel => exact ⟨j + 1, hm2.out, rfl, rfl⟩
                  · have s5 : ¬ (j : Int) < (l'.length : Int) := by omega
                    clear hkj hj
                    go_wp2
                    go_roundg ko
                    case measure => exact hmm.out
                    case rel => exact HF.out
    · have s1 : ¬ (i : Int) < (N : Int) := by omega
      have HB := Lib.hid hB
      clear ha hfr hr hB hk hin HA
      go_wp2
      go_ret
      exact ⟨rfl, HB.out⟩
end Go.Proofs.Ytcdhfkfokckjgaa.L8
