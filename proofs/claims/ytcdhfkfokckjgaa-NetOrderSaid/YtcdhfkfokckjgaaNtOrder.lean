/- NetOrder: frames that are taken from the first one on are those that were sent, in order; one that is doubled comes behind all. -/
import Derived.Test.YtcdhfkfokckjgaaNtInts
import Derived.Deep.RegionHeld3
import Derived.Deep.CutBlock
import Derived.Deep.DeepCutAuto
import Derived.Sort.LoopGhostIn
namespace Go.Proofs.Ytcdhfkfokckjgaa.L8
open Go.ChangeShapes Go.WideShapes Go.ChangeAt Go.RowKit Go.Deep

/-- The net, while the frames are sent. -/
def Sent8 (w : World) (B h b : Nat) (xs : List Int) (k : Nat) (vi : Value) (wr : World) : Prop :=
  ∃ (i : Nat) (v : Value) (hs : List Bytes), k + i = xs.length ∧ vi = .int .i64 i ∧ NtAt wr B h ((xs.take i).map dgN) v b i hs ∧ Below w.heap.size w wr ∧ B ≤ wr.heap.size
/-- The net, and what is wanted of it. -/
def Want8 (w : World) (B h b : Nat) (v8 : Value) (wr : World) : Prop :=
  ∃ (ws : List Int) (v : Value) (n : Nat) (hs : List Bytes), NtAt wr B h (ws.map dgN) v b n hs ∧ wr.ownsRow B 3 1 v8 ws.length (ints ws) ∧ ws.length ≤ 51 ∧ (∀ x ∈ ws, isInt x) ∧ Below w.heap.size w wr ∧ B ≤ wr.heap.size
def Take8 (w : World) (B h b : Nat) (ws : List Int) (v8 : Value) (k : Nat) (vi : Value) (wr : World) : Prop :=
  ∃ (i : Nat) (v : Value) (n : Nat) (hs : List Bytes), k + i = ws.length ∧ vi = .int .i64 i ∧ NtAt wr B h ((ws.drop i).map dgN) v b n hs ∧ wr.ownsRow B 3 1 v8 ws.length (ints ws) ∧ Below w.heap.size w wr ∧ B ≤ wr.heap.size

theorem row_shape8 {w : World} {B n : Nat} {e : TypeId} {v : Value} {vs : List Value} (h : w.ownsRow B e 1 v n vs) (hn : 0 < n) : ∃ g cap, v = .slice (some ⟨g, 0, none⟩) n cap ∧ g < w.heap.size ∧ (∀ j u, vs[j]? = some u → w.cell? ⟨g, j, none⟩ = some u) := by
  have h' := h
  rcases h.2 with ⟨_, h0⟩ | ⟨g, cap, cur, rfl, h2, _, h4, _⟩
  · omega
  · refine ⟨g, cap, rfl, (h'.lt g rfl).2, fun j u hj => ?_⟩
    have := h'.cells (g := g) rfl j u hj
    rw [add_zero8] at this
    exact this
/-- A row of ints lies apart from a net. -/
theorem NtAt.int_not {W : World} {B h : Nat} {l : List Dg} {v : Value} {b n : Nat} {hs : List Bytes} (a : NtAt W B h l v b n hs) {B' N : Nat} {u : Value} {ys : List Value} (r : W.ownsRow B' 3 1 u N ys) : ∀ q, u.ownBlock = some q → ¬ NtIn h v b q := by
  intro q hq hn
  rcases r.2 with ⟨e3, _⟩ | ⟨g, cap, cur, e3, _, e4, _⟩
  · rw [e3] at hq; cases hq
  · rw [e3] at hq
    obtain rfl : g = q := by cases hq; rfl
    rcases hn with e | e | e
    · have := a.own
      rw [← e, e4] at this
      simp at this
    · obtain ⟨es, cl, e5⟩ := a.map.block
      rw [← e, e4] at e5
      simp at e5
    · rcases a.row.2 with ⟨e6, _⟩ | ⟨g2, cap2, cur2, e6, _, e7, _⟩
      · rw [e6] at e; cases e
      · rw [e6] at e
        obtain rfl : g2 = g := by cases e; rfl
        rw [e4] at e7
        simp at e7
set_option maxRecDepth 100000 in
set_option maxHeartbeats 8000000 in
theorem order_calls {A : Option Addr} {xs : List Int} {c0 : Nat} {which : Int} (hw : isInt which) (w : World) (hI : IRw w A xs) (hn : xs.length ≤ maxLen) (hnil : A = none → c0 = 0 ∧ xs = []) : Calls Try.prog 6 #[.slice A xs.length c0, .int .i64 which] w (L5.One w (.bool true)) := by
  obtain ⟨i0, hi, hz0, hz1, hz2⟩ := info_parts8 info_int8
  have HSh := Lib.hid (shown_calls w)
  have HN := Lib.hid (fun V => New_calls V)
  have HI := Lib.hid hI
  have HNil := Lib.hid hnil
  have HW := Lib.hid hw
  unfold maxLen at hn
  clear hI hnil hw
  go_enter Try.func6, Try.ntmps6
  go_wp2_with fail
  refine HSh.out.mono ?_
  rintro e w1 ⟨rfl, b1⟩
  have HN := Lib.hid (HN.out w1)
  have HB1 := Lib.hid b1
  clear b1 HSh
  go_wp2_with fail
  refine HN.out.mono ?_
  rintro e w2 ⟨rfl, a2, b2⟩
  have HB2 : Hid (Below w.heap.size w w2) := HB1.out.trans (b2.mono HB1.out.size)
  have hw01 : w.heap.size ≤ w1.heap.size := HB1.out.size
  by_cases h50 : 50 < xs.length
  · have j1 : (50 : Int) < (xs.length : Int) := by omega
    clear a2 b2 HN HB1
    go_wp2
    go_ret
    exact ⟨rfl, HB2.out⟩
  have j1 : ¬ (50 : Int) < (xs.length : Int) := by omega
  have hx50 : xs.length ≤ 50 := by omega
  have H0 : Hid (Sent8 w w1.heap.size (w1.heap.size + 1) w1.heap.size xs xs.length (.int .i64 0) w2) := ⟨0, _, _, by omega, rfl, by simpa using a2, HB2.out, b2.size⟩
  clear a2 b2 HN HB1 hn h50
  generalize w1.heap.size = B at *
  obtain ⟨h, hh⟩ : ∃ h, B + 1 = h := ⟨_, rfl⟩
  go_upto_region 5 with fail
  rw [hh] at H0
  clear hh
  go_wp2_with fail
  go_loopg [7] xs.length (fun k v7 wr => Sent8 w B h B xs k v7 wr)
  case atStart => exact H0.out
  clear H0
  case round =>
    obtain ⟨i, v, hs, hk, rfl, ha, hB, hbs⟩ := hrel
    by_cases hin : i < xs.length
    · obtain ⟨x, hx⟩ : ∃ x, xs[i]? = some x := ⟨_, List.getElem?_eq_getElem hin⟩
      obtain ⟨ad, rfl, hadb, hc, hxi⟩ := HI.out i x hx
      have c1 : wr.cell? (ad.add i) = some (.int .i64 x) := (hB.cell (p := ad.add i) (by rw [addr_block8]; exact hadb)).trans hc
      have s1 : (i : Int) < (xs.length : Int) := by omega
      have s2 : (0 : Int) ≤ (i : Int) := by omega
      have HPk := Lib.hid (pick_is hxi (n := 100) (by omega) (by omega) wr)
      have hp := pickN_lt x (n := 100) (by omega)
      have hmm := Lib.hid (show gk - 1 < gk by omega)
      have hkk := Lib.hid (show (gk - 1) + (i + 1) = xs.length by omega)
      have htk : (xs.take (i + 1)).map dgN = (xs.take i).map dgN ++ [dgN x] := by rw [List.take_add_one, hx]; simp
      have HTk := Lib.hid htk
      have hlen : ((xs.take i).map dgN).length = i := by simp; omega
      have HLen := Lib.hid hlen
      have HA := Lib.hid ha
      have HB := Lib.hid hB
      have hi50 : i < 50 := by omega
      have HS : Hid (∀ V, Below wr.heap.size wr V → Calls Try.prog 16 #[.pointer (some ⟨h, 0, none⟩), .agg #[.int .i64 1, .int .i64 2, .string ⟨(numB (pickN x 100)).toArray⟩]] V fun e w' => e = .returned (.int .i64 0) ∧ Sent8 w B h B xs (gk - 1) (.int .i64 ((i : Int) + 1)) w') := fun V hV => by
        have a' := HA.out.below hV
        refine (send_yes a' (Nat.le_trans hbs hV.size) (d := dgN x) (dgN_ok x) (by show (numB _).length ≤ _; rw [numB_len]; simp [maxLen]) (by unfold maxLen; omega) (by omega)).mono ?_
        rintro e w' ⟨rfl, v', k1, k2, k3⟩
        have e1 : layC ((xs.take i).map dgN) = 0 := by unfold layC; rw [if_neg (by omega)]
        have e2 : layL ((xs.take i).map dgN) (dgN x) = (xs.take (i + 1)).map dgN := by unfold layL; rw [if_neg (by omega), HTk.out]
        rw [e1]
        rw [e2] at k1
        have hbV : Below w.heap.size w V := HB.out.trans (hV.mono HB.out.size)
        exact ⟨rfl, i + 1, v', _, hkk.out, rfl, k1, Only.below hbV k2 hbV.size (fun q hq => Nat.le_trans hw01 (a'.inlt hq).1), Nat.le_trans hbs (Nat.le_trans hV.size k2.size)⟩
      have HNu := Lib.hid (number_is (n := pickN x 100) (by omega) wr)
      generalize pickN x 100 = p at *
      clear ha hB hk hx hc hadb hxi htk hlen HI
      go_wp2_with fail
      refine HPk.out.mono ?_
      rintro e w5 ⟨rfl, rfl⟩
      have r1 : (0 : Int) ≤ (p : Int) := by omega
      have r2 : (p : Int) < 18446744073709551616 := by omega
      clear HPk c1
      go_wp2_with fail
      refine HNu.out.mono ?_
      rintro e w6 ⟨rfl, b6⟩
      have HS := Lib.hid (HS.out w6 b6)
      clear b6 HNu
      go_wp2_with fail
      refine HS.out.mono ?_
      rintro e w7 ⟨rfl, k7⟩
      have HF := Lib.hid k7
      clear k7 HS
      go_wp2
      go_roundg (gk - 1)
      case measure => exact hmm.out
      case rel => exact HF.out
    · have s1 : ¬ (i : Int) < (xs.length : Int) := by omega
      have e1 : xs.take i = xs := List.take_of_length_le (by omega)
      rw [e1] at ha
      have bA : Below wr.heap.size wr (wr.alloc (.cells #[] 3)) := (Below.refl _ wr).alloc (Nat.le_refl _) _
      have hlit : (wr.alloc (.cells #[] 3)).ownsRow B 3 1 (.slice (some ⟨wr.heap.size, 0, none⟩) 0 0) 0 [] := ⟨rfl, .inr ⟨wr.heap.size, 0, #[], rfl, hbs, heap_alloc_new _ _, Nat.le_refl _, by decide, rfl, rfl⟩⟩
      have HLit := Lib.hid hlit
      have HIr := Lib.hid (HI.out.below (hB.trans (bA.mono hB.size)))
      have hsz : (wr.alloc (.cells #[] 3)).heap.size = wr.heap.size + 1 := by simp
      have hbA : B ≤ (wr.alloc (.cells #[] 3)).heap.size := by omega
      have H1 : Hid (∀ v8 w5, w5.ownsRow B 3 1 v8 (0 + xs.length) ([] ++ ints xs) → (wr.alloc (.cells #[] 3)).grownBy w5 (some wr.heap.size) → NtAt w5 B h (xs.map dgN) v B i hs ∧ w5.ownsRow B 3 1 v8 xs.length (ints xs) ∧ Below w.heap.size w w5 ∧ B ≤ w5.heap.size) := fun v8 w5 k1 k2 => by
        have b5 : Below wr.heap.size wr w5 := bA.grown k2 (by omega) (fun k e => by cases e; exact Nat.le_refl _)
        rw [Nat.zero_add, List.nil_append] at k1
        exact ⟨ha.below b5, k1, hB.trans (b5.mono hB.size), Nat.le_trans hbs b5.size⟩
      clear ha hB hk hlit bA e1 hin
      have n1 : 0 + xs.length ≤ maxLen := by unfold maxLen; omega
      have n2 : (0 + xs.length) * 8 ≤ 140737488355328 := by omega
      go_upto_if 54 with (at_builtin; refine wpList_append_ints rfl _ _ 57 rfl B 3 i0 _ 8 Try.underlying57 hi hz0 hz1 hz2 rfl _ 0 [] rfl HLit.out A c0 xs rfl HIr.out HNil.out n1 n2 hbA ?_; intro v8 w5 hown' hgrow _; have G5 := Lib.hid (H1.out v8 w5 hown' hgrow); clear hown' hgrow)
      clear H1 HLit HIr hsz hbA
      go_cut [8] (fun v8 wc => Want8 w B h B v8 wc)
      case first =>
        by_cases hx0 : 0 < xs.length
        rotate_left
        · have s3 : ¬ (0 : Int) < (xs.length : Int) := by omega
          have HF : Hid (Want8 w B h B v8 w5) := by
            have hxe : xs = [] := List.length_eq_zero_iff.1 (by omega)
            obtain ⟨q1, q2, q3, q4⟩ := G5.out
            exact ⟨xs, _, _, _, q1, q2, by omega, by rw [hxe]; simp, q3, q4⟩
          clear G5
          go_wp2
          go_meet
          case rel => exact HF.out
        · have s3 : (0 : Int) < (xs.length : Int) := by omega
          have HP := Lib.hid (pick_is HW.out (n := xs.length) hx0 (by omega) w5)
          have hkl := pickN_lt which (n := xs.length) hx0
          generalize pickN which xs.length = k at *
          obtain ⟨x, hx⟩ : ∃ x, xs[k]? = some x := ⟨_, List.getElem?_eq_getElem hkl⟩
          have HD := double_yes G5.out.1 G5.out.2.2.2 (i := k) (d := dgN x) (by simp [hx]) (by simp; omega)
          have e2 : layC (xs.map dgN) = 0 := by unfold layC; rw [List.length_map, if_neg (by omega)]
          have e3 : layL (xs.map dgN) (dgN x) = (xs ++ [x]).map dgN := by unfold layL; rw [List.length_map, if_neg (by omega)]; simp
          unfold LayOut Ntd at HD
          rw [e2, e3] at HD
          have HD := Lib.hid HD
          obtain ⟨ad, rfl, hadb, hc, hxi⟩ := HI.out k x hx
          have HC : Hid (∀ V, Below w.heap.size w V → V.cell? (ad.add k) = some (.int .i64 x)) := fun V hV => (hV.cell (p := ad.add k) (by rw [addr_block8]; exact hadb)).trans hc
          have HXs : Hid (∀ y ∈ xs ++ [x], isInt y) := fun y hy => by
            rcases List.mem_append.1 hy with hy | hy
            · obtain ⟨j, hj⟩ := List.mem_iff_getElem?.1 hy
              exact (HI.out j y hj).choose_spec.2.2.2
            · simp at hy; rw [hy]; exact hxi
          have r1 : (0 : Int) ≤ (k : Int) := by omega
          have r2 : (k : Int) < (xs.length : Int) := by omega
          clear hx hadb hc hxi e2 e3
          go_wp2_with fail
          refine HP.out.mono ?_
          rintro e w6 ⟨rfl, rfl⟩
          clear HP
          go_wp2_with fail
          refine HD.out.mono ?_
          rintro e w6 ⟨rfl, v6, k1, k2, k3⟩
          have hB6 : Below w.heap.size w w6 := Only.below G5.out.2.2.1 k2 G5.out.2.2.1.size (fun q hq => Nat.le_trans hw01 (G5.out.1.inlt hq).1)
          have HR6 : Hid (w6.ownsRow B 3 1 v8 xs.length (ints xs)) := L5.own_same G5.out.2.1 (fun q e => k2.block q (G5.out.2.1.lt q e).2 (G5.out.1.int_not G5.out.2.1 q e))
          have HA6 := Lib.hid k1
          have HB6 := Lib.hid hB6
          have hb6 : B ≤ w6.heap.size := Nat.le_trans G5.out.2.2.2 k2.size
          have c6 := HC.out w6 hB6
          have H7 : Hid (∀ v7 w7, w7.ownsRow B 3 1 v7 (xs.length + 1) (ints xs ++ [.int .i64 x]) → (w6.alloc (.cells #[.int .i64 x] 3)).grownBy w7 v8.ownBlock → Want8 w B h B v7 w7) := fun v7 w7 m1 m2 => by
            have m3 := L5.grow_trans (World.grownBy_alloc w6 (.cells #[.int .i64 x] 3) _) m2
            refine ⟨xs ++ [x], _, _, _, HA6.out.same (fun q hq => m3.block q (HA6.out.inlt hq).2 (fun e => HA6.out.int_not HR6.out q e.symm hq)), ?_, by simp; omega, HXs.out, HB6.out.grown m3 HB6.out.size (fun q e => Nat.le_trans hw01 (HR6.out.lt q e).1), Nat.le_trans hb6 m3.size⟩
            have e : ints (xs ++ [x]) = ints xs ++ [.int .i64 x] := by simp [ints]
            rw [List.length_append, e]
            exact m1
          clear k1 k2 k3 hB6 HD G5 HC
          have n3 : xs.length + 1 ≤ maxLen := by unfold maxLen; omega
          have n4 : (xs.length + 1) * 8 ≤ 140737488355328 := by omega
          have n5 : ∀ u ∈ [Value.int .i64 x], u.oneCell' = true := by simp [Value.oneCell']
          have n6 : B ≤ (w6.alloc (.cells #[.int .i64 x] 3)).heap.size := by simp; omega
          go_wp2_with (at_builtin; refine wpList_append_own_at _ rfl _ _ 57 rfl B 3 i0 _ 1 8 Try.underlying57 hi hz0 hz1 hz2 rfl (by decide) _ _ _ rfl (HR6.out.alloc _) ⟨w6.heap.size, 0, none⟩ 1 1 [.int .i64 x] rfl rfl (cell_one_new _ _ _) n5 n3 n4 n6 ?_; intro v7 w7 hown' hgrow _ _; have HF := Lib.hid (H7.out v7 w7 hown' hgrow); clear hown' hgrow)
          clear H7 HR6 HA6 HB6 c6
          go_meet
          case rel => exact HF.out
      case rest =>
        obtain ⟨XX, rfl⟩ : ∃ z, z = wc := ⟨wc, rfl⟩
        obtain ⟨ws, v, n, hs', ha, hr, hwl, hwi, hB, hb⟩ := hcut
        obtain ⟨A8, c8, rfl⟩ := L5.own_slice hr
        have H2 : Hid (Take8 w B h B ws (.slice A8 ws.length c8) ws.length (.int .i64 0) XX) := ⟨0, v, n, hs', by omega, rfl, by simpa using ha, hr, hB, hb⟩
        have HWi := Lib.hid hwi
        clear ha hr hB hb hwi G5 hx50 j1 s1 HI HNil HW
        go_wp2_with fail
        go_loopg [10] ws.length (fun k v10 wr => Take8 w B h B ws (.slice A8 ws.length c8) k v10 wr)
        case atStart => exact H2.out
        clear H2
        case round =>
          obtain ⟨i, v, n, hs, hk, rfl, ha, hr, hB, hb⟩ := hrel
          by_cases hin : i < ws.length
          · obtain ⟨x, hx⟩ : ∃ x, ws[i]? = some x := ⟨_, List.getElem?_eq_getElem hin⟩
            have hdr : ws.drop i = x :: ws.drop (i + 1) := by
              rw [List.drop_eq_getElem_cons hin]
              rw [List.getElem?_eq_getElem hin] at hx
              cases hx
              rfl
            obtain ⟨g8, c8', e8, hg8, hcell⟩ := row_shape8 hr (by omega)
            simp only [Value.slice.injEq, true_and] at e8
            obtain ⟨rfl, rfl⟩ := e8
            have cw := hcell i (.int .i64 x) (by simp [ints, hx])
            have HT := take_yes ha (i := 0) (d := dgN x) (by rw [hdr]; rfl) (by simp; omega)
            have e1 : ((ws.drop i).map dgN).take 0 ++ ((ws.drop i).map dgN).drop (0 + 1) = (ws.drop (i + 1)).map dgN := by rw [hdr]; simp
            unfold TakeYes Ntd at HT
            rw [e1] at HT
            have hxi := HWi.out x (List.mem_of_getElem? hx)
            have hp := pickN_lt x (n := 100) (by omega)
            obtain ⟨p, hpe⟩ : ∃ p, pickN x 100 = p := ⟨_, rfl⟩
            have HT2 : Hid (Calls Try.prog 12 #[.pointer (some ⟨h, 0, none⟩), .int .i64 0] wr fun e w' => e = .returned (.tuple #[.agg #[.int .i64 1, .int .i64 2, .string ⟨(numB p).toArray⟩], .int .i64 0]) ∧ ∃ v', NtAt w' B h ((ws.drop (i + 1)).map dgN) v' B n hs ∧ Only (NtIn h v B) wr w' ∧ ∀ q, NtIn h v' B q → NtIn h v B q ∨ wr.heap.size ≤ q) := by
              rw [← hpe]
              exact HT
            have HPk : Hid (∀ V, Calls Try.prog 11 #[.int .i64 x, .int .i64 100] V fun e w' => e = .returned (.int .i64 p) ∧ V = w') := fun V => by
              rw [← hpe]
              exact pick_is hxi (n := 100) (by omega) (by omega) V
            rw [hpe] at hp
            have HNu : Hid (∀ V, Calls Try.prog 21 #[.int .u64 p] V (L5.One V (.string ⟨(numB p).toArray⟩))) := fun V => number_is (n := p) (by omega) V
            have s1 : (i : Int) < (ws.length : Int) := by omega
            have s2 : (0 : Int) ≤ (i : Int) := by omega
            have r1 : (0 : Int) ≤ (p : Int) := by omega
            have r2 : (p : Int) < 18446744073709551616 := by omega
            have hwr : IntKind.u64.wrap (p : Int) = (p : Int) := by simp [IntKind.wrap, IntKind.bits, IntKind.signed]; omega
            have hmm := Lib.hid (show gk - 1 < gk by omega)
            have hkk := Lib.hid (show (gk - 1) + (i + 1) = ws.length by omega)
            have HA := Lib.hid ha
            have HR := Lib.hid hr
            have HB := Lib.hid hB
            generalize numB p = np at *
            clear ha hr hB hk hx hdr hcell HT e1 hxi hpe
            go_wp2_with fail
            refine HT2.out.mono ?_
            rintro e w5 ⟨rfl, v5, a5, o5, n5⟩
            have bC : Below w5.heap.size w5 (w5.alloc (.cells #[.int .i64 1, .int .i64 2, .string ⟨np.toArray⟩] 36)) := (Below.refl _ w5).alloc (Nat.le_refl _) _
            have hz6 : (w5.alloc (.cells #[.int .i64 1, .int .i64 2, .string ⟨np.toArray⟩] 36)).heap.size = w5.heap.size + 1 := by simp
            have nb := heap_alloc_new w5 (.cells #[.int .i64 1, .int .i64 2, .string ⟨np.toArray⟩] 36)
            obtain ⟨w6, hw6⟩ : ∃ w6, w5.alloc (.cells #[.int .i64 1, .int .i64 2, .string ⟨np.toArray⟩] 36) = w6 := ⟨_, rfl⟩
            rw [hw6] at bC hz6 nb
            have hg5 : g8 < w5.heap.size := Nat.lt_of_lt_of_le hg8 o5.size
            have ob := (bC.block g8 hg5).trans (o5.block g8 hg8 (HA.out.int_not HR.out g8 rfl))
            have f0 : w6.cell? ⟨w5.heap.size, 0, none⟩ = some (.int .i64 1) := blk_cell8 nb
            have f1 : w6.cell? ⟨w5.heap.size, 1, none⟩ = some (.int .i64 2) := blk_cell8 nb
            have f2 : w6.cell? ⟨w5.heap.size, 2, none⟩ = some (.string ⟨np.toArray⟩) := blk_cell8 nb
            have f3 : w6.cell? ⟨g8, i, none⟩ = some (.int .i64 x) := (World.cell?_of_block (w := wr) ob).trans cw
            have HNx : Hid (∀ V, Below w6.heap.size w6 V → Take8 w B h B ws (.slice (some ⟨g8, 0, none⟩) ws.length c8) (gk - 1) (.int .i64 ((i : Int) + 1)) V) := fun V hV => by
              have b5 : Below w.heap.size w w5 := Only.below HB.out o5 HB.out.size (fun q hq => Nat.le_trans hw01 (HA.out.inlt hq).1)
              have b6 := b5.trans (bC.mono b5.size)
              refine ⟨i + 1, v5, n, hs, hkk.out, rfl, (a5.below bC).below hV, L5.own_same HR.out (fun q e => by
                obtain rfl : g8 = q := by cases e; rfl
                exact (hV.block _ (by omega)).trans ob), b6.trans (hV.mono b6.size), Nat.le_trans hb (Nat.le_trans o5.size (Nat.le_trans bC.size hV.size))⟩
            have l6 : w5.heap.size < w6.heap.size ∧ g8 < w6.heap.size := by omega
            have HNu2 : Hid (∀ V, V.cell? ⟨w5.heap.size, 0, none⟩ = some (.int .i64 1) ∧ V.cell? ⟨w5.heap.size, 1, none⟩ = some (.int .i64 2) ∧ V.cell? ⟨w5.heap.size, 2, none⟩ = some (.string ⟨np.toArray⟩) ∧ V.cell? ⟨g8, i, none⟩ = some (.int .i64 x) ∧ Below w6.heap.size w6 V →
                Calls Try.prog 21 #[.int .u64 p] V fun e w' => e = .returned (.string ⟨np.toArray⟩) ∧ w'.cell? ⟨w5.heap.size, 0, none⟩ = some (.int .i64 1) ∧ w'.cell? ⟨w5.heap.size, 1, none⟩ = some (.int .i64 2) ∧ w'.cell? ⟨w5.heap.size, 2, none⟩ = some (.string ⟨np.toArray⟩) ∧ w'.cell? ⟨g8, i, none⟩ = some (.int .i64 x) ∧ Below w6.heap.size w6 w') := fun V ⟨v0, v1, v2, v3, v4⟩ => by
              refine (HNu.out V).mono ?_
              rintro e w' ⟨rfl, k2⟩
              have hz := v4.size
              exact ⟨rfl, (k2.cell (p := ⟨w5.heap.size, 0, none⟩) (by show w5.heap.size < _; omega)).trans v0, (k2.cell (p := ⟨w5.heap.size, 1, none⟩) (by show w5.heap.size < _; omega)).trans v1, (k2.cell (p := ⟨w5.heap.size, 2, none⟩) (by show w5.heap.size < _; omega)).trans v2, (k2.cell (p := ⟨g8, i, none⟩) (by show g8 < _; omega)).trans v3, v4.trans (k2.mono hz)⟩
            have hS0 : Below w6.heap.size w6 w6.drew := (Below.refl _ _).drew
            clear a5 o5 n5 bC hz6 nb ob HT2 HA HR HB cw hb HNu
            go_wp2
            go_region_held3 (fun w' => w'.cell? ⟨w5.heap.size, 0, none⟩ = some (.int .i64 1) ∧ w'.cell? ⟨w5.heap.size, 1, none⟩ = some (.int .i64 2) ∧ w'.cell? ⟨w5.heap.size, 2, none⟩ = some (.string ⟨np.toArray⟩) ∧ w'.cell? ⟨g8, i, none⟩ = some (.int .i64 x) ∧ Below w6.heap.size w6 w')
              ((first | exact ⟨f0, f1, f2, f3, hS0⟩ | (go_split_ands; refine ⟨?_, ?_, ?_, ?_, ?_⟩ <;> assumption)))
              (first
                | (go_at_call 11; refine (HPk.out _).mono ?_; rintro e w7 ⟨rfl, rfl⟩)
                | (go_at_call 21; refine (HNu2.out _ (by first | exact ⟨f0, f1, f2, f3, hS0⟩ | (refine ⟨?_, ?_, ?_, ?_, ?_⟩ <;> assumption))).mono ?_; rintro e w8 ⟨rfl, m0, m1, m2, m3, m4⟩))
            have HF := Lib.hid (HNx.out _ m4)
            clear m0 m1 m2 m3 m4 HNx HNu2 HPk
            go_wp2
            go_roundg (gk - 1)
            case measure => exact hmm.out
            case rel => exact HF.out
          · have s1 : ¬ (i : Int) < (ws.length : Int) := by omega
            have hdr : ws.drop i = [] := List.drop_of_length_le (by omega)
            rw [hdr] at ha
            have HT := Lib.hid (take_no ha (i := 0) (by simp))
            have HA := Lib.hid ha
            have HB := Lib.hid hB
            clear ha hr hB hdr
            go_wp2_with fail
            refine HT.out.mono ?_
            rintro e w5 ⟨rfl, b5⟩
            have bC : Below w5.heap.size w5 (w5.alloc (.cells #[.int .i64 0, .int .i64 0, .string ⟨#[]⟩] 36)) := (Below.refl _ w5).alloc (Nat.le_refl _) _
            have HM := Lib.hid (Many_calls ((HA.out.below b5).below bC))
            have HF : Hid (Below w.heap.size w (w5.alloc (.cells #[.int .i64 0, .int .i64 0, .string ⟨#[]⟩] 36))) := by
              have h5 := HB.out.trans (b5.mono HB.out.size)
              exact h5.trans (bC.mono h5.size)
            clear b5 bC HT HA HB
            go_wp2_with fail
            refine HM.out.mono ?_
            rintro e w7 ⟨rfl, rfl⟩
            go_wp2
            go_ret
            exact ⟨rfl, HF.out⟩
end Go.Proofs.Ytcdhfkfokckjgaa.L8
