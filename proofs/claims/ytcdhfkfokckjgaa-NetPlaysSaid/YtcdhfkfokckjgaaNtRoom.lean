/- NetRoom: no more lie in a net than there is room for; what is refused for that was heard all the same; taken out there is room for one. -/
import Derived.Test.YtcdhfkfokckjgaaNtInts
import Derived.Deep.RegionHeld3
namespace Go.Proofs.Ytcdhfkfokckjgaa.L8
open Go.ChangeShapes Go.WideShapes Go.ChangeAt Go.RowKit Go.Deep

theorem be8_inj8 {a b : Nat} (ha : a < 18446744073709551616) (hb : b < 18446744073709551616) (h : Tm.be8 a = Tm.be8 b) : a = b := by
  simp only [Tm.be8, List.cons.injEq, and_true] at h
  obtain ⟨h7, h6, h5, h4, h3, h2, h1, h0⟩ := h
  have k : ∀ x y : Nat, UInt8.ofNat x = UInt8.ofNat y → x % 256 = y % 256 := by
    intro x y h
    have := congrArg UInt8.toNat h
    rwa [UInt8.toNat_ofNat', UInt8.toNat_ofNat'] at this
  have k7 := k _ _ h7
  have k6 := k _ _ h6
  have k5 := k _ _ h5
  have k4 := k _ _ h4
  have k3 := k _ _ h3
  have k2 := k _ _ h2
  have k1 := k _ _ h1
  have k0 := k _ _ h0
  clear h7 h6 h5 h4 h3 h2 h1 h0 k
  simp only [Nat.pow_zero, Nat.div_one] at k0
  omega
theorem numB_inj {a b : Nat} (ha : a < 18446744073709551616) (hb : b < 18446744073709551616) (h : numB a = numB b) : a = b := be8_inj8 ha hb (by simpa [numB] using h)
def dgR (i : Nat) : Dg := ⟨1 + ((i % 8 : Nat) : Int), 1, numB i⟩
theorem dgR_ok (i : Nat) : (dgR i).ok := ⟨⟨by show (1 : Int) ≤ 1 + _; omega, by show 1 + ((i % 8 : Nat) : Int) ≤ 8; omega⟩, ⟨by show (1 : Int) ≤ 1; omega, by show (1 : Int) ≤ 8; omega⟩, numB_right _⟩
theorem put_next {i : Nat} (hi : i < 1000) : putH ((List.range i).map numB) (numB i) = (List.range (i + 1)).map numB := by
  unfold putH
  rw [if_neg, List.range_succ]
  · simp
  · intro hm
    obtain ⟨j, hj, he⟩ := List.mem_map.1 hm
    rw [List.mem_range] at hj
    have := numB_inj (by omega) (by omega) he
    omega
def Room8 (w : World) (B h : Nat) (K k : Nat) (vi : Value) (wr : World) : Prop :=
  ∃ (i : Nat) (v : Value), k + i = K ∧ vi = .int .i64 i ∧ NtAt wr B h ((List.range (min i 400)).map dgR) v B i ((List.range i).map numB) ∧ Below w.heap.size w wr ∧ B ≤ wr.heap.size

set_option maxRecDepth 100000 in
set_option maxHeartbeats 16000000 in
theorem room_calls {many which : Int} (hm : isInt many) (hw : isInt which) (w : World) : Calls Try.prog 4 #[.int .i64 many, .int .i64 which] w (L5.One w (.bool true)) := by
  have HSh := Lib.hid (shown_calls w)
  have HN := Lib.hid (fun V => New_calls V)
  have HW := Lib.hid hw
  have hK := pickN_lt many (n := 500) (by omega)
  have HP := Lib.hid (fun V => pick_is hm (n := 500) (by omega) (by omega) V)
  generalize pickN many 500 = K at *
  clear hm hw
  go_enter Try.func4, Try.ntmps4
  go_wp2_with fail
  refine HSh.out.mono ?_
  rintro e w0 ⟨rfl, b0⟩
  have HP := Lib.hid (HP.out w0)
  have HB0 := Lib.hid b0
  clear b0 HSh
  go_wp2_with fail
  refine HP.out.mono ?_
  rintro e w1 ⟨rfl, rfl⟩
  have HN := Lib.hid (HN.out w0)
  clear HP
  go_wp2_with fail
  refine HN.out.mono ?_
  rintro e w2 ⟨rfl, a2, b2⟩
  have HB2 : Hid (Below w.heap.size w w2) := HB0.out.trans (b2.mono HB0.out.size)
  have hw01 : w.heap.size ≤ w0.heap.size := HB0.out.size
  have H0 : Hid (Room8 w w0.heap.size (w0.heap.size + 1) K K (.int .i64 0) w2) := ⟨0, _, by omega, rfl, by simpa using a2, HB2.out, b2.size⟩
  clear a2 b2 HN HB0
  generalize w0.heap.size = B at *
  obtain ⟨h, hh⟩ : ∃ h, B + 1 = h := ⟨_, rfl⟩
  go_upto_region 6 with fail
  rw [hh] at H0
  clear hh
  go_wp2_with fail
  go_loopg [8] K (fun k v8 wr => Room8 w B h K k v8 wr)
  case atStart => exact H0.out
  clear H0
  case round =>
    obtain ⟨i, v, hk, rfl, ha, hB, hbs⟩ := hrel
    by_cases hin : i < K
    · have s1 : (i : Int) < (K : Int) := by omega
      have s2 : (0 : Int) ≤ (i : Int) := by omega
      have s3 : (i : Int) < 18446744073709551616 := by omega
      obtain ⟨r, hr⟩ : ∃ r, i % 8 = r := ⟨_, rfl⟩
      have hr8 : r < 8 := by omega
      have hmod : Int.tmod (i : Int) 8 = (r : Int) := by rw [Int.tmod_eq_emod_of_nonneg (by omega), ← hr]; rfl
      have hmm := Lib.hid (show gk - 1 < gk by omega)
      have hkk := Lib.hid (show (gk - 1) + (i + 1) = K by omega)
      have HNu := Lib.hid (number_is (n := i) (by omega) wr)
      have HA := Lib.hid ha
      have HB := Lib.hid hB
      have HR := Lib.hid hr
      have hi500 : i < 500 := by omega
      have HS : Hid (∀ V, Below wr.heap.size wr V → Calls Try.prog 16 #[.pointer (some ⟨h, 0, none⟩), .agg #[.int .i64 (1 + (r : Int)), .int .i64 1, .string ⟨(numB i).toArray⟩]] V fun e w' => e = .returned (.int .i64 (layC ((List.range (min i 400)).map dgR) : Nat)) ∧ Room8 w B h K (gk - 1) (.int .i64 ((i : Int) + 1)) w') := fun V hV => by
        have a' := HA.out.below hV
        rw [← HR.out]
        refine (send_yes a' (Nat.le_trans hbs hV.size) (d := dgR i) (dgR_ok i) (by show (numB _).length ≤ _; rw [numB_len]; simp [maxLen]) (by unfold maxLen; omega) (by simp; omega)).mono ?_
        rintro e w' ⟨rfl, v', k1, k2, k3⟩
        have e2 : layL ((List.range (min i 400)).map dgR) (dgR i) = (List.range (min (i + 1) 400)).map dgR := by
          unfold layL
          by_cases c : i < 400
          · rw [if_neg (by simp; omega), show min i 400 = i by omega, show min (i + 1) 400 = i + 1 by omega, List.range_succ]
            simp
          · rw [if_pos (by simp; omega), show min i 400 = 400 by omega, show min (i + 1) 400 = 400 by omega]
        have e3 : putH ((List.range i).map numB) (dgR i).fr = (List.range (i + 1)).map numB := put_next (by omega)
        rw [e2, e3] at k1
        have hbV : Below w.heap.size w V := HB.out.trans (hV.mono HB.out.size)
        exact ⟨rfl, i + 1, v', hkk.out, rfl, k1, Only.below hbV k2 hbV.size (fun q hq => Nat.le_trans hw01 (a'.inlt hq).1), Nat.le_trans hbs (Nat.le_trans hV.size k2.size)⟩
      by_cases c4 : i < 400
      · have e1 : layC ((List.range (min i 400)).map dgR) = 0 := by unfold layC; rw [if_neg (by simp; omega)]
        rw [e1] at HS
        have j4 : (i : Int) < 400 := by omega
        clear ha hB hk hr e1
        generalize numB i = np at *
        go_wp2_with fail
        refine HNu.out.mono ?_
        rintro e w6 ⟨rfl, b6⟩
        have HS := Lib.hid (HS.out w6 b6)
        clear b6 HNu
        go_wp2_with fail
        refine HS.out.mono ?_
        rintro e w7 ⟨rfl, k7⟩
        have HF := Lib.hid k7
        clear k7 HS s3 hmod hr8
        go_wp2
        go_roundg (gk - 1)
        case measure => exact hmm.out
        case rel => exact HF.out
      · have e1 : layC ((List.range (min i 400)).map dgR) = 5 := by unfold layC; rw [if_pos (by simp; omega)]
        rw [e1] at HS
        have j4 : ¬ (i : Int) < 400 := by omega
        clear ha hB hk hr e1
        generalize numB i = np at *
        go_wp2_with fail
        refine HNu.out.mono ?_
        rintro e w6 ⟨rfl, b6⟩
        have HS := Lib.hid (HS.out w6 b6)
        clear b6 HNu
        go_wp2_with fail
        refine HS.out.mono ?_
        rintro e w7 ⟨rfl, k7⟩
        have HF := Lib.hid k7
        clear k7 HS s3 hmod hr8
        go_wp2
        go_roundg (gk - 1)
        case measure => exact hmm.out
        case rel => exact HF.out
    · have s1 : ¬ (i : Int) < (K : Int) := by omega
      obtain rfl : K = i := by omega
      have HM := Many_calls ha
      have hml : ((List.range (min K 400)).map dgR).length = min K 400 := by simp
      rw [hml] at HM
      have HH : Hid (Calls Try.prog 19 #[.pointer (some ⟨h, 0, none⟩)] wr fun e w' => ∃ A c, e = .returned (.slice A K c) ∧ Below wr.heap.size wr w') := by
        refine (Heard_calls ha (by simp; omega)).mono ?_
        rintro e w' ⟨u, rfl, k1, k2⟩
        rw [show ((List.range K).map numB).length = K by simp] at k1
        obtain ⟨A, c, rfl⟩ := L5.own_slice k1
        exact ⟨A, c, rfl, k2⟩
      have HA := Lib.hid ha
      have HB := Lib.hid hB
      clear ha hB hk hin hml
      by_cases c4 : K < 400
      · rw [show min K 400 = K by omega] at HM HA
        have HM := Lib.hid HM
        have j4 : (K : Int) < 400 := by omega
        have j5 : min (K : Int) 400 = (K : Int) := by omega
        go_wp2_with fail
        refine HM.out.mono ?_
        rintro e w4 ⟨rfl, rfl⟩
        clear HM
        go_wp2_with fail
        refine HH.out.mono ?_
        rintro e w5 ⟨A5, c5, rfl, b5⟩
        have HA5 := Lib.hid (HA.out.below b5)
        have HB5 : Hid (Below w.heap.size w w5) := HB.out.trans (b5.mono HB.out.size)
        have hb5 : B ≤ w5.heap.size := Nat.le_trans hbs b5.size
        clear b5 HH HA HB
        by_cases hk0 : K = 0
        · have HD := Lib.hid (double_no HA5.out (i := 0) (by rw [hk0]; simp))
          have j0 : ((K : Int) == 0) = true := by rw [beq_iff_eq]; omega
          clear hk0
          go_wp2_with fail
          refine HD.out.mono ?_
          rintro e w6 ⟨rfl, rfl⟩
          go_wp2
          go_ret
          exact ⟨rfl, HB5.out⟩
        have j0 : ((K : Int) == 0) = false := by rw [beq_eq_false_iff_ne]; omega
        have HPw := Lib.hid (fun V => pick_is HW.out (n := K) (by omega) (by omega) V)
        have hq := pickN_lt which (n := K) (by omega)
        generalize pickN which K = q at *
        have hk0' : 0 < K := by omega
        have x1 : layC ((List.range K).map dgR) = 0 := by unfold layC; rw [if_neg (by simp; omega)]
        have x2 : layL ((List.range K).map dgR) (dgR 0) = (List.range K).map dgR ++ [dgR 0] := by unfold layL; rw [if_neg (by simp; omega)]
        clear hk0
        have HD := double_yes HA5.out hb5 (i := 0) (d := dgR 0) (by simp [hk0']) (by simp; omega)
        unfold LayOut Ntd at HD
        rw [x1, x2] at HD
        have HD := Lib.hid HD
        go_wp2_with fail
        refine HD.out.mono ?_
        rintro e w6 ⟨rfl, v6, a6, o6, n6⟩
        have HA6 := Lib.hid a6
        have HB6 : Hid (Below w.heap.size w w6) := Only.below HB5.out o6 HB5.out.size (fun q hq => Nat.le_trans hw01 (HA5.out.inlt hq).1)
        have hb6 : B ≤ w6.heap.size := Nat.le_trans hb5 o6.size
        have HPw := Lib.hid (HPw.out w6)
        clear a6 o6 n6 HD
        go_wp2_with fail
        refine HPw.out.mono ?_
        rintro e w7 ⟨rfl, rfl⟩
        clear HPw
        have HT := take_yes HA6.out (i := q) (d := dgR q) (by rw [List.getElem?_append_left (by simp; omega)]; simp [hq]) (by simp; omega)
        unfold TakeYes Ntd at HT
        have HT2 : Hid (Calls Try.prog 12 #[.pointer (some ⟨h, 0, none⟩), .int .i64 q] w6 fun e w' => e = .returned (.tuple #[.agg #[.int .i64 (1 + ((q % 8 : Nat) : Int)), .int .i64 1, .string ⟨(numB q).toArray⟩], .int .i64 0]) ∧ ∃ v', NtAt w' B h (((List.range K).map dgR ++ [dgR 0]).take q ++ ((List.range K).map dgR ++ [dgR 0]).drop (q + 1)) v' B K ((List.range K).map numB) ∧ Only (NtIn h v6 B) w6 w' ∧ ∀ k, NtIn h v' B k → NtIn h v6 B k ∨ w6.heap.size ≤ k) := HT
        have HNu : Hid (∀ V, Calls Try.prog 21 #[.int .u64 q] V (L5.One V (.string ⟨(numB q).toArray⟩))) := fun V => number_is (n := q) (by omega) V
        have hwr : IntKind.u64.wrap (q : Int) = (q : Int) := by simp [IntKind.wrap, IntKind.bits, IntKind.signed]; omega
        have r1 : (0 : Int) ≤ (q : Int) := by omega
        have r2 : (q : Int) < 18446744073709551616 := by omega
        obtain ⟨src, hsrc⟩ : ∃ src : Int, 1 + ((q % 8 : Nat) : Int) = src := ⟨_, rfl⟩
        rw [hsrc] at HT2
        generalize numB q = np at *
        clear HT hsrc
        go_wp2_with fail
        refine HT2.out.mono ?_
        rintro e w7 ⟨rfl, v7, a7, o7, n7⟩
        have bC : Below w7.heap.size w7 (w7.alloc (.cells #[.int .i64 src, .int .i64 1, .string ⟨np.toArray⟩] 36)) := (Below.refl _ w7).alloc (Nat.le_refl _) _
        have hz8 : (w7.alloc (.cells #[.int .i64 src, .int .i64 1, .string ⟨np.toArray⟩] 36)).heap.size = w7.heap.size + 1 := by simp
        have nb := heap_alloc_new w7 (.cells #[.int .i64 src, .int .i64 1, .string ⟨np.toArray⟩] 36)
        obtain ⟨w8, hw8⟩ : ∃ w8, w7.alloc (.cells #[.int .i64 src, .int .i64 1, .string ⟨np.toArray⟩] 36) = w8 := ⟨_, rfl⟩
        rw [hw8] at bC hz8 nb
        have HA8 := Lib.hid (a7.below bC)
        have HB8 : Hid (Below w.heap.size w w8) := by
          have b7 : Below w.heap.size w w7 := Only.below HB6.out o7 HB6.out.size (fun q hq => Nat.le_trans hw01 (HA6.out.inlt hq).1)
          exact b7.trans (bC.mono b7.size)
        have hb8 : B ≤ w8.heap.size := Nat.le_trans hb6 (Nat.le_trans o7.size bC.size)
        have HNb := Lib.hid nb
        have l8 : w7.heap.size < w8.heap.size := by omega
        have HAp : Hid (∀ q, NtIn h v7 B q → q < w7.heap.size) := fun q hq => (a7.inlt hq).2
        have HS := send_yes HA8.out hb8 (d := dgG) dgG_ok (by simp [dgG, maxLen]) (by unfold maxLen; omega) (by simp; omega)
        have e5 : layC (((List.range K).map dgR ++ [dgR 0]).take q ++ ((List.range K).map dgR ++ [dgR 0]).drop (q + 1)) = 0 := by unfold layC; rw [if_neg (by simp; omega)]
        have e6 : putH ((List.range K).map numB) dgG.fr = (List.range K).map numB ++ [[103]] := by
          unfold putH
          rw [if_neg]
          · rfl
          · intro hm
            obtain ⟨i, _, hi⟩ := List.mem_map.1 hm
            have := congrArg List.length hi
            rw [numB_len] at this
            simp [dgG] at this
        unfold SendYes Ntd at HS
        rw [e5, e6] at HS
        have HS2 : Hid (Calls Try.prog 16 #[.pointer (some ⟨h, 0, none⟩), .agg #[.int .i64 1, .int .i64 2, .string ⟨#[103]⟩]] w8 fun e w' => e = .returned (.int .i64 0) ∧ ∃ l' v', NtAt w' B h l' v' B (K + 1) ((List.range K).map numB ++ [[103]]) ∧ Only (NtIn h v7 B) w8 w') := HS.mono fun e w' ⟨k0, v', k1, k2, _⟩ => ⟨k0, _, v', k1, k2⟩
        clear a7 o7 n7 bC hz8 nb HT2 HA6 HB6 HS e5 e6
        go_wp2_with fail
        refine HS2.out.mono ?_
        rintro e w9 ⟨rfl, l9, v9, a9, o9⟩
        have hz9 := o9.size
        have nb9 := (o9.block w7.heap.size l8 (fun hn => by have := HAp.out _ hn; omega)).trans HNb.out
        have f2 : w9.cell? ⟨w7.heap.size, 2, none⟩ = some (.string ⟨np.toArray⟩) := blk_cell8 nb9
        have HA9 := Lib.hid a9
        have HB9 : Hid (Below w.heap.size w w9) := Only.below HB8.out o9 HB8.out.size (fun q hq => Nat.le_trans hw01 (HA8.out.inlt hq).1)
        have l9' : w7.heap.size < w9.heap.size := by omega
        have HNu2 : Hid (∀ V, V.cell? ⟨w7.heap.size, 2, none⟩ = some (.string ⟨np.toArray⟩) ∧ Below w9.heap.size w9 V → Calls Try.prog 21 #[.int .u64 q] V fun e w' => e = .returned (.string ⟨np.toArray⟩) ∧ w'.cell? ⟨w7.heap.size, 2, none⟩ = some (.string ⟨np.toArray⟩) ∧ Below w9.heap.size w9 w') := fun V ⟨v0, v4⟩ => by
          refine (HNu.out V).mono ?_
          rintro e w' ⟨rfl, k2⟩
          have hz := v4.size
          exact ⟨rfl, (k2.cell (p := ⟨w7.heap.size, 2, none⟩) (by show w7.heap.size < _; omega)).trans v0, v4.trans (k2.mono hz)⟩
        have HHr : Hid (∀ V, V.cell? ⟨w7.heap.size, 2, none⟩ = some (.string ⟨np.toArray⟩) ∧ Below w9.heap.size w9 V → Calls Try.prog 19 #[.pointer (some ⟨h, 0, none⟩)] V fun e w' => ∃ A c, e = .returned (.slice A (K + 1) c) ∧ w'.cell? ⟨w7.heap.size, 2, none⟩ = some (.string ⟨np.toArray⟩) ∧ Below w9.heap.size w9 w') := fun V ⟨v0, v4⟩ => by
          refine (Heard_calls (HA9.out.below v4) (by simp; omega)).mono ?_
          rintro e w' ⟨u, rfl, k1, k2⟩
          have e9 : ((List.range K).map numB ++ [([103] : Bytes)]).length = K + 1 := by simp
          rw [e9] at k1
          obtain ⟨A, c, rfl⟩ := L5.own_slice k1
          have hz := v4.size
          exact ⟨A, c, rfl, (k2.cell (p := ⟨w7.heap.size, 2, none⟩) (by show w7.heap.size < _; omega)).trans v0, v4.trans (k2.mono hz)⟩
        have hS0 : Below w9.heap.size w9 w9.drew := (Below.refl _ _).drew
        have hwk : IntKind.i64.wrap ((K : Int) + 1) = (K : Int) + 1 := by simp [IntKind.wrap, IntKind.bits, IntKind.signed]; omega
        have hkk : ((K + 1 : Nat) : Int) = (K : Int) + 1 := by omega
        have hkk2 : (((K + 1 : Nat) : Int) == (K : Int) + 1) = true := by rw [beq_iff_eq]; exact hkk
        clear a9 o9 nb9 HS2 HA8 HB8 HNb HAp HNu
        go_wp2
        go_region_held3 (fun w' => w'.cell? ⟨w7.heap.size, 2, none⟩ = some (.string ⟨np.toArray⟩) ∧ Below w9.heap.size w9 w')
          ((first | exact ⟨f2, hS0⟩ | (go_split_ands; refine ⟨?_, ?_⟩ <;> assumption)))
          (first
            | (go_at_call 21; refine (HNu2.out _ (by first | exact ⟨f2, hS0⟩ | (refine ⟨?_, ?_⟩ <;> assumption))).mono ?_; rintro e wa ⟨rfl, m0, m1⟩)
            | (go_at_call 19; refine (HHr.out _ (by first | exact ⟨f2, hS0⟩ | (refine ⟨?_, ?_⟩ <;> assumption))).mono ?_; rintro e wb ⟨Ab, cb, rfl, p0, p1⟩))
        all_goals
          have HF : Hid (Below w.heap.size w wb) := HB9.out.trans (p1.mono HB9.out.size)
          clear m0 m1 p0 p1 HNu2 HHr
          go_wp2
          go_ret
          exact ⟨rfl, HF.out⟩
      · rw [show min K 400 = 400 by omega] at HM HA
        have HM := Lib.hid HM
        have j4 : ¬ (K : Int) < 400 := by omega
        have j5 : min (K : Int) 400 = 400 := by omega
        have j6 : decide ((K : Int) < 400) = false := decide_eq_false j4
        have j7 : decide (K < 400) = false := decide_eq_false (by omega)
        have j8 : ¬ K < 400 := by omega
        go_wp2_with fail
        refine HM.out.mono ?_
        rintro e w4 ⟨rfl, rfl⟩
        clear HM
        go_wp2_with fail
        refine HH.out.mono ?_
        rintro e w5 ⟨A5, c5, rfl, b5⟩
        have HA5 := Lib.hid (HA.out.below b5)
        have HB5 : Hid (Below w.heap.size w w5) := HB.out.trans (b5.mono HB.out.size)
        have hb5 : B ≤ w5.heap.size := Nat.le_trans hbs b5.size
        clear b5 HH HA HB
        have j0 : ((K : Int) == 0) = false := by rw [beq_eq_false_iff_ne]; omega
        have HPw := Lib.hid (fun V => pick_is HW.out (n := 400) (by omega) (by omega) V)
        have hq := pickN_lt which (n := 400) (by omega)
        generalize pickN which 400 = q at *
        have x1 : layC ((List.range 400).map dgR) = 5 := by unfold layC; rw [if_pos (by simp)]
        have x2 : layL ((List.range 400).map dgR) (dgR 0) = (List.range 400).map dgR := by unfold layL; rw [if_pos (by simp)]
        have HD := double_yes HA5.out hb5 (i := 0) (d := dgR 0) (by simp) (by simp)
        unfold LayOut Ntd at HD
        rw [x1, x2] at HD
        have HD := Lib.hid HD
        go_wp2_with fail
        refine HD.out.mono ?_
        rintro e w6 ⟨rfl, v6, a6, o6, n6⟩
        have HA6 := Lib.hid a6
        have HB6 : Hid (Below w.heap.size w w6) := Only.below HB5.out o6 HB5.out.size (fun q hq => Nat.le_trans hw01 (HA5.out.inlt hq).1)
        have hb6 : B ≤ w6.heap.size := Nat.le_trans hb5 o6.size
        have HPw := Lib.hid (HPw.out w6)
        clear a6 o6 n6 HD
        go_wp2_with fail
        refine HPw.out.mono ?_
        rintro e w7 ⟨rfl, rfl⟩
        clear HPw
        have HT := take_yes HA6.out (i := q) (d := dgR q) (by simp [hq]) (by simp)
        unfold TakeYes Ntd at HT
        have HT2 : Hid (Calls Try.prog 12 #[.pointer (some ⟨h, 0, none⟩), .int .i64 q] w6 fun e w' => e = .returned (.tuple #[.agg #[.int .i64 (1 + ((q % 8 : Nat) : Int)), .int .i64 1, .string ⟨(numB q).toArray⟩], .int .i64 0]) ∧ ∃ v', NtAt w' B h (((List.range 400).map dgR).take q ++ ((List.range 400).map dgR).drop (q + 1)) v' B K ((List.range K).map numB) ∧ Only (NtIn h v6 B) w6 w' ∧ ∀ k, NtIn h v' B k → NtIn h v6 B k ∨ w6.heap.size ≤ k) := HT
        have HNu : Hid (∀ V, Calls Try.prog 21 #[.int .u64 q] V (L5.One V (.string ⟨(numB q).toArray⟩))) := fun V => number_is (n := q) (by omega) V
        have hwr : IntKind.u64.wrap (q : Int) = (q : Int) := by simp [IntKind.wrap, IntKind.bits, IntKind.signed]; omega
        have r1 : (0 : Int) ≤ (q : Int) := by omega
        have r2 : (q : Int) < 18446744073709551616 := by omega
        obtain ⟨src, hsrc⟩ : ∃ src : Int, 1 + ((q % 8 : Nat) : Int) = src := ⟨_, rfl⟩
        rw [hsrc] at HT2
        generalize numB q = np at *
        clear HT hsrc
        go_wp2_with fail
        refine HT2.out.mono ?_
        rintro e w7 ⟨rfl, v7, a7, o7, n7⟩
        have bC : Below w7.heap.size w7 (w7.alloc (.cells #[.int .i64 src, .int .i64 1, .string ⟨np.toArray⟩] 36)) := (Below.refl _ w7).alloc (Nat.le_refl _) _
        have hz8 : (w7.alloc (.cells #[.int .i64 src, .int .i64 1, .string ⟨np.toArray⟩] 36)).heap.size = w7.heap.size + 1 := by simp
        have nb := heap_alloc_new w7 (.cells #[.int .i64 src, .int .i64 1, .string ⟨np.toArray⟩] 36)
        obtain ⟨w8, hw8⟩ : ∃ w8, w7.alloc (.cells #[.int .i64 src, .int .i64 1, .string ⟨np.toArray⟩] 36) = w8 := ⟨_, rfl⟩
        rw [hw8] at bC hz8 nb
        have HA8 := Lib.hid (a7.below bC)
        have HB8 : Hid (Below w.heap.size w w8) := by
          have b7 : Below w.heap.size w w7 := Only.below HB6.out o7 HB6.out.size (fun q hq => Nat.le_trans hw01 (HA6.out.inlt hq).1)
          exact b7.trans (bC.mono b7.size)
        have hb8 : B ≤ w8.heap.size := Nat.le_trans hb6 (Nat.le_trans o7.size bC.size)
        have HNb := Lib.hid nb
        have l8 : w7.heap.size < w8.heap.size := by omega
        have HAp : Hid (∀ q, NtIn h v7 B q → q < w7.heap.size) := fun q hq => (a7.inlt hq).2
        have HS := send_yes HA8.out hb8 (d := dgG) dgG_ok (by simp [dgG, maxLen]) (by unfold maxLen; omega) (by simp; omega)
        have e5 : layC (((List.range 400).map dgR).take q ++ ((List.range 400).map dgR).drop (q + 1)) = 0 := by unfold layC; rw [if_neg (by simp; omega)]
        have e6 : putH ((List.range K).map numB) dgG.fr = (List.range K).map numB ++ [[103]] := by
          unfold putH
          rw [if_neg]
          · rfl
          · intro hm
            obtain ⟨i, _, hi⟩ := List.mem_map.1 hm
            have := congrArg List.length hi
            rw [numB_len] at this
            simp [dgG] at this
        unfold SendYes Ntd at HS
        rw [e5, e6] at HS
        have HS2 : Hid (Calls Try.prog 16 #[.pointer (some ⟨h, 0, none⟩), .agg #[.int .i64 1, .int .i64 2, .string ⟨#[103]⟩]] w8 fun e w' => e = .returned (.int .i64 0) ∧ ∃ l' v', NtAt w' B h l' v' B (K + 1) ((List.range K).map numB ++ [[103]]) ∧ Only (NtIn h v7 B) w8 w') := HS.mono fun e w' ⟨k0, v', k1, k2, _⟩ => ⟨k0, _, v', k1, k2⟩
        clear a7 o7 n7 bC hz8 nb HT2 HA6 HB6 HS e5 e6
        go_wp2_with fail
        refine HS2.out.mono ?_
        rintro e w9 ⟨rfl, l9, v9, a9, o9⟩
        have hz9 := o9.size
        have nb9 := (o9.block w7.heap.size l8 (fun hn => by have := HAp.out _ hn; omega)).trans HNb.out
        have f2 : w9.cell? ⟨w7.heap.size, 2, none⟩ = some (.string ⟨np.toArray⟩) := blk_cell8 nb9
        have HA9 := Lib.hid a9
        have HB9 : Hid (Below w.heap.size w w9) := Only.below HB8.out o9 HB8.out.size (fun q hq => Nat.le_trans hw01 (HA8.out.inlt hq).1)
        have l9' : w7.heap.size < w9.heap.size := by omega
        have HNu2 : Hid (∀ V, V.cell? ⟨w7.heap.size, 2, none⟩ = some (.string ⟨np.toArray⟩) ∧ Below w9.heap.size w9 V → Calls Try.prog 21 #[.int .u64 q] V fun e w' => e = .returned (.string ⟨np.toArray⟩) ∧ w'.cell? ⟨w7.heap.size, 2, none⟩ = some (.string ⟨np.toArray⟩) ∧ Below w9.heap.size w9 w') := fun V ⟨v0, v4⟩ => by
          refine (HNu.out V).mono ?_
          rintro e w' ⟨rfl, k2⟩
          have hz := v4.size
          exact ⟨rfl, (k2.cell (p := ⟨w7.heap.size, 2, none⟩) (by show w7.heap.size < _; omega)).trans v0, v4.trans (k2.mono hz)⟩
        have HHr : Hid (∀ V, V.cell? ⟨w7.heap.size, 2, none⟩ = some (.string ⟨np.toArray⟩) ∧ Below w9.heap.size w9 V → Calls Try.prog 19 #[.pointer (some ⟨h, 0, none⟩)] V fun e w' => ∃ A c, e = .returned (.slice A (K + 1) c) ∧ w'.cell? ⟨w7.heap.size, 2, none⟩ = some (.string ⟨np.toArray⟩) ∧ Below w9.heap.size w9 w') := fun V ⟨v0, v4⟩ => by
          refine (Heard_calls (HA9.out.below v4) (by simp; omega)).mono ?_
          rintro e w' ⟨u, rfl, k1, k2⟩
          have e9 : ((List.range K).map numB ++ [([103] : Bytes)]).length = K + 1 := by simp
          rw [e9] at k1
          obtain ⟨A, c, rfl⟩ := L5.own_slice k1
          have hz := v4.size
          exact ⟨A, c, rfl, (k2.cell (p := ⟨w7.heap.size, 2, none⟩) (by show w7.heap.size < _; omega)).trans v0, v4.trans (k2.mono hz)⟩
        have hS0 : Below w9.heap.size w9 w9.drew := (Below.refl _ _).drew
        have hwk : IntKind.i64.wrap ((K : Int) + 1) = (K : Int) + 1 := by simp [IntKind.wrap, IntKind.bits, IntKind.signed]; omega
        have hkk : ((K + 1 : Nat) : Int) = (K : Int) + 1 := by omega
        have hkk2 : (((K + 1 : Nat) : Int) == (K : Int) + 1) = true := by rw [beq_iff_eq]; exact hkk
        clear a9 o9 nb9 HS2 HA8 HB8 HNb HAp HNu
        go_wp2
        go_region_held3 (fun w' => w'.cell? ⟨w7.heap.size, 2, none⟩ = some (.string ⟨np.toArray⟩) ∧ Below w9.heap.size w9 w')
          ((first | exact ⟨f2, hS0⟩ | (go_split_ands; refine ⟨?_, ?_⟩ <;> assumption)))
          (first
            | (go_at_call 21; refine (HNu2.out _ (by first | exact ⟨f2, hS0⟩ | (refine ⟨?_, ?_⟩ <;> assumption))).mono ?_; rintro e wa ⟨rfl, m0, m1⟩)
            | (go_at_call 19; refine (HHr.out _ (by first | exact ⟨f2, hS0⟩ | (refine ⟨?_, ?_⟩ <;> assumption))).mono ?_; rintro e wb ⟨Ab, cb, rfl, p0, p1⟩))
        all_goals
          have HF : Hid (Below w.heap.size w wb) := HB9.out.trans (p1.mono HB9.out.size)
          clear m0 m1 p0 p1 HNu2 HHr
          go_wp2
          go_ret
          exact ⟨rfl, HF.out⟩
end Go.Proofs.Ytcdhfkfokckjgaa.L8
