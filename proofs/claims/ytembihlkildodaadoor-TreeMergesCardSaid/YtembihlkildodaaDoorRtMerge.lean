/- The document's Merge. -/
import Derived.Test.YtembihlkildodaaDoorRtMems
import Derived.Test.YtembihlkildodaaDoorTrMg
namespace Go.Proofs.YtembihlkildodaaDoor.L13
open Go.ChangeShapes Go.WideShapes Go.ChangeAt Go.RowKit Go.Deep
open Go.Proofs.YtembihlkildodaaDoor.L5 (One)

theorem both_len (a : Tr) {b : Tr} (ob : b.ok) : (a.ints.filter (fun p => b.ints.contains p)).length = (sharedL a b).length := by
  unfold sharedL
  have e : (fun p => b.ints.contains p) = (fun p => b.mems.contains p) := by
    funext p
    rw [ob.icontains, ob.contains]
  rw [e]
  exact ((sortL_perm a.ints).filter _).length_eq.symm
/-- What stands for which tree is the left one. -/
def signX (a b : Tr) : Int := if a.deep ≠ b.deep then (a.deep : Int) - b.deep else if a.procs.length ≠ b.procs.length then (a.text.length : Int) - b.text.length else b.mems.headD 0 - a.mems.headD 0
theorem sign_ahead (a b : Tr) : aheadB a b = decide (0 < signX a b) := by
  unfold aheadB signX
  have h1 := a.text_len
  have h2 := b.text_len
  split
  · rw [Bool.eq_iff_iff, decide_eq_true_iff, decide_eq_true_iff]; omega
  · split
    · rw [Bool.eq_iff_iff, decide_eq_true_iff, decide_eq_true_iff]; omega
    · rw [Bool.eq_iff_iff, decide_eq_true_iff, decide_eq_true_iff]; omega
set_option maxRecDepth 100000 in
set_option maxHeartbeats 8000000 in
theorem rMerge_top (L M : List UInt8) (hL : L.length ≤ 200) (hM : M.length ≤ 200) (w : World) : Calls Tryd.prog 25 #[.string ⟨L.toArray⟩, .string ⟨M.toArray⟩] w (Str2 w (mergeX L M)) := by
  have hR := rright_calls L hL w
  have HR2 := Lib.hid (fun V => rright_calls M hM V)
  unfold mergeX
  cases hr : readT L with
  | none =>
    rw [hr, show Option.isSome (none : Option Tr) = false from rfl] at hR
    clear hr HR2
    dsimp only
    go_enter Tryd.func25, Tryd.ntmps25
    go_wp2_with (go_at_call 18; refine hR.mono ?_; rintro e w1 ⟨rfl, b1⟩; have B1 := Lib.hid b1; clear b1)
    go_ret2
    exact ⟨rfl, B1.out⟩
  | some a =>
    rw [hr, show Option.isSome (some a) = true from rfl] at hR
    cases hs : readT M with
    | none =>
      rw [hs, show Option.isSome (none : Option Tr) = false from rfl] at HR2
      clear hr hs
      go_enter Tryd.func25, Tryd.ntmps25
      go_wp2_with fail
      refine hR.mono ?_
      rintro e w1 ⟨rfl, b1⟩
      have B1 := Lib.hid b1
      clear b1
      go_wp2_with fail
      refine (HR2.out _).mono ?_
      rintro e w2 ⟨rfl, b2⟩
      have B2 := Lib.hid (B1.out.trans (b2.mono B1.out.size))
      clear b2
      go_wp2
      go_ret2
      exact ⟨rfl, B2.out⟩
    | some b =>
      rw [hs, show Option.isSome (some b) = true from rfl] at HR2
      obtain ⟨rfl, oa⟩ := readT_some hr
      obtain ⟨rfl, ob⟩ := readT_some hs
      dsimp only
      have hmt : (a.merge b).text = if 0 < signX a b then 40 :: (a.text ++ (b.text ++ [41])) else 40 :: (b.text ++ (a.text ++ [41])) := by
        unfold Tr.merge
        rw [sign_ahead]
        by_cases h : 0 < signX a b
        · rw [decide_eq_true h, if_pos rfl, if_pos h]; rfl
        · rw [decide_eq_false h, if_neg (by decide), if_neg h]; rfl
      rw [hmt]
      have HD1 := Lib.hid (fun V => digits_calls a.text (by have := oa.len; omega) V)
      have HD2 := Lib.hid (fun V => digits_calls b.text (by have := ob.len; omega) V)
      rw [digits_text oa.small] at HD1
      rw [digits_text ob.small] at HD2
      have HI1 := Lib.hid (fun (V : World) (v : Value) (B : Nat) (h : V.ownsRow B 3 1 v a.ints.length (a.ints.map (Value.int .i64))) => oa.iints h)
      have HI2 := Lib.hid (fun (V : World) (v : Value) (B : Nat) (h : V.ownsRow B 3 1 v b.ints.length (b.ints.map (Value.int .i64))) => ob.iints h)
      have ia : a.ints.length ≤ 1000000 := by simp only [Tr.ints, List.length_map]; have := oa.few; omega
      have HBo := Lib.hid (fun (V : World) (v x : Value) (h1 : IntsA V v a.ints) (h2 : IntsA V x b.ints) => L10.rboth_calls v x a.ints b.ints V h1 h2 ia)
      have hbl := both_len a ob
      have HP1 := Lib.hid (fun V => rdeep_calls a oa V)
      have HP2 := Lib.hid (fun V => rdeep_calls b ob V)
      have HMa := Lib.hid (fun V => rMembers_top a.text (by have := oa.len; omega) V)
      have HMb := Lib.hid (fun V => rMembers_top b.text (by have := ob.len; omega) V)
      rw [memsX_text oa] at HMa
      rw [memsX_text ob] at HMb
      have R1 := Lib.hid (fun (V : World) (v : Value) (B : Nat) (h : V.ownsRow B 3 1 v a.mems.length (a.mems.map (Value.int .i64))) => head_cell (oa.ints h))
      have R2 := Lib.hid (fun (V : World) (v : Value) (B : Nat) (h : V.ownsRow B 3 1 v b.mems.length (b.mems.map (Value.int .i64))) => head_cell (ob.ints h))
      have la := oa.len
      have lb := ob.len
      have da := oa.deep8
      have db := ob.deep8
      have pa := a.procs_pos
      have pb := b.procs_pos
      have pa8 := oa.few
      have pb8 := ob.few
      have ma := mem_mems oa head_mem
      have mb := mem_mems ob head_mem
      have ta := a.text_len
      have tb := b.text_len
      have hcat := cat_bytes
      by_cases hsh : 0 < (sharedL a b).length
      · rw [if_pos hsh]
        have hbl' : (0 : Int) < ((a.ints.filter (fun p => b.ints.contains p)).length : Int) := by omega
        clear hr hs hmt HP1 HP2 HMa HMb R1 R2 hsh hbl oa ob ma mb ia
        generalize hbo : a.ints.filter (fun p => b.ints.contains p) = bo at *
        clear hbo
        generalize a.text = x at *
        generalize b.text = y at *
        go_enter Tryd.func25, Tryd.ntmps25
        go_wp2_with fail
        refine hR.mono ?_
        rintro e w1 ⟨rfl, b1⟩
        have B1 := Lib.hid b1
        clear b1
        go_wp2_with fail
        refine (HR2.out _).mono ?_
        rintro e w2 ⟨rfl, b2⟩
        have B2 := Lib.hid (B1.out.trans (b2.mono B1.out.size))
        clear b2
        go_wp2_with fail
        refine (HD1.out _).mono ?_
        rintro e w3 ⟨v3, rfl, o3, b3⟩
        have B3 := Lib.hid (B2.out.trans (b3.mono B2.out.size))
        have O3 := Lib.hid (HI1.out _ _ _ o3)
        obtain ⟨A3, c3, rfl⟩ := L5.own_slice o3
        clear b3 o3
        go_wp2_with fail
        refine (HD2.out _).mono ?_
        rintro e w4 ⟨v4, rfl, o4, b4⟩
        have B4 := Lib.hid (B3.out.trans (b4.mono B3.out.size))
        have hBo := HBo.out w4 _ _ (O3.out.below b4) (HI2.out _ _ _ o4)
        obtain ⟨A4, c4, rfl⟩ := L5.own_slice o4
        clear b4 o4
        go_wp2_with fail
        refine hBo.mono ?_
        rintro e w5 ⟨v5, rfl, o5, b5⟩
        obtain ⟨A5, c5, rfl⟩ := L5.own_slice o5
        have B5 := Lib.hid (B4.out.trans (b5.mono B4.out.size))
        clear b5 o5 hBo
        go_wp2
        go_ret2
        exact ⟨rfl, B5.out⟩
      · rw [if_neg hsh]
        have hbl' : ¬ (0 : Int) < ((a.ints.filter (fun p => b.ints.contains p)).length : Int) := by omega
        by_cases h0 : 0 < signX a b
        · rw [if_pos h0]
          by_cases hd : a.deep = b.deep
          · by_cases hln : a.procs.length = b.procs.length
            · have hX : signX a b = b.mems.headD 0 - a.mems.headD 0 := by unfold signX; rw [if_neg (fun g => g hd), if_neg (fun g => g hln)]
              have hdx : (a.deep : Int) - (b.deep : Int) = 0 := by omega
              have hlx : (a.text.length : Int) - (b.text.length : Int) = 0 := by omega
              have n1 : (0 : Int) < (a.procs.length : Int) := by omega
              have n2 : (0 : Int) < (b.procs.length : Int) := by omega
              have n3 : 0 < a.procs.length := by omega
              have n4 : 0 < b.procs.length := by omega
              obtain ⟨ma1, ma2, _⟩ := ma
              obtain ⟨mb1, mb2, _⟩ := mb
              have kp : 0 < signX a b := h0
              obtain ⟨X, hXX⟩ : ∃ X, signX a b = X := ⟨_, rfl⟩
              rw [hXX] at hX kp
              have hX' := hX.symm
              clear hX hXX h0 hsh hbl ia hd oa ob hr hs hmt hln
              generalize hbo : a.ints.filter (fun p => b.ints.contains p) = bo at *
              clear hbo
              generalize a.text = x at *
              generalize b.text = y at *
              generalize a.deep = da1 at *
              generalize b.deep = db1 at *
              generalize a.mems.headD 0 = m1 at *
              generalize b.mems.headD 0 = m2 at *
              go_enter Tryd.func25, Tryd.ntmps25
              go_wp2_with fail
              refine hR.mono ?_
              rintro e w1 ⟨rfl, b1⟩
              have B1 := Lib.hid b1
              clear b1
              go_wp2_with fail
              refine (HR2.out _).mono ?_
              rintro e w2 ⟨rfl, b2⟩
              have B2 := Lib.hid (B1.out.trans (b2.mono B1.out.size))
              clear b2
              go_wp2_with fail
              refine (HD1.out _).mono ?_
              rintro e w3 ⟨v3, rfl, o3, b3⟩
              have B3 := Lib.hid (B2.out.trans (b3.mono B2.out.size))
              have O3 := Lib.hid (HI1.out _ _ _ o3)
              obtain ⟨A3, c3, rfl⟩ := L5.own_slice o3
              clear b3 o3
              go_wp2_with fail
              refine (HD2.out _).mono ?_
              rintro e w4 ⟨v4, rfl, o4, b4⟩
              have B4 := Lib.hid (B3.out.trans (b4.mono B3.out.size))
              have hBo := HBo.out w4 _ _ (O3.out.below b4) (HI2.out _ _ _ o4)
              obtain ⟨A4, c4, rfl⟩ := L5.own_slice o4
              clear b4 o4
              go_wp2_with fail
              refine hBo.mono ?_
              rintro e w5 ⟨v5, rfl, o5, b5⟩
              obtain ⟨A5, c5, rfl⟩ := L5.own_slice o5
              have B5 := Lib.hid (B4.out.trans (b5.mono B4.out.size))
              clear b5 o5 hBo
              go_wp2_with fail
              refine (HP1.out _).mono ?_
              rintro e w6 ⟨rfl, b6⟩
              have B6 := Lib.hid (B5.out.trans (b6.mono B5.out.size))
              clear b6
              go_wp2_with fail
              refine (HP2.out _).mono ?_
              rintro e w7 ⟨rfl, b7⟩
              have B7 := Lib.hid (B6.out.trans (b7.mono B6.out.size))
              clear b7
              go_wp2_with fail
              go_region_law (first
                | (go_simp; go_at_call_of 21 (Value.string (ByteArray.mk x.toArray)); refine (HMa.out _).mono ?_; rintro e w9 ⟨v9, rfl, o9, b9⟩; obtain ⟨ad9, c9, rfl, l9, r9⟩ := R1.out _ _ _ o9; have g9 := r9 w9 (Below.refl _ _); have g8' := r8 w9 b9; have B9 := Lib.hid (B8.out.trans (b9.mono B8.out.size)); clear o9 b9)
                | (go_simp; go_at_call_of 21 (Value.string (ByteArray.mk y.toArray)); refine (HMb.out _).mono ?_; rintro e w8 ⟨v8, rfl, o8, b8⟩; obtain ⟨ad8, c8, rfl, l8, r8⟩ := R2.out _ _ _ o8; have g8 := r8 w8 (Below.refl _ _); have B8 := Lib.hid (B7.out.drew.trans (b8.mono B7.out.drew.size)); clear o8 b8))
              all_goals
                go_wp2
                go_ret2
                exact ⟨by simp, B9.out⟩
            · have hX : signX a b = (a.text.length : Int) - b.text.length := by unfold signX; rw [if_neg (fun g => g hd), if_pos hln]
              have hdx : (a.deep : Int) - (b.deep : Int) = 0 := by omega
              have kx : (signX a b == 0) = false := by rw [beq_eq_false_iff_ne]; omega
              have kp : 0 < signX a b := h0
              obtain ⟨X, hXX⟩ : ∃ X, signX a b = X := ⟨_, rfl⟩
              rw [hXX] at hX kp kx
              have hX' := hX.symm
              clear hX hXX h0 hsh hbl ia hd oa ob hr hs hmt hln ma mb
              generalize hbo : a.ints.filter (fun p => b.ints.contains p) = bo at *
              clear hbo
              generalize a.text = x at *
              generalize b.text = y at *
              generalize a.deep = da1 at *
              generalize b.deep = db1 at *
              generalize a.mems.headD 0 = m1 at *
              generalize b.mems.headD 0 = m2 at *
              go_enter Tryd.func25, Tryd.ntmps25
              go_wp2_with fail
              refine hR.mono ?_
              rintro e w1 ⟨rfl, b1⟩
              have B1 := Lib.hid b1
              clear b1
              go_wp2_with fail
              refine (HR2.out _).mono ?_
              rintro e w2 ⟨rfl, b2⟩
              have B2 := Lib.hid (B1.out.trans (b2.mono B1.out.size))
              clear b2
              go_wp2_with fail
              refine (HD1.out _).mono ?_
              rintro e w3 ⟨v3, rfl, o3, b3⟩
              have B3 := Lib.hid (B2.out.trans (b3.mono B2.out.size))
              have O3 := Lib.hid (HI1.out _ _ _ o3)
              obtain ⟨A3, c3, rfl⟩ := L5.own_slice o3
              clear b3 o3
              go_wp2_with fail
              refine (HD2.out _).mono ?_
              rintro e w4 ⟨v4, rfl, o4, b4⟩
              have B4 := Lib.hid (B3.out.trans (b4.mono B3.out.size))
              have hBo := HBo.out w4 _ _ (O3.out.below b4) (HI2.out _ _ _ o4)
              obtain ⟨A4, c4, rfl⟩ := L5.own_slice o4
              clear b4 o4
              go_wp2_with fail
              refine hBo.mono ?_
              rintro e w5 ⟨v5, rfl, o5, b5⟩
              obtain ⟨A5, c5, rfl⟩ := L5.own_slice o5
              have B5 := Lib.hid (B4.out.trans (b5.mono B4.out.size))
              clear b5 o5 hBo
              go_wp2_with fail
              refine (HP1.out _).mono ?_
              rintro e w6 ⟨rfl, b6⟩
              have B6 := Lib.hid (B5.out.trans (b6.mono B5.out.size))
              clear b6
              go_wp2_with fail
              refine (HP2.out _).mono ?_
              rintro e w7 ⟨rfl, b7⟩
              have B7 := Lib.hid (B6.out.trans (b7.mono B6.out.size))
              clear b7
              go_wp2
              go_ret2
              exact ⟨by simp, B7.out⟩
          · have hX : signX a b = (a.deep : Int) - b.deep := by unfold signX; rw [if_pos hd]
            have kx : (signX a b == 0) = false := by rw [beq_eq_false_iff_ne]; omega
            have kp : 0 < signX a b := h0
            obtain ⟨X, hXX⟩ : ∃ X, signX a b = X := ⟨_, rfl⟩
            rw [hXX] at hX kp kx
            have hX' := hX.symm
            clear hX hXX h0 hsh hbl ia hd oa ob hr hs hmt ma mb
            generalize hbo : a.ints.filter (fun p => b.ints.contains p) = bo at *
            clear hbo
            generalize a.text = x at *
            generalize b.text = y at *
            generalize a.deep = da1 at *
            generalize b.deep = db1 at *
            generalize a.mems.headD 0 = m1 at *
            generalize b.mems.headD 0 = m2 at *
            go_enter Tryd.func25, Tryd.ntmps25
            go_wp2_with fail
            refine hR.mono ?_
            rintro e w1 ⟨rfl, b1⟩
            have B1 := Lib.hid b1
            clear b1
            go_wp2_with fail
            refine (HR2.out _).mono ?_
            rintro e w2 ⟨rfl, b2⟩
            have B2 := Lib.hid (B1.out.trans (b2.mono B1.out.size))
            clear b2
            go_wp2_with fail
            refine (HD1.out _).mono ?_
            rintro e w3 ⟨v3, rfl, o3, b3⟩
            have B3 := Lib.hid (B2.out.trans (b3.mono B2.out.size))
            have O3 := Lib.hid (HI1.out _ _ _ o3)
            obtain ⟨A3, c3, rfl⟩ := L5.own_slice o3
            clear b3 o3
            go_wp2_with fail
            refine (HD2.out _).mono ?_
            rintro e w4 ⟨v4, rfl, o4, b4⟩
            have B4 := Lib.hid (B3.out.trans (b4.mono B3.out.size))
            have hBo := HBo.out w4 _ _ (O3.out.below b4) (HI2.out _ _ _ o4)
            obtain ⟨A4, c4, rfl⟩ := L5.own_slice o4
            clear b4 o4
            go_wp2_with fail
            refine hBo.mono ?_
            rintro e w5 ⟨v5, rfl, o5, b5⟩
            obtain ⟨A5, c5, rfl⟩ := L5.own_slice o5
            have B5 := Lib.hid (B4.out.trans (b5.mono B4.out.size))
            clear b5 o5 hBo
            go_wp2_with fail
            refine (HP1.out _).mono ?_
            rintro e w6 ⟨rfl, b6⟩
            have B6 := Lib.hid (B5.out.trans (b6.mono B5.out.size))
            clear b6
            go_wp2_with fail
            refine (HP2.out _).mono ?_
            rintro e w7 ⟨rfl, b7⟩
            have B7 := Lib.hid (B6.out.trans (b7.mono B6.out.size))
            clear b7
            go_wp2
            go_ret2
            exact ⟨by simp, B7.out⟩
        · rw [if_neg h0]
          by_cases hd : a.deep = b.deep
          · by_cases hln : a.procs.length = b.procs.length
            · have hX : signX a b = b.mems.headD 0 - a.mems.headD 0 := by unfold signX; rw [if_neg (fun g => g hd), if_neg (fun g => g hln)]
              have hdx : (a.deep : Int) - (b.deep : Int) = 0 := by omega
              have hlx : (a.text.length : Int) - (b.text.length : Int) = 0 := by omega
              have n1 : (0 : Int) < (a.procs.length : Int) := by omega
              have n2 : (0 : Int) < (b.procs.length : Int) := by omega
              have n3 : 0 < a.procs.length := by omega
              have n4 : 0 < b.procs.length := by omega
              obtain ⟨ma1, ma2, _⟩ := ma
              obtain ⟨mb1, mb2, _⟩ := mb
              have kp : ¬ 0 < signX a b := h0
              obtain ⟨X, hXX⟩ : ∃ X, signX a b = X := ⟨_, rfl⟩
              rw [hXX] at hX kp
              have hX' := hX.symm
              clear hX hXX h0 hsh hbl ia hd oa ob hr hs hmt hln
              generalize hbo : a.ints.filter (fun p => b.ints.contains p) = bo at *
              clear hbo
              generalize a.text = x at *
              generalize b.text = y at *
              generalize a.deep = da1 at *
              generalize b.deep = db1 at *
              generalize a.mems.headD 0 = m1 at *
              generalize b.mems.headD 0 = m2 at *
              go_enter Tryd.func25, Tryd.ntmps25
              go_wp2_with fail
              refine hR.mono ?_
              rintro e w1 ⟨rfl, b1⟩
              have B1 := Lib.hid b1
              clear b1
              go_wp2_with fail
              refine (HR2.out _).mono ?_
              rintro e w2 ⟨rfl, b2⟩
              have B2 := Lib.hid (B1.out.trans (b2.mono B1.out.size))
              clear b2
              go_wp2_with fail
              refine (HD1.out _).mono ?_
              rintro e w3 ⟨v3, rfl, o3, b3⟩
              have B3 := Lib.hid (B2.out.trans (b3.mono B2.out.size))
              have O3 := Lib.hid (HI1.out _ _ _ o3)
              obtain ⟨A3, c3, rfl⟩ := L5.own_slice o3
              clear b3 o3
              go_wp2_with fail
              refine (HD2.out _).mono ?_
              rintro e w4 ⟨v4, rfl, o4, b4⟩
              have B4 := Lib.hid (B3.out.trans (b4.mono B3.out.size))
              have hBo := HBo.out w4 _ _ (O3.out.below b4) (HI2.out _ _ _ o4)
              obtain ⟨A4, c4, rfl⟩ := L5.own_slice o4
              clear b4 o4
              go_wp2_with fail
              refine hBo.mono ?_
              rintro e w5 ⟨v5, rfl, o5, b5⟩
              obtain ⟨A5, c5, rfl⟩ := L5.own_slice o5
              have B5 := Lib.hid (B4.out.trans (b5.mono B4.out.size))
              clear b5 o5 hBo
              go_wp2_with fail
              refine (HP1.out _).mono ?_
              rintro e w6 ⟨rfl, b6⟩
              have B6 := Lib.hid (B5.out.trans (b6.mono B5.out.size))
              clear b6
              go_wp2_with fail
              refine (HP2.out _).mono ?_
              rintro e w7 ⟨rfl, b7⟩
              have B7 := Lib.hid (B6.out.trans (b7.mono B6.out.size))
              clear b7
              go_wp2_with fail
              go_region_law (first
                | (go_simp; go_at_call_of 21 (Value.string (ByteArray.mk x.toArray)); refine (HMa.out _).mono ?_; rintro e w9 ⟨v9, rfl, o9, b9⟩; obtain ⟨ad9, c9, rfl, l9, r9⟩ := R1.out _ _ _ o9; have g9 := r9 w9 (Below.refl _ _); have g8' := r8 w9 b9; have B9 := Lib.hid (B8.out.trans (b9.mono B8.out.size)); clear o9 b9)
                | (go_simp; go_at_call_of 21 (Value.string (ByteArray.mk y.toArray)); refine (HMb.out _).mono ?_; rintro e w8 ⟨v8, rfl, o8, b8⟩; obtain ⟨ad8, c8, rfl, l8, r8⟩ := R2.out _ _ _ o8; have g8 := r8 w8 (Below.refl _ _); have B8 := Lib.hid (B7.out.drew.trans (b8.mono B7.out.drew.size)); clear o8 b8))
              all_goals
                go_wp2
                go_ret2
                exact ⟨by simp, B9.out⟩
            · have hX : signX a b = (a.text.length : Int) - b.text.length := by unfold signX; rw [if_neg (fun g => g hd), if_pos hln]
              have hdx : (a.deep : Int) - (b.deep : Int) = 0 := by omega
              have kx : (signX a b == 0) = false := by rw [beq_eq_false_iff_ne]; omega
              have kp : ¬ 0 < signX a b := h0
              obtain ⟨X, hXX⟩ : ∃ X, signX a b = X := ⟨_, rfl⟩
              rw [hXX] at hX kp kx
              have hX' := hX.symm
              clear hX hXX h0 hsh hbl ia hd oa ob hr hs hmt hln ma mb
              generalize hbo : a.ints.filter (fun p => b.ints.contains p) = bo at *
              clear hbo
              generalize a.text = x at *
              generalize b.text = y at *
              generalize a.deep = da1 at *
              generalize b.deep = db1 at *
              generalize a.mems.headD 0 = m1 at *
              generalize b.mems.headD 0 = m2 at *
              go_enter Tryd.func25, Tryd.ntmps25
              go_wp2_with fail
              refine hR.mono ?_
              rintro e w1 ⟨rfl, b1⟩
              have B1 := Lib.hid b1
              clear b1
              go_wp2_with fail
              refine (HR2.out _).mono ?_
              rintro e w2 ⟨rfl, b2⟩
              have B2 := Lib.hid (B1.out.trans (b2.mono B1.out.size))
              clear b2
              go_wp2_with fail
              refine (HD1.out _).mono ?_
              rintro e w3 ⟨v3, rfl, o3, b3⟩
              have B3 := Lib.hid (B2.out.trans (b3.mono B2.out.size))
              have O3 := Lib.hid (HI1.out _ _ _ o3)
              obtain ⟨A3, c3, rfl⟩ := L5.own_slice o3
              clear b3 o3
              go_wp2_with fail
              refine (HD2.out _).mono ?_
              rintro e w4 ⟨v4, rfl, o4, b4⟩
              have B4 := Lib.hid (B3.out.trans (b4.mono B3.out.size))
              have hBo := HBo.out w4 _ _ (O3.out.below b4) (HI2.out _ _ _ o4)
              obtain ⟨A4, c4, rfl⟩ := L5.own_slice o4
              clear b4 o4
              go_wp2_with fail
              refine hBo.mono ?_
              rintro e w5 ⟨v5, rfl, o5, b5⟩
              obtain ⟨A5, c5, rfl⟩ := L5.own_slice o5
              have B5 := Lib.hid (B4.out.trans (b5.mono B4.out.size))
              clear b5 o5 hBo
              go_wp2_with fail
              refine (HP1.out _).mono ?_
              rintro e w6 ⟨rfl, b6⟩
              have B6 := Lib.hid (B5.out.trans (b6.mono B5.out.size))
              clear b6
              go_wp2_with fail
              refine (HP2.out _).mono ?_
              rintro e w7 ⟨rfl, b7⟩
              have B7 := Lib.hid (B6.out.trans (b7.mono B6.out.size))
              clear b7
              go_wp2
              go_ret2
              exact ⟨by simp, B7.out⟩
          · have hX : signX a b = (a.deep : Int) - b.deep := by unfold signX; rw [if_pos hd]
            have kx : (signX a b == 0) = false := by rw [beq_eq_false_iff_ne]; omega
            have kp : ¬ 0 < signX a b := h0
            obtain ⟨X, hXX⟩ : ∃ X, signX a b = X := ⟨_, rfl⟩
            rw [hXX] at hX kp kx
            have hX' := hX.symm
            clear hX hXX h0 hsh hbl ia hd oa ob hr hs hmt ma mb
            generalize hbo : a.ints.filter (fun p => b.ints.contains p) = bo at *
            clear hbo
            generalize a.text = x at *
            generalize b.text = y at *
            generalize a.deep = da1 at *
            generalize b.deep = db1 at *
            generalize a.mems.headD 0 = m1 at *
            generalize b.mems.headD 0 = m2 at *
            go_enter Tryd.func25, Tryd.ntmps25
            go_wp2_with fail
            refine hR.mono ?_
            rintro e w1 ⟨rfl, b1⟩
            have B1 := Lib.hid b1
            clear b1
            go_wp2_with fail
            refine (HR2.out _).mono ?_
            rintro e w2 ⟨rfl, b2⟩
            have B2 := Lib.hid (B1.out.trans (b2.mono B1.out.size))
            clear b2
            go_wp2_with fail
            refine (HD1.out _).mono ?_
            rintro e w3 ⟨v3, rfl, o3, b3⟩
            have B3 := Lib.hid (B2.out.trans (b3.mono B2.out.size))
            have O3 := Lib.hid (HI1.out _ _ _ o3)
            obtain ⟨A3, c3, rfl⟩ := L5.own_slice o3
            clear b3 o3
            go_wp2_with fail
            refine (HD2.out _).mono ?_
            rintro e w4 ⟨v4, rfl, o4, b4⟩
            have B4 := Lib.hid (B3.out.trans (b4.mono B3.out.size))
            have hBo := HBo.out w4 _ _ (O3.out.below b4) (HI2.out _ _ _ o4)
            obtain ⟨A4, c4, rfl⟩ := L5.own_slice o4
            clear b4 o4
            go_wp2_with fail
            refine hBo.mono ?_
            rintro e w5 ⟨v5, rfl, o5, b5⟩
            obtain ⟨A5, c5, rfl⟩ := L5.own_slice o5
            have B5 := Lib.hid (B4.out.trans (b5.mono B4.out.size))
            clear b5 o5 hBo
            go_wp2_with fail
            refine (HP1.out _).mono ?_
            rintro e w6 ⟨rfl, b6⟩
            have B6 := Lib.hid (B5.out.trans (b6.mono B5.out.size))
            clear b6
            go_wp2_with fail
            refine (HP2.out _).mono ?_
            rintro e w7 ⟨rfl, b7⟩
            have B7 := Lib.hid (B6.out.trans (b7.mono B6.out.size))
            clear b7
            go_wp2
            go_ret2
            exact ⟨by simp, B7.out⟩
end Go.Proofs.YtembihlkildodaaDoor.L13
