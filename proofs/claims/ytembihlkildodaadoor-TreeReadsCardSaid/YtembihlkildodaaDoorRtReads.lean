/- The law TreeReads. -/
import Derived.Test.YtembihlkildodaaDoorRtBuild
namespace Go.Proofs.YtembihlkildodaaDoor.L13
open Go.ChangeShapes Go.WideShapes Go.ChangeAt Go.RowKit Go.Deep
open Go.Proofs.YtembihlkildodaaDoor.L5 (One)

set_option maxRecDepth 100000 in
set_option maxHeartbeats 8000000 in
theorem reads_calls (s : ByteArray) (p : Int) (w : World) : Calls Tryd.prog 3 #[.string s, .int .i64 p] w (One w (.bool true)) := by
  obtain ⟨L, rfl⟩ := of_list s
  have hSh := shown_calls w
  have hsz : (⟨L.toArray⟩ : ByteArray).size = L.length := rfl
  by_cases h90 : 90 < L.length
  · have q1 : (90 : Int) < (L.length : Int) := by omega
    clear h90
    go_enter Tryd.func3, Tryd.ntmps3
    go_wp2_with fail
    refine hSh.mono ?_
    rintro e w1 ⟨rfl, b1⟩
    have B1 := Lib.hid b1
    clear b1 hSh
    go_wp2
    go_ret
    exact ⟨rfl, B1.out⟩
  · have q1 : ¬ (90 : Int) < (L.length : Int) := by omega
    have hL : L.length ≤ 200 := by omega
    have HJ1 := Lib.hid (fun V => join_top L p V)
    have HJ2 := Lib.hid (fun V => rJoin_top L hL p V)
    have HV1 := Lib.hid (fun V => leave_top L p V)
    have HV2 := Lib.hid (fun V => rLeave_top L hL p V)
    have HF1 := Lib.hid (fun V => leaf_top p V)
    have HF2 := Lib.hid (fun V => rLeaf_top p V)
    have HR1 := Lib.hid (fun V => right_top L V)
    have HR2 := Lib.hid (fun V => rright_calls L hL V)
    have HM1 := Lib.hid (fun V => members_top L V)
    have HM2 := Lib.hid (fun V => rMembers_top L hL V)
    have HD1 := Lib.hid (fun V => depth_top L V)
    have HD2 := Lib.hid (fun V => rDepth_top L hL V)
    unfold Str2 at HJ1 HJ2 HV1 HV2 HF1 HF2
    have HIt : Hid (∀ (V : World) (v : Value) (B : Nat), V.ownsRow B 3 1 v (memsX L).length ((memsX L).map (Value.int .i64)) → IntsA V v (memsX L)) := fun V v B h => by
      refine L10.ints_own10 h ?_ ?_
      · unfold memsX
        cases hr : readT L with
        | none => intro y hy; cases hy
        | some t => exact (readT_some hr).2.fits
      · unfold memsX
        cases hr : readT L with
        | none => simp
        | some t => dsimp only; rw [mems_len]; have := (readT_some hr).2.few; omega
    have HSm : Hid (∀ (V : World) (v x : Value), IntsA V v (memsX L) → IntsA V x (memsX L) → Calls Tryd.prog 19 #[v, x] V (L5.One V (.bool true))) := fun V v x h1 h2 => by
      have := L10.rsame_calls v x _ _ V h1 h2
      rw [decide_eq_true rfl] at this
      exact this
    obtain ⟨⟨jy, jz⟩, hj⟩ : ∃ r, joinX L p = r := ⟨_, rfl⟩
    obtain ⟨⟨vy, vz⟩, hv⟩ : ∃ r, leaveX L p = r := ⟨_, rfl⟩
    obtain ⟨⟨fy, fz⟩, hf⟩ : ∃ r, leafX p = r := ⟨_, rfl⟩
    rw [hj] at HJ1 HJ2
    rw [hv] at HV1 HV2
    rw [hf] at HF1 HF2
    dsimp only at HJ1 HJ2 HV1 HV2 HF1 HF2
    clear hj hv hf h90 hL
    generalize (readT L).isSome = rb at *
    generalize deepX L = dx at *
    generalize memsX L = mx at *
    go_enter Tryd.func3, Tryd.ntmps3
    go_wp2_with fail
    refine hSh.mono ?_
    rintro e w1 ⟨rfl, b1⟩
    have B1 := Lib.hid b1
    clear b1 hSh
    go_wp2_with fail
    refine (HJ1.out _).mono ?_
    rintro e w2 ⟨rfl, b2⟩
    have B2 := Lib.hid (B1.out.trans (b2.mono B1.out.size))
    clear b2
    go_wp2_with fail
    refine (HJ2.out _).mono ?_
    rintro e w3 ⟨rfl, b3⟩
    have B3 := Lib.hid (B2.out.trans (b3.mono B2.out.size))
    clear b3
    go_wp2_with fail
    refine (HV1.out _).mono ?_
    rintro e w4 ⟨rfl, b4⟩
    have B4 := Lib.hid (B3.out.trans (b4.mono B3.out.size))
    clear b4
    go_wp2_with fail
    refine (HV2.out _).mono ?_
    rintro e w5 ⟨rfl, b5⟩
    have B5 := Lib.hid (B4.out.trans (b5.mono B4.out.size))
    clear b5
    go_wp2_with fail
    refine (HF1.out _).mono ?_
    rintro e w6 ⟨rfl, b6⟩
    have B6 := Lib.hid (B5.out.trans (b6.mono B5.out.size))
    clear b6
    go_wp2_with fail
    refine (HF2.out _).mono ?_
    rintro e w7 ⟨rfl, b7⟩
    have B7 := Lib.hid (B6.out.trans (b7.mono B6.out.size))
    clear b7
    go_wp2_with fail
    refine (HR1.out _).mono ?_
    rintro e w8 ⟨rfl, b8⟩
    have B8 := Lib.hid (B7.out.trans (b8.mono B7.out.size))
    clear b8
    go_wp2_with fail
    refine (HR2.out _).mono ?_
    rintro e w9 ⟨rfl, b9⟩
    have B9 := Lib.hid (B8.out.trans (b9.mono B8.out.size))
    clear b9
    go_wp2_with fail
    refine (HM1.out _).mono ?_
    rintro e w10 ⟨v10, rfl, o10, b10⟩
    have I1 := Lib.hid (HIt.out _ _ _ o10)
    obtain ⟨A10, c10, rfl⟩ := L5.own_slice o10
    have B10 := Lib.hid (B9.out.trans (b10.mono B9.out.size))
    clear o10 b10
    go_wp2_with fail
    refine (HM2.out _).mono ?_
    rintro e w11 ⟨v11, rfl, o11, b11⟩
    have hS := HSm.out w11 _ _ (I1.out.below b11) (HIt.out _ _ _ o11)
    obtain ⟨A11, c11, rfl⟩ := L5.own_slice o11
    have B11 := Lib.hid (B10.out.trans (b11.mono B10.out.size))
    clear o11 b11
    go_wp2_with fail
    refine hS.mono ?_
    rintro e w12 ⟨rfl, b12⟩
    have B12 := Lib.hid (B11.out.trans (b12.mono B11.out.size))
    clear b12 hS
    go_wp2_with fail
    refine (HD1.out _).mono ?_
    rintro e w13 ⟨rfl, b13⟩
    have B13 := Lib.hid (B12.out.trans (b13.mono B12.out.size))
    clear b13
    go_wp2_with fail
    refine (HD2.out _).mono ?_
    rintro e w14 ⟨rfl, b14⟩
    have B14 := Lib.hid (B13.out.trans (b14.mono B13.out.size))
    clear b14
    go_wp2
    go_ret
    exact ⟨by simp, B14.out⟩
end Go.Proofs.YtembihlkildodaaDoor.L13
