/- The law PlaceOne: a tree of one, and of two. -/
import Derived.Test.YtlpabhgfmkilnaaDoorPlMade
namespace Go.Proofs.YtlpabhgfmkilnaaDoor.L14
open Go.ChangeShapes Go.WideShapes Go.ChangeAt Go.RowKit Go.Deep
open Go.Proofs.YtlpabhgfmkilnaaDoor.L13
open Go.Proofs.YtlpabhgfmkilnaaDoor.L5 (One)

theorem one_facts {a : Nat} (ha : 1 ≤ a ∧ a ≤ 8) : nodesX (Tr.leaf a).text = [[]] ∧ pathX (Tr.leaf a).text (a : Int) = [[]] ∧ dutiesX (Tr.leaf a).text (a : Int) = [] ∧ sponsorX (Tr.leaf a).text [] = (a : Int) := by
  have ho := Tr.ok.leaf ha.1 ha.2
  have hp : a ∈ (Tr.leaf a).procs := by simp [Tr.procs]
  refine ⟨by unfold nodesX; rw [downX_text ho]; rfl, by unfold pathX; rw [upL_text ho ha.1, ho.up_chain hp]; rfl, ?_, ?_⟩
  · rw [dutiesX_text ho ha.1]
    unfold Tr.duty
    rw [ho.up_chain hp]
    simp [chain, isDuty]
  · unfold sponsorX
    rw [readT_text ho]
    rfl
theorem two_facts {a b : Nat} (ha : 1 ≤ a ∧ a ≤ 8) (hb : 1 ≤ b ∧ b ≤ 8) (hne : a ≠ b) : joinX (Tr.leaf a).text (b : Int) = ((Tr.node (.leaf a) (.leaf b)).text, 0) ∧ pathX (Tr.leaf a).text (b : Int) = [] ∧
    nodesX (Tr.node (.leaf a) (.leaf b)).text = [[], [108], [114]] ∧ pathX (Tr.node (.leaf a) (.leaf b)).text (a : Int) = [[108], []] ∧ pathX (Tr.node (.leaf a) (.leaf b)).text (b : Int) = [[114], []] ∧
    dutiesX (Tr.node (.leaf a) (.leaf b)).text (a : Int) = [[108]] ∧ dutiesX (Tr.node (.leaf a) (.leaf b)).text (b : Int) = [[114]] ∧ coX (Tr.node (.leaf a) (.leaf b)).text (a : Int) = [[114]] ∧ sponsorX (Tr.node (.leaf a) (.leaf b)).text [] = ((min a b : Nat) : Int) := by
  have ho := Tr.ok.leaf ha.1 ha.2
  have hu : (Tr.node (.leaf a) (.leaf b)).ok := ho.node (Tr.ok.leaf hb.1 hb.2) (by simp [Tr.procs, hne])
  have pa : a ∈ (Tr.node (.leaf a) (.leaf b)).procs := by simp [Tr.procs]
  have pb : b ∈ (Tr.node (.leaf a) (.leaf b)).procs := by simp [Tr.procs]
  have ca : chain a [] (Tr.node (.leaf a) (.leaf b)) = [([], Tr.node (.leaf a) (.leaf b)), ([108], .leaf a)] := by simp [chain, Tr.procs]
  have cb : chain b [] (Tr.node (.leaf a) (.leaf b)) = [([], Tr.node (.leaf a) (.leaf b)), ([114], .leaf b)] := by simp [chain, Tr.procs, Ne.symm hne]
  refine ⟨?_, ?_, ?_, ?_, ?_, ?_, ?_, ?_, ?_⟩
  · unfold joinX
    rw [readT_text ho]
    dsimp only
    rw [Int.toNat_natCast, if_pos ⟨by omega, by omega, by simp [Tr.procs, Ne.symm hne]⟩]
    rfl
  · unfold pathX
    rw [upL_text ho hb.1, Tr.up_none (by simp [Tr.procs, Ne.symm hne])]
    rfl
  · unfold nodesX; rw [downX_text hu]; rfl
  · unfold pathX; rw [upL_text hu ha.1, hu.up_chain pa, ca]; rfl
  · unfold pathX; rw [upL_text hu hb.1, hu.up_chain pb, cb]; rfl
  · rw [dutiesX_text hu ha.1]
    unfold Tr.duty
    rw [hu.up_chain pa, ca]
    simp [isDuty, low]
  · rw [dutiesX_text hu hb.1]
    unfold Tr.duty
    rw [hu.up_chain pb, cb]
    simp [isDuty, low]
  · unfold coX coL; rw [upL_text hu ha.1, hu.up_chain pa, ca]; rfl
  · unfold sponsorX
    rw [readT_text hu]
    rfl
set_option maxRecDepth 100000 in
set_option maxHeartbeats 16000000 in
theorem one_calls (p q : Int) (w : World) (hp : -9223372036854775808 ≤ p ∧ p ≤ 9223372036854775807) (hq : -9223372036854775808 ≤ q ∧ q ≤ 9223372036854775807) : Calls Tryd.prog 4 #[.int .i64 p, .int .i64 q] w (One w (.bool true)) := by
  have HP1 := Lib.hid (fun V => pick_calls p 8 hp (by omega) V)
  have HP2 := Lib.hid (fun V => pick_calls q 8 hq (by omega) V)
  obtain ⟨b1, b2⟩ := pickI_bounds p (show (1 : Int) ≤ 8 by omega)
  obtain ⟨b3, b4⟩ := pickI_bounds q (show (1 : Int) ≤ 8 by omega)
  obtain ⟨a, ha⟩ : ∃ a : Nat, 1 + pickI p 8 = (a : Int) := ⟨(1 + pickI p 8).toNat, by omega⟩
  obtain ⟨b, hb⟩ : ∃ b : Nat, 1 + pickI q 8 = (b : Int) := ⟨(1 + pickI q 8).toNat, by omega⟩
  have ha8 : 1 ≤ a ∧ a ≤ 8 := by omega
  have hb8 : 1 ≤ b ∧ b ≤ 8 := by omega
  have HL := Lib.hid (fun V => leaf_top (a : Int) V)
  have hlx : leafX (a : Int) = ((Tr.leaf a).text, 0) := by unfold leafX; rw [if_pos (by omega), Int.toNat_natCast]
  rw [hlx] at HL
  obtain ⟨f1, f2, f3, f4⟩ := one_facts ha8
  have HN := Lib.hid (fun V => nodes_calls (Tr.leaf a).text V)
  have HPa := Lib.hid (fun V => path_calls (Tr.leaf a).text (a : Int) V)
  have HPb := Lib.hid (fun V => path_calls (Tr.leaf a).text (b : Int) V)
  have HDu := Lib.hid (fun V => duties_calls (Tr.leaf a).text (a : Int) V)
  have HSp := Lib.hid (fun V => sponsor_calls (Tr.leaf a).text [] V)
  have HJ := Lib.hid (fun V => join_top (Tr.leaf a).text (b : Int) V)
  rw [f1] at HN
  rw [f2] at HPa
  rw [f3] at HDu
  rw [f4] at HSp
  have HTwo : Hid (a ≠ b → _) := fun hne => two_facts ha8 hb8 hne
  have HEq : Hid (a = b → pathX (Tr.leaf a).text (b : Int) = [[]]) := fun e => by rw [← e]; exact f2
  have HS := Lib.hid (fun V => shown_calls V)
  unfold Str2 at HL HJ
  dsimp only at HL
  clear f1 f2 f3 f4 hlx hp hq
  generalize pickI p 8 = pp at *
  generalize pickI q 8 = qq at *

  go_enter Tryd.func4, Tryd.ntmps4
  go_wp2_with fail
  refine (HS.out _).mono ?_
  rintro e x1 ⟨rfl, y1⟩
  have HB1 := Lib.hid y1
  clear y1
  go_wp2_with fail
  refine (HP1.out _).mono ?_
  rintro e x ⟨rfl, rfl⟩
  go_wp2_with fail
  refine (HP2.out _).mono ?_
  rintro e x ⟨rfl, rfl⟩
  go_wp2_with fail
  refine (HL.out _).mono ?_
  rintro e x2 ⟨rfl, y2⟩
  have HB2 := Lib.hid (HB1.out.trans (y2.mono HB1.out.size))
  clear y2
  go_wp2_with fail
  refine (HN.out _).mono ?_
  rintro e x3 ⟨v3, rfl, o3, y3⟩
  have hS3 := same_lit x3 _ v3 _ o3 (by simp)
  obtain ⟨A3, c3, rfl⟩ := L5.own_slice o3
  clear o3
  have HB3 := Lib.hid (HB2.out.trans (y3.mono HB2.out.size))
  clear y3
  simp only [strV, List.map_cons, List.map_nil, List.length_cons, List.length_nil] at hS3
  go_wp2_with fail
  refine (hS3).mono ?_
  rintro e z3 ⟨rfl, y3⟩
  have HB4 := Lib.hid (HB3.out.trans (y3.mono HB3.out.size))
  clear y3
  clear hS3
  go_wp2_with fail
  refine (HPa.out _).mono ?_
  rintro e x4 ⟨v4, rfl, o4, y4⟩
  have hS4 := same_lit x4 _ v4 _ o4 (by simp)
  obtain ⟨A4, c4, rfl⟩ := L5.own_slice o4
  clear o4
  have HB5 := Lib.hid (HB4.out.trans (y4.mono HB4.out.size))
  clear y4
  simp only [strV, List.map_cons, List.map_nil, List.length_cons, List.length_nil] at hS4
  go_wp2_with fail
  refine (hS4).mono ?_
  rintro e z4 ⟨rfl, y4⟩
  have HB6 := Lib.hid (HB5.out.trans (y4.mono HB5.out.size))
  clear y4
  clear hS4
  go_wp2_with fail
  refine (HDu.out _).mono ?_
  rintro e x5 ⟨v5, rfl, o5, y5⟩
  obtain ⟨A5, c5, rfl⟩ := L5.own_slice o5
  clear o5
  have HB7 := Lib.hid (HB6.out.trans (y5.mono HB6.out.size))
  clear y5
  simp only [List.length_nil]
  go_wp2_with fail
  refine (HSp.out _).mono ?_
  rintro e x6 ⟨rfl, y6⟩
  have HB8 := Lib.hid (HB7.out.trans (y6.mono HB7.out.size))
  clear y6
  by_cases hab : a = b
  · have hf := HEq.out hab
    rw [hf] at HPb
    subst hab
    clear hf HTwo HEq
    go_wp2_with fail
    refine (HPb.out _).mono ?_
    rintro e x7 ⟨v7, rfl, o7, y7⟩
    obtain ⟨A7, c7, rfl⟩ := L5.own_slice o7
    clear o7
    have HB9 := Lib.hid (HB8.out.trans (y7.mono HB8.out.size))
    clear y7
    simp only [List.length_cons, List.length_nil]
    go_wp2
    go_ret
    exact ⟨rfl, HB9.out⟩
  · obtain ⟨g1, g2, g3, g4, g5, g6, g7, g8, g9⟩ := HTwo.out hab
    have hab2 : ((a : Int) == (b : Int)) = false := by rw [beq_eq_false_iff_ne]; omega
    rw [g1] at HJ
    rw [g2] at HPb
    have KN := Lib.hid (fun V => nodes_calls (Tr.node (.leaf a) (.leaf b)).text V)
    have KPa := Lib.hid (fun V => path_calls (Tr.node (.leaf a) (.leaf b)).text (a : Int) V)
    have KPb := Lib.hid (fun V => path_calls (Tr.node (.leaf a) (.leaf b)).text (b : Int) V)
    have KDa := Lib.hid (fun V => duties_calls (Tr.node (.leaf a) (.leaf b)).text (a : Int) V)
    have KDb := Lib.hid (fun V => duties_calls (Tr.node (.leaf a) (.leaf b)).text (b : Int) V)
    have KC := Lib.hid (fun V => co_calls (Tr.node (.leaf a) (.leaf b)).text (a : Int) V)
    have KS := Lib.hid (fun V => sponsor_calls (Tr.node (.leaf a) (.leaf b)).text [] V)
    rw [g3] at KN
    rw [g4] at KPa
    rw [g5] at KPb
    rw [g6] at KDa
    rw [g7] at KDb
    rw [g8] at KC
    rw [g9] at KS
    have hmin : ((min a b : Nat) : Int) = min (a : Int) (b : Int) := by omega
    rw [hmin] at KS
    dsimp only at HJ
    clear g1 g2 g3 g4 g5 g6 g7 g8 g9 hmin HTwo HEq hab
    generalize (Tr.node (.leaf a) (.leaf b)).text = ux at *
    go_wp2_with fail
    refine (HJ.out _).mono ?_
    rintro e x7 ⟨rfl, y7⟩
    have HB9 := Lib.hid (HB8.out.trans (y7.mono HB8.out.size))
    clear y7
    go_wp2_with fail
    refine (HPb.out _).mono ?_
    rintro e x8 ⟨v8, rfl, o8, y8⟩
    obtain ⟨A8, c8, rfl⟩ := L5.own_slice o8
    clear o8
    have HB10 := Lib.hid (HB9.out.trans (y8.mono HB9.out.size))
    clear y8
    simp only [List.length_nil]
    go_wp2_with fail
    refine (KN.out _).mono ?_
    rintro e x9 ⟨v9, rfl, o9, y9⟩
    have hS9 := same_lit x9 _ v9 _ o9 (by simp)
    obtain ⟨A9, c9, rfl⟩ := L5.own_slice o9
    clear o9
    have HB11 := Lib.hid (HB10.out.trans (y9.mono HB10.out.size))
    clear y9
    simp only [strV, List.map_cons, List.map_nil, List.length_cons, List.length_nil] at hS9
    go_wp2_with fail
    refine (hS9).mono ?_
    rintro e z9 ⟨rfl, y9⟩
    have HB12 := Lib.hid (HB11.out.trans (y9.mono HB11.out.size))
    clear y9
    clear hS9
    go_wp2_with fail
    refine (KPa.out _).mono ?_
    rintro e x10 ⟨v10, rfl, o10, y10⟩
    have hS10 := same_lit x10 _ v10 _ o10 (by simp)
    obtain ⟨A10, c10, rfl⟩ := L5.own_slice o10
    clear o10
    have HB13 := Lib.hid (HB12.out.trans (y10.mono HB12.out.size))
    clear y10
    simp only [strV, List.map_cons, List.map_nil, List.length_cons, List.length_nil] at hS10
    go_wp2_with fail
    refine (hS10).mono ?_
    rintro e z10 ⟨rfl, y10⟩
    have HB14 := Lib.hid (HB13.out.trans (y10.mono HB13.out.size))
    clear y10
    clear hS10
    go_wp2_with fail
    refine (KPb.out _).mono ?_
    rintro e x11 ⟨v11, rfl, o11, y11⟩
    have hS11 := same_lit x11 _ v11 _ o11 (by simp)
    obtain ⟨A11, c11, rfl⟩ := L5.own_slice o11
    clear o11
    have HB15 := Lib.hid (HB14.out.trans (y11.mono HB14.out.size))
    clear y11
    simp only [strV, List.map_cons, List.map_nil, List.length_cons, List.length_nil] at hS11
    go_wp2_with fail
    refine (hS11).mono ?_
    rintro e z11 ⟨rfl, y11⟩
    have HB16 := Lib.hid (HB15.out.trans (y11.mono HB15.out.size))
    clear y11
    clear hS11
    go_wp2_with fail
    refine (KDa.out _).mono ?_
    rintro e x12 ⟨v12, rfl, o12, y12⟩
    have hS12 := same_lit x12 _ v12 _ o12 (by simp)
    obtain ⟨A12, c12, rfl⟩ := L5.own_slice o12
    clear o12
    have HB17 := Lib.hid (HB16.out.trans (y12.mono HB16.out.size))
    clear y12
    simp only [strV, List.map_cons, List.map_nil, List.length_cons, List.length_nil] at hS12
    go_wp2_with fail
    refine (hS12).mono ?_
    rintro e z12 ⟨rfl, y12⟩
    have HB18 := Lib.hid (HB17.out.trans (y12.mono HB17.out.size))
    clear y12
    clear hS12
    go_wp2_with fail
    refine (KDb.out _).mono ?_
    rintro e x13 ⟨v13, rfl, o13, y13⟩
    have hS13 := same_lit x13 _ v13 _ o13 (by simp)
    obtain ⟨A13, c13, rfl⟩ := L5.own_slice o13
    clear o13
    have HB19 := Lib.hid (HB18.out.trans (y13.mono HB18.out.size))
    clear y13
    simp only [strV, List.map_cons, List.map_nil, List.length_cons, List.length_nil] at hS13
    go_wp2_with fail
    refine (hS13).mono ?_
    rintro e z13 ⟨rfl, y13⟩
    have HB20 := Lib.hid (HB19.out.trans (y13.mono HB19.out.size))
    clear y13
    clear hS13
    go_wp2_with fail
    refine (KC.out _).mono ?_
    rintro e x14 ⟨v14, rfl, o14, y14⟩
    have hS14 := same_lit x14 _ v14 _ o14 (by simp)
    obtain ⟨A14, c14, rfl⟩ := L5.own_slice o14
    clear o14
    have HB21 := Lib.hid (HB20.out.trans (y14.mono HB20.out.size))
    clear y14
    simp only [strV, List.map_cons, List.map_nil, List.length_cons, List.length_nil] at hS14
    go_wp2_with fail
    refine (hS14).mono ?_
    rintro e z14 ⟨rfl, y14⟩
    have HB22 := Lib.hid (HB21.out.trans (y14.mono HB21.out.size))
    clear y14
    clear hS14
    go_wp2_with fail
    refine (KS.out _).mono ?_
    rintro e x15 ⟨rfl, y15⟩
    have HB23 := Lib.hid (HB22.out.trans (y15.mono HB22.out.size))
    clear y15
    go_wp2
    go_ret
    exact ⟨rfl, HB23.out⟩
end Go.Proofs.YtlpabhgfmkilnaaDoor.L14
