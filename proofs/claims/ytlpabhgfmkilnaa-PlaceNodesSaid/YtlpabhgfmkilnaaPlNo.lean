/- The law PlaceNodes: the program's answers are the document's. -/
import Derived.Test.YtlpabhgfmkilnaaPlR4
namespace Go.Proofs.Ytlpabhgfmkilnaa.L14
open Go.ChangeShapes Go.WideShapes Go.ChangeAt Go.RowKit Go.Deep
open Go.Proofs.Ytlpabhgfmkilnaa.L13
open Go.Proofs.Ytlpabhgfmkilnaa.L5 (One)

theorem nodesX_len (x : List UInt8) : (nodesX x).length ≤ 15 := by unfold nodesX; rw [List.length_map]; exact downX_len x
theorem pathX_len (x : List UInt8) (p : Int) : (pathX x p).length ≤ 15 := by unfold pathX; rw [List.length_map]; exact upL_len x p
theorem coX_len (x : List UInt8) (p : Int) : (coX x p).length ≤ 15 := by
  unfold coX coL
  rw [List.length_map]
  exact Nat.le_trans (List.length_filter_le _ _) (upL_len x p)
theorem dutiesX_len (x : List UInt8) (p : Int) : (dutiesX x p).length ≤ 15 := by
  unfold dutiesX dutL
  rw [List.length_map]
  exact Nat.le_trans (List.length_filter_le _ _) (upL_len x p)
set_option maxRecDepth 100000 in
set_option maxHeartbeats 16000000 in
theorem nodes_law (s node : List UInt8) (p : Int) (w : World) : Calls Try.prog 3 #[.string ⟨s.toArray⟩, .string ⟨node.toArray⟩, .int .i64 p] w (One w (.bool true)) := by
  have HS := Lib.hid (fun V => shown_calls V)
  have hz1 : (⟨s.toArray⟩ : ByteArray).size = s.length := rfl
  have hz2 : (⟨node.toArray⟩ : ByteArray).size = node.length := rfl
  by_cases g1 : 90 < s.length
  · have j1 : (90 : Int) < (s.length : Int) := by omega
    go_enter Try.func3, Try.ntmps3
    go_wp2_with (go_at_call 4; refine (HS.out _).mono ?_; rintro e x1 ⟨rfl, y1⟩; have HB1 := Lib.hid y1; clear y1)
    go_ret
    exact ⟨rfl, HB1.out⟩
  by_cases g2 : 90 < node.length
  · have j1 : ¬ (90 : Int) < (s.length : Int) := by omega
    have j2 : (90 : Int) < (node.length : Int) := by omega
    go_enter Try.func3, Try.ntmps3
    go_wp2_with (go_at_call 4; refine (HS.out _).mono ?_; rintro e x1 ⟨rfl, y1⟩; have HB1 := Lib.hid y1; clear y1)
    go_ret
    exact ⟨rfl, HB1.out⟩
  have j1 : ¬ (90 : Int) < (s.length : Int) := by omega
  have j2 : ¬ (90 : Int) < (node.length : Int) := by omega
  have k1 : s.length ≤ 90 := by omega
  have k2 : node.length ≤ 90 := by omega
  have HA := Lib.hid (fun V => at_calls s node V)
  have RA := Lib.hid (fun V => rat_calls s node k1 k2 V)
  have HN := Lib.hid (fun V => nodes_calls s V)
  have RN := Lib.hid (fun V => rnodes_calls s k1 V)
  have HP := Lib.hid (fun V => path_calls s p V)
  have RP := Lib.hid (fun V => rpath_calls s p k1 V)
  have HBs := Lib.hid (fun V => beside_calls node (by omega) V)
  have RBs := Lib.hid (fun V => rbeside_calls node (by omega) V)
  have HC := Lib.hid (fun V => co_calls s p V)
  have RC := Lib.hid (fun V => rco_calls s p k1 V)
  have HSp := Lib.hid (fun V => sponsor_calls s node V)
  have RSp := Lib.hid (fun V => rsponsor_calls s node k1 k2 V)
  have HD := Lib.hid (fun V => duties_calls s p V)
  have RD := Lib.hid (fun V => rduties_calls s p k1 V)
  have LN := Lib.hid (nodesX_len s)
  have LP := Lib.hid (pathX_len s p)
  have LC := Lib.hid (coX_len s p)
  have LD := Lib.hid (dutiesX_len s p)
  unfold Str2 at HA RA
  generalize atX s node = r at *
  obtain ⟨u, f⟩ := r
  dsimp only at HA RA
  generalize nodesX s = zn at *
  generalize pathX s p = zp at *
  generalize coX s p = zc at *
  generalize dutiesX s p = zd at *
  generalize besideL node = bs at *
  generalize sponsorX s node = sp at *
  clear g1 g2 k1 k2
  go_enter Try.func3, Try.ntmps3
  go_wp2_with fail
  refine (HS.out _).mono ?_
  rintro e x1 ⟨rfl, y1⟩
  have HB1 := Lib.hid y1
  clear y1
  go_wp2_with fail
  refine (HA.out _).mono ?_
  rintro e x2 ⟨rfl, y2⟩
  have HB2 := Lib.hid (HB1.out.trans (y2.mono HB1.out.size))
  clear y2
  go_wp2_with fail
  refine (RA.out _).mono ?_
  rintro e x3 ⟨rfl, y3⟩
  have HB3 := Lib.hid (HB2.out.trans (y3.mono HB2.out.size))
  clear y3
  go_wp2_with fail
  refine (HN.out _).mono ?_
  rintro e x4 ⟨v4, rfl, o4, y4⟩
  have hT4 := TxA.of_own o4
  obtain ⟨A4, c4, rfl⟩ := L5.own_slice o4
  have HT4 := Lib.hid hT4
  clear o4 hT4
  have HB4 := Lib.hid (HB3.out.trans (y4.mono HB3.out.size))
  clear y4
  go_wp2_with fail
  refine (RN.out _).mono ?_
  rintro e x5 ⟨v5, rfl, o5, y5⟩
  have hS5 := same_once _ _ _ x5 (HT4.out.below y5) (TxA.of_own o5) (by have := LN.out; omega)
  obtain ⟨A5, c5, rfl⟩ := L5.own_slice o5
  clear o5
  have HB5 := Lib.hid (HB4.out.trans (y5.mono HB4.out.size))
  clear y5
  go_wp2_with fail
  refine (hS5).mono ?_
  rintro e z5 ⟨rfl, y5⟩
  have HB6 := Lib.hid (HB5.out.trans (y5.mono HB5.out.size))
  clear y5
  clear hS5
  go_wp2_with fail
  refine (HP.out _).mono ?_
  rintro e x6 ⟨v6, rfl, o6, y6⟩
  have hT6 := TxA.of_own o6
  obtain ⟨A6, c6, rfl⟩ := L5.own_slice o6
  have HT6 := Lib.hid hT6
  clear o6 hT6
  have HB7 := Lib.hid (HB6.out.trans (y6.mono HB6.out.size))
  clear y6
  go_wp2_with fail
  refine (RP.out _).mono ?_
  rintro e x7 ⟨v7, rfl, o7, y7⟩
  have hS7 := same_once _ _ _ x7 (HT6.out.below y7) (TxA.of_own o7) (by have := LP.out; omega)
  obtain ⟨A7, c7, rfl⟩ := L5.own_slice o7
  clear o7
  have HB8 := Lib.hid (HB7.out.trans (y7.mono HB7.out.size))
  clear y7
  go_wp2_with fail
  refine (hS7).mono ?_
  rintro e z7 ⟨rfl, y7⟩
  have HB9 := Lib.hid (HB8.out.trans (y7.mono HB8.out.size))
  clear y7
  clear hS7
  go_wp2_with fail
  refine (HBs.out _).mono ?_
  rintro e x8 ⟨rfl, y8⟩
  have HB10 := Lib.hid (HB9.out.trans (y8.mono HB9.out.size))
  clear y8
  go_wp2_with fail
  refine (RBs.out _).mono ?_
  rintro e x9 ⟨rfl, y9⟩
  have HB11 := Lib.hid (HB10.out.trans (y9.mono HB10.out.size))
  clear y9
  go_wp2_with fail
  refine (HC.out _).mono ?_
  rintro e x10 ⟨v10, rfl, o10, y10⟩
  have hT10 := TxA.of_own o10
  obtain ⟨A10, c10, rfl⟩ := L5.own_slice o10
  have HT10 := Lib.hid hT10
  clear o10 hT10
  have HB12 := Lib.hid (HB11.out.trans (y10.mono HB11.out.size))
  clear y10
  go_wp2_with fail
  refine (RC.out _).mono ?_
  rintro e x11 ⟨v11, rfl, o11, y11⟩
  have hS11 := same_once _ _ _ x11 (HT10.out.below y11) (TxA.of_own o11) (by have := LC.out; omega)
  obtain ⟨A11, c11, rfl⟩ := L5.own_slice o11
  clear o11
  have HB13 := Lib.hid (HB12.out.trans (y11.mono HB12.out.size))
  clear y11
  go_wp2_with fail
  refine (hS11).mono ?_
  rintro e z11 ⟨rfl, y11⟩
  have HB14 := Lib.hid (HB13.out.trans (y11.mono HB13.out.size))
  clear y11
  clear hS11
  go_wp2_with fail
  refine (HSp.out _).mono ?_
  rintro e x12 ⟨rfl, y12⟩
  have HB15 := Lib.hid (HB14.out.trans (y12.mono HB14.out.size))
  clear y12
  go_wp2_with fail
  refine (RSp.out _).mono ?_
  rintro e x13 ⟨rfl, y13⟩
  have HB16 := Lib.hid (HB15.out.trans (y13.mono HB15.out.size))
  clear y13
  go_wp2_with fail
  refine (HD.out _).mono ?_
  rintro e x14 ⟨v14, rfl, o14, y14⟩
  have hT14 := TxA.of_own o14
  obtain ⟨A14, c14, rfl⟩ := L5.own_slice o14
  have HT14 := Lib.hid hT14
  clear o14 hT14
  have HB17 := Lib.hid (HB16.out.trans (y14.mono HB16.out.size))
  clear y14
  go_wp2_with fail
  refine (RD.out _).mono ?_
  rintro e x15 ⟨v15, rfl, o15, y15⟩
  have hS15 := same_once _ _ _ x15 (HT14.out.below y15) (TxA.of_own o15) (by have := LD.out; omega)
  obtain ⟨A15, c15, rfl⟩ := L5.own_slice o15
  clear o15
  have HB18 := Lib.hid (HB17.out.trans (y15.mono HB17.out.size))
  clear y15
  go_wp2_with fail
  refine (hS15).mono ?_
  rintro e z15 ⟨rfl, y15⟩
  have HB19 := Lib.hid (HB18.out.trans (y15.mono HB18.out.size))
  clear y15
  clear hS15
  go_wp2
  go_ret
  exact ⟨rfl, HB19.out⟩
theorem place_nodes (s node : ByteArray) (p : Int) (w : World) : Calls Try.prog 3 #[.string s, .string node, .int .i64 p] w (One w (.bool true)) := by
  obtain ⟨x, rfl⟩ := of_list s
  obtain ⟨y, rfl⟩ := of_list node
  exact nodes_law x y p w
end Go.Proofs.Ytlpabhgfmkilnaa.L14
