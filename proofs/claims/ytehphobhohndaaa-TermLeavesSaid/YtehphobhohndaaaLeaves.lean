/- The statement TermLeaves: for every number, text and process the law returns true, and its arguments read as they did. -/
import Derived.Test.YtehphobhohndaaaRefLeaf
namespace Go.Proofs.Ytehphobhohndaaa
open Go.ChangeShapes Go.WideShapes Go.ChangeAt Go.RowKit

set_option maxRecDepth 100000 in
set_option maxHeartbeats 4000000 in
theorem leaves_walk (n p : Int) (s : ByteArray) (nm nu tx pv : List UInt8) (te pe : Int) (w : World) (i1 : (s.size : Int) ≤ 1000)
    (cT : ∀ W, Calls Try.prog 13 #[.string s] W (One W (.tuple #[.string ⟨tx.toArray⟩, .int .i64 te])))
    (cU : ∀ W, Calls Try.prog 14 #[.string s] W (One W (.tuple #[.string ⟨tx.toArray⟩, .int .i64 te])))
    (cP : ∀ W, Calls Try.prog 15 #[.int .i64 p] W (One W (.tuple #[.string ⟨pv.toArray⟩, .int .i64 pe])))
    (cQ : ∀ W, Calls Try.prog 16 #[.int .i64 p] W (One W (.tuple #[.string ⟨pv.toArray⟩, .int .i64 pe])))
    (cN : ∀ W, Calls Try.prog 17 #[.int .u64 n] W (One W (.string ⟨nm.toArray⟩)))
    (cM : ∀ W, Calls Try.prog 18 #[.int .u64 n] W (One W (.string ⟨nm.toArray⟩)))
    (cX : ∀ W, Calls Try.prog 19 #[.int .u64 n] W (One W (.string ⟨nu.toArray⟩)))
    (cY : ∀ W, Calls Try.prog 20 #[.int .u64 n] W (One W (.string ⟨nu.toArray⟩))) :
    Calls Try.prog 3 #[.int .u64 n, .string s, .int .i64 p] w (One w (.bool true)) := by
  have HS := Lib.hid shown_calls
  have HT := Lib.hid cT
  have HU := Lib.hid cU
  have HP := Lib.hid cP
  have HQ := Lib.hid cQ
  have HN := Lib.hid cN
  have HM := Lib.hid cM
  have HX := Lib.hid cX
  have HY := Lib.hid cY
  clear cT cU cP cQ cN cM cX cY
  have d1 : decide ((1000 : Int) < (s.size : Int)) = false := by simp; omega
  go_enter Try.func3, Try.ntmps3
  go_wp2_with fail
  refine (HS.out _).mono ?_
  rintro e' w0 ⟨rfl, B⟩
  go_wp2_with fail
  refine (HT.out _).mono ?_
  rintro e' w1 ⟨rfl, hb1⟩
  replace B := B.trans (hb1.mono B.size)
  clear hb1
  go_wp2_with fail
  refine (HU.out _).mono ?_
  rintro e' w2 ⟨rfl, hb2⟩
  replace B := B.trans (hb2.mono B.size)
  clear hb2
  go_wp2_with fail
  refine (HP.out _).mono ?_
  rintro e' w3 ⟨rfl, hb3⟩
  replace B := B.trans (hb3.mono B.size)
  clear hb3
  go_wp2_with fail
  refine (HQ.out _).mono ?_
  rintro e' w4 ⟨rfl, hb4⟩
  replace B := B.trans (hb4.mono B.size)
  clear hb4
  go_wp2_with fail
  refine (HN.out _).mono ?_
  rintro e' w5 ⟨rfl, hb5⟩
  replace B := B.trans (hb5.mono B.size)
  clear hb5
  go_wp2_with fail
  refine (HM.out _).mono ?_
  rintro e' w6 ⟨rfl, hb6⟩
  replace B := B.trans (hb6.mono B.size)
  clear hb6
  go_wp2_with fail
  refine (HX.out _).mono ?_
  rintro e' w7 ⟨rfl, hb7⟩
  replace B := B.trans (hb7.mono B.size)
  clear hb7
  go_wp2_with fail
  refine (HY.out _).mono ?_
  rintro e' w8 ⟨rfl, hb8⟩
  replace B := B.trans (hb8.mono B.size)
  clear hb8
  go_wp2_with fail
  refine (Gen_calls _).mono ?_
  rintro e' w9 ⟨rfl, hb9⟩
  replace B := B.trans (hb9.mono B.size)
  clear hb9
  go_wp2
  go_ret
  exact ⟨rfl, B⟩

set_option maxRecDepth 100000 in
set_option maxHeartbeats 400000 in
theorem leaves_long (n p : Int) (s : ByteArray) (hs : s.size ≤ maxLen) (h : 1000 < s.size) (w : World) :
    Calls Try.prog 3 #[.int .u64 n, .string s, .int .i64 p] w (One w (.bool true)) := by
  unfold maxLen at hs
  have HS := Lib.hid shown_calls
  have d1 : decide ((1000 : Int) < (s.size : Int)) = true := by simp; omega
  have i1 : (1000 : Int) < (s.size : Int) := by omega
  clear h
  go_enter Try.func3, Try.ntmps3
  go_wp2_with fail
  refine (HS.out _).mono ?_
  rintro e' w1 ⟨rfl, hb1⟩
  go_wp2
  go_ret
  exact ⟨rfl, hb1⟩

theorem leaves_all (n : Nat) (hn : n < 18446744073709551616) (p : Int) (s : ByteArray) (hs : s.size ≤ maxLen) (w : World) :
    Calls Try.prog 3 #[.int .u64 n, .string s, .int .i64 p] w (One w (.bool true)) := by
  by_cases h : s.size ≤ 1000
  · have kT : ∃ (tx : List UInt8) (te : Int), (∀ W, Calls Try.prog 13 #[.string s] W (One W (.tuple #[.string ⟨tx.toArray⟩, .int .i64 te]))) ∧ (∀ W, Calls Try.prog 14 #[.string s] W (One W (.tuple #[.string ⟨tx.toArray⟩, .int .i64 te]))) := by
      by_cases h1 : s.size ≤ 100
      · exact ⟨_, 0, fun W => Text_calls s h1 W, fun W => refText_calls s h1 W⟩
      · exact ⟨[], 3, fun W => Text_long_calls s hs (by omega) W, fun W => refText_long_calls s hs (by omega) W⟩
    have kP : ∃ (pv : List UInt8) (pe : Int), (∀ W, Calls Try.prog 15 #[.int .i64 p] W (One W (.tuple #[.string ⟨pv.toArray⟩, .int .i64 pe]))) ∧ (∀ W, Calls Try.prog 16 #[.int .i64 p] W (One W (.tuple #[.string ⟨pv.toArray⟩, .int .i64 pe]))) := by
      by_cases h1 : 1 ≤ p ∧ p ≤ 8
      · exact ⟨[105, UInt8.ofNat p.toNat], 0, fun W => Private_calls p h1.1 h1.2 W, fun W => refPrivate_calls p h1.1 h1.2 W⟩
      · exact ⟨[], 1, fun W => Private_no_calls p (by omega) W, fun W => refPrivate_no_calls p (by omega) W⟩
    obtain ⟨tx, te, k1, k2⟩ := kT
    obtain ⟨pv, pe, k3, k4⟩ := kP
    exact leaves_walk n p s _ _ tx pv te pe w (by omega) k1 k2 k3 k4 (fun W => Name_calls n hn W) (fun W => refName_calls n hn W) (fun W => Number_calls n hn W) (fun W => refNumber_calls n hn W)
  · exact leaves_long n p s hs (by omega) w

set_option maxRecDepth 100000 in
theorem leaves_lifted (os : Os) (started : os.Started) (H : Type) (enc : TypeId × Value → H) :
    ReturnsInHanded {} Try.checked os 3 .any (Rows.termLeavesSpec.pre6 enc Try.prog Try.f3 Rows.termLeavesRow.domain false) (Rows.termLeavesSpec.post enc Try.prog Try.f3 false true false false) := by
  refine returnsInHanded_of_change (C := Try.checked) own started (by kernel_rfl) Try.func3
    (ChangeSpec.witness6 (enc := enc) (C := Try.checked) false ⟨#[], #[.int .u64 0, .string ⟨#[]⟩, .int .i64 0], []⟩ 8 (by kernel_rfl) (by kernel_rfl) (by kernel_rfl) (by kernel_rfl)) ?_
  intro W base args ds gs before hval0 hW hcnd _
  have hval : ∀ (j : Nat) t v, Try.f3.params[j]? = some t → args[j]? = some v → Value.okWide Try.prog W .any base t v := hval0
  have hW' := hW
  obtain ⟨p, q, hA0, hV, rfl, hfz, hnd⟩ := hW
  have hA : DataW.TrodAll enc Try.prog W 0 (fun _ => true) true Try.f3.params.toList args.toList ds p := hA0
  rw [Try.params3] at hA hval
  obtain ⟨v0, vs0, d0, ds0, p0, q0, hargs, rfl, rfl, h0, r0⟩ := trodAll_cons hA
  obtain ⟨v1, vs1, d1, ds1, p1, q1, rfl, rfl, rfl, h1, r1⟩ := trodAll_cons r0
  obtain ⟨v2, vs2, d2, ds2, p2, q2, rfl, rfl, rfl, h2, r2⟩ := trodAll_cons r1
  obtain ⟨rfl, rfl, rfl⟩ := trodAll_nil r2
  obtain rfl : args = #[v0, v1, v2] := by cases args; simp_all
  obtain ⟨rfl, rfl⟩ := trodVars_none hV
  obtain ⟨a0, rfl, rfl, rfl, w0⟩ := open_int Try.underlying22 (hval 0 22 v0 rfl rfl) h0
  obtain ⟨s, rfl, rfl, rfl, ws⟩ := Go.ChangeMaps.open_string Try.underlying9 (hval 1 9 v1 rfl rfl) h1
  obtain ⟨a2, rfl, rfl, rfl, w2⟩ := open_int Try.underlying3 (hval 2 3 v2 rfl rfl) h2
  clear hA0 hval0
  simp only [List.append_nil] at hW'
  obtain ⟨a, rfl, ha⟩ := u64_of_wf w0
  refine (leaves_all a ha a2 s ws W).mono fun e W' ⟨he, hg⟩ => ?_
  subst he
  exact ⟨_, rfl, post_law (pa := []) (pv := []) hW' (trodAll_cons_mk (shut_bool Try.underlying4 _) trodAll_mk0)
    (fun sp _ => trodAll_cons_mk (shut_int Try.underlying22 w0) (trodAll_cons_mk (Go.ChangeMaps.shut_string Try.underlying9 ws) (trodAll_cons_mk (shut_int Try.underlying3 w2) trodAll_mk0))) (fun _ _ => rfl) rfl hg⟩

theorem leaves_over : Rows.termLeavesRow.holds Try.pinned (OpenSpec.ofChange Rows.termLeavesSpec) :=
  OpenClaim.holds_of_wide 3 Try.f3 rfl rfl rfl rfl rfl rfl rfl ⟨rfl, rfl, rfl, rfl, rfl⟩ rfl rfl rfl rfl rfl (by kernel_rfl) Try.func3 (by kernel_rfl)
    (of_decide_eq_true (by kernel_rfl)) (by unfold Func.isWrapper; first | (rw [if_pos (by decide +kernel)]; kernel_rfl) | (rw [if_neg (by decide +kernel)]; exact ⟨rfl, rfl⟩))
    (fun os started H enc _ => leaves_lifted os started H enc)

theorem leaves_proved : Rows.TermLeavesSaid := leaves_over

end Go.Proofs.Ytehphobhohndaaa
