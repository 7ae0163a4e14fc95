/- The statement TermNames: for every two numbers and every two texts the law returns true, and its arguments read as they did. -/
import Derived.Test.YtehphobhohndaaaLaw
import Derived.Test.YtehphobhohndaaaNames
namespace Go.Proofs.Ytehphobhohndaaa
open Go.ChangeShapes Go.WideShapes Go.ChangeAt Go.RowKit

set_option maxRecDepth 100000 in
set_option maxHeartbeats 400000 in
theorem names_long (a b : Nat) (s t : ByteArray) (hs : s.size ≤ maxLen) (ht : t.size ≤ maxLen) (h : ¬ (s.size ≤ 100 ∧ t.size ≤ 100)) (w : World) :
    Calls Try.prog 8 #[.int .u64 a, .int .u64 b, .string s, .string t] w (One w (.bool true)) := by
  unfold maxLen at hs ht
  have HS := Lib.hid shown_calls
  by_cases h1 : s.size ≤ 100
  · have d1 : decide ((100 : Int) < (s.size : Int)) = false := by simp; omega
    have d2 : decide ((100 : Int) < (t.size : Int)) = true := by simp; omega
    have i1 : (s.size : Int) ≤ 100 := by omega
    have i2 : (100 : Int) < (t.size : Int) := by omega
    clear h h1
    go_enter Try.func8, Try.ntmps8
    go_wp2_with fail
    refine (HS.out _).mono ?_
    rintro e' w1 ⟨rfl, hb1⟩
    go_wp2
    go_ret
    exact ⟨rfl, hb1⟩
  · have d1 : decide ((100 : Int) < (s.size : Int)) = true := by simp; omega
    have i1 : (100 : Int) < (s.size : Int) := by omega
    clear h h1
    go_enter Try.func8, Try.ntmps8
    go_wp2_with fail
    refine (HS.out _).mono ?_
    rintro e' w1 ⟨rfl, hb1⟩
    go_wp2
    go_ret
    exact ⟨rfl, hb1⟩

theorem names_all (a b : Nat) (ha : a < 18446744073709551616) (hb : b < 18446744073709551616) (s t : ByteArray) (hs : s.size ≤ maxLen) (ht : t.size ≤ maxLen) (w : World) :
    Calls Try.prog 8 #[.int .u64 a, .int .u64 b, .string s, .string t] w (One w (.bool true)) := by
  by_cases h : s.size ≤ 100 ∧ t.size ≤ 100
  · obtain ⟨h1, h2⟩ := h
    have l1 : s.data.toList.length ≤ 100 := by rw [len_bytes]; exact h1
    have e1 : 116 :: 0 :: UInt8.ofNat s.size :: s.data.toList = Tm.tx s.data.toList := by rw [Tm.tx, len_bytes]
    have e2 : 116 :: 0 :: UInt8.ofNat t.size :: t.data.toList = Tm.tx t.data.toList := by rw [Tm.tx, len_bytes]
    have cT1 := fun W => Text_calls s h1 W
    have cT2 := fun W => Text_calls t h2 W
    rw [e1] at cT1
    rw [e2] at cT2
    have hx : (Tm.tx s.data.toList).length ≤ maxLen := by simp [Tm.tx, maxLen]; omega
    have hxs : (⟨(Tm.tx s.data.toList).toArray⟩ : ByteArray).size ≤ maxLen := by simpa [ByteArray.size] using hx
    have cR1 := fun W => Right_calls ⟨(Tm.tx s.data.toList).toArray⟩ hxs W
    have cD := fun W => Depth_calls ⟨(Tm.tx s.data.toList).toArray⟩ hxs W
    have cR2 := fun W => Right_calls ⟨(Tm.nm a).toArray⟩ (by simp [ByteArray.size, Tm.nm, Tm.be8, maxLen]) W
    simp only at cR1 cD cR2
    rw [Tm.tx_right _ l1] at cR1
    rw [Tm.tx_depth _ l1] at cD
    rw [Tm.nm_right] at cR2
    exact names_walk a b s t _ _ _ _ _ _ _ _ (names_facts a b ha hb s t) w (by omega) (by omega) cT1 cT2 (fun W => Name_calls a ha W) (fun W => Name_calls b hb W) (fun W => Number_calls a ha W) (fun W => Number_calls b hb W) cR1 cR2 cD
  · exact names_long a b s t hs ht h w

set_option maxRecDepth 100000 in
theorem names_lifted (os : Os) (started : os.Started) (H : Type) (enc : TypeId × Value → H) :
    ReturnsInHanded {} Try.checked os 8 .any (Rows.termNamesSpec.pre6 enc Try.prog Try.f8 Rows.termNamesRow.domain false) (Rows.termNamesSpec.post enc Try.prog Try.f8 false true false false) := by
  refine returnsInHanded_of_change (C := Try.checked) own started (by kernel_rfl) Try.func8
    (ChangeSpec.witness6 (enc := enc) (C := Try.checked) false ⟨#[], #[.int .u64 0, .int .u64 0, .string ⟨#[]⟩, .string ⟨#[]⟩], []⟩ 8 (by kernel_rfl) (by kernel_rfl) (by kernel_rfl) (by kernel_rfl)) ?_
  intro W base args ds gs before hval0 hW hcnd _
  have hval : ∀ (j : Nat) t v, Try.f8.params[j]? = some t → args[j]? = some v → Value.okWide Try.prog W .any base t v := hval0
  have hW' := hW
  obtain ⟨p, q, hA0, hV, rfl, hfz, hnd⟩ := hW
  have hA : DataW.TrodAll enc Try.prog W 0 (fun _ => true) true Try.f8.params.toList args.toList ds p := hA0
  rw [Try.params8] at hA hval
  obtain ⟨v0, vs0, d0, ds0, p0, q0, hargs, rfl, rfl, h0, r0⟩ := trodAll_cons hA
  obtain ⟨v1, vs1, d1, ds1, p1, q1, rfl, rfl, rfl, h1, r1⟩ := trodAll_cons r0
  obtain ⟨v2, vs2, d2, ds2, p2, q2, rfl, rfl, rfl, h2, r2⟩ := trodAll_cons r1
  obtain ⟨v3, vs3, d3, ds3, p3, q3, rfl, rfl, rfl, h3, r3⟩ := trodAll_cons r2
  obtain ⟨rfl, rfl, rfl⟩ := trodAll_nil r3
  obtain rfl : args = #[v0, v1, v2, v3] := by cases args; simp_all
  obtain ⟨rfl, rfl⟩ := trodVars_none hV
  obtain ⟨a0, rfl, rfl, rfl, w0⟩ := open_int Try.underlying22 (hval 0 22 v0 rfl rfl) h0
  obtain ⟨a1, rfl, rfl, rfl, w1⟩ := open_int Try.underlying22 (hval 1 22 v1 rfl rfl) h1
  obtain ⟨s, rfl, rfl, rfl, ws⟩ := Go.ChangeMaps.open_string Try.underlying9 (hval 2 9 v2 rfl rfl) h2
  obtain ⟨t, rfl, rfl, rfl, wt⟩ := Go.ChangeMaps.open_string Try.underlying9 (hval 3 9 v3 rfl rfl) h3
  clear hA0 hval0
  simp only [List.append_nil] at hW'
  obtain ⟨a, rfl, ha⟩ := u64_of_wf w0
  obtain ⟨b, rfl, hb⟩ := u64_of_wf w1
  refine (names_all a b ha hb s t ws wt W).mono fun e W' ⟨he, hg⟩ => ?_
  subst he
  exact ⟨_, rfl, post_law (pa := []) (pv := []) hW' (trodAll_cons_mk (shut_bool Try.underlying4 _) trodAll_mk0)
    (fun sp _ => trodAll_cons_mk (shut_int Try.underlying22 w0) (trodAll_cons_mk (shut_int Try.underlying22 w1) (trodAll_cons_mk (Go.ChangeMaps.shut_string Try.underlying9 ws) (trodAll_cons_mk (Go.ChangeMaps.shut_string Try.underlying9 wt) trodAll_mk0)))) (fun _ _ => rfl) rfl hg⟩

theorem names_over : Rows.termNamesRow.holds Try.pinned (OpenSpec.ofChange Rows.termNamesSpec) :=
  OpenClaim.holds_of_wide 8 Try.f8 rfl rfl rfl rfl rfl rfl rfl ⟨rfl, rfl, rfl, rfl, rfl⟩ rfl rfl rfl rfl rfl (by kernel_rfl) Try.func8 (by kernel_rfl)
    (of_decide_eq_true (by kernel_rfl)) (by unfold Func.isWrapper; first | (rw [if_pos (by decide +kernel)]; kernel_rfl) | (rw [if_neg (by decide +kernel)]; exact ⟨rfl, rfl⟩))
    (fun os started H enc _ => names_lifted os started H enc)

theorem names_proved : Rows.TermNamesSaid := names_over

end Go.Proofs.Ytehphobhohndaaa
