/- The law ListNumbers: for all messages and numbers it returns true. The statement ListNumbers: for every input the law returns true, and its arguments read as they did. -/
import Derived.Test.YtekididpimgghaaMsgG
import Derived.Test.YtekididpimgghaaShort
import Derived.Test.YtekididpimgghaaPickK4
import Derived.Deep.Cut
import Derived.Test.YtekididpimgghaaOpenK4
import Derived.Test.YtekididpimgghaaOpenM
section
namespace Go.Proofs.Ytekididpimgghaa.L4
open Go.ChangeShapes Go.WideShapes Go.ChangeAt Go.RowKit

theorem msg_pack_err (m : Msg) : m.pack.2 = 0 ∨ m.pack.2 = 1 ∨ m.pack.2 = 3 ∨ m.pack.2 = 4 := by
  unfold Msg.pack
  by_cases h : m.ok = true
  · rw [if_pos h]
    unfold Tm.putRow Tm.measureL
    split <;> (try split) <;> (try split) <;> simp_all
  · rw [if_neg h]
    simp

set_option maxRecDepth 100000 in
set_option maxHeartbeats 8000000 in
theorem numbers_all (m : Msg) (vm vt : Value) (ka na ea : Int) (w : World) (h : MsgA w m vm vt) (hnl : ∀ n c, vt = .slice none n c → c = 0) (hk1 : -9223372036854775808 ≤ ka ∧ ka ≤ 9223372036854775807) (hn1 : -9223372036854775808 ≤ na ∧ na ≤ 9223372036854775807) (he1 : -9223372036854775808 ≤ ea ∧ ea ≤ 9223372036854775807) :
    Calls Try.prog 11 #[.agg (msgCells m vm vt), .int .i64 ka, .int .i64 na, .int .i64 ea] w (One w (.bool true)) := by
  obtain ⟨A5, c5, rfl⟩ : ∃ A c, vm = .slice A m.mem.length c := by obtain ⟨⟨A, c, e, k⟩, f⟩ := h.mem; exact ⟨A, c, e⟩
  obtain ⟨A6, c6, rfl⟩ : ∃ A c, vt = .slice A m.terms.length c := by obtain ⟨⟨A, c, e, k⟩, f⟩ := h.terms; exact ⟨A, c, e⟩
  have HSh := Lib.hid shown_calls
  have HSa := Lib.hid (fun (V : World) (hV : Below w.heap.size w V) => short_calls m _ _ V (h.below hV))
  have HPa := Lib.hid (fun (V : World) (hV : Below w.heap.size w V) => lpack_calls m _ _ V (h.below hV) hnl)
  have HPk := Lib.hid (fun V => pick_calls ka 21 hk1.1 hk1.2 (by omega) (by omega) V)
  have HPn := Lib.hid (fun V => pick_calls na 1000 hn1.1 hn1.2 (by omega) (by omega) V)
  have HPe := Lib.hid (fun V => pick_calls ea 1000 he1.1 he1.2 (by omega) (by omega) V)
  have hk2 := Tm.pickN_lt ka 21 (by omega)
  have hn2 := Tm.pickN_lt na 1000 (by omega)
  have he2 := Tm.pickN_lt ea 1000 (by omega)
  generalize Tm.pickN ka 21 = k at *
  generalize Tm.pickN na 1000 = n at *
  generalize Tm.pickN ea 1000 = ep at *
  have HPb : Hid (∀ (V : World), Below w.heap.size w V → Calls Try.prog 36 #[.agg #[.int .i64 k, .int .i64 ep, .int .i64 m.c1, .int .i64 m.e2, .int .i64 m.c2, .int .i64 n, .slice A5 m.mem.length c5, .slice A6 m.terms.length c6]] V (Pair2 V (m.with3 k n ep).pack)) := fun V hV => lpack_calls (m.with3 k n ep) _ _ V ⟨(h.below hV).mem, (h.below hV).terms⟩ hnl
  have HErr := Lib.hid (msg_pack_err m)
  have HWith := Lib.hid (fun t (ht : m.pack = (t, 0)) => Msg.pack_with ht (k := k) (n := n) (e := ep) (by omega) (by omega) (by omega))
  have HInj := Lib.hid (fun s t => @Msg.pack_inj m (m.with3 k n ep) s t)
  have HSay := Lib.hid (fun t => @Msg.pack_says (m.with3 k n ep) t)
  have hbx := boxed_new w m (.slice A5 m.mem.length c5) (.slice A6 m.terms.length c6) 57
  unfold msgCells at hbx HSa HPa ⊢
  obtain ⟨W0, hW0⟩ : ∃ W0, w.alloc (.cells #[.int .i64 m.kind, .int .i64 m.e1, .int .i64 m.c1, .int .i64 m.e2, .int .i64 m.c2, .int .i64 m.num, .slice A5 m.mem.length c5, .slice A6 m.terms.length c6] 57) = W0 := ⟨_, rfl⟩
  have hs0 : W0.heap.size = w.heap.size + 1 := by rw [← hW0]; simp
  have hB0 : Below w.heap.size w W0 := by rw [← hW0]; exact (Below.refl _ w).alloc (Nat.le_refl _) _
  rw [hW0] at hbx
  have HTwo : Hid (∀ V, Below W0.heap.size W0 V → Boxed V w.heap.size m (.slice A5 m.mem.length c5) (.slice A6 m.terms.length c6)) := fun V hV => hbx.below hV (by omega)
  have HW : Hid (∀ V, Below W0.heap.size W0 V → Below w.heap.size w V) := fun V hV => hB0.trans (hV.mono (by omega))
  obtain ⟨⟨sa, ra⟩, hpa⟩ : ∃ r, m.pack = r := ⟨_, rfl⟩
  obtain ⟨⟨sb, rb⟩, hpb⟩ : ∃ r, (m.with3 k n ep).pack = r := ⟨_, rfl⟩
  rw [hpa] at HPa HErr HWith HInj
  rw [hpb] at HPb HWith HInj HSay
  have HS0 := Lib.hid hs0
  clear h hnl hk1 hn1 he1 hbx hB0 hpa hpb hs0
  go_enter Try.func11, Try.ntmps11
  go_wp2_with fail
  refine (HSh.out _).mono ?_
  rintro e u1 ⟨rfl, b1⟩
  have HB1 := Lib.hid b1
  obtain ⟨y0, y1, y2, y3, y4, y5, y6, y7⟩ := HTwo.out u1 b1
  clear b1
  go_wp2_with fail
  refine (HSa.out _ (HW.out _ HB1.out)).mono ?_
  rintro e u2 ⟨s1, rfl, hs1', b2⟩
  have HB2 := Lib.hid (HB1.out.trans (b2.mono HB1.out.size))
  clear b2 y0 y1 y2 y3 y4 y5 y6 y7 HB1 hs1'
  cases s1 with
  | false =>
    go_wp2
    go_ret
    exact ⟨rfl, HW.out _ HB2.out⟩
  | true =>
  obtain ⟨y0, y1, y2, y3, y4, y5, y6, y7⟩ := HTwo.out u2 HB2.out
  go_wp2_with fail
  refine (HPa.out _ (HW.out _ HB2.out)).mono ?_
  rintro e u3 ⟨rfl, b3⟩
  have HB3 := Lib.hid (HB2.out.trans (b3.mono HB2.out.size))
  clear b3 y0 y1 y2 y3 y4 y5 y6 y7 HB2
  obtain ⟨y0, y1, y2, y3, y4, y5, y6, y7⟩ := HTwo.out u3 HB3.out
  go_wp2_with fail
  refine (HPk.out _).mono ?_
  rintro e u ⟨rfl, rfl⟩
  go_wp2_with fail
  refine (HPn.out _).mono ?_
  rintro e u ⟨rfl, rfl⟩
  go_wp2_with fail
  refine (HPe.out _).mono ?_
  rintro e u ⟨rfl, rfl⟩
  obtain ⟨W4, hW4⟩ : ∃ W4, u3.alloc (.cells #[.int .i64 k, .int .i64 ep, .int .i64 m.c1, .int .i64 m.e2, .int .i64 m.c2, .int .i64 n, .slice A5 m.mem.length c5, .slice A6 m.terms.length c6] 57) = W4 := ⟨_, rfl⟩
  have hbo := boxed_new u3 (m.with3 k n ep) (.slice A5 m.mem.length c5) (.slice A6 m.terms.length c6) 57
  have hbo' : Boxed W4 u3.heap.size (m.with3 k n ep) (.slice A5 m.mem.length c5) (.slice A6 m.terms.length c6) := by rw [← hW4]; exact hbo
  have hs4 : W4.heap.size = u3.heap.size + 1 := by rw [← hW4]; simp
  have hB34 : Below u3.heap.size u3 W4 := by rw [← hW4]; exact (Below.refl _ u3).alloc (Nat.le_refl _) _
  have hB4 : Below W0.heap.size W0 W4 := HB3.out.trans (hB34.mono HB3.out.size)
  have HBo : Hid (∀ V, Below W4.heap.size W4 V → V.cell? ⟨u3.heap.size, 0, none⟩ = some (.int .i64 (k : Int)) ∧ V.cell? ⟨u3.heap.size, 1, none⟩ = some (.int .i64 (ep : Int)) ∧ V.cell? ⟨u3.heap.size, 2, none⟩ = some (.int .i64 m.c1) ∧ V.cell? ⟨u3.heap.size, 3, none⟩ = some (.int .i64 m.e2) ∧ V.cell? ⟨u3.heap.size, 4, none⟩ = some (.int .i64 m.c2) ∧ V.cell? ⟨u3.heap.size, 5, none⟩ = some (.int .i64 (n : Int)) ∧ V.cell? ⟨u3.heap.size, 6, none⟩ = some (.slice A5 m.mem.length c5) ∧ V.cell? ⟨u3.heap.size, 7, none⟩ = some (.slice A6 m.terms.length c6)) := fun V hV => hbo'.below hV (by omega)
  have HB4 := Lib.hid hB4
  have HSz3 := Lib.hid (And.intro hs4 HB3.out.size)
  obtain ⟨x0, x1, x2, x3, x4, x5, x6, x7⟩ := HBo.out W4 (Below.refl _ _)
  clear hbo hbo' hB34 hB4 hs4 HB3
  go_wp2_with fail
  refine (HPb.out _ (HW.out _ HB4.out)).mono ?_
  rintro e u5 ⟨rfl, b5⟩
  have HB5 := Lib.hid (And.intro (HB4.out.trans (b5.mono HB4.out.size)) b5)
  clear b5 x0 x1 x2 x3 x4 x5 x6 x7 y0 y1 y2 y3 y4 y5 y6 y7 hW4 HPk HPn HPe HPa HPb HSa HSh HB4 hW0
  by_cases hra : ra = 0
  case neg =>
    have hF := Lib.hid (HW.out _ HB5.out.1)
    have h3 : ra = 1 ∨ ra = 3 ∨ ra = 4 := by
      rcases HErr.out with h | h
      · exact absurd h hra
      · exact h
    clear HErr HWith HInj HSay HTwo HBo HB5 HW hra
    rcases h3 with rfl | rfl | rfl
    · go_wp2
      go_ret
      exact ⟨rfl, hF.out⟩
    · go_wp2
      go_ret
      exact ⟨rfl, hF.out⟩
    · go_wp2
      go_ret
      exact ⟨rfl, hF.out⟩
  subst hra
  obtain ⟨u, hu, hlen⟩ := HWith.out sa rfl
  cases hu
  have HIff : Hid (sa = sb ↔ m.kind = k ∧ m.num = n ∧ m.e1 = ep) := (HInj.out sa sb rfl rfl).trans Msg.with3_eq
  have HSays := Lib.hid (HSay.out sb rfl)
  have hsl : sb.length ≤ maxLen := by
    have := (Tm.putRow_ok (Tm.put_take HSays.out.choose_spec.1)).2.2.2.1
    have e := (Tm.putRow_ok (Tm.put_take HSays.out.choose_spec.1)).1
    rw [e]
    unfold maxLen
    omega
  have HU := Lib.hid (unpack_calls ⟨sb.toArray⟩ (by rw [size_list]; exact hsl) u5)
  clear HErr HWith HInj HSay hsl
  have g0 : ((sa.length : Int) == (sb.length : Int)) = true := by rw [beq_iff_eq]; omega
  clear hlen
  go_wp2_with fail
  refine HU.out.mono ?_
  rintro e u6 (⟨m', vm', vt', hsay, rfl, hMA, _, b6⟩ | ⟨rfl, hno, b6⟩)
  case inr => exact absurd ⟨_, HSays.out⟩ hno
  obtain rfl : m' = m.with3 k n ep := says_one hsay HSays.out
  obtain ⟨C5, g5, rfl⟩ : ∃ A c, vm' = .slice A m.mem.length c := by obtain ⟨⟨A, c, e, k⟩, f⟩ := hMA.mem; exact ⟨A, c, e⟩
  obtain ⟨C6, g6, rfl⟩ : ∃ A c, vt' = .slice A m.terms.length c := by obtain ⟨⟨A, c, e, k⟩, f⟩ := hMA.terms; exact ⟨A, c, e⟩
  have hbc := boxed_new u6 (m.with3 k n ep) (.slice C5 m.mem.length g5) (.slice C6 m.terms.length g6) 57
  obtain ⟨W7, hW7⟩ : ∃ W7, u6.alloc (.cells #[.int .i64 (k : Int), .int .i64 (ep : Int), .int .i64 m.c1, .int .i64 m.e2, .int .i64 m.c2, .int .i64 (n : Int), .slice C5 m.mem.length g5, .slice C6 m.terms.length g6] 57) = W7 := ⟨_, rfl⟩
  have hbc' : W7.cell? ⟨u6.heap.size, 0, none⟩ = some (.int .i64 (k : Int)) ∧ W7.cell? ⟨u6.heap.size, 1, none⟩ = some (.int .i64 (ep : Int)) ∧ W7.cell? ⟨u6.heap.size, 2, none⟩ = some (.int .i64 m.c1) ∧ W7.cell? ⟨u6.heap.size, 3, none⟩ = some (.int .i64 m.e2) ∧ W7.cell? ⟨u6.heap.size, 4, none⟩ = some (.int .i64 m.c2) ∧ W7.cell? ⟨u6.heap.size, 5, none⟩ = some (.int .i64 (n : Int)) ∧ W7.cell? ⟨u6.heap.size, 6, none⟩ = some (.slice C5 m.mem.length g5) ∧ W7.cell? ⟨u6.heap.size, 7, none⟩ = some (.slice C6 m.terms.length g6) := by rw [← hW7]; exact hbc
  have hB67 : Below u6.heap.size u6 W7 := by rw [← hW7]; exact (Below.refl _ u6).alloc (Nat.le_refl _) _
  have hB47 : Below W4.heap.size W4 W7 := HB5.out.2.trans ((b6.trans (hB67.mono b6.size)).mono HB5.out.2.size)
  have hB07 : Below W0.heap.size W0 W7 := HB5.out.1.trans ((b6.trans (hB67.mono b6.size)).mono HB5.out.1.size)
  have HF := Lib.hid (HW.out _ hB07)
  obtain ⟨y0, y1, y2, y3, y4, y5, y6, y7⟩ := HTwo.out W7 hB07
  obtain ⟨x0, x1, x2, x3, x4, x5, x6, x7⟩ := HBo.out W7 hB47
  obtain ⟨z0, z1, z2, z3, z4, z5, z6, z7⟩ := hbc'
  simp only [msgCells, Msg.with3]
  clear hbc hB67 hB47 hB07 hsay hMA b6 HU HSays HTwo HBo HB5 HW HSz3 HS0
  generalize m.terms.length = lt at *
  generalize m.mem.length = lm at *
  by_cases q1 : m.kind = k
  case neg =>
    have g1 : (m.kind == (k : Int)) = false := by rw [beq_eq_false_iff_ne]; exact q1
    have g2 : (sa == sb) = false := by rw [beq_eq_false_iff_ne]; exact fun h => q1 (HIff.out.1 h).1
    clear HIff q1
    go_upto_region 14 with (fail)
    simp only [List.append_eq, List.cons_append, List.nil_append]
    go_wp2
    go_ret
    exact ⟨rfl, HF.out⟩
  by_cases q2 : m.num = n
  case neg =>
    have g1 : (m.kind == (k : Int)) = true := by rw [beq_iff_eq]; exact q1
    have g3 : (m.num == (n : Int)) = false := by rw [beq_eq_false_iff_ne]; exact q2
    have g2 : (sa == sb) = false := by rw [beq_eq_false_iff_ne]; exact fun h => q2 (HIff.out.1 h).2.1
    clear HIff q1 q2
    go_upto_region 14 with (fail)
    simp only [List.append_eq, List.cons_append, List.nil_append]
    go_wp2
    go_ret
    exact ⟨rfl, HF.out⟩
  by_cases q3 : m.e1 = ep
  case neg =>
    have g1 : (m.kind == (k : Int)) = true := by rw [beq_iff_eq]; exact q1
    have g3 : (m.num == (n : Int)) = true := by rw [beq_iff_eq]; exact q2
    have g4 : (m.e1 == (ep : Int)) = false := by rw [beq_eq_false_iff_ne]; exact q3
    have g2 : (sa == sb) = false := by rw [beq_eq_false_iff_ne]; exact fun h => q3 (HIff.out.1 h).2.2
    clear HIff q1 q2 q3
    go_upto_region 14 with (fail)
    simp only [List.append_eq, List.cons_append, List.nil_append]
    go_wp2
    go_ret
    exact ⟨rfl, HF.out⟩
  · have g1 : (m.kind == (k : Int)) = true := by rw [beq_iff_eq]; exact q1
    have g3 : (m.num == (n : Int)) = true := by rw [beq_iff_eq]; exact q2
    have g4 : (m.e1 == (ep : Int)) = true := by rw [beq_iff_eq]; exact q3
    have g2 : (sa == sb) = true := by rw [beq_iff_eq]; exact HIff.out.2 ⟨q1, q2, q3⟩
    clear HIff q1 q2 q3
    go_upto_region 14 with (fail)
    simp only [List.append_eq, List.cons_append, List.nil_append]
    go_wp2
    go_ret
    exact ⟨rfl, HF.out⟩
end Go.Proofs.Ytekididpimgghaa.L4
end

section
namespace Go.Proofs.Ytekididpimgghaa
open Go.ChangeShapes Go.WideShapes Go.ChangeAt Go.RowKit

set_option maxRecDepth 100000 in
theorem numbers4_lifted (os : Os) (started : os.Started) (H : Type) (enc : TypeId × Value → H) :
    ReturnsInHanded {} Try.checked os 11 .any (Rows.listNumbersSpec.pre6 enc Try.prog Try.f11 Rows.listNumbersRow.domain false) (Rows.listNumbersSpec.post enc Try.prog Try.f11 false true false false) := by
  refine returnsInHanded_of_change (C := Try.checked) own started (by kernel_rfl) Try.func11
    (ChangeSpec.witness6 (enc := enc) (C := Try.checked) false ⟨#[], #[.agg #[.int .i64 0, .int .i64 0, .int .i64 0, .int .i64 0, .int .i64 0, .int .i64 0, .slice none 0 0, .slice none 0 0], .int .i64 0, .int .i64 0, .int .i64 0], []⟩ 8 (by kernel_rfl) (by kernel_rfl) (by kernel_rfl) (by kernel_rfl)) ?_
  intro W base args ds gs before hval0 hW hcnd _
  have hval : ∀ (j : Nat) t v, Try.f11.params[j]? = some t → args[j]? = some v → Value.okWide Try.prog W .any base t v := hval0
  have hW' := hW
  obtain ⟨p, q, hA0, hV, rfl, hfz, hnd⟩ := hW
  have hA : DataW.TrodAll enc Try.prog W 0 (fun _ => true) true Try.f11.params.toList args.toList ds p := hA0
  rw [Try.params11] at hA hval
  obtain ⟨v0, vs0, d0, ds0, p0, q0, hargs, rfl, rfl, h0, r0⟩ := trodAll_cons hA
  obtain ⟨v1, vs1, d1, ds1, p1, q1, rfl, rfl, rfl, h1, r1⟩ := trodAll_cons r0
  obtain ⟨v2, vs2, d2, ds2, p2, q2, rfl, rfl, rfl, h2, r2⟩ := trodAll_cons r1
  obtain ⟨v3, vs3, d3, ds3, p3, q3, rfl, rfl, rfl, h3, r3⟩ := trodAll_cons r2
  obtain ⟨rfl, rfl, rfl⟩ := trodAll_nil r3
  obtain rfl : args = #[v0, v1, v2, v3] := by cases args; simp_all
  obtain ⟨rfl, rfl⟩ := trodVars_none hV
  have h0k := h0
  obtain ⟨m0, vm0, vt0, rfl, hM0, hn0⟩ := open_msg (hval 0 57 v0 rfl rfl) h0
  obtain ⟨a1, rfl, rfl, rfl, w1⟩ := open_int Try.underlying3 (hval 1 3 v1 rfl rfl) h1
  obtain ⟨a2, rfl, rfl, rfl, w2⟩ := open_int Try.underlying3 (hval 2 3 v2 rfl rfl) h2
  obtain ⟨a3, rfl, rfl, rfl, w3⟩ := open_int Try.underlying3 (hval 3 3 v3 rfl rfl) h3
  clear hA0 hval0
  simp only [List.append_nil] at hW'
  have hlt : ∀ x ∈ p0, x.block < W.heap.size := fun x hx => by simpa using hW'.lt x (by simpa using hx)
  refine (L4.numbers_all m0 vm0 vt0 a1 a2 a3 W hM0 hn0 (i64_of_wf w1) (i64_of_wf w2) (i64_of_wf w3)).mono fun e W' ⟨he, hg⟩ => ?_
  subst he
  exact ⟨_, rfl, L4.post_law_at (pv := []) hW' (trodAll_cons_mk (shut_bool Try.underlying4 _) trodAll_mk0) (trodAll_cons_mk (Below.trod L4.laid_out (by kernel_rfl) (of_decide_eq_true (by kernel_rfl)) h0k hg hlt) (trodAll_cons_mk (shut_int Try.underlying3 w1) (trodAll_cons_mk (shut_int Try.underlying3 w2) (trodAll_cons_mk (shut_int Try.underlying3 w3) trodAll_mk0)))) rfl (by simp) hg⟩

theorem numbers4_over : Rows.listNumbersRow.holds Try.pinned (OpenSpec.ofChange Rows.listNumbersSpec) :=
  OpenClaim.holds_of_wide 11 Try.f11 rfl rfl rfl rfl rfl rfl rfl ⟨rfl, rfl, rfl, rfl, rfl⟩ rfl rfl rfl rfl rfl (by kernel_rfl) Try.func11 (by kernel_rfl)
    (of_decide_eq_true (by kernel_rfl)) (by unfold Func.isWrapper; first | (rw [if_pos (by decide +kernel)]; kernel_rfl) | (rw [if_neg (by decide +kernel)]; exact ⟨rfl, rfl⟩))
    (fun os started H enc _ => numbers4_lifted os started H enc)

theorem numbers4_proved : Rows.ListNumbersSaid := numbers4_over

end Go.Proofs.Ytekididpimgghaa
end
