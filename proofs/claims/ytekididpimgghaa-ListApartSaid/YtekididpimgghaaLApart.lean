/- The law ListApart: for all messages it returns true. -/
import Derived.Test.YtekididpimgghaaPack
import Derived.Test.YtekididpimgghaaAsMsg
import Derived.Test.YtekididpimgghaaSameMsg
import Derived.Deep.RegionHeld3
import Derived.Test.YtekididpimgghaaLater
namespace Go.Proofs.Ytekididpimgghaa.L4
open Go.ChangeShapes Go.WideShapes Go.ChangeAt Go.RowKit

theorem own_rowA {W : World} {B : Nat} {v : Value} {zs : List (List UInt8)} (h : W.ownsRow B 9 1 v zs.length (strs zs)) (hs : ∀ z ∈ zs, z.length ≤ maxLen) (hf : zs.length ≤ maxLen) : RowA W v zs := by
  rcases h.2 with ⟨rfl, h0⟩ | ⟨g, cap, cur, rfl, h1, h2, h3, h4, h5, h6⟩
  · obtain rfl : zs = [] := List.length_eq_zero_iff.1 h0
    exact ⟨⟨none, 0, rfl, fun j x hx => by simp at hx⟩, hs, hf⟩
  · refine ⟨⟨_, cap, rfl, fun j x hx => ⟨⟨g, 0, none⟩, rfl, (Array.getElem?_eq_some_iff.1 h2).1, id, ?_⟩⟩, hs, hf⟩
    exact h.cells (g := g) rfl j _ (by unfold strs; rw [List.getElem?_map, hx]; rfl)
/-- Both boxed messages. -/
def Two (V : World) (b0 : Nat) (a b : Msg) (vm vt um ut : Value) : Prop := Boxed V b0 a vm vt ∧ Boxed V (b0 + 1) b um ut

set_option maxRecDepth 100000 in
set_option maxHeartbeats 8000000 in
theorem apart_all (a b : Msg) (vm vt um ut : Value) (w : World) (ha : MsgA w a vm vt) (hb : MsgA w b um ut) (hna : ∀ n c, vt = .slice none n c → c = 0) (hnb : ∀ n c, ut = .slice none n c → c = 0) :
    Calls Try.prog 9 #[.agg (msgCells a vm vt), .agg (msgCells b um ut)] w (One w (.bool true)) := by
  obtain ⟨A5, c5, rfl⟩ : ∃ A c, vm = .slice A a.mem.length c := by obtain ⟨⟨A, c, e, k⟩, f⟩ := ha.mem; exact ⟨A, c, e⟩
  obtain ⟨A6, c6, rfl⟩ : ∃ A c, vt = .slice A a.terms.length c := by obtain ⟨⟨A, c, e, k⟩, f⟩ := ha.terms; exact ⟨A, c, e⟩
  obtain ⟨B5, d5, rfl⟩ : ∃ A c, um = .slice A b.mem.length c := by obtain ⟨⟨A, c, e, k⟩, f⟩ := hb.mem; exact ⟨A, c, e⟩
  obtain ⟨B6, d6, rfl⟩ : ∃ A c, ut = .slice A b.terms.length c := by obtain ⟨⟨A, c, e, k⟩, f⟩ := hb.terms; exact ⟨A, c, e⟩
  have hbx := boxed_new w a (.slice A5 a.mem.length c5) (.slice A6 a.terms.length c6) 57
  have HSa := Lib.hid (fun (V : World) (hV : Below w.heap.size w V) => short_calls a _ _ V (ha.below hV))
  have HSb := Lib.hid (fun (V : World) (hV : Below w.heap.size w V) => short_calls b _ _ V (hb.below hV))
  have HPa := Lib.hid (fun (V : World) (hV : Below w.heap.size w V) => lpack_calls a _ _ V (ha.below hV) hna)
  have HPb := Lib.hid (fun (V : World) (hV : Below w.heap.size w V) => lpack_calls b _ _ V (hb.below hV) hnb)
  have HAs := Lib.hid (fun (h200 : b.terms.length < 200) (V : World) (hV : Below w.heap.size w V) => asMsg_calls b _ _ V (hb.below hV) h200)
  have HSm : Hid (∀ (V W : World) (vt : Value), Below w.heap.size w V → V.ownsRow W.heap.size 9 1 vt b.terms.length (strs b.terms) → Calls Try.prog 42 #[.agg (msgCells a (.slice A5 a.mem.length c5) (.slice A6 a.terms.length c6)), .agg (msgCells b (.slice B5 b.mem.length d5) vt)] V (SameOut V a b)) := fun V W vt hV hown =>
    sameMsg_calls a b _ _ _ _ V (ha.below hV) ⟨hb.mem.below hV, own_rowA hown hb.terms.short hb.terms.few⟩
  have HSh := Lib.hid shown_calls
  unfold msgCells at hbx HSa HSb HPa HPb HAs HSm ⊢
  obtain ⟨W0, hW0⟩ : ∃ W0, w.alloc (.cells #[.int .i64 a.kind, .int .i64 a.e1, .int .i64 a.c1, .int .i64 a.e2, .int .i64 a.c2, .int .i64 a.num, .slice A5 a.mem.length c5, .slice A6 a.terms.length c6] 57) = W0 := ⟨_, rfl⟩
  have hs0 : W0.heap.size = w.heap.size + 1 := by rw [← hW0]; simp
  have hB0 : Below w.heap.size w W0 := by rw [← hW0]; exact (Below.refl _ w).alloc (Nat.le_refl _) _
  rw [hW0] at hbx
  have hby := boxed_new W0 b (.slice B5 b.mem.length d5) (.slice B6 b.terms.length d6) 57
  unfold msgCells at hby
  obtain ⟨W1, hW1⟩ : ∃ W1, W0.alloc (.cells #[.int .i64 b.kind, .int .i64 b.e1, .int .i64 b.c1, .int .i64 b.e2, .int .i64 b.c2, .int .i64 b.num, .slice B5 b.mem.length d5, .slice B6 b.terms.length d6] 57) = W1 := ⟨_, rfl⟩
  rw [hW1, hs0] at hby
  have hs1 : W1.heap.size = w.heap.size + 2 := by rw [← hW1]; simp [hs0]
  have hB1 : Below w.heap.size w W1 := by rw [← hW1]; exact hB0.alloc (by omega) _
  have hbz : Boxed W1 w.heap.size a (.slice A5 a.mem.length c5) (.slice A6 a.terms.length c6) := by
    rw [← hW1]
    exact Boxed.below hbx ((Below.refl W0.heap.size W0).alloc (Nat.le_refl _) _) (by omega)
  have HTwo : Hid (∀ V, Below W1.heap.size W1 V → Two V w.heap.size a b (.slice A5 a.mem.length c5) (.slice A6 a.terms.length c6) (.slice B5 b.mem.length d5) (.slice B6 b.terms.length d6)) := fun V hV => ⟨hbz.below hV (by omega), hby.below hV (by omega)⟩
  have HW : Hid (∀ V, Below W1.heap.size W1 V → Below w.heap.size w V) := fun V hV => hB1.trans (hV.mono (by omega))
  have HPk := Lib.hid (fun s t => @Msg.pack_inj a b s t)
  obtain ⟨⟨sa, ea⟩, hpa⟩ : ∃ r, a.pack = r := ⟨_, rfl⟩
  obtain ⟨⟨sb, eb⟩, hpb⟩ : ∃ r, b.pack = r := ⟨_, rfl⟩
  rw [hpa] at HPa HPk
  rw [hpb] at HPb HPk
  clear ha hb hna hnb hbx hby hbz hB0 hB1 hpa hpb
  generalize a.mem.length = la at *
  generalize a.terms.length = na at *
  generalize b.mem.length = lb at *
  go_enter Try.func9, Try.ntmps9
  go_wp2_with fail
  refine (HSh.out _).mono ?_
  rintro e u1 ⟨rfl, b1⟩
  have HB1 := Lib.hid b1
  obtain ⟨⟨y0, y1, y2, y3, y4, y5, y6, y7⟩, z0, z1, z2, z3, z4, z5, z6, z7⟩ := HTwo.out u1 b1
  clear b1
  go_wp2_with fail
  refine (HSa.out _ (HW.out _ HB1.out)).mono ?_
  rintro e u2 ⟨s1, rfl, hs1', b2⟩
  have HB2 := Lib.hid (HB1.out.trans (b2.mono HB1.out.size))
  clear b2 y0 y1 y2 y3 y4 y5 y6 y7 z0 z1 z2 z3 z4 z5 z6 z7 HB1
  obtain ⟨⟨y0, y1, y2, y3, y4, y5, y6, y7⟩, z0, z1, z2, z3, z4, z5, z6, z7⟩ := HTwo.out u2 HB2.out
  go_wp2_with fail
  refine (HSb.out _ (HW.out _ HB2.out)).mono ?_
  rintro e u3 ⟨s2, rfl, hs2', b3⟩
  have HB3 := Lib.hid (HB2.out.trans (b3.mono HB2.out.size))
  have HS2 := Lib.hid hs2'
  clear b3 y0 y1 y2 y3 y4 y5 y6 y7 z0 z1 z2 z3 z4 z5 z6 z7 HB2 hs1' hs2'
  cases s1 with
  | false =>
    go_wp2
    go_ret
    exact ⟨rfl, HW.out _ HB3.out⟩
  | true =>
  cases s2 with
  | false =>
    go_wp2
    go_ret
    exact ⟨rfl, HW.out _ HB3.out⟩
  | true =>
  have h200 := (HS2.out rfl).2
  have HAs' := Lib.hid (HAs.out h200)
  clear h200 HAs HS2
  obtain ⟨⟨y0, y1, y2, y3, y4, y5, y6, y7⟩, z0, z1, z2, z3, z4, z5, z6, z7⟩ := HTwo.out u3 HB3.out
  go_wp2_with fail
  refine (HPa.out _ (HW.out _ HB3.out)).mono ?_
  rintro e u4 ⟨rfl, b4⟩
  have HB4 := Lib.hid (HB3.out.trans (b4.mono HB3.out.size))
  clear b4 y0 y1 y2 y3 y4 y5 y6 y7 z0 z1 z2 z3 z4 z5 z6 z7 HB3
  obtain ⟨⟨y0, y1, y2, y3, y4, y5, y6, y7⟩, z0, z1, z2, z3, z4, z5, z6, z7⟩ := HTwo.out u4 HB4.out
  go_wp2_with fail
  refine (HPb.out _ (HW.out _ HB4.out)).mono ?_
  rintro e u5 ⟨rfl, b5⟩
  have HB5 := Lib.hid (HB4.out.trans (b5.mono HB4.out.size))
  clear b5 y0 y1 y2 y3 y4 y5 y6 y7 z0 z1 z2 z3 z4 z5 z6 z7 HB4
  obtain ⟨⟨y0, y1, y2, y3, y4, y5, y6, y7⟩, z0, z1, z2, z3, z4, z5, z6, z7⟩ := HTwo.out u5 HB5.out
  have HD : Hid (One w (.bool true) (.returned (.bool true)) u5.drew) := ⟨rfl, HW.out _ ⟨HB5.out.os, HB5.out.tape, HB5.out.output, HB5.out.size, HB5.out.block⟩⟩
  by_cases q1 : ea = 0
  case neg =>
    have g1 : ((ea : Int) != 0) = true := by rw [bne_iff_ne]; omega
    clear HAs' HSm HTwo HPk HD y0 y1 y2 y3 y4 y5 y6 y7 z0 z1 z2 z3 z4 z5 z6 z7
    go_wp2
    refine wp_region_later (by kernel_rfl) (by kernel_rfl) ?_
    repeat
      (refine Quietly.step (fun K hK => ?_)
       go_simp
       refine hK _ ?_
       clear hK K)
    refine Quietly.none ?_
    rintro w2 ⟨⟨V, b2⟩, rfl⟩
    have HF := Lib.hid (HW.out _ (HB5.out.trans (b2.mono HB5.out.size)))
    clear b2
    go_wp2
    go_ret
    exact ⟨rfl, HF.out⟩
  subst q1
  by_cases q2 : eb = 0
  case neg =>
    have g2 : ((eb : Int) != 0) = true := by rw [bne_iff_ne]; omega
    clear HAs' HSm HTwo HPk HD y0 y1 y2 y3 y4 y5 y6 y7 z0 z1 z2 z3 z4 z5 z6 z7
    go_wp2
    refine wp_region_later (by kernel_rfl) (by kernel_rfl) ?_
    repeat
      (refine Quietly.step (fun K hK => ?_)
       go_simp
       refine hK _ ?_
       clear hK K)
    refine Quietly.none ?_
    rintro w2 ⟨⟨V, b2⟩, rfl⟩
    have HF := Lib.hid (HW.out _ (HB5.out.trans (b2.mono HB5.out.size)))
    clear b2
    go_wp2
    go_ret
    exact ⟨rfl, HF.out⟩
  subst q2
  have HIff : Hid (sa = sb ↔ a = b) := HPk.out sa sb rfl rfl
  have HAs2 : Hid (Calls Try.prog 35 #[.agg #[.int .i64 b.kind, .int .i64 b.e1, .int .i64 b.c1, .int .i64 b.e2, .int .i64 b.c2, .int .i64 b.num, .slice B5 lb d5, .slice B6 b.terms.length d6]] u5.drew (fun e w' => ∃ v, e = .returned (.agg #[.int .i64 b.kind, .int .i64 b.e1, .int .i64 b.c1, .int .i64 b.e2, .int .i64 b.c2, .int .i64 b.num, .slice B5 lb d5, v]) ∧ (w'.cell? ⟨w.heap.size, 0, none⟩ = some (.int .i64 a.kind) ∧ w'.cell? ⟨w.heap.size, 1, none⟩ = some (.int .i64 a.e1) ∧ w'.cell? ⟨w.heap.size, 2, none⟩ = some (.int .i64 a.c1) ∧ w'.cell? ⟨w.heap.size, 3, none⟩ = some (.int .i64 a.e2) ∧ w'.cell? ⟨w.heap.size, 4, none⟩ = some (.int .i64 a.c2) ∧ w'.cell? ⟨w.heap.size, 5, none⟩ = some (.int .i64 a.num) ∧ w'.cell? ⟨w.heap.size, 6, none⟩ = some (.slice A5 la c5) ∧ w'.cell? ⟨w.heap.size, 7, none⟩ = some (.slice A6 na c6) ∧ w'.cell? ⟨w.heap.size + 1, 0, none⟩ = some (.int .i64 b.kind) ∧ w'.cell? ⟨w.heap.size + 1, 1, none⟩ = some (.int .i64 b.e1) ∧ w'.cell? ⟨w.heap.size + 1, 2, none⟩ = some (.int .i64 b.c1) ∧ w'.cell? ⟨w.heap.size + 1, 3, none⟩ = some (.int .i64 b.e2) ∧ w'.cell? ⟨w.heap.size + 1, 4, none⟩ = some (.int .i64 b.c2) ∧ w'.cell? ⟨w.heap.size + 1, 5, none⟩ = some (.int .i64 b.num) ∧ w'.cell? ⟨w.heap.size + 1, 6, none⟩ = some (.slice B5 lb d5) ∧ w'.cell? ⟨w.heap.size + 1, 7, none⟩ = some (.slice B6 b.terms.length d6)) ∧ Hid (Below W1.heap.size W1 w' ∧ w'.ownsRow u5.drew.heap.size 9 1 v b.terms.length (strs b.terms)))) := by
    have hd : Below W1.heap.size W1 u5.drew := ⟨HB5.out.os, HB5.out.tape, HB5.out.output, HB5.out.size, HB5.out.block⟩
    refine (HAs'.out _ (HW.out _ hd)).mono ?_
    rintro e w' ⟨v, rfl, hown, hb'⟩
    have hw' := hd.trans (hb'.mono hd.size)
    obtain ⟨⟨k0, k1, k2, k3, k4, k5, k6, k7⟩, l0, l1, l2, l3, l4, l5, l6, l7⟩ := HTwo.out w' hw'
    exact ⟨v, rfl, ⟨k0, k1, k2, k3, k4, k5, k6, k7, l0, l1, l2, l3, l4, l5, l6, l7⟩, ⟨hw', hown⟩⟩
  have HSm2 : Hid (∀ (V : World) (v : Value), Hid (Below W1.heap.size W1 V ∧ V.ownsRow u5.drew.heap.size 9 1 v b.terms.length (strs b.terms)) → Calls Try.prog 42 #[.agg #[.int .i64 a.kind, .int .i64 a.e1, .int .i64 a.c1, .int .i64 a.e2, .int .i64 a.c2, .int .i64 a.num, .slice A5 la c5, .slice A6 na c6], .agg #[.int .i64 b.kind, .int .i64 b.e1, .int .i64 b.c1, .int .i64 b.e2, .int .i64 b.c2, .int .i64 b.num, .slice B5 lb d5, v]] V (fun e w' => ∃ r, e = .returned (.bool r) ∧ (w'.cell? ⟨w.heap.size, 0, none⟩ = some (.int .i64 a.kind) ∧ w'.cell? ⟨w.heap.size, 1, none⟩ = some (.int .i64 a.e1) ∧ w'.cell? ⟨w.heap.size, 2, none⟩ = some (.int .i64 a.c1) ∧ w'.cell? ⟨w.heap.size, 3, none⟩ = some (.int .i64 a.e2) ∧ w'.cell? ⟨w.heap.size, 4, none⟩ = some (.int .i64 a.c2) ∧ w'.cell? ⟨w.heap.size, 5, none⟩ = some (.int .i64 a.num) ∧ w'.cell? ⟨w.heap.size, 6, none⟩ = some (.slice A5 la c5) ∧ w'.cell? ⟨w.heap.size, 7, none⟩ = some (.slice A6 na c6) ∧ w'.cell? ⟨w.heap.size + 1, 0, none⟩ = some (.int .i64 b.kind) ∧ w'.cell? ⟨w.heap.size + 1, 1, none⟩ = some (.int .i64 b.e1) ∧ w'.cell? ⟨w.heap.size + 1, 2, none⟩ = some (.int .i64 b.c1) ∧ w'.cell? ⟨w.heap.size + 1, 3, none⟩ = some (.int .i64 b.e2) ∧ w'.cell? ⟨w.heap.size + 1, 4, none⟩ = some (.int .i64 b.c2) ∧ w'.cell? ⟨w.heap.size + 1, 5, none⟩ = some (.int .i64 b.num) ∧ w'.cell? ⟨w.heap.size + 1, 6, none⟩ = some (.slice B5 lb d5) ∧ w'.cell? ⟨w.heap.size + 1, 7, none⟩ = some (.slice B6 b.terms.length d6)) ∧ Hid ((r = true ↔ a = b) ∧ Below w.heap.size w w'))) := by
    intro V v hv
    obtain ⟨h1, h2⟩ := hv.out
    refine (HSm.out V u5.drew v (HW.out _ h1) h2).mono ?_
    rintro e w' ⟨r, rfl, hr, hb'⟩
    have hw' := h1.trans (hb'.mono h1.size)
    obtain ⟨⟨k0, k1, k2, k3, k4, k5, k6, k7⟩, l0, l1, l2, l3, l4, l5, l6, l7⟩ := HTwo.out w' hw'
    exact ⟨r, rfl, ⟨k0, k1, k2, k3, k4, k5, k6, k7, l0, l1, l2, l3, l4, l5, l6, l7⟩, ⟨hr, HW.out _ hw'⟩⟩
  clear HPk HAs' HSm HTwo HB5 HD HPa HPb HSa HSb
  by_cases hst : sa = sb
  · have HAB := Lib.hid (HIff.out.1 hst)
    clear HIff
    subst hst
    go_wp2
    go_region_held3 (fun w' => w'.cell? ⟨w.heap.size, 0, none⟩ = some (.int .i64 a.kind) ∧ w'.cell? ⟨w.heap.size, 1, none⟩ = some (.int .i64 a.e1) ∧ w'.cell? ⟨w.heap.size, 2, none⟩ = some (.int .i64 a.c1) ∧ w'.cell? ⟨w.heap.size, 3, none⟩ = some (.int .i64 a.e2) ∧ w'.cell? ⟨w.heap.size, 4, none⟩ = some (.int .i64 a.c2) ∧ w'.cell? ⟨w.heap.size, 5, none⟩ = some (.int .i64 a.num) ∧ w'.cell? ⟨w.heap.size, 6, none⟩ = some (.slice A5 la c5) ∧ w'.cell? ⟨w.heap.size, 7, none⟩ = some (.slice A6 na c6) ∧ w'.cell? ⟨w.heap.size + 1, 0, none⟩ = some (.int .i64 b.kind) ∧ w'.cell? ⟨w.heap.size + 1, 1, none⟩ = some (.int .i64 b.e1) ∧ w'.cell? ⟨w.heap.size + 1, 2, none⟩ = some (.int .i64 b.c1) ∧ w'.cell? ⟨w.heap.size + 1, 3, none⟩ = some (.int .i64 b.e2) ∧ w'.cell? ⟨w.heap.size + 1, 4, none⟩ = some (.int .i64 b.c2) ∧ w'.cell? ⟨w.heap.size + 1, 5, none⟩ = some (.int .i64 b.num) ∧ w'.cell? ⟨w.heap.size + 1, 6, none⟩ = some (.slice B5 lb d5) ∧ w'.cell? ⟨w.heap.size + 1, 7, none⟩ = some (.slice B6 b.terms.length d6)) (go_keep) (first
      | (go_at_call 35; refine HAs2.out.mono ?_; rintro e' u6 ⟨v6, rfl, ⟨s0, s1, s2, s3, s4, s5, s6, s7, s8, s9, s10, s11, s12, s13, s14, s15⟩, HO6⟩)
      | (go_at_call 42; refine (HSm2.out u6 v6 HO6).mono ?_; rintro e' u7 ⟨r, rfl, ⟨t0, t1, t2, t3, t4, t5, t6, t7, t8, t9, t10, t11, t12, t13, t14, t15⟩, HO7⟩))
    all_goals
      obtain rfl : r = true := HO7.out.1.2 HAB.out
      have HF := Lib.hid HO7.out.2
      clear HO7 HO6
      go_wp2
      go_ret
      exact ⟨rfl, HF.out⟩
  · have hne : (sa == sb) = false := by rw [beq_eq_false_iff_ne]; exact hst
    have HSt := Lib.hid hst
    clear hst
    go_wp2
    go_region_held3 (fun w' => w'.cell? ⟨w.heap.size, 0, none⟩ = some (.int .i64 a.kind) ∧ w'.cell? ⟨w.heap.size, 1, none⟩ = some (.int .i64 a.e1) ∧ w'.cell? ⟨w.heap.size, 2, none⟩ = some (.int .i64 a.c1) ∧ w'.cell? ⟨w.heap.size, 3, none⟩ = some (.int .i64 a.e2) ∧ w'.cell? ⟨w.heap.size, 4, none⟩ = some (.int .i64 a.c2) ∧ w'.cell? ⟨w.heap.size, 5, none⟩ = some (.int .i64 a.num) ∧ w'.cell? ⟨w.heap.size, 6, none⟩ = some (.slice A5 la c5) ∧ w'.cell? ⟨w.heap.size, 7, none⟩ = some (.slice A6 na c6) ∧ w'.cell? ⟨w.heap.size + 1, 0, none⟩ = some (.int .i64 b.kind) ∧ w'.cell? ⟨w.heap.size + 1, 1, none⟩ = some (.int .i64 b.e1) ∧ w'.cell? ⟨w.heap.size + 1, 2, none⟩ = some (.int .i64 b.c1) ∧ w'.cell? ⟨w.heap.size + 1, 3, none⟩ = some (.int .i64 b.e2) ∧ w'.cell? ⟨w.heap.size + 1, 4, none⟩ = some (.int .i64 b.c2) ∧ w'.cell? ⟨w.heap.size + 1, 5, none⟩ = some (.int .i64 b.num) ∧ w'.cell? ⟨w.heap.size + 1, 6, none⟩ = some (.slice B5 lb d5) ∧ w'.cell? ⟨w.heap.size + 1, 7, none⟩ = some (.slice B6 b.terms.length d6)) (go_keep) (first
      | (go_at_call 35; refine HAs2.out.mono ?_; rintro e' u6 ⟨v6, rfl, ⟨s0, s1, s2, s3, s4, s5, s6, s7, s8, s9, s10, s11, s12, s13, s14, s15⟩, HO6⟩)
      | (go_at_call 42; refine (HSm2.out u6 v6 HO6).mono ?_; rintro e' u7 ⟨r, rfl, ⟨t0, t1, t2, t3, t4, t5, t6, t7, t8, t9, t10, t11, t12, t13, t14, t15⟩, HO7⟩))
    all_goals
      have hrf : r = false := by
        cases r with
        | false => rfl
        | true => exact absurd (HIff.out.2 (HO7.out.1.1 rfl)) HSt.out
      subst hrf
      have HF := Lib.hid HO7.out.2
      clear HO7 HO6
      go_wp2
      go_ret
      exact ⟨rfl, HF.out⟩
end Go.Proofs.Ytekididpimgghaa.L4
