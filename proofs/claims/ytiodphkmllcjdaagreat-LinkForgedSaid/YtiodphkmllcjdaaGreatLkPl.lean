/- LinkPlays: the program's ends answer as the document's do, act behind act. The statement LinkPlays: for every input the law returns true, and its arguments read as they did. -/
import Derived.Test.YtiodphkmllcjdaaGreatLkDB
import Derived.Test.YtiodphkmllcjdaaGreatLkE
import Derived.Test.YtiodphkmllcjdaaGreatLater
section
namespace Go.Proofs.YtiodphkmllcjdaaGreat.L7
open Go.ChangeShapes Go.WideShapes Go.ChangeAt Go.RowKit L6

def Play (w : World) (B z : Nat) (x y : Blk) (gx gy i lim : Nat) (wr : World) : Prop := ∃ n m s t rx ry vox vwx voy vwy tos fs vt vl, BothAt wr B z x y gx gy n m s t rx ry vox vwx voy vwy tos fs vt vl ∧ Alike s t rx ry fs n m i ∧ fs.length ≤ lim ∧ (∀ k ∈ tos, k = 1 ∨ k = 2) ∧ Below w.heap.size w wr
def PlayGo7 (w : World) (B z : Nat) (x y : Blk) (gx gy n0 k : Nat) (v6 : Value) (wr : World) : Prop := ∃ i : Nat, k + i = n0 ∧ v6 = .int .i64 i ∧ Play w B z x y gx gy i 400 wr
/-- What the last comparison reads. -/
theorem BothAt.reads {W : World} {B z : Nat} {x y : Blk} {gx gy n m : Nat} {s t : St} {rx ry : RSt} {vox vwx voy vwy : Value} {tos : List Nat} {fs : List Bytes} {vt vl : Value} (h : BothAt W B z x y gx gy n m s t rx ry vox vwx voy vwy tos fs vt vl) : W.cell? ⟨gx, 2, none⟩ = some (.int .i64 rx.sent) ∧ W.cell? ⟨gx, 3, none⟩ = some (.int .i64 rx.taken) ∧ W.cell? ⟨gx, 4, none⟩ = some vox ∧ W.cell? ⟨gy, 4, none⟩ = some voy := by
  obtain ⟨_, _, a2, a3, a4, _⟩ := h.ref.cells
  obtain ⟨_, _, _, _, b4, _⟩ := h.fer.cells
  exact ⟨a2, a3, a4, b4⟩
set_option maxRecDepth 100000 in
set_option maxHeartbeats 16000000 in
theorem plays_calls {A : Option Addr} {n0 c0 : Nat} (w : World) (hA : Acts w A n0) (hn : n0 ≤ maxLen) : Calls Tryz.prog 3 #[.slice A n0 c0] w (One w (.bool true)) := by
  have HSh := Lib.hid (shown_calls w)
  have HM := Lib.hid (fun V => made_calls V)
  have HA := Lib.hid hA
  unfold maxLen at hn
  clear hA
  go_enter Tryz.func3, Tryz.ntmps3
  go_wp2_with fail
  refine HSh.out.mono ?_
  rintro e w1 ⟨rfl, b1⟩
  have HB1 := Lib.hid b1
  have HM := Lib.hid (HM.out w1)
  clear b1 HSh
  go_wp2_with fail
  refine HM.out.mono ?_
  rintro e w2 ⟨b2, z, x, y, gx, gy, rfl, hb2⟩
  have HB2 := Lib.hid (HB1.out.trans (b2.mono HB1.out.size))
  have HP := Lib.hid hb2
  clear b2 hb2 HM
  have hws := HB1.out.size
  generalize w1.heap.size = B at *
  by_cases h120 : 120 < n0
  · have h120i : (120 : Int) < (n0 : Int) := by omega
    go_wp2
    go_ret
    exact ⟨rfl, HB2.out⟩
  have h120i : ¬ (120 : Int) < (n0 : Int) := by omega
  have h120n : n0 ≤ 120 := by omega
  have H0 : Hid (Play w B z x y gx gy 0 400 w2) := ⟨_, _, _, _, _, _, _, _, _, _, _, _, _, _, HP.out, alike_new, by simp, by simp, HB2.out⟩
  clear HP HB2 HB1 h120 hn
  go_wp2_with fail
  go_loopg [6] n0 (fun k v6 wr => PlayGo7 w B z x y gx gy n0 k v6 wr)
  case atStart => exact ⟨0, by omega, rfl, H0.out⟩
  clear H0 h120i
  case round =>
    obtain ⟨i, hk, rfl, n, m, s, t, rx, ry, vox, vwx, voy, vwy, tos, fs, vt, vl, hb, hal, hfl, htos, hbw⟩ := hrel
    by_cases hi : i < n0
    · obtain ⟨ad, o0, o1, s2, rfl, hadb, ⟨ho0, ho1⟩, d0, d1, d2⟩ := HA.out i hi
      obtain ⟨txt, rfl⟩ : ∃ txt : Bytes, s2 = ⟨txt.toArray⟩ := ⟨s2.data.toList, by simp⟩
      have hlb : (ad.add (i * 3)).block < w.heap.size := by rw [addr_block]; exact hadb
      have c0 := (hbw.cell (p := ad.add (i * 3)) hlb).trans d0
      have c1 := (hbw.cell (p := ⟨(ad.add (i * 3)).block, (ad.add (i * 3)).off + 1, none⟩) hlb).trans d1
      have c2 := (hbw.cell (p := ⟨(ad.add (i * 3)).block, (ad.add (i * 3)).off + 2, none⟩) hlb).trans d2
      have s1 : (i : Int) < (n0 : Int) := by omega
      have s2 : (0 : Int) ≤ (i : Int) := by omega
      have HBw := Lib.hid hbw
      have hmm := Lib.hid (show gk - 1 < gk by omega)
      have hkk := Lib.hid (show (gk - 1) + (i + 1) = n0 by omega)
      generalize gk - 1 = ko at *
      by_cases h600 : 600 < txt.length
      · have s3 : (600 : Int) < (txt.length : Int) := by omega
        clear d0 d1 d2 hb hal htos
        go_wp2
        go_ret
        exact ⟨rfl, HBw.out⟩
      have s3 : ¬ (600 : Int) < (txt.length : Int) := by omega
      have HD := Lib.hid (does_all hb hal htos (by omega) (by omega) o0 o1 txt ho0 ho1 (fun _ => by omega))
      clear d0 d1 d2 hb hal htos hadb hlb hk HA ho0 ho1
      go_wp2_with fail
      refine HD.out.mono ?_
      rintro e w3 ⟨rfl, b3, n', m', s', t', rx', ry', vox', vwx', voy', vwy', tos', fs', vt', vl', hb3, hal3, hfl3, htos3⟩
      have HBw3 := Lib.hid (hbw.trans (b3.mono hws))
      clear b3 HD c0 c1 c2 HBw hbw
      obtain ⟨z0, z1, z2, z3, z4, z5⟩ := hb3.cells
      unfold ptrAt at z0
      have HSt := Lib.hid (state_calls hb3.one)
      have HB3 := Lib.hid hb3
      have HAl := Lib.hid hal3
      have HT3 := Lib.hid htos3
      clear hb3 hal3 htos3 z1 z2 z3 z4 z5
      go_wp2_with fail
      refine HSt.out.mono ?_
      rintro e w4 ⟨rfl, md, rfl⟩
      have bD : Below w3.heap.size w3 (w3.drewN md) := L5.below_drewN (Below.refl _ _) _
      have hB4 := HB3.out.below bD
      have HBw4 := Lib.hid (HBw3.out.trans (bD.mono HBw3.out.size))
      generalize w3.drewN md = w4 at *
      have HB4 := Lib.hid hB4
      clear HSt bD HB3 hB4 z0 HBw3
      obtain ⟨Al, cl, hvl⟩ := L5.own_slice HB4.out.net.l
      subst hvl
      have hl1 : ∀ X : Later w4, X.world.cell? ⟨z, 5, none⟩ = some (.slice Al fs'.length cl) := fun X => (HB4.out.below X.kept).cells.2.2.2.2.2
      have hB12 : Hid (∀ X : Later w4, Below w.heap.size w X.world) := fun X => HBw4.out.trans (X.kept.mono HBw4.out.size)
      by_cases h400 : 400 < fs'.length
      · have s4 : decide ((400 : Int) < (fs'.length : Int)) = true := by rw [decide_eq_true_iff]; omega
        have s5 : (400 : Int) < (fs'.length : Int) := by omega
        clear HAl HT3 HM
        go_wp2
        refine wp_region_later (by kernel_rfl) (by kernel_rfl) ?_
        repeat
          (refine Quietly.step (fun K hK => ?_)
           go_simp
           refine hK _ ?_
           clear hK K)
        refine Quietly.none ?_
        rintro w5 ⟨X, rfl⟩
        have hc5 := hl1 X
        have HF := Lib.hid (hB12.out X)
        clear hl1 hB12
        generalize X.world = w5 at *
        go_wp2
        go_ret
        exact ⟨rfl, HF.out⟩
      have s4 : decide ((400 : Int) < (fs'.length : Int)) = false := by rw [decide_eq_false_iff_not]; omega
      have s5 : ¬ (400 : Int) < (fs'.length : Int) := by omega
      have hl2 : ∀ X : Later w4, X.world.cell? ⟨z, 0, none⟩ = some (.pointer (some ⟨x.g, 0, none⟩)) ∧ X.world.cell? ⟨z, 1, none⟩ = some (.pointer (some ⟨y.g, 0, none⟩)) ∧ X.world.cell? ⟨z, 2, none⟩ = some (.pointer (some ⟨gx, 0, none⟩)) ∧ X.world.cell? ⟨z, 3, none⟩ = some (.pointer (some ⟨gy, 0, none⟩)) := fun X => by
        obtain ⟨q0, q1, q2, q3, _, _⟩ := (HB4.out.below X.kept).cells
        exact ⟨q0, q1, q2, q3⟩
      obtain ⟨Aox, cox, hvx⟩ := L5.own_slice HB4.out.ref.opens
      obtain ⟨Aoy, coy, hvy⟩ := L5.own_slice HB4.out.fer.opens
      have hl3 : ∀ X : Later w4, X.world.cell? ⟨gx, 2, none⟩ = some (.int .i64 s'.sent) ∧ X.world.cell? ⟨gx, 3, none⟩ = some (.int .i64 s'.taken) ∧ X.world.cell? ⟨gx, 4, none⟩ = some (.slice Aox s'.opens.length cox) ∧ X.world.cell? ⟨gy, 4, none⟩ = some (.slice Aoy t'.opens.length coy) := fun X => by
        obtain ⟨q0, q1, q2, q3⟩ := (HB4.out.below X.kept).reads
        rw [HAl.out.one.sent, HAl.out.one.taken, HAl.out.one.len, HAl.out.two.len, ← hvx, ← hvy]
        exact ⟨q0, q1, q2, q3⟩
      have HOx : Hid (∀ X : Later w4, Calls Tryz.prog 9 #[.pointer (some ⟨x.g, 0, none⟩)] X.world fun e w' => e = .returned (.int .i64 s'.opens.length) ∧ X.world = w') := fun X => open_calls (HB4.out.below X.kept).one
      have HOy : Hid (∀ X : Later w4, Calls Tryz.prog 9 #[.pointer (some ⟨y.g, 0, none⟩)] X.world fun e w' => e = .returned (.int .i64 t'.opens.length) ∧ X.world = w') := fun X => open_calls (HB4.out.below X.kept).two
      have ha0 : ∀ X : Later w4, X.world.cell? ⟨z, 0, none⟩ = some (.pointer (some ⟨x.g, 0, none⟩)) := fun X => (hl2 X).1
      have ha1 : ∀ X : Later w4, X.world.cell? ⟨z, 1, none⟩ = some (.pointer (some ⟨y.g, 0, none⟩)) := fun X => (hl2 X).2.1
      have ha2 : ∀ X : Later w4, X.world.cell? ⟨z, 2, none⟩ = some (.pointer (some ⟨gx, 0, none⟩)) := fun X => (hl2 X).2.2.1
      have ha3 : ∀ X : Later w4, X.world.cell? ⟨z, 3, none⟩ = some (.pointer (some ⟨gy, 0, none⟩)) := fun X => (hl2 X).2.2.2
      have hg2 : ∀ X : Later w4, X.world.cell? ⟨gx, 2, none⟩ = some (.int .i64 s'.sent) := fun X => (hl3 X).1
      have hg3 : ∀ X : Later w4, X.world.cell? ⟨gx, 3, none⟩ = some (.int .i64 s'.taken) := fun X => (hl3 X).2.1
      have hg4 : ∀ X : Later w4, X.world.cell? ⟨gx, 4, none⟩ = some (.slice Aox s'.opens.length cox) := fun X => (hl3 X).2.2.1
      have hg5 : ∀ X : Later w4, X.world.cell? ⟨gy, 4, none⟩ = some (.slice Aoy t'.opens.length coy) := fun X => (hl3 X).2.2.2
      have HN : Hid (∀ X : Later w4, Play w B z x y gx gy (i + 1) 400 X.world) := fun X => ⟨_, _, _, _, _, _, _, _, _, _, _, _, _, _, HB4.out.below X.kept, HAl.out, by omega, HT3.out, hB12.out X⟩
      generalize s'.opens.length = ls at *
      generalize t'.opens.length = lt at *
      generalize s'.sent = qs at *
      generalize s'.taken = qt at *
      clear hl2 hl3 HAl HT3 HM hvx hvy HB4 hB12 HBw4
      go_wp2
      refine wp_region_later (by kernel_rfl) (by kernel_rfl) ?_
      repeat
        (refine Quietly.step (fun K hK => ?_)
         go_simp
         first
           | (refine hK _ ?_; clear hK K)
           | (apply Exists.intro
              refine ⟨fun _ => ?_, hK _ ?_⟩
              first
                | (go_at_call_of 9 (Value.pointer (some ⟨x.g, 0, none⟩)); exact (HOx.out _).mono (fun _ W h => ⟨h.1, ⟨_, h.2.symm⟩⟩))
                | (go_at_call_of 9 (Value.pointer (some ⟨y.g, 0, none⟩)); exact (HOy.out _).mono (fun _ W h => ⟨h.1, ⟨_, h.2.symm⟩⟩))
              clear hK K))
      refine Quietly.none ?_
      rintro w5 ⟨X, rfl⟩
      have HF := Lib.hid (HN.out X)
      clear HN ha0 ha1 ha2 ha3 hg2 hg3 hg4 hg5 hl1 HOx HOy
      generalize X.world = w5 at *
      go_wp2
      go_roundg ko
      case measure => exact hmm.out
      case rel => exact ⟨i + 1, hkk.out, by simp, HF.out⟩
    · obtain rfl : i = n0 := by omega
      have s1 : ¬ (i : Int) < (i : Int) := by omega
      have HBw := Lib.hid hbw
      clear hb hal htos hk hbw
      go_wp2
      go_ret
      exact ⟨rfl, HBw.out⟩
end Go.Proofs.YtiodphkmllcjdaaGreat.L7
end

section
namespace Go.Proofs.YtiodphkmllcjdaaGreat
open Go.ChangeShapes Go.WideShapes Go.ChangeAt Go.RowKit

set_option maxRecDepth 100000 in
theorem lkplays_lifted (os : Os) (started : os.Started) (H : Type) (enc : TypeId × Value → H) :
    ReturnsInHanded {} Tryz.checked os 3 .any (Rows.linkPlaysSpec.pre6 enc Tryz.prog Tryz.f3 Rows.linkPlaysRow.domain false) (Rows.linkPlaysSpec.post enc Tryz.prog Tryz.f3 false true false false) := by
  refine returnsInHanded_of_change (C := Tryz.checked) L5.own started (by kernel_rfl) Tryz.func3
    (ChangeSpec.witness6 (enc := enc) (C := Tryz.checked) false ⟨#[], #[.slice none 0 0], []⟩ 8 (by kernel_rfl) (by kernel_rfl) (by kernel_rfl) (by kernel_rfl)) ?_
  intro W base args ds gs before hval0 hW hcnd _
  have hval : ∀ (j : Nat) t v, Tryz.f3.params[j]? = some t → args[j]? = some v → Value.okWide Tryz.prog W .any base t v := hval0
  have hW' := hW
  obtain ⟨p, q, hA0, hV, rfl, hfz, hnd⟩ := hW
  have hA : DataW.TrodAll enc Tryz.prog W 0 (fun _ => true) true Tryz.f3.params.toList args.toList ds p := hA0
  rw [Tryz.params3] at hA hval
  obtain ⟨v0, vs0, d0, ds0, p0, q0, hargs, rfl, rfl, h0, r0⟩ := trodAll_cons hA
  obtain ⟨rfl, rfl, rfl⟩ := trodAll_nil r0
  obtain rfl : args = #[v0] := by cases args; simp_all
  obtain ⟨rfl, rfl⟩ := trodVars_none hV
  have h0k := h0
  obtain ⟨A0, n0, c0, rfl, hS0, hn0⟩ := L7.open_acts (hval 0 22 v0 rfl rfl) h0
  clear hA0 hval0
  simp only [List.append_nil] at hW'
  have hlt : ∀ x ∈ p0, x.block < W.heap.size := fun x hx => by simpa using hW'.lt x (by simpa using hx)
  refine (L7.plays_calls W hS0 hn0).mono fun e W' ⟨he, hg⟩ => ?_
  subst he
  exact ⟨_, rfl, L5.post_law_at (pv := []) hW' (trodAll_cons_mk (shut_bool Tryz.underlying4 _) trodAll_mk0) (trodAll_cons_mk (Below.trod L5.laid_out (by kernel_rfl) (of_decide_eq_true (by kernel_rfl)) h0k hg hlt) trodAll_mk0) rfl (by simp) hg⟩

theorem lkplays_over : Rows.linkPlaysRow.holds Tryz.pinned (OpenSpec.ofChange Rows.linkPlaysSpec) :=
  OpenClaim.holds_of_wide 3 Tryz.f3 rfl rfl rfl rfl rfl rfl rfl ⟨rfl, rfl, rfl, rfl, rfl⟩ rfl rfl rfl rfl rfl (by kernel_rfl) Tryz.func3 (by kernel_rfl)
    (of_decide_eq_true (by kernel_rfl)) (by unfold Func.isWrapper; first | (rw [if_pos (by decide +kernel)]; kernel_rfl) | (rw [if_neg (by decide +kernel)]; exact ⟨rfl, rfl⟩))
    (fun os started H enc _ => lkplays_lifted os started H enc)

theorem lkplays_proved : Rows.LinkPlaysSaid := lkplays_over

end Go.Proofs.YtiodphkmllcjdaaGreat
end
