/- The law KnowPublic, once Derivable holds in general: for all steps and places it returns true. The statement KnowPublic: for every input the law returns true, and its arguments read as they did. -/
import Derived.Test.YtekididpimgghaaGathA
import Derived.Test.YtekididpimgghaaKShowG
import Derived.Test.YtekididpimgghaaHelpG3
import Derived.Test.YtekididpimgghaaInside
import Derived.Test.YtekididpimgghaaGathD
section
namespace Go.Proofs.Ytekididpimgghaa.L3
open Go.ChangeShapes Go.WideShapes Go.ChangeAt Go.RowKit

theorem pick_any3 {V : World} {B g cap : Nat} {ts : List (List UInt8)} (hrow : V.ownsRow B 28 1 (.slice (some ⟨g, 0, none⟩) ts.length cap) ts.length (strs ts)) (h2 : 2 ≤ ts.length) (h42 : ts.length ≤ 42) (hg : ∀ t ∈ ts, Tm.Good 41 600 t) {v : Int} (hv : isInt v) :
    ∃ (p : Nat) (x : List UInt8), (∀ W, Calls Try.prog 17 #[.int .i64 v, .int .i64 ts.length] W fun e w' => e = .returned (.int .i64 p) ∧ W = w') ∧ (p : Int) < (ts.length : Int) ∧ V.cell? ⟨g, p, none⟩ = some (.string ⟨x.toArray⟩) ∧ Tm.Good 41 600 x := by
  have hl := Tm.pickN_lt v ts.length (by omega)
  obtain ⟨x, hx⟩ : ∃ x, ts[Tm.pickN v ts.length]? = some x := ⟨_, List.getElem?_eq_getElem hl⟩
  exact ⟨_, x, fun W => pick_calls v ts.length hv.1 hv.2 (by omega) (by omega) W, by omega, texts_of_row hrow _ _ hx, hg x (List.mem_of_getElem? hx)⟩

def Telling (V : World) (xs : List (List UInt8)) (K : Nat) (v9 v10 : Value) (wr : World) : Prop :=
  ∃ (k : Nat) (s : Bool), K + k = xs.length ∧ v10 = .int .i64 k ∧ v9 = .bool s ∧ (s = true ↔ ∃ x ∈ xs.take k, x.getD 0 0 = 110 ∨ x.getD 0 0 = 105) ∧ Below V.heap.size V wr
theorem telling_step {V wr : World} {xs : List (List UInt8)} {gk k : Nat} {s s' : Bool} {x : List UInt8} (hk : gk + k = xs.length) (hkl : k < xs.length) (hx : xs[k]? = some x) (hs : s = true ↔ ∃ x ∈ xs.take k, x.getD 0 0 = 110 ∨ x.getD 0 0 = 105)
    (hs' : s' = true ↔ (s = true ∨ x.getD 0 0 = 110 ∨ x.getD 0 0 = 105)) (hb : Below V.heap.size V wr) : Telling V xs (gk - 1) (.bool s') (.int .i64 ((k + 1 : Nat) : Int)) wr := by
  refine ⟨k + 1, s', by omega, rfl, rfl, ?_, hb⟩
  have e := List.take_add_one (l := xs) (i := k)
  rw [hx] at e
  rw [e, hs', hs]
  constructor
  · rintro (⟨z, h1, h2⟩ | h)
    · exact ⟨z, List.mem_append_left _ h1, h2⟩
    · exact ⟨x, by simp, h⟩
  · rintro ⟨z, h1, h2⟩
    rcases List.mem_append.1 h1 with h1 | h1
    · exact .inl ⟨z, h1, h2⟩
    · simp at h1
      subst h1
      exact .inr h2

set_option maxRecDepth 100000 in
set_option maxHeartbeats 40000000 in
theorem public_all (HD : DerivableHolds) (A : Option Addr) (n c : Nat) (i : Int) (w : World) (hS : Steps w A n) (hnc : n ≤ maxLen) (ri : isInt i) :
    Calls Try.prog 5 #[.slice A n c, .int .i64 i] w (One w (.bool true)) := by
  have HS := Lib.hid shown_calls
  have HSt := Lib.hid hS
  have HNC := Lib.hid hnc
  have HR := Lib.hid ri
  have HDD := Lib.hid HD
  clear hS hnc ri HD
  go_enter Try.func5, Try.ntmps5
  go_wp2_with fail
  refine (HS.out _).mono ?_
  rintro e' w0 ⟨rfl, B0⟩
  have HM := Lib.hid (made_calls A n c w0 (steps_below HSt.out B0) HNC.out)
  go_wp2_with fail
  refine HM.out.mono ?_
  rintro e' w1 ⟨g, cap, ts, rfl, hrow, hlen, hgood, hb1⟩
  have B := B0.trans (hb1.mono B0.size)
  have h42 : ts.length ≤ 42 := by omega
  have h22 : 2 ≤ ts.length := by omega
  obtain ⟨pa, a, cPa, la, ca, Ga⟩ := pick_any3 hrow h22 h42 hgood HR.out
  have HPa := Lib.hid cPa
  have ja : (0 : Int) ≤ (pa : Int) := by omega
  have har : Tm.right a = true := (Tm.right_iff a).2 Ga.1
  have hal : a.length ≤ 600 := Ga.2.2
  have HAr := Lib.hid har
  clear hrow hgood hlen hb1 cPa HM HSt HNC HS B0 Ga har
  go_wp2_with fail
  refine (HPa.out _).mono ?_
  rintro e' w' ⟨rfl, rfl⟩
  have HA := Lib.hid (All_right ⟨a.toArray⟩ (by rw [list_data]; exact HAr.out) w1)
  go_wp2_with fail
  refine HA.out.mono ?_
  rintro e' w2 ⟨v8, xs, rfl, hrow8, _, hmem, hlx, b2⟩
  have B2 := Lib.hid (B.trans (b2.mono B.size))
  obtain ⟨A8, c8, rfl, h8⟩ := reads_terms hrow8
  have H8 := Lib.hid h8
  have HMem := Lib.hid hmem
  have HSub : Hid (∀ x ∈ xs, Tm.right x = true ∧ x.length ≤ 600) := fun x hx => by
    have := ((hmem x).1 hx).right HAr.out
    exact ⟨this.1, by omega⟩
  clear b2 hmem HA B ca hrow8 h8 HPa
  go_wp2
  go_loopg [9, 10] xs.length (fun K v9 v10 wr => Telling w2 xs K v9 v10 wr)
  case atStart => exact ⟨0, false, by omega, rfl, rfl, by simp, Below.refl _ _⟩
  case round =>
    obtain ⟨k, s, hk, rfl, rfl, hs, hbel⟩ := hrel
    have HT := Lib.hid (And.intro hk hs)
    by_cases hkl : k < xs.length
    · obtain ⟨x, hx⟩ : ∃ x, xs[k]? = some x := ⟨_, List.getElem?_eq_getElem hkl⟩
      obtain ⟨g8, rfl, hg8, hc8⟩ := H8.out k x hx
      have hcx : wr.cell? ⟨g8, k, none⟩ = some (.string ⟨x.toArray⟩) := (hbel.cell (p := ⟨g8, k, none⟩) hg8).trans hc8
      obtain ⟨hxr, hxl⟩ := HSub.out x (List.mem_of_getElem? hx)
      have cK := fun W => Kind_calls ⟨x.toArray⟩ (by rw [size_list]; unfold maxLen; omega) W
      have hkind : Tm.kindOf x = x.getD 0 0 := by unfold Tm.kindOf; rw [if_pos hxr]
      rw [list_data, hkind] at cK
      have HK := Lib.hid cK
      have HX := Lib.hid hx
      have HB := Lib.hid hbel
      have j1 : (k : Int) < (xs.length : Int) := by omega
      have j2 : (0 : Int) ≤ (k : Int) := by omega
      have hgk : gk - 1 < gk := by omega
      have toN : ∀ d : UInt8, (((x.getD 0 0).toNat : Int) == (d.toNat : Int)) = decide (x.getD 0 0 = d) := fun d => by
        by_cases h : x.getD 0 0 = d
        · rw [h]; simp
        · rw [decide_eq_false h, beq_eq_false_iff_ne]
          intro h2
          exact h (UInt8.toNat_inj.1 (Int.ofNat.inj h2))
      have q1 : (((x.getD 0 0).toNat : Int) == 110) = decide (x.getD 0 0 = 110) := toN 110
      have q2 : (((x.getD 0 0).toNat : Int) == 105) = decide (x.getD 0 0 = 105) := toN 105
      have HStep : Hid (∀ (s' : Bool) (w4 : World), (s' = true ↔ (s = true ∨ x.getD 0 0 = 110 ∨ x.getD 0 0 = 105)) → Below wr.heap.size wr w4 → Telling w2 xs (gk - 1) (.bool s') (.int .i64 ((k + 1 : Nat) : Int)) w4) := fun s' w4 h1 h2 =>
        telling_step HT.out.1 hkl HX.out HT.out.2 h1 (HB.out.trans (h2.mono HB.out.size))
      clear hx hc8 cK hkind hbel hs hk HT toN hxr hxl
      generalize x.getD 0 0 = cx at *
      go_wp2_with fail
      refine (HK.out _).mono ?_
      rintro e' w4 ⟨rfl, b4⟩
      cases s with
      | true =>
        have hRel := Lib.hid (HStep.out true w4 (by simp) b4)
        clear b4 HStep
        go_wp2
        go_roundg (gk - 1)
        case measure => exact hgk
        case rel => exact hRel.out
      | false =>
        by_cases h1 : cx = 110
        · have q3 : ((cx.toNat : Int) == 110) = true := by rw [q1]; exact decide_eq_true h1
          have hRel := Lib.hid (HStep.out true w4 (by simp [h1]) b4)
          clear b4 HStep q1 h1
          go_wp2
          go_roundg (gk - 1)
          case measure => exact hgk
          case rel => exact hRel.out
        · have q3 : ((cx.toNat : Int) == 110) = false := by rw [q1]; exact decide_eq_false h1
          obtain ⟨d, hd⟩ : ∃ d : Bool, ((cx.toNat : Int) == 105) = d := ⟨_, rfl⟩
          have hRel := Lib.hid (HStep.out d w4 (by rw [← hd, q2]; simp [h1]) b4)
          clear b4 HStep q1 q2 h1
          go_wp2
          go_roundg (gk - 1)
          case measure => exact hgk
          case rel => exact hRel.out
    · obtain rfl : k = xs.length := by omega
      have j1 : ¬ ((xs.length : Int) < (xs.length : Int)) := by omega
      rw [List.take_length] at hs
      have hpub := Tm.mk_public a.length a (Nat.le_refl _) HAr.out
      have hsec : Hid (s = true ↔ ¬ Tm.Mk (rightIn []) a) := by
        have e : rightIn [] = fun _ => False := by funext z; simp [rightIn]
        show _ ↔ _
        rw [hs, e, hpub]
        constructor
        · rintro ⟨z, h1, h2⟩ h3
          have := h3 z ((HMem.out z).1 h1)
          rcases h2 with h2 | h2
          · exact this.1 h2
          · exact this.2 h2
        · intro h3
          apply Classical.byContradiction
          intro h4
          apply h3
          intro z hz
          refine ⟨fun h5 => h4 ⟨z, (HMem.out z).2 hz, .inl h5⟩, fun h5 => h4 ⟨z, (HMem.out z).2 hz, .inr h5⟩⟩
      have D1 := Lib.hid (fun W => (Derivable_plain [] a (.slice none 0 0) W ⟨none, 0, rfl, by simp⟩ (by simp) (by simp) (by simp) (by omega)).mono (fun e w' (q : DerOut W (rightIn []) a e w') => show One W (.bool (!s)) e w' from by
        obtain ⟨b, rfl, hb, h3⟩ := q
        have : b = !s := by
          apply Bool.eq_iff_iff.2
          rw [hb, Bool.not_eq_true']
          constructor
          · rintro ⟨_, h4⟩
            cases hs2 : s with
            | false => rfl
            | true => exact absurd h4 (hsec.out.1 hs2)
          · intro h4
            refine ⟨HAr.out, Classical.byContradiction (fun h5 => ?_)⟩
            rw [hsec.out.2 h5] at h4
            cases h4
        subst this
        exact ⟨rfl, h3⟩))
      have D2 := Lib.hid (fun W v (hR : Reads W v [a]) => (HDD.out [a] a v W hR (by simp) (by simp; omega) (by omega)).mono (fun e w' (q : DerG W [a] a e w') => show One W (.bool true) e w' from by
        obtain ⟨b, K, rfl, hb, _, h4, _, _, h7⟩ := q
        rw [hb.2 ⟨HAr.out, .known (h4 a (by simp) HAr.out)⟩]
        exact ⟨rfl, h7⟩))
      have HB := Lib.hid (B2.out.trans (hbel.mono B2.out.size))
      have qs : ((!s) == (!s)) = true := by simp
      clear hs hpub hsec hbel hk HT HDD
      go_wp2_with fail
      refine (D1.out _).mono ?_
      rintro e' w4 ⟨rfl, b4⟩
      have HB4 := Lib.hid (HB.out.trans (b4.mono HB.out.size))
      have hs4 := HB4.out.size
      have hR : Reads (w4.alloc (.cells #[.string ⟨a.toArray⟩] 28)) (.slice (some ⟨w4.heap.size, 0, none⟩) 1 1) [a] :=
        ⟨some ⟨w4.heap.size, 0, none⟩, 1, rfl, fun j z hz => ⟨w4.heap.size, rfl, by simp, text_cells (xs := [a]) (heap_alloc_new w4 _) j z hz⟩⟩
      have HR4 := Lib.hid hR
      have HB5 : Hid (Below w.heap.size w (w4.alloc (.cells #[.string ⟨a.toArray⟩] 28))) := HB4.out.alloc hs4 _
      clear b4 hR HB HB4 D1
      go_wp2_with fail
      refine (D2.out _ _ HR4.out).mono ?_
      rintro e' w5 ⟨rfl, b5⟩
      have HB6 := Lib.hid (HB5.out.trans (b5.mono HB5.out.size))
      clear b5 HB5 HR4 D2
      go_wp2
      go_ret
      exact ⟨by simp, HB6.out⟩

end Go.Proofs.Ytekididpimgghaa.L3
end

section
namespace Go.Proofs.Ytekididpimgghaa
open Go.ChangeShapes Go.WideShapes Go.ChangeAt Go.RowKit

set_option maxRecDepth 100000 in
theorem public_lifted (os : Os) (started : os.Started) (H : Type) (enc : TypeId × Value → H) :
    ReturnsInHanded {} Try.checked os 5 .any (Rows.knowPublicSpec.pre6 enc Try.prog Try.f5 Rows.knowPublicRow.domain false) (Rows.knowPublicSpec.post enc Try.prog Try.f5 false true false false) := by
  refine returnsInHanded_of_change (C := Try.checked) own started (by kernel_rfl) Try.func5
    (ChangeSpec.witness6 (enc := enc) (C := Try.checked) false ⟨#[], #[.slice none 0 0, .int .i64 0], []⟩ 8 (by kernel_rfl) (by kernel_rfl) (by kernel_rfl) (by kernel_rfl)) ?_
  intro W base args ds gs before hval0 hW hcnd _
  have hval : ∀ (j : Nat) t v, Try.f5.params[j]? = some t → args[j]? = some v → Value.okWide Try.prog W .any base t v := hval0
  have hW' := hW
  obtain ⟨p, q, hA0, hV, rfl, hfz, hnd⟩ := hW
  have hA : DataW.TrodAll enc Try.prog W 0 (fun _ => true) true Try.f5.params.toList args.toList ds p := hA0
  rw [Try.params5] at hA hval
  obtain ⟨v0, vs0, d0, ds0, p0, q0, hargs, rfl, rfl, h0, r0⟩ := trodAll_cons hA
  obtain ⟨v1, vs1, d1, ds1, p1, q1, rfl, rfl, rfl, h1, r1⟩ := trodAll_cons r0
  obtain ⟨rfl, rfl, rfl⟩ := trodAll_nil r1
  obtain rfl : args = #[v0, v1] := by cases args; simp_all
  obtain ⟨rfl, rfl⟩ := trodVars_none hV
  have h0k := h0
  obtain ⟨A0, n0, c0, rfl, hS0, hn0⟩ := L3.open_steps (hval 0 22 v0 rfl rfl) h0
  obtain ⟨a1, rfl, rfl, rfl, w1⟩ := open_int Try.underlying3 (hval 1 3 v1 rfl rfl) h1
  clear hA0 hval0
  simp only [List.append_nil] at hW'
  have hlt : ∀ x ∈ p0, x.block < W.heap.size := fun x hx => by simpa using hW'.lt x (by simpa using hx)
  refine (L3.public_all (derivable_of_close Close_holds) A0 n0 c0 a1 W hS0 hn0 (i64_of_wf w1)).mono fun e W' ⟨he, hg⟩ => ?_
  subst he
  exact ⟨_, rfl, L3.post_law_at (pv := []) hW' (trodAll_cons_mk (shut_bool Try.underlying4 _) trodAll_mk0) (trodAll_cons_mk (Below.trod L3.laid_out (by kernel_rfl) (of_decide_eq_true (by kernel_rfl)) h0k hg hlt) (trodAll_cons_mk (shut_int Try.underlying3 w1) trodAll_mk0)) rfl (by simp) hg⟩

theorem public_over : Rows.knowPublicRow.holds Try.pinned (OpenSpec.ofChange Rows.knowPublicSpec) :=
  OpenClaim.holds_of_wide 5 Try.f5 rfl rfl rfl rfl rfl rfl rfl ⟨rfl, rfl, rfl, rfl, rfl⟩ rfl rfl rfl rfl rfl (by kernel_rfl) Try.func5 (by kernel_rfl)
    (of_decide_eq_true (by kernel_rfl)) (by unfold Func.isWrapper; first | (rw [if_pos (by decide +kernel)]; kernel_rfl) | (rw [if_neg (by decide +kernel)]; exact ⟨rfl, rfl⟩))
    (fun os started H enc _ => public_lifted os started H enc)

theorem public_proved : Rows.KnowPublicSaid := public_over

end Go.Proofs.Ytekididpimgghaa
end
