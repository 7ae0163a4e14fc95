/- The document's own net: contract of its Send. The document's own net: contract of its Take. NetPlays: act behind act what lies in a net, what is taken out of it, what was heard, and what is wrong, are as the document has them. NetPlays: act behind act what lies in a net, what is taken out of it, what was heard, and what is wrong, are as the document has them. The statement NetPlays: for every input the law returns true, and its arguments read as they did. -/
import Derived.Test.YtildapcdkipakaaNtRef
import Derived.Deep.CutBlock
import Derived.Deep.DeepCutAuto
import Derived.Test.YtildapcdkipakaaNtActs
import Derived.Deep.RegionHeld3
import Derived.Sort.LoopGhostIn
section
namespace Go.Proofs.Ytildapcdkipakaa.L8
open Go.ChangeShapes Go.WideShapes Go.ChangeAt Go.RowKit Go.Deep

section
variable {w : World} {B h : Nat} {l : List Dg} {vL vH : Value} {ys : List Bytes}
set_option maxRecDepth 100000 in
set_option maxHeartbeats 4000000 in
theorem rsend_no (w : World) (h : Nat) {d : Dg} (hd : ¬ d.ok) (hf : d.fr.length ≤ maxLen) : Calls Try.prog 15 #[.pointer (some ⟨h, 0, none⟩), d.val] w (fun e w' => e = .returned (.int .i64 1) ∧ Below w.heap.size w w') := by
  obtain ⟨src, dst, fr⟩ := d
  have bA : Below w.heap.size w (w.alloc (.cells #[.int .i64 src, .int .i64 dst, .string ⟨fr.toArray⟩] 41)) := (Below.refl _ w).alloc (Nat.le_refl _) _
  have hnew := heap_alloc_new w (.cells #[.int .i64 src, .int .i64 dst, .string ⟨fr.toArray⟩] 41)
  obtain ⟨W1, hW1⟩ : ∃ W1, w.alloc (.cells #[.int .i64 src, .int .i64 dst, .string ⟨fr.toArray⟩] 41) = W1 := ⟨_, rfl⟩
  rw [hW1] at bA hnew
  have x0 : W1.cell? ⟨w.heap.size, 0, none⟩ = some (.int .i64 src) := blk_cell8 hnew
  have x1 : W1.cell? ⟨w.heap.size, 1, none⟩ = some (.int .i64 dst) := blk_cell8 hnew
  have x2 : W1.cell? ⟨w.heap.size, 2, none⟩ = some (.string ⟨fr.toArray⟩) := blk_cell8 hnew
  have HF : Hid (∀ V, Below W1.heap.size W1 V → Below w.heap.size w V) := fun V hV => bA.trans (hV.mono bA.size)
  have HR := RRight_calls ⟨fr.toArray⟩ (by show fr.toArray.size ≤ _; simpa [maxLen] using hf) W1
  have e0 : (⟨fr.toArray⟩ : ByteArray).data.toList = fr := by simp
  rw [e0] at HR
  have hdd : ¬ ((1 ≤ src ∧ src ≤ 8) ∧ (1 ≤ dst ∧ dst ≤ 8) ∧ Tm.right fr = true) := hd
  unfold Dg.val
  clear hd hf bA hnew e0
  by_cases h1 : 1 ≤ src
  rotate_left
  · have g1 : src < 1 := by omega
    clear hdd HR h1
    go_enter Try.func15, Try.ntmps15
    have HF := Lib.hid (HF.out _ (Below.refl _ _))
    go_wp2
    go_ret
    exact ⟨rfl, HF.out⟩
  have g1 : ¬ src < 1 := by omega
  by_cases h2 : src ≤ 8
  rotate_left
  · have g2 : 8 < src := by omega
    clear hdd HR h2
    go_enter Try.func15, Try.ntmps15
    have HF := Lib.hid (HF.out _ (Below.refl _ _))
    go_wp2
    go_ret
    exact ⟨rfl, HF.out⟩
  have g2 : ¬ 8 < src := by omega
  by_cases h3 : 1 ≤ dst
  rotate_left
  · have g3 : dst < 1 := by omega
    clear hdd HR h3
    go_enter Try.func15, Try.ntmps15
    have HF := Lib.hid (HF.out _ (Below.refl _ _))
    go_wp2
    go_ret
    exact ⟨rfl, HF.out⟩
  have g3 : ¬ dst < 1 := by omega
  by_cases h4 : dst ≤ 8
  rotate_left
  · have g4 : 8 < dst := by omega
    clear hdd HR h4
    go_enter Try.func15, Try.ntmps15
    have HF := Lib.hid (HF.out _ (Below.refl _ _))
    go_wp2
    go_ret
    exact ⟨rfl, HF.out⟩
  · have g4 : ¬ 8 < dst := by omega
    have hr : Tm.right fr = false := by
      cases hr : Tm.right fr with
      | false => rfl
      | true => exact absurd ⟨⟨h1, h2⟩, ⟨h3, h4⟩, hr⟩ hdd
    rw [hr] at HR
    have HR := Lib.hid HR
    clear hdd hr
    go_enter Try.func15, Try.ntmps15
    go_wp2_with fail
    refine HR.out.mono ?_
    rintro e w2 ⟨rfl, m, rfl⟩
    have HF := Lib.hid (HF.out _ (L5.below_drewN (Below.refl _ _) m))
    clear HR
    go_wp2
    go_ret
    exact ⟨rfl, HF.out⟩
/-- What was heard was put in order, and laid into its field. -/
theorem rf_heard {w2 w3 : World} (a : RfAt w2 B h l vL ys vH) (hB : B ≤ w2.heap.size) {v' : Value} {ys' : List Bytes} (hb : Below w2.heap.size w2 w3) (k : (v' = vH ∧ ys' = ys) ∨ w3.ownsRow w2.heap.size 9 1 v' ys'.length (strs ys')) :
    w3.cell? ⟨h, 1, none⟩ = some vH ∧ w3.frozen? ⟨h, 1, none⟩ = false ∧ RfAt (w3.setCell ⟨h, 1, none⟩ v') B h l vL ys' v' ∧ Only (RfIn h vL vH) w2 (w3.setCell ⟨h, 1, none⟩ v') ∧ ∀ q, RfIn h vL v' q → RfIn h vL vH q ∨ w2.heap.size ≤ q := by
  have a3 := a.below hb
  have hr : w3.ownsRow B 9 1 v' ys'.length (strs ys') := by
    rcases k with ⟨rfl, rfl⟩ | k
    · exact a3.heard
    · exact ⟨k.1, k.2.imp id (fun ⟨g, cap, cur, a, b, c⟩ => ⟨g, cap, cur, a, Nat.le_trans hB b, c⟩)⟩
  have h1 := row_kind a3.row a3.own rf_ne.1
  have h2 := row_kind hr a3.own rf_ne.2.1
  refine ⟨blk_cell8 a3.own, blk_frozen8 a3.own, ⟨?_, a.base, L5.own_same a3.row (fun q e => Below.heap_setCell _ _ _ _ (by show q ≠ h; intro e'; exact h1 (by rw [e, e']))), L5.own_same hr (fun q e => Below.heap_setCell _ _ _ _ (by show q ≠ h; intro e'; exact h2 (by rw [e, e'])))⟩, (Only.of_below hb).setCell (.inl (.inl rfl)) _, fun q hq => ?_⟩
  · have := blk_setj (j := 1) a3.own v'
    exact this
  · rcases hq with e | e | e
    · exact .inl (.inl e)
    · exact .inl (.inr (.inl e))
    · rcases k with ⟨rfl, _⟩ | k
      · exact .inl (.inr (.inr e))
      · exact .inr (k.lt q e).1
def RSendYes (w : World) (B h : Nat) (l : List Dg) (vL vH : Value) (ys : List Bytes) (d : Dg) (e : Ending) (w' : World) : Prop :=
  e = .returned (.int .i64 (layC l)) ∧ ∃ ys', ys'.Pairwise Tm.strict ∧ (∀ x, x ∈ ys' ↔ x ∈ ys ∨ x = d.fr) ∧ ys'.length ≤ ys.length + 1 ∧ Rfd w B h vL vH (layL l d) ys' w'
set_option maxRecDepth 100000 in
set_option maxHeartbeats 8000000 in
theorem rsend_yes (a : RfAt w B h l vL ys vH) (hB : B ≤ w.heap.size) {d : Dg} (hd : d.ok) (hf : d.fr.length ≤ maxLen) (hys : ys.Pairwise Tm.strict) (hyl : ys.length ≤ 1000000) (hl : l.length ≤ 1000000) : Calls Try.prog 15 #[.pointer (some ⟨h, 0, none⟩), d.val] w (RSendYes w B h l vL vH ys d) := by
  obtain ⟨i0, hi, hz0, hz1, hz2⟩ := info_parts8 info_rdg
  obtain ⟨src, dst, fr⟩ := d
  have bA : Below w.heap.size w (w.alloc (.cells #[.int .i64 src, .int .i64 dst, .string ⟨fr.toArray⟩] 41)) := (Below.refl _ w).alloc (Nat.le_refl _) _
  have hnew := heap_alloc_new w (.cells #[.int .i64 src, .int .i64 dst, .string ⟨fr.toArray⟩] 41)
  have hsz : (w.alloc (.cells #[.int .i64 src, .int .i64 dst, .string ⟨fr.toArray⟩] 41)).heap.size = w.heap.size + 1 := by simp
  obtain ⟨W1, hW1⟩ : ∃ W1, w.alloc (.cells #[.int .i64 src, .int .i64 dst, .string ⟨fr.toArray⟩] 41) = W1 := ⟨_, rfl⟩
  rw [hW1] at bA hnew hsz
  have x0 : W1.cell? ⟨w.heap.size, 0, none⟩ = some (.int .i64 src) := blk_cell8 hnew
  have x1 : W1.cell? ⟨w.heap.size, 1, none⟩ = some (.int .i64 dst) := blk_cell8 hnew
  have x2 : W1.cell? ⟨w.heap.size, 2, none⟩ = some (.string ⟨fr.toArray⟩) := blk_cell8 hnew
  obtain ⟨⟨h1, h2⟩, ⟨h3, h4⟩, hr⟩ := hd
  dsimp only at h1 h2 h3 h4 hr
  have HR := RRight_calls ⟨fr.toArray⟩ (by show fr.toArray.size ≤ _; simpa [maxLen] using hf) W1
  have e0 : (⟨fr.toArray⟩ : ByteArray).data.toList = fr := by simp
  rw [e0, hr] at HR
  have HR := Lib.hid HR
  have HA := Lib.hid a
  have HBl := Lib.hid bA
  have HSz := Lib.hid hsz
  have HNw := Lib.hid hnew
  have g1 : ¬ src < 1 := by omega
  have g2 : ¬ 8 < src := by omega
  have g3 : ¬ dst < 1 := by omega
  have g4 : ¬ 8 < dst := by omega
  have HYs := Lib.hid hys
  have HBb := Lib.hid hB
  unfold Dg.val
  clear a bA hnew hsz h1 h2 h3 h4 hr e0 hys hB hf
  go_enter Try.func15, Try.ntmps15
  go_wp2_with fail
  refine HR.out.mono ?_
  rintro e w2 ⟨rfl, m, rfl⟩
  obtain ⟨w2, hw2⟩ : ∃ w2, W1.drewN m = w2 := ⟨_, rfl⟩
  have HB2 : Hid (Below w.heap.size w w2) := by rw [← hw2]; exact L5.below_drewN HBl.out m
  have hh2 : w2.heap = W1.heap := by rw [← hw2]; rfl
  have hs2 : w2.heap.size = w.heap.size + 1 := by rw [hh2]; exact HSz.out
  have HN2 : Hid (w2.heap[w.heap.size]? = some (.cells #[.int .i64 src, .int .i64 dst, .string ⟨fr.toArray⟩] 41 (0, 0))) := by
    show _ = _
    rw [hh2]; exact HNw.out
  rw [hw2]
  clear hw2 hh2 HR x0 x1 x2 HNw HBl
  have HA2 := Lib.hid (HA.out.below HB2.out)
  have x2 : w2.cell? ⟨w.heap.size, 2, none⟩ = some (.string ⟨fr.toArray⟩) := blk_cell8 HN2.out
  obtain ⟨_, m1, _, _⟩ := HA2.out.cells
  have hb2 : B ≤ w2.heap.size := Nat.le_trans HBb.out HB2.out.size
  have HPt : Hid (∀ V, Below w2.heap.size w2 V → Calls Try.prog 36 #[vH, .string ⟨fr.toArray⟩] V (Pt.PutOut V vH ys fr)) := fun V hV => Pt.RPut_calls ys vH fr V (reads_of_row (L5.own_below HA2.out.heard hV)) hyl HYs.out
  have hS0 : Below w2.heap.size w2 w2.drew := (Below.refl _ _).drew
  clear g1 g2 g3 g4
  go_upto_region 3 with (fail)
  have hhw : h ≠ w.heap.size := by have := HA.out.lt; omega
  have HW3 : Hid (∀ (v' : Value) ys' w3, ys'.Pairwise Tm.strict → (∀ x, x ∈ ys' ↔ x ∈ ys ∨ x = fr) → ys'.length ≤ ys.length + 1 → ((v' = vH ∧ ys' = ys) ∨ w3.ownsRow w2.drew.heap.size 9 1 v' ys'.length (Go.Proofs.Ytildapcdkipakaa.strs ys')) → Below w2.drew.heap.size w2.drew w3 →
      w3.cell? ⟨h, 1, none⟩ = some vH ∧ w3.frozen? ⟨h, 1, none⟩ = false ∧ ∀ w4, w3.setCell ⟨h, 1, none⟩ v' = w4 → RfAt w4 B h l vL ys' v' ∧ Only (RfIn h vL vH) w w4 ∧ (∀ q, RfIn h vL v' q → RfIn h vL vH q ∨ w.heap.size ≤ q) ∧ w4.heap[w.heap.size]? = some (.cells #[.int .i64 src, .int .i64 dst, .string ⟨fr.toArray⟩] 41 (0, 0)) ∧ w.heap.size + 1 ≤ w4.heap.size) := fun v' ys' w3 _ _ _ k4 k5 => by
    have hb : Below w2.heap.size w2 w3 := hS0.trans k5
    obtain ⟨u1, u2, u3, u4, u5⟩ := rf_heard HA2.out hb2 hb k4
    refine ⟨u1, u2, fun w4 hw4 => ?_⟩
    rw [hw4] at u3 u4
    have hz := HB2.out.size
    refine ⟨u3, (Only.of_below HB2.out).onto u4 (fun q e => .inl e), fun q hq => (u5 q hq).imp id (fun e => by omega), ?_, ?_⟩
    · rw [← hw4]
      exact (Below.heap_setCell _ _ _ _ (by show w.heap.size ≠ h; exact fun e => hhw e.symm)).trans ((hb.block _ (by omega)).trans HN2.out)
    · have := u4.size; omega
  go_cut [] (fun wc => ∃ (v' : Value) (ys' : List Bytes), ys'.Pairwise Tm.strict ∧ (∀ x, x ∈ ys' ↔ x ∈ ys ∨ x = fr) ∧ ys'.length ≤ ys.length + 1 ∧ RfAt wc B h l vL ys' v' ∧ Only (RfIn h vL vH) w wc ∧ (∀ q, RfIn h vL v' q → RfIn h vL vH q ∨ w.heap.size ≤ q) ∧ wc.heap[w.heap.size]? = some (.cells #[.int .i64 src, .int .i64 dst, .string ⟨fr.toArray⟩] 41 (0, 0)) ∧ w.heap.size + 1 ≤ wc.heap.size)
  case first =>
    go_wp2
    go_region_law (first
      | (go_simp; go_at_call 36; refine (HPt.out _ hS0).mono ?_; rintro e w3 ⟨v', ys', rfl, q0, q1, q2, q3, q4, q5⟩
         obtain ⟨A', c', rfl, _⟩ := q0
         obtain ⟨j4, jf, jr⟩ := HW3.out _ ys' w3 q1 q2 q3 q4 q5
         have HJ := Lib.hid (And.intro q1 (And.intro q2 (And.intro q3 (jr _ rfl))))
         clear q1 q2 q3 q4 q5 jr))
    all_goals
      go_wp2_with fail
      go_meet
      case rel => exact ⟨_, _, HJ.out.1, HJ.out.2.1, HJ.out.2.2.1, HJ.out.2.2.2⟩
  case rest =>
    obtain ⟨w4, rfl⟩ : ∃ z, z = wc := ⟨wc, rfl⟩
    obtain ⟨v', ys', q1, q2, q3, a4, o4, n4, b4, z4⟩ := hcut
    have HA4 := Lib.hid a4
    have HO4 := Lib.hid (And.intro o4 n4)
    have HY4 := Lib.hid (And.intro q1 (And.intro q2 q3))
    have HBx := Lib.hid b4
    obtain ⟨c0, _, _, _⟩ := a4.cells
    obtain ⟨A4, cL, rfl⟩ := L5.own_slice a4.row
    have hb4 : B ≤ w4.heap.size := by have := HBb.out; omega
    have HFin : Hid (∀ l' w', Rfd w4 B h (.slice A4 l.length cL) v' l' ys' w' → ∃ ys', ys'.Pairwise Tm.strict ∧ (∀ x, x ∈ ys' ↔ x ∈ ys ∨ x = fr) ∧ ys'.length ≤ ys.length + 1 ∧ Rfd w B h (.slice A4 l.length cL) vH l' ys' w') := fun l' w' ⟨vL', vH', r1, r2, r3⟩ => by
      refine ⟨ys', HY4.out.1, HY4.out.2.1, HY4.out.2.2, vL', vH', r1, HO4.out.1.onto r2 (fun q hq => HO4.out.2 q hq), fun q hq => ?_⟩
      rcases r3 q hq with c | c
      · exact HO4.out.2 q c
      · exact .inr (by omega)
    clear a4 o4 n4 q1 q2 q3 b4 m1 x2 HPt HW3 HA2 HA HB2 HN2 hS0 hb2
    by_cases hf4 : 400 ≤ l.length
    · have j1 : (400 : Int) ≤ (l.length : Int) := by omega
      have HF : Hid (RSendYes w B h l (.slice A4 l.length cL) vH ys ⟨src, dst, fr⟩ (.returned (.int .i64 5)) w4) := by
        refine ⟨by unfold layC; rw [if_pos hf4]; rfl, HFin.out _ _ ⟨_, _, ?_, Only.refl _ _, fun q hq => .inl hq⟩⟩
        unfold layL
        rw [if_pos hf4]
        exact HA4.out
      clear hf4
      go_wp2
      go_ret
      exact HF.out
    · have j1 : ¬ (400 : Int) ≤ (l.length : Int) := by omega
      have hhl := HA4.out.lt
      have hwl : w.heap.size < w4.heap.size := by omega
      have bB : Below w4.heap.size w4 (w4.alloc (.cells #[.int .i64 src, .int .i64 dst, .string ⟨fr.toArray⟩] 41)) := (Below.refl _ w4).alloc (Nat.le_refl _) _
      have x0 : w4.cell? ⟨w.heap.size, 0, none⟩ = some (.int .i64 src) := blk_cell8 HBx.out
      have x1 : w4.cell? ⟨w.heap.size, 1, none⟩ = some (.int .i64 dst) := blk_cell8 HBx.out
      have x2 : w4.cell? ⟨w.heap.size, 2, none⟩ = some (.string ⟨fr.toArray⟩) := blk_cell8 HBx.out
      have m0' := (bB.cell (p := ⟨h, 0, none⟩) hhl).trans c0
      have y0 := (bB.cell (p := ⟨w.heap.size, 0, none⟩) hwl).trans x0
      have y1 := (bB.cell (p := ⟨w.heap.size, 1, none⟩) hwl).trans x1
      have y2 := (bB.cell (p := ⟨w.heap.size, 2, none⟩) hwl).trans x2
      have HR : Hid ((w4.drew.alloc (.cells #[.int .i64 src, .int .i64 dst, .string ⟨fr.toArray⟩] 41)).ownsRow B 41 3 (.slice A4 l.length cL) l.length (flat l)) := L5.own_below HA4.out.row ((Below.refl _ w4).drew.alloc (Nat.le_refl _) _)
      have HNews : Hid (∀ (j : Nat) (u : Value), (Dg.cells ⟨src, dst, fr⟩)[j]? = some u → (w4.drew.alloc (.cells #[.int .i64 src, .int .i64 dst, .string ⟨fr.toArray⟩] 41)).cell? ((⟨w4.heap.size, 0, none⟩ : Addr).add j) = some u) :=
        World.news_of_block (cs := #[.int .i64 src, .int .i64 dst, .string ⟨fr.toArray⟩]) (t := 41) (fr := (0, 0)) (heap_alloc_new w4.drew _)
      have hzA : (w4.drew.alloc (.cells #[.int .i64 src, .int .i64 dst, .string ⟨fr.toArray⟩] 41)).heap.size = w4.heap.size + 1 := by rw [World.size_alloc]; rfl
      have hBA : B ≤ (w4.drew.alloc (.cells #[.int .i64 src, .int .i64 dst, .string ⟨fr.toArray⟩] 41)).heap.size := by omega
      have HEnd : Hid (∀ g2 cc w6, w6.ownsRow B 41 3 (.slice (some ⟨g2, 0, none⟩) (l.length + 1) cc) (l.length + 1) (flat l ++ Dg.cells ⟨src, dst, fr⟩) → (w4.drew.alloc (.cells #[.int .i64 src, .int .i64 dst, .string ⟨fr.toArray⟩] 41)).grownBy w6 (Value.slice A4 l.length cL).ownBlock → ((Value.slice A4 l.length cL).ownBlock = some g2 ∨ g2 = w4.heap.size + 1) →
          w6.cell? ⟨h, 0, none⟩ = some (.slice A4 l.length cL) ∧ w6.frozen? ⟨h, 0, none⟩ = false ∧ RSendYes w B h l (.slice A4 l.length cL) vH ys ⟨src, dst, fr⟩ (.returned (.int .i64 0)) (w6.setCell ⟨h, 0, none⟩ (.slice (some ⟨g2, 0, none⟩) (l.length + 1) cc))) := fun g2 cc w6 k1 k2 k3 => by
        obtain ⟨e1, e2, e3⟩ := rf_append HA4.out ⟨src, dst, fr⟩ k1 k2 k3
        refine ⟨e1, e2, by unfold layC; rw [if_neg hf4]; rfl, HFin.out _ _ ?_⟩
        unfold layL
        rw [if_neg hf4]
        exact e3
      clear hf4 bB
      go_wp2
      go_region_law (first
        | (refine step_append_lies _ rfl (.tmp 49) (.tmp 51) 27 rfl B 41 i0 (.agg #[.int .i64 0, .int .i64 0, .string ⟨#[]⟩]) 3 32 Try.underlying27 hi hz0 hz1 hz2 rfl (by decide) (.slice A4 l.length cL) l.length (flat l) (by simp [Act.eval]) HR.out ⟨w4.heap.size, 0, none⟩ 1 1 (Dg.cells ⟨src, dst, fr⟩) (by simp [Act.eval]) rfl HNews.out (by simp [Dg.cells, Value.oneCell']) (by decide) (by unfold maxLen; omega) (by omega) hBA (w4.heap.size + 1) hzA ?_
           intro gg cc w6 k1 k2 k3 k4
           obtain ⟨j4, jf, jr⟩ := HEnd.out gg cc w6 k1 k2 k3
           have HJ := Lib.hid jr
           clear k1 k2 k3 k4 jr))
      all_goals
        clear HEnd HNews HR
        go_wp2
        go_ret
        exact HJ.out
end
end Go.Proofs.Ytildapcdkipakaa.L8
end

section
namespace Go.Proofs.Ytildapcdkipakaa.L8
open Go.ChangeShapes Go.WideShapes Go.ChangeAt Go.RowKit Go.Deep

section
variable {w : World} {B h : Nat} {l : List Dg} {vL vH : Value} {ys : List Bytes}
set_option maxHeartbeats 1000000 in
theorem rtake_no (a : RfAt w B h l vL ys vH) {i : Int} (hi : ¬ (0 ≤ i ∧ i < l.length)) : Calls Try.prog 11 #[.pointer (some ⟨h, 0, none⟩), .int .i64 i] w (TakeNo w) := by
  have bA : Below w.heap.size w (w.alloc (.cells #[.int .i64 0, .int .i64 0, .string ⟨#[]⟩] 41)) := (Below.refl _ w).alloc (Nat.le_refl _) _
  have HNew := Lib.hid (heap_alloc_new w (.cells #[.int .i64 0, .int .i64 0, .string ⟨#[]⟩] 41))
  have hhl := a.lt
  obtain ⟨c0, _, _, _⟩ := a.cells
  obtain ⟨A, c, rfl⟩ := L5.own_slice a.row
  have k0 := (bA.cell (p := ⟨h, 0, none⟩) hhl).trans c0
  have HB := Lib.hid bA
  clear a bA
  by_cases h0 : i < 0
  · clear hi
    go_enter Try.func11, Try.ntmps11
    go_wp2
    refine bodyPost_ret (results_both8 rfl _ _ w.heap.size 41 _ (0, 0) _ rfl HNew.out Try.underlying41 rfl (by kernel_rfl)) rfl ?_
    exact ⟨rfl, HB.out⟩
  · have h1 : (l.length : Int) ≤ i := by omega
    clear hi
    go_enter Try.func11, Try.ntmps11
    go_wp2
    refine bodyPost_ret (results_both8 rfl _ _ w.heap.size 41 _ (0, 0) _ rfl HNew.out Try.underlying41 rfl (by kernel_rfl)) rfl ?_
    exact ⟨rfl, HB.out⟩
theorem cut3_facts {w7 V1 : World} {B g cap i : Nat} {l : List Dg} (hrow : w7.ownsRow B 41 3 (.slice (some ⟨g, 0, none⟩) l.length cap) l.length (flat l)) (hV1 : Below w7.heap.size w7 V1) :
    (∀ j u, ((flat l).take (i * 3))[j]? = some u → V1.cell? ((⟨g, 0, none⟩ : Addr).add j) = some u) ∧ (∀ V, V1.grownBy V (some w7.heap.size) → ∀ j u, ((flat l).drop ((i + 1) * 3))[j]? = some u → V.cell? ((⟨g, (i + 1) * 3, none⟩ : Addr).add j) = some u) := by
  have hgl := (hrow.lt g rfl).2
  have hc : ∀ j u, (flat l)[j]? = some u → w7.cell? ⟨g, j, none⟩ = some u := fun j u hj => by
    have := hrow.cells (g := g) rfl j u hj
    rw [add_zero8] at this
    exact this
  refine ⟨fun j u hu => ?_, fun V hV j u hu => ?_⟩
  · rw [add_zero8]
    have hj := (List.getElem?_eq_some_iff.1 hu).1
    rw [List.getElem?_take_of_lt (by simp at hj; omega)] at hu
    exact (hV1.cell (p := ⟨g, j, none⟩) hgl).trans (hc j u hu)
  · rw [add_off8]
    rw [List.getElem?_drop] at hu
    have h1 := (hV1.cell (p := ⟨g, (i + 1) * 3 + j, none⟩) hgl).trans (hc _ u hu)
    rw [hV.cell_far ⟨g, (i + 1) * 3 + j, none⟩ (by have := hV1.size; simp; omega) (by simp; omega)]
    exact h1
def RTakeYes (w : World) (B h : Nat) (l : List Dg) (vL vH : Value) (ys : List Bytes) (i : Nat) (d : Dg) (e : Ending) (w' : World) : Prop :=
  e = .returned (.tuple #[d.val, .int .i64 0]) ∧ Rfd w B h vL vH (l.take i ++ l.drop (i + 1)) ys w'
set_option maxRecDepth 100000 in
set_option maxHeartbeats 8000000 in
theorem rtake_yes (a : RfAt w B h l vL ys vH) (_hB : B ≤ w.heap.size) {i : Nat} {d : Dg} (hd : l[i]? = some d) (hl : l.length ≤ 1000000) : Calls Try.prog 11 #[.pointer (some ⟨h, 0, none⟩), .int .i64 i] w (RTakeYes w B h l vL vH ys i d) := by
  obtain ⟨i0, hi, hz0, hz1, hz2⟩ := info_parts8 info_rdg
  have hil := (List.getElem?_eq_some_iff.1 hd).1
  have bA : Below w.heap.size w (w.alloc (.cells #[.int .i64 0, .int .i64 0, .string ⟨#[]⟩] 41)) := (Below.refl _ w).alloc (Nat.le_refl _) _
  have bC : Below w.heap.size w ((w.alloc (.cells #[.int .i64 0, .int .i64 0, .string ⟨#[]⟩] 41)).alloc (.cells #[.int .i64 d.src, .int .i64 d.dst, .string ⟨d.fr.toArray⟩] 41)) := bA.alloc (by simp) _
  have n1 := heap_alloc_new (w.alloc (.cells #[.int .i64 0, .int .i64 0, .string ⟨#[]⟩] 41)) (.cells #[.int .i64 d.src, .int .i64 d.dst, .string ⟨d.fr.toArray⟩] 41)
  rw [World.size_alloc] at n1
  have n0 : ((w.alloc (.cells #[.int .i64 0, .int .i64 0, .string ⟨#[]⟩] 41)).alloc (.cells #[.int .i64 d.src, .int .i64 d.dst, .string ⟨d.fr.toArray⟩] 41)).heap[w.heap.size]? = some (.cells #[.int .i64 0, .int .i64 0, .string ⟨#[]⟩] 41 (0, 0)) := (Below.heap_alloc _ _ _ (by simp)).trans (heap_alloc_new w _)
  have nz : ((w.alloc (.cells #[.int .i64 0, .int .i64 0, .string ⟨#[]⟩] 41)).alloc (.cells #[.int .i64 d.src, .int .i64 d.dst, .string ⟨d.fr.toArray⟩] 41)).heap.size = w.heap.size + 2 := by simp
  obtain ⟨c0, _, _, _⟩ := a.cells
  obtain ⟨g, cap, rfl, hg, hcap, _⟩ := rdg_shape a.row (by omega)
  obtain ⟨x0, x1, x2⟩ := rdg_cells a.row hd
  have s1 : ¬ (i : Int) < 0 := by omega
  have s2 : ¬ (l.length : Int) ≤ (i : Int) := by omega
  have s3 : (i : Int) < (l.length : Int) := by omega
  have s4 : (0 : Int) ≤ (i : Int) := by omega
  have hhl := a.lt
  have k0 := (bA.cell (p := ⟨h, 0, none⟩) hhl).trans c0
  have y0 := (bA.cell (p := ⟨g, i * 3, none⟩) hg).trans x0
  have y1 := (bA.cell (p := ⟨g, i * 3 + 1, none⟩) hg).trans x1
  have y2 := (bA.cell (p := ⟨g, i * 3 + 2, none⟩) hg).trans x2
  have HA := Lib.hid a
  have HIl := Lib.hid hil
  clear a hd hil bA _hB
  go_enter Try.func11, Try.ntmps11
  go_upto_region 4 with (fail)
  obtain ⟨W2, hW2⟩ : ∃ W2, (w.alloc (.cells #[.int .i64 0, .int .i64 0, .string ⟨#[]⟩] 41)).alloc (.cells #[.int .i64 d.src, .int .i64 d.dst, .string ⟨d.fr.toArray⟩] 41) = W2 := ⟨_, rfl⟩
  rw [hW2] at bC n0 n1 nz ⊢
  have HB2 := Lib.hid bC
  have HA2 := Lib.hid (HA.out.below bC)
  have HN0 := Lib.hid n0
  have HN1 := Lib.hid n1
  clear bC hW2 k0 x0 x1 x2 c0 y0 y1 y2 n0 n1
  go_cut [] (fun wc => ∃ vL', RfAt wc B h (l.take i ++ l.drop (i + 1)) vL' ys vH ∧ Only (RfIn h (.slice (some ⟨g, 0, none⟩) l.length cap) vH) w wc ∧ (∀ q, RfIn h vL' vH q → RfIn h (.slice (some ⟨g, 0, none⟩) l.length cap) vH q ∨ w.heap.size ≤ q) ∧ wc.heap[w.heap.size]? = some (.cells #[.int .i64 0, .int .i64 0, .string ⟨#[]⟩] 41 (0, 0)) ∧ wc.heap[w.heap.size + 1]? = some (.cells #[.int .i64 d.src, .int .i64 d.dst, .string ⟨d.fr.toArray⟩] 41 (0, 0)) ∧ ∀ q, vL'.ownBlock = some q → w.heap.size + 2 ≤ q)
  case first =>
    obtain ⟨c0, _, _, _⟩ := HA2.out.cells
    have hV1 : Below W2.heap.size W2 (W2.drew.alloc (.cells #[] 41)) := (Below.refl _ W2).drew.alloc (Nat.le_refl _) _
    have hz1' : W2.heap.size < (W2.drew.alloc (.cells #[] 41)).heap.size := by rw [World.size_alloc]; show W2.heap.size < W2.heap.size + 1; omega
    have c0' : (W2.alloc (.cells #[] 41)).cell? ⟨h, 0, none⟩ = some (.slice (some ⟨g, 0, none⟩) l.length cap) := (((Below.refl W2.heap.size W2).alloc (Nat.le_refl _) _).cell (p := ⟨h, 0, none⟩) HA2.out.lt).trans c0
    have HLit : Hid ((W2.drew.alloc (.cells #[] 41)).ownsRow W2.heap.size 41 3 (.slice (some ⟨W2.heap.size, 0, none⟩) 0 0) 0 []) := World.ownsRow_lit (e := 41) (base := W2.heap.size) (size := 3) W2.drew #[] 0 (Nat.le_refl _) (by unfold maxLen; omega) rfl
    have hcut' := cut3_facts (i := i) HA2.out.row hV1
    have HN1' := Lib.hid hcut'.1
    have HFar := Lib.hid hcut'.2
    have hvl : (flat l).length = l.length * 3 := flat_len l
    have hL1 : Hid (((flat l).take (i * 3)).length = i * 3) := by show _ = _; rw [List.length_take, hvl]; omega
    have hL2 : Hid (((flat l).drop ((i + 1) * 3)).length = (l.length - (i + 1)) * 3) := by show _ = _; rw [List.length_drop, hvl]; omega
    have HOne : Hid ((∀ u ∈ (flat l).take (i * 3), u.oneCell' = true) ∧ (∀ u ∈ (flat l).drop ((i + 1) * 3), u.oneCell' = true)) := ⟨fun u hu => flat_one_cell _ u (List.mem_of_mem_take hu), fun u hu => flat_one_cell _ u (List.mem_of_mem_drop hu)⟩
    have m1 : Hid (0 + i ≤ maxLen ∧ (0 + i) * 32 ≤ 140737488355328 ∧ i + (l.length - (i + 1)) ≤ maxLen ∧ (i + (l.length - (i + 1))) * 32 ≤ 140737488355328) := ⟨by unfold maxLen; omega, by omega, by unfold maxLen; omega, by omega⟩
    have m2 : Hid (W2.heap.size ≤ (W2.drew.alloc (.cells #[] 41)).heap.size) := Nat.le_of_lt hz1'
    have HMid : Hid (∀ (v8 : Value) w8, w8.ownsRow W2.heap.size 41 3 v8 i ((flat l).take (i * 3)) ∧ (W2.drew.alloc (.cells #[] 41)).grownBy w8 (some W2.heap.size) → w8.cell? ⟨h, 0, none⟩ = some (.slice (some ⟨g, 0, none⟩) l.length cap)) := fun v8 w8 k8 => by
      have b8 : Below W2.heap.size W2 w8 := hV1.grown k8.2 (by omega) (fun k e => by cases e; exact Nat.le_refl _)
      exact (b8.cell (p := ⟨h, 0, none⟩) HA2.out.lt).trans c0
    have HEnd : Hid (∀ (v8 v9 : Value) w8 w9, w8.ownsRow W2.heap.size 41 3 v8 i ((flat l).take (i * 3)) ∧ (W2.drew.alloc (.cells #[] 41)).grownBy w8 (some W2.heap.size) → w9.ownsRow W2.heap.size 41 3 v9 (i + (l.length - (i + 1))) ((flat l).take (i * 3) ++ (flat l).drop ((i + 1) * 3)) ∧ w8.grownBy w9 v8.ownBlock →
        w9.cell? ⟨h, 0, none⟩ = some (.slice (some ⟨g, 0, none⟩) l.length cap) ∧ w9.frozen? ⟨h, 0, none⟩ = false ∧ ∀ w4, w9.setCell ⟨h, 0, none⟩ v9 = w4 → ∃ vL', RfAt w4 B h (l.take i ++ l.drop (i + 1)) vL' ys vH ∧ Only (RfIn h (.slice (some ⟨g, 0, none⟩) l.length cap) vH) w w4 ∧ (∀ q, RfIn h vL' vH q → RfIn h (.slice (some ⟨g, 0, none⟩) l.length cap) vH q ∨ w.heap.size ≤ q) ∧ w4.heap[w.heap.size]? = some (.cells #[.int .i64 0, .int .i64 0, .string ⟨#[]⟩] 41 (0, 0)) ∧ w4.heap[w.heap.size + 1]? = some (.cells #[.int .i64 d.src, .int .i64 d.dst, .string ⟨d.fr.toArray⟩] 41 (0, 0)) ∧ ∀ q, vL'.ownBlock = some q → w.heap.size + 2 ≤ q) := fun v8 v9 w8 w9 k8 k9 => by
      have b8 : Below W2.heap.size W2 w8 := hV1.grown k8.2 (by omega) (fun k e => by cases e; exact Nat.le_refl _)
      have b9 : Below W2.heap.size W2 w9 := b8.grown k9.2 b8.size (fun k e => (k8.1.lt k e).1)
      have a9 := HA2.out.below b9
      have hlh : h < w.heap.size := HA.out.lt
      have hgw : w.heap.size ≤ W2.heap.size := HB2.out.size
      have h9 : ∀ q, v9.ownBlock = some q → W2.heap.size ≤ q := fun q e => (k9.1.lt q e).1
      have hvh := row_kind a9.heard a9.own rf_ne.2.1
      refine ⟨blk_cell8 a9.own, blk_frozen8 a9.own, fun w4 hw4 => ?_⟩
      have kk : ∀ q, q ≠ h → w4.heap[q]? = w9.heap[q]? := fun q hq => by rw [← hw4]; exact Below.heap_setCell _ _ _ _ (by show q ≠ h; exact hq)
      have e1 : (l.take i ++ l.drop (i + 1)).length = i + (l.length - (i + 1)) := by have := HIl.out; simp; omega
      have e2 : flat (l.take i ++ l.drop (i + 1)) = (flat l).take (i * 3) ++ (flat l).drop ((i + 1) * 3) := by rw [flat_append, flat_take, flat_drop]
      refine ⟨v9, ⟨?_, a9.base, ?_, L5.own_same a9.heard (fun q e => kk q (fun e' => hvh (by rw [e, e'])))⟩, ?_, fun q hq => ?_, ?_, ?_, fun q e => by have := h9 q e; omega⟩
      · have := blk_setj (j := 0) a9.own v9
        rw [pair_set0, hw4] at this
        exact this
      · rw [e1, e2]
        have hr : w9.ownsRow B 41 3 v9 (i + (l.length - (i + 1))) ((flat l).take (i * 3) ++ (flat l).drop ((i + 1) * 3)) := ⟨k9.1.1, k9.1.2.imp id (fun ⟨g, cap, cur, a1, a2, a3⟩ => ⟨g, cap, cur, a1, by have := HA.out.base; omega, a3⟩)⟩
        exact L5.own_same hr (fun q e => kk q (by have := h9 q e; omega))
      · rw [← hw4]
        exact ((Only.of_below HB2.out).onto (Only.of_below (F := RfIn h (.slice (some ⟨g, 0, none⟩) l.length cap) vH) b9) (fun q e => .inl e)).setCell (.inl (.inl rfl)) _
      · rcases hq with e | e | e
        · exact .inl (.inl e)
        · right; have := h9 q e; omega
        · exact .inl (.inr (.inr e))
      · exact (kk _ (by omega)).trans ((b9.block _ (by omega)).trans HN0.out)
      · exact (kk _ (by omega)).trans ((b9.block _ (by omega)).trans HN1.out)
    have z3 : (i : Int) ≤ (l.length : Int) := by omega
    have z4 : (i : Int) ≤ (cap : Int) := by omega
    have z5 : (i : Int) + 1 ≤ (l.length : Int) := by omega
    have z6 : (l.length : Int) ≤ (cap : Int) := by omega
    have z8 : (0 : Int) ≤ (i : Int) + 1 := by omega
    have hwr : IntKind.i64.wrap ((i : Int) + 1) = (i : Int) + 1 := by rw [IntKind.wrap_i64]; omega
    have htn : ((i : Int) + 1).toNat = i + 1 := by omega
    have hHN : Hid (cap = i + 1 → (flat l).drop ((i + 1) * 3) = []) := fun e => List.drop_of_length_le (by rw [hvl]; omega)
    clear hcut' hV1 hz1' hvl nz
    by_cases hcap' : cap = i + 1
    · have HNil := Lib.hid (hHN.out hcap')
      subst hcap'
      have z9 : (i : Int) ≤ (i : Int) + 1 := by omega
      clear hHN
      go_wp2
      go_region_law (first
        | (refine step_append_owned rfl (.tmp 34) (.tmp 41) 27 rfl W2.heap.size 41 i0 (.agg #[.int .i64 0, .int .i64 0, .string ⟨#[]⟩]) 3 32 Try.underlying27 hi hz0 hz1 hz2 rfl (by decide) v8 i ((flat l).take (i * 3)) (by simp [Act.eval, Act.put]) X8.out.1 ⟨g, 0, none⟩ (l.length - (i + 1)) 0 ((flat l).drop ((i + 1) * 3)) (by first | (simp [Act.eval, Act.put]; done) | (simp [Act.eval, Act.put]; omega)) hL2.out (fun j u hu => by rw [HNil.out] at hu; simp at hu) (HOne.out.2) m1.out.2.2.1 m1.out.2.2.2 (Nat.le_trans m2.out X8.out.2.size) ?_
           intro v9 w9 hown5 hgrow5
           obtain ⟨A9, c9, rfl⟩ := L5.own_slice hown5
           obtain ⟨j4, jf, jr⟩ := HEnd.out _ _ _ _ X8.out ⟨hown5, hgrow5⟩
           have HJ := Lib.hid jr
           clear hown5 hgrow5 jr)
        | (refine step_append_owned rfl (.tmp 27) (.tmp 33) 27 rfl W2.heap.size 41 i0 (.agg #[.int .i64 0, .int .i64 0, .string ⟨#[]⟩]) 3 32 Try.underlying27 hi hz0 hz1 hz2 rfl (by decide) (.slice (some ⟨W2.heap.size, 0, none⟩) 0 0) 0 [] (by simp [Act.eval, Act.put]) HLit.out ⟨g, 0, none⟩ i (i + 1) ((flat l).take (i * 3)) (by simp [Act.eval, Act.put]) hL1.out HN1'.out (HOne.out.1) m1.out.1 m1.out.2.1 m2.out ?_
           intro v8 w8 hown4 hgrow4
           have X8 : Hid (w8.ownsRow W2.heap.size 41 3 v8 i ((flat l).take (i * 3)) ∧ (W2.drew.alloc (.cells #[] 41)).grownBy w8 (some W2.heap.size)) := ⟨by rw [Nat.zero_add] at hown4; exact hown4, hgrow4⟩
           have j0 := HMid.out _ _ X8.out
           clear hown4 hgrow4))
      all_goals
        go_wp2_with fail
        go_meet
        case rel => exact HJ.out _ (by first | rfl | (rw [show i + (l.length - (i + 1)) = i by omega]))
    · clear hHN
      go_wp2
      go_region_law (first
        | (refine step_append_owned rfl (.tmp 34) (.tmp 41) 27 rfl W2.heap.size 41 i0 (.agg #[.int .i64 0, .int .i64 0, .string ⟨#[]⟩]) 3 32 Try.underlying27 hi hz0 hz1 hz2 rfl (by decide) v8 i ((flat l).take (i * 3)) (by simp [Act.eval, Act.put]) X8.out.1 ⟨g, (i + 1) * 3, none⟩ (l.length - (i + 1)) (cap - (i + 1)) ((flat l).drop ((i + 1) * 3)) (by first | (simp [Act.eval, Act.put]; done) | (simp [Act.eval, Act.put]; omega)) hL2.out (HFar.out _ X8.out.2) (HOne.out.2) m1.out.2.2.1 m1.out.2.2.2 (Nat.le_trans m2.out X8.out.2.size) ?_
           intro v9 w9 hown5 hgrow5
           obtain ⟨A9, c9, rfl⟩ := L5.own_slice hown5
           obtain ⟨j4, jf, jr⟩ := HEnd.out _ _ _ _ X8.out ⟨hown5, hgrow5⟩
           have HJ := Lib.hid jr
           clear hown5 hgrow5 jr)
        | (refine step_append_owned rfl (.tmp 27) (.tmp 33) 27 rfl W2.heap.size 41 i0 (.agg #[.int .i64 0, .int .i64 0, .string ⟨#[]⟩]) 3 32 Try.underlying27 hi hz0 hz1 hz2 rfl (by decide) (.slice (some ⟨W2.heap.size, 0, none⟩) 0 0) 0 [] (by simp [Act.eval, Act.put]) HLit.out ⟨g, 0, none⟩ i cap ((flat l).take (i * 3)) (by simp [Act.eval, Act.put]) hL1.out HN1'.out (HOne.out.1) m1.out.1 m1.out.2.1 m2.out ?_
           intro v8 w8 hown4 hgrow4
           have X8 : Hid (w8.ownsRow W2.heap.size 41 3 v8 i ((flat l).take (i * 3)) ∧ (W2.drew.alloc (.cells #[] 41)).grownBy w8 (some W2.heap.size)) := ⟨by rw [Nat.zero_add] at hown4; exact hown4, hgrow4⟩
           have j0 := HMid.out _ _ X8.out
           clear hown4 hgrow4))
      all_goals
        go_wp2_with fail
        go_meet
        case rel => exact HJ.out _ (by first | rfl | (rw [show i + (l.length - (i + 1)) = i by omega]))
  case rest =>
    obtain ⟨w4, rfl⟩ : ∃ z, z = wc := ⟨wc, rfl⟩
    obtain ⟨vL', a4, o4, n4, y0, y1, n5⟩ := hcut
    have hlh : h < w.heap.size := HA.out.lt
    have r0 : w4.cell? ⟨w.heap.size + 1, 0, none⟩ = some (.int .i64 d.src) := blk_cell8 y1
    have r1 : w4.cell? ⟨w.heap.size + 1, 1, none⟩ = some (.int .i64 d.dst) := blk_cell8 y1
    have r2 : w4.cell? ⟨w.heap.size + 1, 2, none⟩ = some (.string ⟨d.fr.toArray⟩) := blk_cell8 y1
    obtain ⟨u1, u2, u3, ⟨e1, d1, f1⟩, ⟨e2, d2, f2⟩, ⟨e3, d3, f3⟩, hlast, hBl, hkl⟩ := store3 (.int .i64 d.src) (.int .i64 d.dst) (.string ⟨d.fr.toArray⟩) y0
    have HLast := Lib.hid hlast
    have hnot : ∀ q, RfIn h vL' vH q → q ≠ w.heap.size := fun q hq e => by
      subst e
      rcases hq with e | e | e
      · omega
      · have := n5 _ e; omega
      · exact row_kind a4.heard y0 (fun e => rf_ne.2.2 e.symm) e
    have HF : Hid (RTakeYes w B h l (.slice (some ⟨g, 0, none⟩) l.length cap) vH ys i d (.returned (.tuple #[d.val, .int .i64 0])) u3) := by
      have o5 : Only (RfIn h (.slice (some ⟨g, 0, none⟩) l.length cap) vH) w u3 := ⟨hBl.os.trans o4.os, hBl.tape.trans o4.tape, hBl.output.trans o4.output, Nat.le_trans o4.size hBl.size, fun k hk hn => (hkl k (by omega)).trans (o4.block k hk hn)⟩
      exact ⟨rfl, vL', vH, a4.same (fun k hk => hkl k (hnot k hk)), o5, n4⟩
    clear hlast hBl hkl a4 o4 n4 y0 y1 hnot nz HA HA2 HB2 HN0 HN1
    go_wp2
    refine bodyPost_ret (results_both8 rfl _ _ w.heap.size 41 _ (0, 0) _ rfl HLast.out Try.underlying41 rfl (by kernel_rfl)) rfl ?_
    exact HF.out
end
end Go.Proofs.Ytildapcdkipakaa.L8
end

section
namespace Go.Proofs.Ytildapcdkipakaa.L8
open Go.ChangeShapes Go.WideShapes Go.ChangeAt Go.RowKit Go.Deep

theorem inOrder_pairwise {hs : List Bytes} (hn : hs.Nodup) : (inOrder hs).Pairwise Tm.strict := by
  have tr : ∀ a b c : Bytes, leB a b = true → leB b c = true → leB a c = true := fun a b c h1 h2 => by simp only [leB, decide_eq_true_eq] at *; exact List.le_trans h1 h2
  have tt : ∀ a b : Bytes, (leB a b || leB b a) = true := fun a b => by simp only [leB, Bool.or_eq_true, decide_eq_true_eq]; exact List.le_total a b
  have hp := List.pairwise_mergeSort tr tt hs
  have hnd : (inOrder hs).Nodup := (List.mergeSort_perm hs leB).nodup_iff.2 hn
  refine (hp.and hnd).imp fun {a b} h => ?_
  obtain ⟨h1, h2⟩ := h
  simp only [leB, decide_eq_true_eq] at h1
  have h3 : Tm.less b a = false := not_less_of_le h1
  show Tm.less a b = true
  cases hl : Tm.less a b with
  | true => rfl
  | false => exact absurd (Tm.less_antisymm a b hl h3) h2
theorem inOrder_put {hs ys : List Bytes} {k : Bytes} (hn : hs.Nodup) (h1 : ys.Pairwise Tm.strict) (h2 : ∀ x, x ∈ ys ↔ x ∈ inOrder hs ∨ x = k) : ys = inOrder (putH hs k) :=
  Tm.strict_unique h1 (inOrder_pairwise (putH_nodup hn k)) (fun x => by rw [h2 x, mem_inOrder, mem_inOrder, mem_putH])
theorem nt_ne : 76 ≠ 30 ∧ 36 ≠ 30 ∧ 41 ≠ 76 ∧ 9 ≠ 76 ∧ 36 ≠ 41 ∧ 36 ≠ 9 := ⟨by decide, by decide, by decide, by decide, by decide, by decide⟩
theorem row_not_map {W : World} {B n size : Nat} {e : TypeId} {v : Value} {xs : List Value} {k : Nat} (r : W.ownsRow B e size v n xs) (hb : ∃ es cl, W.heap[k]? = some (.map es cl)) : v.ownBlock ≠ some k := by
  obtain ⟨es, cl, hb⟩ := hb
  intro e'
  rcases r.2 with ⟨e3, _⟩ | ⟨g, cap, cur, e3, _, e4, _⟩
  · rw [e3] at e'; cases e'
  · rw [e3] at e'
    obtain rfl : g = k := by cases e'; rfl
    rw [hb] at e4
    cases e4
/-- Both nets lie apart. -/
theorem nt_rf {W : World} {B B' h hr : Nat} {l l' : List Dg} {v vL vH : Value} {b n : Nat} {hs ys : List Bytes} (a : NtAt W B h l v b n hs) (r : RfAt W B' hr l' vL ys vH) {k : Nat} (hk : NtIn h v b k) : ¬ RfIn hr vL vH k := by
  obtain ⟨es, cl, em⟩ := a.map.block
  intro hr'
  rcases hk with rfl | rfl | e
  · rcases hr' with e' | e' | e'
    · have := r.own; rw [← e', a.own] at this; simp at this
    · exact row_kind r.row a.own nt_ne.2.2.1 e'
    · exact row_kind r.heard a.own nt_ne.2.2.2.1 e'
  · rcases hr' with e' | e' | e'
    · have := r.own; rw [← e', em] at this; cases this
    · exact row_not_map r.row ⟨es, cl, em⟩ e'
    · exact row_not_map r.heard ⟨es, cl, em⟩ e'
  · rcases hr' with rfl | e' | e'
    · exact row_kind a.row r.own nt_ne.2.1 e
    · exact rows_apart a.row r.row nt_ne.2.2.2.2.1 k e e'
    · exact rows_apart a.row r.heard nt_ne.2.2.2.2.2 k e e'
/-- Both nets, alike. -/
def PAt (w : World) (B h b hr : Nat) (l : List Dg) (n : Nat) (hs : List Bytes) (wr : World) : Prop :=
  ∃ v vL vH, NtAt wr B h l v b n hs ∧ RfAt wr B hr l vL (inOrder hs) vH ∧ Below w.heap.size w wr ∧ B ≤ wr.heap.size
def PMid (w : World) (B h b hr i : Nat) (wr : World) : Prop := ∃ l n hs, PAt w B h b hr l n hs wr ∧ hs.Nodup ∧ n ≤ i ∧ hs.length ≤ i ∧ l.length ≤ i
def PGo (w : World) (B h b hr N k : Nat) (vi : Value) (wr : World) : Prop := ∃ i : Nat, k + i = N ∧ vi = .int .i64 i ∧ PMid w B h b hr i wr
theorem PAt.below {w wr w' : World} {B h b hr : Nat} {l : List Dg} {n : Nat} {hs : List Bytes} (p : PAt w B h b hr l n hs wr) (k : Below wr.heap.size wr w') : PAt w B h b hr l n hs w' := by
  obtain ⟨v, vL, vH, h1, h2, h3, h4⟩ := p
  exact ⟨v, vL, vH, h1.below k, h2.below k, h3.trans (k.mono h3.size), Nat.le_trans h4 k.size⟩
/-- The net has changed, the document's own has not yet. -/
def PHalf (w : World) (B h b hr : Nat) (l l0 : List Dg) (n : Nat) (hs hs0 : List Bytes) (wr : World) : Prop :=
  ∃ v vL vH, NtAt wr B h l v b n hs ∧ RfAt wr B hr l0 vL (inOrder hs0) vH ∧ Below w.heap.size w wr ∧ B ≤ wr.heap.size
theorem PHalf.below {w wr w' : World} {B h b hr : Nat} {l l0 : List Dg} {n : Nat} {hs hs0 : List Bytes} (p : PHalf w B h b hr l l0 n hs hs0 wr) (k : Below wr.heap.size wr w') : PHalf w B h b hr l l0 n hs hs0 w' := by
  obtain ⟨v, vL, vH, h1, h2, h3, h4⟩ := p
  exact ⟨v, vL, vH, h1.below k, h2.below k, h3.trans (k.mono h3.size), Nat.le_trans h4 k.size⟩
/-- Where all of both nets lies. -/
theorem half_step {w wr w' : World} {B h b hr n n' : Nat} {l l' : List Dg} {v vL vH : Value} {hs hs' ys : List Bytes} (hwB : w.heap.size ≤ B) (a : NtAt wr B h l v b n hs) (r : RfAt wr B hr l vL (inOrder ys) vH) (hB : Below w.heap.size w wr) (hb : B ≤ wr.heap.size) (k : Ntd wr B h v b l' n' hs' w') : PHalf w B h b hr l' l n' hs' ys w' ∧ ∀ q, q < wr.heap.size → ¬ NtIn h v b q → w'.heap[q]? = wr.heap[q]? := by
  obtain ⟨v', k1, k2, _⟩ := k
  exact ⟨⟨v', vL, vH, k1, r.same (fun q hq => k2.block q (r.inlt hq).2 (fun hn => nt_rf a r hn hq)), Only.below hB k2 hB.size (fun q hq => Nat.le_trans hwB (a.inlt hq).1), Nat.le_trans hb k2.size⟩, fun q h1 h2 => k2.block q h1 h2⟩
theorem whole_step {w wr w' : World} {B h b hr n : Nat} {l l' : List Dg} {v vL vH : Value} {hs ys : List Bytes} (hwB : w.heap.size ≤ B) (a : NtAt wr B h l' v b n hs) (r : RfAt wr B hr l vL ys vH) (hB : Below w.heap.size w wr) (hb : B ≤ wr.heap.size) (k : Rfd wr B hr vL vH l' (inOrder hs) w') : PAt w B h b hr l' n hs w' := by
  obtain ⟨vL', vH', k1, k2, _⟩ := k
  exact ⟨v, vL', vH', a.same (fun q hq => k2.block q (a.inlt hq).2 (fun hn => nt_rf a r hq hn)), k1, Only.below hB k2 hB.size (fun q hq => Nat.le_trans hwB (r.inlt hq).1), Nat.le_trans hb k2.size⟩
end Go.Proofs.Ytildapcdkipakaa.L8
end

section
namespace Go.Proofs.Ytildapcdkipakaa.L8
open Go.ChangeShapes Go.WideShapes Go.ChangeAt Go.RowKit Go.Deep

theorem new_pat {w w2 : World} {B : Nat} (a2 : NtAt w2 B (B + 1) [] (.slice none 0 0) B 0 []) (hB : Below w.heap.size w w2) (hb : B ≤ w2.heap.size) : PMid w B (B + 1) B w2.heap.size 0 (w2.alloc (.cells #[.slice none 0 0, .slice none 0 0] 30)) := by
  have bC : Below w2.heap.size w2 (w2.alloc (.cells #[.slice none 0 0, .slice none 0 0] 30)) := (Below.refl _ w2).alloc (Nat.le_refl _) _
  have e0 : inOrder [] = [] := List.length_eq_zero_iff.1 (inOrder_len [])
  refine ⟨[], 0, [], ⟨_, .slice none 0 0, .slice none 0 0, a2.below bC, ⟨heap_alloc_new _ _, hb, ⟨rfl, .inl ⟨rfl, rfl⟩⟩, by rw [e0]; exact ⟨rfl, .inl ⟨rfl, rfl⟩⟩⟩, hB.trans (bC.mono hB.size), Nat.le_trans hb bC.size⟩, by simp, by omega, by simp, by simp⟩
theorem layL_le (l : List Dg) (d : Dg) : (layL l d).length ≤ l.length + 1 := by
  unfold layL
  split
  · omega
  · simp
theorem putH_le (hs : List Bytes) (k : Bytes) : (putH hs k).length ≤ hs.length + 1 := by
  unfold putH
  split
  · omega
  · simp
/-- Both nets, and the act's own copy. -/
def PH (w : World) (B h b hr t : Nat) (vL vH : Value) (cs : Array Value) (l l0 : List Dg) (n : Nat) (hs hs0 : List Bytes) (V : World) : Prop :=
  (∃ v, NtAt V B h l v b n hs ∧ ∀ q, NtIn h v b q → q ≠ t) ∧ RfAt V B hr l0 vL (inOrder hs0) vH ∧ (∀ q, RfIn hr vL vH q → q ≠ t) ∧ Below w.heap.size w V ∧ B ≤ V.heap.size ∧ V.heap[t]? = some (.cells cs 32 (0, 0))
section
variable {w V V' : World} {B h b hr t : Nat} {vL vH : Value} {cs : Array Value} {l l0 l' : List Dg} {n n' : Nat} {hs hs0 hs' : List Bytes}
theorem PH.lt (p : PH w B h b hr t vL vH cs l l0 n hs hs0 V) : t < V.heap.size := (Array.getElem?_eq_some_iff.1 p.2.2.2.2.2).1
theorem PH.below (p : PH w B h b hr t vL vH cs l l0 n hs hs0 V) (k : Below V.heap.size V V') : PH w B h b hr t vL vH cs l l0 n hs hs0 V' := by
  have ht := p.lt
  obtain ⟨⟨v, a, a'⟩, r, r', hB, hb, nb⟩ := p
  exact ⟨⟨v, a.below k, a'⟩, r.below k, r', hB.trans (k.mono hB.size), Nat.le_trans hb k.size, (k.block t ht).trans nb⟩
theorem PH.cell (p : PH w B h b hr t vL vH cs l l0 n hs hs0 V) {j : Nat} {x : Value} (hx : cs[j]? = some x) : V.cell? ⟨t, j, none⟩ = some x := (blk_cell8 p.2.2.2.2.2).trans hx
theorem PH.nstep {v : Value} (hwB : w.heap.size ≤ B) (ht : t < V.heap.size) (a : NtAt V B h l v b n hs) (a' : ∀ q, NtIn h v b q → q ≠ t) (r : RfAt V B hr l0 vL (inOrder hs0) vH) (r' : ∀ q, RfIn hr vL vH q → q ≠ t) (hB : Below w.heap.size w V) (hb : B ≤ V.heap.size) (nb : V.heap[t]? = some (.cells cs 32 (0, 0))) (k : Ntd V B h v b l' n' hs' V') : PH w B h b hr t vL vH cs l' l0 n' hs' hs0 V' := by
  obtain ⟨v', k1, k2, k3⟩ := k
  refine ⟨⟨v', k1, fun q hq => ?_⟩, r.same (fun q hq => k2.block q (r.inlt hq).2 (fun hn => nt_rf a r hn hq)), r', Only.below hB k2 hB.size (fun q hq => Nat.le_trans hwB (a.inlt hq).1), Nat.le_trans hb k2.size, (k2.block t ht (fun hn => a' t hn rfl)).trans nb⟩
  rcases k3 q hq with h | h
  · exact a' q h
  · omega
theorem PH.rstep (hwB : w.heap.size ≤ B) (p : PH w B h b hr t vL vH cs l l0 n hs hs0 V) (k : Rfd V B hr vL vH l (inOrder hs) V') : PAt w B h b hr l n hs V' ∧ V'.heap[t]? = some (.cells cs 32 (0, 0)) := by
  have ht := p.lt
  obtain ⟨⟨v, a, a'⟩, r, r', hB, hb, nb⟩ := p
  exact ⟨whole_step hwB a r hB hb k, by obtain ⟨_, _, _, k2, _⟩ := k; exact (k2.block t ht (fun hn => r' t hn rfl)).trans nb⟩
theorem PH.pat (p : PH w B h b hr t vL vH cs l l n hs hs V) : PAt w B h b hr l n hs V := by
  obtain ⟨⟨v, a, a'⟩, r, r', hB, hb, nb⟩ := p
  exact ⟨v, vL, vH, a, r, hB, hb⟩
theorem take_ph (hwB : w.heap.size ≤ B) (p : PH w B h b hr t vL vH cs l l n hs hs V) {i : Nat} {d : Dg} (hd : l[i]? = some d) (hl : l.length ≤ 1000000) : Calls Try.prog 10 #[.pointer (some ⟨h, 0, none⟩), .int .i64 i] V fun e w' => e = .returned (.tuple #[.agg #[.int .i64 d.src, .int .i64 d.dst, .string ⟨d.fr.toArray⟩], .int .i64 0]) ∧ PH w B h b hr t vL vH cs (l.take i ++ l.drop (i + 1)) l n hs hs w' := by
  have ht := p.lt
  obtain ⟨⟨v, a, a'⟩, r, r', hB, hb, nb⟩ := p
  exact (take_yes a hd hl).mono fun _ _ k => ⟨k.1, PH.nstep hwB ht a a' r r' hB hb nb k.2⟩
theorem rtake_ph (hwB : w.heap.size ≤ B) {i : Nat} {d : Dg} (p : PH w B h b hr t vL vH cs (l.take i ++ l.drop (i + 1)) l n hs hs V) (hd : l[i]? = some d) (hl : l.length ≤ 1000000) : Calls Try.prog 11 #[.pointer (some ⟨hr, 0, none⟩), .int .i64 i] V fun e w' => e = .returned (.tuple #[.agg #[.int .i64 d.src, .int .i64 d.dst, .string ⟨d.fr.toArray⟩], .int .i64 0]) ∧ PAt w B h b hr (l.take i ++ l.drop (i + 1)) n hs w' ∧ Only (RfIn hr vL vH) V w' :=
  (rtake_yes p.2.1 p.2.2.2.2.1 hd hl).mono fun _ _ k => ⟨k.1, (p.rstep hwB k.2).1, by obtain ⟨_, _, _, _, k2, _⟩ := k; exact k2⟩
theorem take_no_ph (p : PH w B h b hr t vL vH cs l l n hs hs V) {i : Int} (hi : ¬ (0 ≤ i ∧ i < l.length)) : Calls Try.prog 10 #[.pointer (some ⟨h, 0, none⟩), .int .i64 i] V fun e w' => e = .returned (.tuple #[.agg #[.int .i64 0, .int .i64 0, .string ⟨#[]⟩], .int .i64 8]) ∧ PH w B h b hr t vL vH cs l l n hs hs w' := by
  have p' := p
  obtain ⟨⟨v, a, a'⟩, r, r', hB, hb, nb⟩ := p
  exact (take_no a hi).mono fun _ _ k => ⟨k.1, p'.below k.2⟩
theorem rtake_no_ph (p : PH w B h b hr t vL vH cs l l n hs hs V) {i : Int} (hi : ¬ (0 ≤ i ∧ i < l.length)) : Calls Try.prog 11 #[.pointer (some ⟨hr, 0, none⟩), .int .i64 i] V fun e w' => e = .returned (.tuple #[.agg #[.int .i64 0, .int .i64 0, .string ⟨#[]⟩], .int .i64 8]) ∧ PAt w B h b hr l n hs w' ∧ Below V.heap.size V w' :=
  (rtake_no p.2.1 hi).mono fun _ _ k => ⟨k.1, (p.below k.2).pat, k.2⟩
theorem double_both (hwB : w.heap.size ≤ B) (l : List Dg) (hl : l.length ≤ 1000000) (i : Int) : ∃ (c : Int) (l' : List Dg), l'.length ≤ l.length + 1 ∧
    (∀ V, PH w B h b hr t vL vH cs l l n hs hs V → Calls Try.prog 12 #[.pointer (some ⟨h, 0, none⟩), .int .i64 i] V fun e w' => e = .returned (.int .i64 c) ∧ PH w B h b hr t vL vH cs l' l n hs hs w') ∧
    (∀ V, PH w B h b hr t vL vH cs l' l n hs hs V → Calls Try.prog 13 #[.pointer (some ⟨hr, 0, none⟩), .int .i64 i] V fun e w' => e = .returned (.int .i64 c) ∧ PAt w B h b hr l' n hs w' ∧ w'.heap[t]? = some (.cells cs 32 (0, 0))) := by
  by_cases hi : 0 ≤ i ∧ i < l.length
  · obtain ⟨j, rfl⟩ : ∃ j : Nat, i = j := ⟨i.toNat, by omega⟩
    obtain ⟨d, hd⟩ : ∃ d, l[j]? = some d := ⟨_, List.getElem?_eq_getElem (by omega)⟩
    refine ⟨layC l, layL l d, layL_le l d, fun V p => ?_, fun V p => ?_⟩
    · have ht := p.lt
      obtain ⟨⟨v, a, a'⟩, r, r', hB, hb, nb⟩ := p
      exact (double_yes a hb hd hl).mono fun _ _ k => ⟨k.1, PH.nstep hwB ht a a' r r' hB hb nb k.2⟩
    · exact (rdouble_yes p.2.1 p.2.2.2.2.1 hd hl).mono fun _ _ k => ⟨k.1, p.rstep hwB k.2⟩
  · refine ⟨8, l, by omega, fun V p => ?_, fun V p => ?_⟩
    · have p' := p
      obtain ⟨⟨v, a, a'⟩, r, r', hB, hb, nb⟩ := p
      exact (double_no a hi).mono fun _ _ k => ⟨k.1, k.2 ▸ p'⟩
    · exact (rdouble_no p.2.1 hi).mono fun _ _ k => ⟨k.1, k.2 ▸ p.pat, k.2 ▸ p.2.2.2.2.2⟩
theorem send_both (hwB : w.heap.size ≤ B) (l : List Dg) (hs : List Bytes) (n : Nat) (hl : l.length ≤ 1000000) (hsl : hs.length ≤ 1000000) (hn : n < maxLen) (hnd : hs.Nodup) (d : Dg) (hf : d.fr.length ≤ maxLen) : ∃ (c : Int) (l' : List Dg) (n' : Nat) (hs' : List Bytes), l'.length ≤ l.length + 1 ∧ n' ≤ n + 1 ∧ hs'.length ≤ hs.length + 1 ∧ hs'.Nodup ∧
    (∀ V, PH w B h b hr t vL vH cs l l n hs hs V → Calls Try.prog 14 #[.pointer (some ⟨h, 0, none⟩), .agg #[.int .i64 d.src, .int .i64 d.dst, .string ⟨d.fr.toArray⟩]] V fun e w' => e = .returned (.int .i64 c) ∧ PH w B h b hr t vL vH cs l' l n' hs' hs w') ∧
    (∀ V, PH w B h b hr t vL vH cs l' l n' hs' hs V → Calls Try.prog 15 #[.pointer (some ⟨hr, 0, none⟩), .agg #[.int .i64 d.src, .int .i64 d.dst, .string ⟨d.fr.toArray⟩]] V fun e w' => e = .returned (.int .i64 c) ∧ PAt w B h b hr l' n' hs' w' ∧ w'.heap[t]? = some (.cells cs 32 (0, 0))) := by
  by_cases hd : d.ok
  · refine ⟨layC l, layL l d, n + 1, putH hs d.fr, layL_le l d, by omega, putH_le hs d.fr, putH_nodup hnd d.fr, fun V p => ?_, fun V p => ?_⟩
    · have ht := p.lt
      obtain ⟨⟨v, a, a'⟩, r, r', hB, hb, nb⟩ := p
      exact (send_yes a hb hd hf hn hl).mono fun _ _ k => ⟨k.1, PH.nstep hwB ht a a' r r' hB hb nb k.2⟩
    · refine (rsend_yes p.2.1 p.2.2.2.2.1 hd hf (inOrder_pairwise hnd) (by rw [inOrder_len]; exact hsl) hl).mono fun _ _ k => ⟨k.1, ?_⟩
      obtain ⟨_, ys', k1, k2, _, k4⟩ := k
      rw [inOrder_put hnd k1 k2] at k4
      exact p.rstep hwB k4
  · refine ⟨1, l, n, hs, by omega, by omega, by omega, hnd, fun V p => ?_, fun V p => ?_⟩
    · have p' := p
      obtain ⟨⟨v, a, a'⟩, r, r', hB, hb, nb⟩ := p
      exact (send_no a hd hf).mono fun _ _ k => ⟨k.1, p'.below k.2.2⟩
    · exact (rsend_no V hr hd hf).mono fun _ _ k => ⟨k.1, (p.below k.2).pat, (p.below k.2).2.2.2.2.2⟩
theorem PAt.mid {i : Nat} (p : PAt w B h b hr l n hs V) (h1 : hs.Nodup) (h2 : n ≤ i) (h3 : hs.length ≤ i) (h4 : l.length ≤ i) : PMid w B h b hr i V := ⟨l, n, hs, p, h1, h2, h3, h4⟩
end

theorem PMid.drewN {w V : World} {B h b hr i : Nat} (p : PMid w B h b hr i V) (m : Nat) : PMid w B h b hr i (V.drewN m) := by
  obtain ⟨l, n, hs, ⟨v, vL, vH, a, r, hB, hb⟩, h1, h2, h3, h4⟩ := p
  exact ⟨l, n, hs, ⟨v, vL, vH, a.same fun _ _ => rfl, r.same fun _ _ => rfl, L5.below_drewN hB m, hb⟩, h1, h2, h3, h4⟩

set_option maxRecDepth 100000 in
set_option maxHeartbeats 16000000 in
theorem plays_calls {A : Option Addr} {N c0 : Nat} (w : World) (hA : Acts w A N) (hn : N ≤ maxLen) : Calls Try.prog 3 #[.slice A N c0] w (L5.One w (.bool true)) := by
  have HSh := Lib.hid (shown_calls w)
  have HN := Lib.hid (fun V => New_calls V)
  have HA := Lib.hid hA
  unfold maxLen at hn
  clear hA
  go_enter Try.func3, Try.ntmps3
  go_wp2_with fail
  refine HSh.out.mono ?_
  rintro e w1 ⟨rfl, b1⟩
  by_cases h60 : 60 < N
  · have j1 : (60 : Int) < (N : Int) := by omega
    have HB1 := Lib.hid b1
    clear b1 HN HSh
    go_wp2
    go_ret
    exact ⟨rfl, HB1.out⟩
  have j1 : ¬ (60 : Int) < (N : Int) := by omega
  have hN60 : N ≤ 60 := by omega
  have HN := Lib.hid (HN.out w1)
  have HB1 := Lib.hid b1
  clear b1 HSh
  go_wp2_with fail
  refine HN.out.mono ?_
  rintro e w2 ⟨rfl, a2, b2⟩
  have HB2 : Hid (Below w.heap.size w w2) := HB1.out.trans (b2.mono HB1.out.size)
  have hw01 : w.heap.size ≤ w1.heap.size := HB1.out.size
  have hb2 : w1.heap.size ≤ w2.heap.size := b2.size
  have H0 : Hid (PMid w w1.heap.size (w1.heap.size + 1) w1.heap.size w2.heap.size 0 (w2.alloc (.cells #[.slice none 0 0, .slice none 0 0] 30))) := new_pat a2 HB2.out hb2
  clear a2 b2 HN HB1 HB2 hn h60
  generalize w1.heap.size = B at *
  obtain ⟨h, hh⟩ : ∃ h, B + 1 = h := ⟨_, rfl⟩
  go_upto_region 6 with fail
  rw [hh] at H0
  clear hh
  obtain ⟨hr, hhr⟩ : ∃ hr, w2.heap.size = hr := ⟨_, rfl⟩
  rw [hhr] at H0 hb2
  rw [hhr]
  clear hhr
  generalize (w2.alloc (.cells #[.slice none 0 0, .slice none 0 0] 30)) = w3 at *
  have H0 : Hid (PGo w B h B hr N N (.int .i64 0) w3) := ⟨0, by omega, rfl, H0.out⟩
  go_wp2_with fail
  go_loopg [6] N (fun k v6 wr => PGo w B h B hr N k v6 wr)
  case atStart => exact H0.out
  clear H0
  case round =>
    obtain ⟨i, hk, rfl, l, n, hs, hp, hnd, hni, hsi, hli⟩ := hrel
    by_cases hin : i < N
    · obtain ⟨ad, o0, o1, o2, o3, s4, rfl, hadb, ⟨ho0, ho1, ho2, ho3⟩, d0, d1, d2, d3, d4⟩ := HA.out i hin
      obtain ⟨v, vL, vH, ha, hr0, hB, hb⟩ := hp
      have hlb : (ad.add (i * 5)).block < w.heap.size := by rw [addr_block8]; exact hadb
      have c0' := (hB.cell (p := ad.add (i * 5)) hlb).trans d0
      have c1' := (hB.cell (p := ⟨(ad.add (i * 5)).block, (ad.add (i * 5)).off + 1, none⟩) hlb).trans d1
      have c2' := (hB.cell (p := ⟨(ad.add (i * 5)).block, (ad.add (i * 5)).off + 2, none⟩) hlb).trans d2
      have c3' := (hB.cell (p := ⟨(ad.add (i * 5)).block, (ad.add (i * 5)).off + 3, none⟩) hlb).trans d3
      have c4' := (hB.cell (p := ⟨(ad.add (i * 5)).block, (ad.add (i * 5)).off + 4, none⟩) hlb).trans d4
      obtain ⟨fr, rfl⟩ : ∃ fr : Bytes, s4 = ⟨fr.toArray⟩ := ⟨s4.data.toList, by simp⟩
      have s1 : (i : Int) < (N : Int) := by omega
      have s2 : (0 : Int) ≤ (i : Int) := by omega
      have HNt := Lib.hid ha
      have HRf := Lib.hid hr0
      have HB := Lib.hid hB
      have hi60 : i ≤ 59 := by omega
      have hmm := Lib.hid (show gk - 1 < gk by omega)
      have hkk := Lib.hid (show (gk - 1) + (i + 1) = N by omega)
      generalize gk - 1 = ko at *
      clear d0 d1 d2 d3 d4 hadb hlb ha hr0 hB hk hin HA
      go_upto_region 10 with fail
      have bC : Below wr.heap.size wr (wr.alloc (.cells #[.int .i64 o0, .int .i64 o1, .int .i64 o2, .int .i64 o3, .string ⟨fr.toArray⟩] 32)) := (Below.refl _ wr).alloc (Nat.le_refl _) _
      have nb := heap_alloc_new wr (.cells #[.int .i64 o0, .int .i64 o1, .int .i64 o2, .int .i64 o3, .string ⟨fr.toArray⟩] 32)
      obtain ⟨W9, hW9⟩ : ∃ W9, wr.alloc (.cells #[.int .i64 o0, .int .i64 o1, .int .i64 o2, .int .i64 o3, .string ⟨fr.toArray⟩] 32) = W9 := ⟨_, rfl⟩
      rw [hW9] at bC nb
      rw [hW9]
      have HPH : Hid (PH w B h B hr wr.heap.size vL vH #[.int .i64 o0, .int .i64 o1, .int .i64 o2, .int .i64 o3, .string ⟨fr.toArray⟩] l l n hs hs W9) := ⟨⟨v, HNt.out.below bC, fun q hq => Nat.ne_of_lt (HNt.out.inlt hq).2⟩, HRf.out.below bC, fun q hq => Nat.ne_of_lt (HRf.out.inlt hq).2, HB.out.trans (bC.mono HB.out.size), Nat.le_trans hb bC.size, nb⟩
      obtain ⟨t, ht⟩ : ∃ t, wr.heap.size = t := ⟨_, rfl⟩
      rw [ht] at HPH
      rw [ht]
      clear bC nb hW9 ht HNt HRf HB c0' c1' c2' c3' c4' hb
      have x0 := HPH.out.cell (j := 0) (x := .int .i64 o0) rfl
      have x1 := HPH.out.cell (j := 1) (x := .int .i64 o1) rfl
      have x2 := HPH.out.cell (j := 2) (x := .int .i64 o2) rfl
      have x3 := HPH.out.cell (j := 3) (x := .int .i64 o3) rfl
      have x4 := HPH.out.cell (j := 4) (x := .string ⟨fr.toArray⟩) rfl
      by_cases h600 : 600 < fr.length
      · have s3 : (600 : Int) < (fr.length : Int) := by omega
        go_wp2
        go_ret
        exact ⟨rfl, HPH.out.2.2.2.1⟩
      have s3 : ¬ (600 : Int) < (fr.length : Int) := by omega
      have HPk := Lib.hid (pick_is ho0 (n := 5) (by omega) (by omega) W9)
      have hp := pickN_lt o0 (n := 5) (by omega)
      generalize pickN o0 5 = o at *
      go_wp2_with fail
      refine HPk.out.mono ?_
      rintro e w5 ⟨rfl, rfl⟩
      clear HPk
      go_upto_block 2 with fail
      go_cut [] (fun wc => PMid w B h B hr (i + 1) wc)
      case first =>
        have hlm : l.length ≤ 1000000 := by omega
        have hsm : hs.length ≤ 1000000 := by omega
        have hwB := Lib.hid hw01
        rcases (by omega : o = 3 ∨ o = 4 ∨ (o ≠ 3 ∧ o ≠ 4)) with rfl | rfl | ⟨ho3', ho4'⟩
        · by_cases hlt : 0 ≤ o3 ∧ o3 < l.length
          · as_aux_lemma =>
              obtain ⟨p3, rfl⟩ : ∃ p3 : Nat, o3 = p3 := ⟨o3.toNat, by omega⟩
              obtain ⟨d, hd⟩ : ∃ d, l[p3]? = some d := ⟨_, List.getElem?_eq_getElem (by omega)⟩
              have HT := Lib.hid (take_ph hwB.out HPH.out hd hlm)
              have HT2 : Hid (∀ V, PH w B h B hr t vL vH #[.int .i64 o0, .int .i64 o1, .int .i64 o2, .int .i64 (p3 : Int), .string ⟨fr.toArray⟩] (l.take p3 ++ l.drop (p3 + 1)) l n hs hs V → Calls Try.prog 11 #[.pointer (some ⟨hr, 0, none⟩), .int .i64 p3] V fun e w' => e = .returned (.tuple #[.agg #[.int .i64 d.src, .int .i64 d.dst, .string ⟨d.fr.toArray⟩], .int .i64 0]) ∧ PAt w B h B hr (l.take p3 ++ l.drop (p3 + 1)) n hs w' ∧ Only (RfIn hr vL vH) V w') := fun V k => rtake_ph hwB.out k hd hlm
              have hq8 : Hid (∀ w10, PH w B h B hr t vL vH #[.int .i64 o0, .int .i64 o1, .int .i64 o2, .int .i64 (p3 : Int), .string ⟨fr.toArray⟩] (l.take p3 ++ l.drop (p3 + 1)) l n hs hs w10 → ∀ q, RfIn hr vL vH q → q ≠ w10.heap.size) := fun w10 k6 q hq => Nat.ne_of_lt (k6.2.1.inlt hq).2
              have hlen : Hid ((l.take p3 ++ l.drop (p3 + 1)).length ≤ i + 1) := by show _ ≤ _; simp; omega
              generalize l.take p3 ++ l.drop (p3 + 1) = l' at *
              obtain ⟨ds, dd, df⟩ := d
              have HT : Hid (Calls Try.prog 10 #[.pointer (some ⟨h, 0, none⟩), .int .i64 p3] W9 fun e w' => e = .returned (.tuple #[.agg #[.int .i64 ds, .int .i64 dd, .string ⟨df.toArray⟩], .int .i64 0]) ∧ PH w B h B hr t vL vH #[.int .i64 o0, .int .i64 o1, .int .i64 o2, .int .i64 (p3 : Int), .string ⟨fr.toArray⟩] l' l n hs hs w') := HT
              have HT2 : Hid (∀ V, PH w B h B hr t vL vH #[.int .i64 o0, .int .i64 o1, .int .i64 o2, .int .i64 (p3 : Int), .string ⟨fr.toArray⟩] l' l n hs hs V → Calls Try.prog 11 #[.pointer (some ⟨hr, 0, none⟩), .int .i64 p3] V fun e w' => e = .returned (.tuple #[.agg #[.int .i64 ds, .int .i64 dd, .string ⟨df.toArray⟩], .int .i64 0]) ∧ PAt w B h B hr l' n hs w' ∧ Only (RfIn hr vL vH) V w') := fun V k => HT2.out V k
              clear hd hlt x0 x1 x2 x4 s3
              go_wp2_with fail
              refine HT.out.mono ?_
              rintro e w10 ⟨rfl, k6⟩
              have bC : Below w10.heap.size w10 (w10.alloc (.cells #[.int .i64 ds, .int .i64 dd, .string ⟨df.toArray⟩] 36)) := (Below.refl _ w10).alloc (Nat.le_refl _) _
              have nb := heap_alloc_new w10 (.cells #[.int .i64 ds, .int .i64 dd, .string ⟨df.toArray⟩] 36)
              obtain ⟨w11, hw11⟩ : ∃ w11, w10.alloc (.cells #[.int .i64 ds, .int .i64 dd, .string ⟨df.toArray⟩] 36) = w11 := ⟨_, rfl⟩
              rw [hw11] at bC nb
              have hl8 : w10.heap.size < w11.heap.size := (Array.getElem?_eq_some_iff.1 nb).1
              have HQ8 := Lib.hid (hq8.out w10 k6)
              have HP11 := Lib.hid (k6.below bC)
              have y3 := HP11.out.cell (j := 3) (x := .int .i64 (p3 : Int)) rfl
              have HT2 := Lib.hid (HT2.out w11 HP11.out)
              have NB := Lib.hid nb
              clear bC nb k6 HT hq8 x3
              go_wp2_with fail
              refine HT2.out.mono ?_
              rintro e w12 ⟨rfl, k7, o7⟩
              have nb12 := (o7.block w10.heap.size hl8 (fun hn => HQ8.out _ hn rfl)).trans NB.out
              have hl12 : w10.heap.size < w12.heap.size := (Array.getElem?_eq_some_iff.1 nb12).1
              have bD : Below w12.heap.size w12 (w12.alloc (.cells #[.int .i64 ds, .int .i64 dd, .string ⟨df.toArray⟩] 41)) := (Below.refl _ w12).alloc (Nat.le_refl _) _
              have nbD := heap_alloc_new w12 (.cells #[.int .i64 ds, .int .i64 dd, .string ⟨df.toArray⟩] 41)
              obtain ⟨w13, hw13⟩ : ∃ w13, w12.alloc (.cells #[.int .i64 ds, .int .i64 dd, .string ⟨df.toArray⟩] 41) = w13 := ⟨_, rfl⟩
              rw [hw13] at bD nbD
              have nbE := (bD.block w10.heap.size hl12).trans nb12
              have f0 : w13.cell? ⟨w10.heap.size, 0, none⟩ = some (.int .i64 ds) := blk_cell8 nbE
              have f1 : w13.cell? ⟨w10.heap.size, 1, none⟩ = some (.int .i64 dd) := blk_cell8 nbE
              have f2 : w13.cell? ⟨w10.heap.size, 2, none⟩ = some (.string ⟨df.toArray⟩) := blk_cell8 nbE
              have g0 : w13.cell? ⟨w12.heap.size, 0, none⟩ = some (.int .i64 ds) := blk_cell8 nbD
              have g1 : w13.cell? ⟨w12.heap.size, 1, none⟩ = some (.int .i64 dd) := blk_cell8 nbD
              have g2 : w13.cell? ⟨w12.heap.size, 2, none⟩ = some (.string ⟨df.toArray⟩) := blk_cell8 nbD
              have HF : Hid (PMid w B h B hr (i + 1) w13) := (k7.below bD).mid hnd (by omega) (by omega) hlen.out
              clear bD nbD nbE nb12 NB k7 o7 HT2 HQ8 HP11 y3 hl8 hl12
              go_wp2_with fail
              go_meet
              case rel => exact HF.out
          · as_aux_lemma =>
              have HT := Lib.hid (take_no_ph HPH.out hlt)
              have HT2 := Lib.hid (fun V k => rtake_no_ph (w := w) (B := B) (h := h) (b := B) (hr := hr) (t := t) (vL := vL) (vH := vH) (cs := #[.int .i64 o0, .int .i64 o1, .int .i64 o2, .int .i64 o3, .string ⟨fr.toArray⟩]) (l := l) (n := n) (hs := hs) (V := V) k hlt)
              clear hlt x0 x1 x2 x4 s3
              go_wp2_with fail
              refine HT.out.mono ?_
              rintro e w10 ⟨rfl, k6⟩
              go_upto_region 17 with fail
              have bC : Below w10.heap.size w10 (w10.alloc (.cells #[.int .i64 0, .int .i64 0, .string ⟨#[]⟩] 36)) := (Below.refl _ w10).alloc (Nat.le_refl _) _
              have nb := heap_alloc_new w10 (.cells #[.int .i64 0, .int .i64 0, .string ⟨#[]⟩] 36)
              obtain ⟨w11, hw11⟩ : ∃ w11, w10.alloc (.cells #[.int .i64 0, .int .i64 0, .string ⟨#[]⟩] 36) = w11 := ⟨_, rfl⟩
              rw [hw11] at bC nb
              rw [hw11]
              clear hw11
              have hl8 : w10.heap.size < w11.heap.size := (Array.getElem?_eq_some_iff.1 nb).1
              have HP11 := Lib.hid (k6.below bC)
              have y3 := HP11.out.cell (j := 3) (x := .int .i64 o3) rfl
              have HT2 := Lib.hid (HT2.out w11 HP11.out)
              have NB := Lib.hid nb
              clear bC nb k6 HT x3
              go_wp2_with fail
              refine HT2.out.mono ?_
              rintro e w12 ⟨rfl, k7, o7⟩
              go_upto_region 18 with fail
              have nb12 := (o7.block w10.heap.size hl8).trans NB.out
              have hl12 : w10.heap.size < w12.heap.size := (Array.getElem?_eq_some_iff.1 nb12).1
              have bD : Below w12.heap.size w12 (w12.alloc (.cells #[.int .i64 0, .int .i64 0, .string ⟨#[]⟩] 41)) := (Below.refl _ w12).alloc (Nat.le_refl _) _
              have nbD := heap_alloc_new w12 (.cells #[.int .i64 0, .int .i64 0, .string ⟨#[]⟩] 41)
              obtain ⟨w13, hw13⟩ : ∃ w13, w12.alloc (.cells #[.int .i64 0, .int .i64 0, .string ⟨#[]⟩] 41) = w13 := ⟨_, rfl⟩
              rw [hw13] at bD nbD
              rw [hw13]
              clear hw13
              have nbE := (bD.block w10.heap.size hl12).trans nb12
              have f0 : w13.cell? ⟨w10.heap.size, 0, none⟩ = some (.int .i64 0) := blk_cell8 nbE
              have f1 : w13.cell? ⟨w10.heap.size, 1, none⟩ = some (.int .i64 0) := blk_cell8 nbE
              have f2 : w13.cell? ⟨w10.heap.size, 2, none⟩ = some (.string ⟨#[]⟩) := blk_cell8 nbE
              have g0 : w13.cell? ⟨w12.heap.size, 0, none⟩ = some (.int .i64 0) := blk_cell8 nbD
              have g1 : w13.cell? ⟨w12.heap.size, 1, none⟩ = some (.int .i64 0) := blk_cell8 nbD
              have g2 : w13.cell? ⟨w12.heap.size, 2, none⟩ = some (.string ⟨#[]⟩) := blk_cell8 nbD
              have HF : Hid (PMid w B h B hr (i + 1) w13) := (k7.below bD).mid hnd (by omega) (by omega) (by omega)
              clear bD nbD nbE nb12 NB k7 o7 HT2 HP11 y3 hl8 hl12
              go_wp2_with fail
              go_meet
              case rel => exact HF.out
        · as_aux_lemma =>
            obtain ⟨cc, l', hl', hD1, hD2⟩ := double_both (h := h) (b := B) (hr := hr) (t := t) (vL := vL) (vH := vH) (cs := #[.int .i64 o0, .int .i64 o1, .int .i64 o2, .int .i64 o3, .string ⟨fr.toArray⟩]) (n := n) (hs := hs) hwB.out l hlm o3
            have HD1 : Hid (∀ V, PH w B h B hr t vL vH #[.int .i64 o0, .int .i64 o1, .int .i64 o2, .int .i64 o3, .string ⟨fr.toArray⟩] l l n hs hs V → Calls Try.prog 12 #[.pointer (some ⟨h, 0, none⟩), .int .i64 o3] V fun e w' => e = .returned (.int .i64 cc) ∧ w'.cell? ⟨t, 3, none⟩ = some (.int .i64 o3) ∧ PH w B h B hr t vL vH #[.int .i64 o0, .int .i64 o1, .int .i64 o2, .int .i64 o3, .string ⟨fr.toArray⟩] l' l n hs hs w') := fun V p => (hD1 V p).mono fun _ _ k => ⟨k.1, k.2.cell rfl, k.2⟩
            have HD2 : Hid (∀ V, PH w B h B hr t vL vH #[.int .i64 o0, .int .i64 o1, .int .i64 o2, .int .i64 o3, .string ⟨fr.toArray⟩] l' l n hs hs V → Calls Try.prog 13 #[.pointer (some ⟨hr, 0, none⟩), .int .i64 o3] V fun e w' => e = .returned (.int .i64 cc) ∧ w'.cell? ⟨t, 3, none⟩ = some (.int .i64 o3) ∧ PMid w B h B hr (i + 1) w') := fun V p => (hD2 V p).mono fun _ _ k => ⟨k.1, (blk_cell8 k.2.2).trans rfl, k.2.1.mid hnd (by omega) (by omega) (by omega)⟩
            have hP0 : PH w B h B hr t vL vH #[.int .i64 o0, .int .i64 o1, .int .i64 o2, .int .i64 o3, .string ⟨fr.toArray⟩] l l n hs hs W9.drew := HPH.out.below (Below.refl _ _).drew
            clear hD1 hD2 x0 x1 x2 x4 s3 hl'
            go_wp2
            go_region_held3 (fun w' => w'.cell? ⟨t, 3, none⟩ = some (.int .i64 o3))
              ((first | exact x3 | assumption))
              (first
                | (go_at_call 12; refine (HD1.out _ (by first | exact hP0 | assumption)).mono ?_; rintro e wn ⟨rfl, m1, m2⟩)
                | (go_at_call 13; refine (HD2.out _ (by assumption)).mono ?_; rintro e ws ⟨rfl, n1, n2⟩))
            all_goals
              have HF := Lib.hid n2
              clear n1 n2 m1 m2 HD1 HD2 hP0
              go_wp2_with fail
              go_meet
              case rel => exact HF.out
        · as_aux_lemma =>
            have q3 : ((o : Int) == 3) = false := by rw [beq_eq_false_iff_ne]; omega
            have q4 : ((o : Int) == 4) = false := by rw [beq_eq_false_iff_ne]; omega
            obtain ⟨cc, l', n', hs', hl', hn', hs1, hnd', hD1, hD2⟩ := send_both (h := h) (b := B) (hr := hr) (t := t) (vL := vL) (vH := vH) (cs := #[.int .i64 o0, .int .i64 o1, .int .i64 o2, .int .i64 o3, .string ⟨fr.toArray⟩]) hwB.out l hs n hlm hsm (by unfold maxLen; omega) hnd ⟨o1, o2, fr⟩ (by show fr.length ≤ _; unfold maxLen; omega)
            have HD1 : Hid (∀ V, PH w B h B hr t vL vH #[.int .i64 o0, .int .i64 o1, .int .i64 o2, .int .i64 o3, .string ⟨fr.toArray⟩] l l n hs hs V → Calls Try.prog 14 #[.pointer (some ⟨h, 0, none⟩), .agg #[.int .i64 o1, .int .i64 o2, .string ⟨fr.toArray⟩]] V fun e w' => e = .returned (.int .i64 cc) ∧ (w'.cell? ⟨t, 1, none⟩ = some (.int .i64 o1) ∧ w'.cell? ⟨t, 2, none⟩ = some (.int .i64 o2) ∧ w'.cell? ⟨t, 4, none⟩ = some (.string ⟨fr.toArray⟩)) ∧ PH w B h B hr t vL vH #[.int .i64 o0, .int .i64 o1, .int .i64 o2, .int .i64 o3, .string ⟨fr.toArray⟩] l' l n' hs' hs w') := fun V p => (hD1 V p).mono fun _ _ k => ⟨k.1, ⟨k.2.cell rfl, k.2.cell rfl, k.2.cell rfl⟩, k.2⟩
            have HD2 : Hid (∀ V, PH w B h B hr t vL vH #[.int .i64 o0, .int .i64 o1, .int .i64 o2, .int .i64 o3, .string ⟨fr.toArray⟩] l' l n' hs' hs V → Calls Try.prog 15 #[.pointer (some ⟨hr, 0, none⟩), .agg #[.int .i64 o1, .int .i64 o2, .string ⟨fr.toArray⟩]] V fun e w' => e = .returned (.int .i64 cc) ∧ (w'.cell? ⟨t, 1, none⟩ = some (.int .i64 o1) ∧ w'.cell? ⟨t, 2, none⟩ = some (.int .i64 o2) ∧ w'.cell? ⟨t, 4, none⟩ = some (.string ⟨fr.toArray⟩)) ∧ PMid w B h B hr (i + 1) w') := fun V p => (hD2 V p).mono fun _ _ k => ⟨k.1, ⟨(blk_cell8 k.2.2).trans rfl, (blk_cell8 k.2.2).trans rfl, (blk_cell8 k.2.2).trans rfl⟩, k.2.1.mid hnd' (by omega) (by omega) (by omega)⟩
            have hP0 : PH w B h B hr t vL vH #[.int .i64 o0, .int .i64 o1, .int .i64 o2, .int .i64 o3, .string ⟨fr.toArray⟩] l l n hs hs W9.drew := HPH.out.below (Below.refl _ _).drew
            clear hD1 hD2 x0 x3 s3 hl' hn' hs1 hnd' ho3' ho4'
            go_wp2
            go_region_held3 (fun w' => w'.cell? ⟨t, 1, none⟩ = some (.int .i64 o1) ∧ w'.cell? ⟨t, 2, none⟩ = some (.int .i64 o2) ∧ w'.cell? ⟨t, 4, none⟩ = some (.string ⟨fr.toArray⟩))
              ((first | exact ⟨x1, x2, x4⟩ | (go_split_ands; refine ⟨?_, ?_, ?_⟩ <;> assumption)))
              (first
                | (go_at_call 14; refine (HD1.out _ (by first | exact hP0 | assumption)).mono ?_; rintro e wn ⟨rfl, ⟨m1, m3, m4⟩, m2⟩)
                | (go_at_call 15; refine (HD2.out _ (by assumption)).mono ?_; rintro e ws ⟨rfl, ⟨n1, n3, n4⟩, n2⟩))
            all_goals
              have HF := Lib.hid n2
              clear n1 n2 n3 n4 m1 m2 m3 m4 HD1 HD2 hP0
              go_wp2_with fail
              go_meet
              case rel => exact HF.out
      case rest =>
        as_aux_lemma =>
          clear HPH x0 x1 x2 x3 x4 s3 hni hsi hli hnd hp
          obtain ⟨XX, rfl⟩ : ∃ z, z = wc := ⟨wc, rfl⟩
          obtain ⟨l', n', hs', ⟨v', vL', vH', a', r', hB', hb'⟩, hnd', hn', hs1, hl'⟩ := hcut
          have HL := Lib.hid (Lie_calls a' (by omega))
          have HA7 := Lib.hid a'
          have HR7 := Lib.hid r'
          have HB7 := Lib.hid hB'
          clear a' r' hB'
          go_wp2_with fail
          refine HL.out.mono ?_
          rintro e w8 ⟨v12, rfl, k1, k2⟩
          obtain ⟨A12, c12, rfl⟩ := L5.own_slice k1
          have HD8 := Lib.hid k1
          have HA8 := Lib.hid (HA7.out.below k2)
          have HR8 := Lib.hid (HR7.out.below k2)
          have HB8 : Hid (Below w.heap.size w w8) := HB7.out.trans (k2.mono HB7.out.size)
          have hb8 : B ≤ w8.heap.size := Nat.le_trans hb' k2.size
          have HH := Lib.hid (Heard_calls HA8.out (by omega))
          clear k1 k2 HL HA7 HR7 HB7 hb'
          go_wp2_with fail
          refine HH.out.mono ?_
          rintro e w9 ⟨v13, rfl, k1, k2⟩
          obtain ⟨A13, c13, rfl⟩ := L5.own_slice k1
          have HH9 := Lib.hid k1
          have HD9 := Lib.hid (L5.own_below HD8.out k2)
          have HA9 := Lib.hid (HA8.out.below k2)
          have HR9 := Lib.hid (HR8.out.below k2)
          have HB9 : Hid (Below w.heap.size w w9) := HB8.out.trans (k2.mono HB8.out.size)
          have hb9 : B ≤ w9.heap.size := Nat.le_trans hb8 k2.size
          clear k1 k2 HH HA8 HR8 HB8 HD8 hb8
          obtain ⟨A14, c14, rfl⟩ := L5.own_slice HR9.out.row
          obtain ⟨A15, c15, e15⟩ := L5.own_slice HR9.out.heard
          rw [inOrder_len] at e15
          subst e15
          obtain ⟨z0, z1, _, _⟩ := HR9.out.cells
          have HM := Lib.hid (Many_calls (HA9.out.same (W' := w9.drew) fun _ _ => rfl))
          go_wp2
          go_region_held3 (fun w' => w'.cell? ⟨hr, 0, none⟩ = some (.slice A14 l'.length c14) ∧ w'.cell? ⟨hr, 1, none⟩ = some (.slice A15 hs'.length c15))
            ((first | exact ⟨z0, z1⟩ | (go_split_ands; refine ⟨?_, ?_⟩ <;> assumption)))
            (first
              | (go_at_call 18; refine HM.out.mono ?_; rintro e wm ⟨rfl, rfl⟩))
          clear HM
          have HQ : Hid (PMid w B h B hr (i + 1) w9) := ⟨l', n', hs', ⟨v', _, _, HA9.out, HR9.out, HB9.out, hb9⟩, hnd', hn', hs1, hl'⟩
          clear HA9 HB9 hb9
          all_goals
            go_wp2_with fail
            go_loopg [14] l'.length (fun k v14 wy => ∃ j m : Nat, k + j = l'.length ∧ v14 = .int .i64 j ∧ wy = w9.drewN m)
            case atStart => exact ⟨0, 1, by omega, rfl, rfl⟩
            case round =>
              obtain ⟨j, m, hkj, rfl, rfl⟩ := hrel
              by_cases hj : j < l'.length
              · obtain ⟨d, hd⟩ : ∃ d, l'[j]? = some d := ⟨_, List.getElem?_eq_getElem hj⟩
                obtain ⟨g12, c12', e12, _⟩ := dg_shape HD9.out (by omega)
                simp only [Value.slice.injEq, true_and] at e12
                obtain ⟨rfl, rfl⟩ := e12
                obtain ⟨f0, f1, f2⟩ := dg_cells HD9.out hd
                obtain ⟨g14, c14', e14, _⟩ := rdg_shape HR9.out.row (by omega)
                simp only [Value.slice.injEq, true_and] at e14
                obtain ⟨rfl, rfl⟩ := e14
                obtain ⟨g0, g1, g2⟩ := rdg_cells HR9.out.row hd
                have hm1 := Lib.hid (show gk - 1 < gk by omega)
                have hm2 := Lib.hid (show (gk - 1) + (j + 1) = l'.length by omega)
                have hj60 : j ≤ 60 := by omega
                have s5 : (j : Int) < (l'.length : Int) := by omega
                have s6 : (0 : Int) ≤ (j : Int) := by omega
                clear hd hkj
                go_wp2
                go_quiet (fail)
                go_wp2
                go_roundg (gk - 1)
                case measure => exact hm1.out
                case rel => exact ⟨j + 1, _, hm2.out, rfl, rfl⟩
              · have s5 : ¬ (j : Int) < (l'.length : Int) := by omega
                have hlen : (inOrder hs').length = hs'.length := inOrder_len hs'
                have hsh : 0 < hs'.length → ∃ g13 g15, (A13 = some ⟨g13, 0, none⟩ ∧ A15 = some ⟨g15, 0, none⟩) ∧ ∀ (j : Nat) (x : Bytes), (inOrder hs')[j]? = some x → w9.cell? ⟨g13, j, none⟩ = some (.string ⟨x.toArray⟩) ∧ w9.cell? ⟨g15, j, none⟩ = some (.string ⟨x.toArray⟩) := fun h0 => by
                  obtain ⟨g13, c13', e13, _, _, hc1⟩ := row_shape_t HH9.out h0
                  obtain ⟨g15, c15', e15, _, _, hc2⟩ := row_shape_t HR9.out.heard (by omega)
                  simp only [Value.slice.injEq, true_and] at e13 e15
                  exact ⟨g13, g15, ⟨e13.1, e15.1⟩, fun j x hx => ⟨hc1 j (.string ⟨x.toArray⟩) (by simp [strs, hx]), hc2 j (.string ⟨x.toArray⟩) (by simp [strs, hx])⟩⟩
                have HSh := Lib.hid hsh
                clear hkj hj hsh HH9 HR9 HD9
                go_wp2_with fail
                go_loopg [15] hs'.length (fun k v15 wy => ∃ j m : Nat, k + j = hs'.length ∧ v15 = .int .i64 j ∧ wy = w9.drewN m)
                case atStart => exact ⟨0, m, by omega, rfl, rfl⟩
                case round =>
                  obtain ⟨j, m, hkj, rfl, rfl⟩ := hrel
                  by_cases hj : j < hs'.length
                  · obtain ⟨x, hx⟩ : ∃ x, (inOrder hs')[j]? = some x := ⟨_, List.getElem?_eq_getElem (by omega)⟩
                    obtain ⟨g13, g15, ⟨rfl, rfl⟩, hc⟩ := HSh.out (by omega)
                    obtain ⟨y1, y2⟩ := hc j x hx
                    have hm1 := Lib.hid (show gk - 1 < gk by omega)
                    have hm2 := Lib.hid (show (gk - 1) + (j + 1) = hs'.length by omega)
                    have hj60 : j ≤ 60 := by omega
                    have s6 : (j : Int) < (hs'.length : Int) := by omega
                    have s7 : (0 : Int) ≤ (j : Int) := by omega
                    clear hx hc hkj hlen HSh
                    go_wp2
                    go_quiet (fail)
                    go_wp2
                    go_roundg (gk - 1)
                    case measure => exact hm1.out
                    case rel => exact ⟨j + 1, _, hm2.out, rfl, rfl⟩
                  · have s6 : ¬ (j : Int) < (hs'.length : Int) := by omega
                    have HF : Hid (PGo w B h B hr N ko (.int .i64 ((i : Int) + 1)) (w9.drewN m)) := ⟨i + 1, hkk.out, rfl, HQ.out.drewN m⟩
                    clear hkj hj hlen HSh
                    go_wp2
                    go_roundg ko
                    case measure => exact hmm.out
                    case rel => exact HF.out
    · have s1 : ¬ (i : Int) < (N : Int) := by omega
      obtain ⟨v, vL, vH, ha, hr0, hB, hb⟩ := hp
      have HB := Lib.hid hB
      clear ha hr0 hB hk hin HA
      go_wp2
      go_ret
      exact ⟨rfl, HB.out⟩
end Go.Proofs.Ytildapcdkipakaa.L8
end

section
namespace Go.Proofs.Ytildapcdkipakaa
open Go.ChangeShapes Go.WideShapes Go.ChangeAt Go.RowKit

set_option maxRecDepth 100000 in
theorem ntplays_lifted (os : Os) (started : os.Started) (H : Type) (enc : TypeId × Value → H) :
    ReturnsInHanded {} Try.checked os 3 .any (Rows.netPlaysSpec.pre6 enc Try.prog Try.f3 Rows.netPlaysRow.domain false) (Rows.netPlaysSpec.post enc Try.prog Try.f3 false true false false) := by
  refine returnsInHanded_of_change (C := Try.checked) L5.own started (by kernel_rfl) Try.func3
    (ChangeSpec.witness6 (enc := enc) (C := Try.checked) false ⟨#[], #[.slice none 0 0], []⟩ 8 (by kernel_rfl) (by kernel_rfl) (by kernel_rfl) (by kernel_rfl)) ?_
  intro W base args ds gs before hval0 hW hcnd _
  have hval : ∀ (j : Nat) t v, Try.f3.params[j]? = some t → args[j]? = some v → Value.okWide Try.prog W .any base t v := hval0
  have hW' := hW
  obtain ⟨p, q, hA0, hV, rfl, hfz, hnd⟩ := hW
  have hA : DataW.TrodAll enc Try.prog W 0 (fun _ => true) true Try.f3.params.toList args.toList ds p := hA0
  rw [Try.params3] at hA hval
  obtain ⟨v0, vs0, d0, ds0, p0, q0, hargs, rfl, rfl, h0, r0⟩ := trodAll_cons hA
  obtain ⟨rfl, rfl, rfl⟩ := trodAll_nil r0
  obtain rfl : args = #[v0] := by cases args; simp_all
  obtain ⟨rfl, rfl⟩ := trodVars_none hV
  have h0k := h0
  obtain ⟨A0, n0, c0, rfl, hS0, hn0⟩ := L8.open_acts (hval 0 22 v0 rfl rfl) h0
  clear hA0 hval0
  simp only [List.append_nil] at hW'
  have hlt : ∀ x ∈ p0, x.block < W.heap.size := fun x hx => by simpa using hW'.lt x (by simpa using hx)
  refine (L8.plays_calls W hS0 hn0).mono fun e W' ⟨he, hg⟩ => ?_
  subst he
  exact ⟨_, rfl, L5.post_law_at (pv := []) hW' (trodAll_cons_mk (shut_bool Try.underlying4 _) trodAll_mk0) (trodAll_cons_mk (Below.trod L5.laid_out (by kernel_rfl) (of_decide_eq_true (by kernel_rfl)) h0k hg hlt) trodAll_mk0) rfl (by simp) hg⟩

theorem ntplays_over : Rows.netPlaysRow.holds Try.pinned (OpenSpec.ofChange Rows.netPlaysSpec) :=
  OpenClaim.holds_of_wide 3 Try.f3 rfl rfl rfl rfl rfl rfl rfl ⟨rfl, rfl, rfl, rfl, rfl⟩ rfl rfl rfl rfl rfl (by kernel_rfl) Try.func3 (by kernel_rfl)
    (of_decide_eq_true (by kernel_rfl)) (by unfold Func.isWrapper; first | (rw [if_pos (by decide +kernel)]; kernel_rfl) | (rw [if_neg (by decide +kernel)]; exact ⟨rfl, rfl⟩))
    (fun os started H enc _ => ntplays_lifted os started H enc)

theorem ntplays_proved : Rows.NetPlaysSaid := ntplays_over

end Go.Proofs.Ytildapcdkipakaa
end
