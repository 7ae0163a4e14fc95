/- Contract of the statements' own shown: the chapter's example. -/
import Derived.Test.YtildapcdkipakaaWtLaw
namespace Go.Proofs.Ytildapcdkipakaa.L9
open Go.ChangeShapes Go.WideShapes Go.ChangeAt Go.RowKit Go.Deep

/-- Who is there is held against a row that was written out. -/
theorem same_new {B : Nat} {w w1 : World} {v : Value} {xs : List Int} (ys : List Int) (r : w1.ownsRow B 3 1 v xs.length (ints xs)) (hl : xs.length ≤ 1000) (b : Below w.heap.size w w1) : ∃ W1, w1.alloc (.cells (ints ys).toArray 3) = W1 ∧ Below w.heap.size w W1 ∧ Below w1.heap.size w1 W1 ∧ Calls Try.prog 25 #[v, .slice (some ⟨w1.heap.size, 0, none⟩) ys.length ys.length] W1 (L5.One W1 (.bool (decide (xs = ys)))) := by
  have hB : Below w1.heap.size w1 (w1.alloc (.cells (ints ys).toArray 3)) := (Below.refl _ w1).alloc (Nat.le_refl _) _
  exact ⟨_, rfl, b.trans (hB.mono b.size), hB, same_calls xs ys _ _ _ ((IRow.of_own r).below hB) (IRow.new w1 ys _ _) hl⟩
theorem ok12 : WOk 1 2 (newL 1 2) := WOk.new (by omega) (by omega) (by omega) (by omega)
def s1 : List Int := newL 1 2
def s2 : List Int := hearL s1 3
def s3 : List Int := tickL 1 2 s2
def s4 : List Int := tickL 1 2 s3
def s5 : List Int := tickL 1 2 s4
theorem ok1 : WOk 1 2 s1 := ok12
theorem ok2 : WOk 1 2 s2 := ok1.hear 3
theorem ok3 : WOk 1 2 s3 := ok2.tick
theorem ok4 : WOk 1 2 s4 := ok3.tick
theorem ok5 : WOk 1 2 s5 := ok4.tick
theorem th1 : thereL 2 s1 = [1] := by decide
theorem th2 : thereL 2 s2 = [1, 3] := by decide
theorem th4 : thereL 2 s4 = [1, 3] := by decide
theorem th5 : thereL 2 s5 = [1] := by decide
set_option maxRecDepth 100000 in
set_option maxHeartbeats 4000000 in
theorem shown_calls (w : World) : Calls Try.prog 19 #[] w (L5.One w (.bool true)) := by
  have HN := Lib.hid (New_yes 1 2 w (by omega) (by omega) (by omega) (by omega))
  go_enter Try.func19, Try.ntmps19
  go_wp2_with fail
  refine HN.out.mono ?_
  rintro e w1 ⟨v1, rfl, r1, b1⟩
  obtain ⟨q1, c1, W1, y1, y2, x1, rfl, k0, ⟨k1, k2, k3⟩, ⟨k4, k5, k6⟩, ⟨k7, k8, k9⟩, h1, B1, _⟩ := HAt.fresh (me := 1) (lim := 2) (L := s1) r1 b1
  obtain ⟨z0, z1, z2, _, _, _⟩ := cells3 h1.blk
  have HH := Lib.hid (h1.hear ok1 3 (by unfold isInt; omega))
  have H1 := Lib.hid h1
  have HB1 := Lib.hid B1
  clear HN r1 b1 h1 B1
  go_wp2_with fail
  refine HH.out.mono ?_
  rintro e w2 ⟨v2, rfl, r2, b2⟩
  clear HH k0 k1 k2 k3 k4 k5 k6 k7 k8 k9 z0 z1 z2
  obtain ⟨q2, c2, W2, y1, y2, x2, rfl, k0, ⟨k1, k2, k3⟩, ⟨k4, k5, k6⟩, ⟨k7, k8, k9⟩, h2, B2, B2'⟩ := HAt.fresh (w := w) (me := 1) (lim := 2) (L := s2) r2 (HB1.out.trans (b2.mono HB1.out.size))
  obtain ⟨z0, z1, z2, _, _, _⟩ := cells3 h2.blk
  have HT := Lib.hid (h2.tick ok2)
  have H1 := Lib.hid ((H1.out.below b2).below B2')
  have H2 := Lib.hid h2
  have HB2 := Lib.hid B2
  clear r2 b2 h2 B2 B2' HB1
  go_wp2_with fail
  refine HT.out.mono ?_
  rintro e w3 ⟨v3, rfl, r3, b3⟩
  clear HT k0 k1 k2 k3 k4 k5 k6 k7 k8 k9 z0 z1 z2
  have HT := Lib.hid (Tick_calls _ 1 2 v3 s3 w3 ok3 r3)
  have HB3 := Lib.hid (HB2.out.trans (b3.mono HB2.out.size))
  have H1 := Lib.hid (H1.out.below b3)
  have H2 := Lib.hid (H2.out.below b3)
  clear r3 b3 HB2
  go_wp2_with fail
  refine HT.out.mono ?_
  rintro e w4 ⟨v4, rfl, r4, b4⟩
  clear HT
  obtain ⟨q4, c4, W4, y1, y2, x4, rfl, k0, ⟨k1, k2, k3⟩, ⟨k4, k5, k6⟩, ⟨k7, k8, k9⟩, h4, B4, B4'⟩ := HAt.fresh (w := w) (me := 1) (lim := 2) (L := s4) r4 (HB3.out.trans (b4.mono HB3.out.size))
  have h1 := (H1.out.below b4).below B4'
  have H2 := Lib.hid ((H2.out.below b4).below B4')
  have H4 := Lib.hid h4
  have HB4 := Lib.hid B4
  obtain ⟨z0, z1, z2, _, _, _⟩ := cells3 h1.blk
  have HC := Lib.hid (h1.there ok1)
  clear H1 h1 r4 b4 h4 B4 B4' HB3
  go_wp2_with fail
  refine HC.out.mono ?_
  rintro e w5 ⟨v5, rfl, r5, b5⟩
  clear HC k0 k1 k2 k3 k4 k5 k6 k7 k8 k9 z0 z1 z2
  rw [th1] at r5
  obtain ⟨W5, k0, B5, B5', HC⟩ := same_new (w := w) [1] r5 (by simp) (HB4.out.trans (b5.mono HB4.out.size))
  have HC := Lib.hid HC
  have HB5 := Lib.hid B5
  have H2 := Lib.hid ((H2.out.below b5).below B5')
  have H4 := Lib.hid ((H4.out.below b5).below B5')
  have k0 : w5.alloc (.cells #[.int .i64 1] 3) = W5 := k0
  clear r5 b5 B5 B5' HB4
  go_wp2_with fail
  refine HC.out.mono ?_
  rintro e w6 ⟨rfl, b6⟩
  clear HC k0
  have h2 := H2.out.below b6
  have H4 := Lib.hid (H4.out.below b6)
  have HB6 := Lib.hid (HB5.out.trans (b6.mono HB5.out.size))
  obtain ⟨z0, z1, z2, _, _, _⟩ := cells3 h2.blk
  have HC := Lib.hid (h2.there ok2)
  clear h2 H2 b6 HB5
  go_wp2_with fail
  refine HC.out.mono ?_
  rintro e w7 ⟨v7, rfl, r7, b7⟩
  clear HC z0 z1 z2
  rw [th2] at r7
  obtain ⟨W7, k0, B7, B7', HC⟩ := same_new (w := w) [1, 3] r7 (by simp) (HB6.out.trans (b7.mono HB6.out.size))
  have HC := Lib.hid HC
  have HB7 := Lib.hid B7
  have H4 := Lib.hid ((H4.out.below b7).below B7')
  have k0 : w7.alloc (.cells #[.int .i64 1, .int .i64 3] 3) = W7 := k0
  clear r7 b7 B7 B7' HB6
  go_wp2_with fail
  refine HC.out.mono ?_
  rintro e w8 ⟨rfl, b8⟩
  clear HC k0
  have h4 := H4.out.below b8
  have HB8 := Lib.hid (HB7.out.trans (b8.mono HB7.out.size))
  obtain ⟨z0, z1, z2, _, _, _⟩ := cells3 h4.blk
  have HC := Lib.hid (h4.there ok4)
  have H4 := Lib.hid h4
  clear h4 b8 HB7
  go_wp2_with fail
  refine HC.out.mono ?_
  rintro e w9 ⟨v9, rfl, r9, b9⟩
  clear HC z0 z1 z2
  rw [th4] at r9
  obtain ⟨W9, k0, B9, B9', HC⟩ := same_new (w := w) [1, 3] r9 (by simp) (HB8.out.trans (b9.mono HB8.out.size))
  have HC := Lib.hid HC
  have HB9 := Lib.hid B9
  have H4 := Lib.hid ((H4.out.below b9).below B9')
  have k0 : w9.alloc (.cells #[.int .i64 1, .int .i64 3] 3) = W9 := k0
  clear r9 b9 B9 B9' HB8
  go_wp2_with fail
  refine HC.out.mono ?_
  rintro e w10 ⟨rfl, b10⟩
  clear HC k0
  have h4 := H4.out.below b10
  have HB10 := Lib.hid (HB9.out.trans (b10.mono HB9.out.size))
  obtain ⟨z0, z1, z2, _, _, _⟩ := cells3 h4.blk
  have HC := Lib.hid (h4.tick ok4)
  clear h4 b10 HB9 H4
  go_wp2_with fail
  refine HC.out.mono ?_
  rintro e w11 ⟨v11, rfl, r11, b11⟩
  clear HC z0 z1 z2
  have HC := Lib.hid (There_calls _ 1 2 v11 s5 w11 ok5 r11)
  have HB11 := Lib.hid (HB10.out.trans (b11.mono HB10.out.size))
  clear r11 b11 HB10
  go_wp2_with fail
  refine HC.out.mono ?_
  rintro e w12 ⟨v12, rfl, r12, b12⟩
  clear HC
  rw [th5] at r12
  obtain ⟨W12, k0, B12, _, HC⟩ := same_new (w := w) [1] r12 (by simp) (HB11.out.trans (b12.mono HB11.out.size))
  have HC := Lib.hid HC
  have HB12 := Lib.hid B12
  have k0 : w12.alloc (.cells #[.int .i64 1] 3) = W12 := k0
  clear r12 b12 B12 HB11
  go_wp2_with fail
  refine HC.out.mono ?_
  rintro e w13 ⟨rfl, b13⟩
  have HB13 := Lib.hid (HB12.out.trans (b13.mono HB12.out.size))
  clear HC k0 b13 HB12
  go_wp2
  go_ret
  exact ⟨rfl, HB13.out⟩
end Go.Proofs.Ytildapcdkipakaa.L9
