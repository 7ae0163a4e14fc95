/- The law ViewOrder: of two ids one is less, or they are one; a next id is above what was seen. The statement ViewOrder: for every input the law returns true, and its arguments read as they did. -/
import Derived.Test.YtkhiconkoldllaaVwA
import Derived.Deep.RegionHeld3
section
namespace Go.Proofs.Ytkhiconkoldllaa.L10
open Go.ChangeShapes Go.WideShapes Go.ChangeAt Go.RowKit Go.Shelf Go.Deep

/-- Three ids that were boxed. -/
def Three (W0 : World) (B : Nat) (ae ac be bc ce cc : Int) (V : World) : Prop :=
  V.cell? ⟨B, 0, none⟩ = some (.int .i64 ae) ∧ V.cell? ⟨B, 1, none⟩ = some (.int .i64 ac) ∧ V.cell? ⟨B + 1, 0, none⟩ = some (.int .i64 be) ∧ V.cell? ⟨B + 1, 1, none⟩ = some (.int .i64 bc) ∧ V.cell? ⟨B + 1 + 1, 0, none⟩ = some (.int .i64 ce) ∧ V.cell? ⟨B + 1 + 1, 1, none⟩ = some (.int .i64 cc) ∧ Below W0.heap.size W0 V
theorem three_of {w V : World} {ae ac be bc ce cc : Int} {W0 : World} (hW : ((w.alloc (.cells #[.int .i64 ae, .int .i64 ac] 23)).alloc (.cells #[.int .i64 be, .int .i64 bc] 23)).alloc (.cells #[.int .i64 ce, .int .i64 cc] 23) = W0) (hV : Below W0.heap.size W0 V) : Three W0 w.heap.size ae ac be bc ce cc V := by
  have s1 : (w.alloc (.cells #[.int .i64 ae, .int .i64 ac] 23)).heap.size = w.heap.size + 1 := by simp
  have s2 : ((w.alloc (.cells #[.int .i64 ae, .int .i64 ac] 23)).alloc (.cells #[.int .i64 be, .int .i64 bc] 23)).heap.size = w.heap.size + 2 := by simp
  have h0 : W0.heap[w.heap.size]? = some (.cells #[.int .i64 ae, .int .i64 ac] 23 (0, 0)) := by
    rw [← hW]
    exact (Below.heap_alloc _ _ _ (by simp; omega)).trans ((Below.heap_alloc _ _ _ (by simp)).trans (World.alloc_heap_new w _))
  have h1 : W0.heap[w.heap.size + 1]? = some (.cells #[.int .i64 be, .int .i64 bc] 23 (0, 0)) := by
    rw [← hW]
    refine (Below.heap_alloc _ _ _ (by simp)).trans ?_
    have := World.alloc_heap_new (w.alloc (.cells #[.int .i64 ae, .int .i64 ac] 23)) (.cells #[.int .i64 be, .int .i64 bc] 23)
    rwa [s1] at this
  have h2 : W0.heap[w.heap.size + 2]? = some (.cells #[.int .i64 ce, .int .i64 cc] 23 (0, 0)) := by
    rw [← hW]
    have := World.alloc_heap_new ((w.alloc (.cells #[.int .i64 ae, .int .i64 ac] 23)).alloc (.cells #[.int .i64 be, .int .i64 bc] 23)) (.cells #[.int .i64 ce, .int .i64 cc] 23)
    rwa [s2] at this
  exact ⟨cells_at h0 hV 0, cells_at h0 hV 1, cells_at h1 hV 0, cells_at h1 hV 1, cells_at h2 hV 0, cells_at h2 hV 1, hV⟩

/-- What two ids are to one another. -/
theorem less_cases (ae ac be bc : Int) : (lessB ae ac be bc = true ∧ lessB be bc ae ac = false ∧ (¬ ae = be ∨ ae = be ∧ ¬ ac = bc)) ∨ (lessB ae ac be bc = false ∧ lessB be bc ae ac = true ∧ (¬ ae = be ∨ ae = be ∧ ¬ ac = bc)) ∨ (lessB ae ac be bc = false ∧ lessB be bc ae ac = false ∧ ae = be ∧ ac = bc) := by
  have k1 := lessB_iff ae ac be bc
  have k2 := lessB_iff be bc ae ac
  have f : ∀ {x : Bool} {P : Prop}, (x = true ↔ P) → ¬ P → x = false := fun {x} {P} h hn => by
    cases x with
    | false => rfl
    | true => exact absurd (h.1 rfl) hn
  rcases (by omega : (ae < be ∨ ae = be ∧ ac < bc) ∨ (be < ae ∨ be = ae ∧ bc < ac) ∨ (ae = be ∧ ac = bc)) with h | h | h
  · exact .inl ⟨k1.2 h, f k2 (by omega), by omega⟩
  · exact .inr (.inl ⟨f k1 (by omega), k2.2 h, by omega⟩)
  · exact .inr (.inr ⟨f k1 (by omega), f k2 (by omega), h⟩)
set_option maxRecDepth 100000 in
set_option maxHeartbeats 8000000 in
theorem order_calls (ae ac be bc ce cc p q : Int) (w : World) : Calls Try.prog 4 #[.agg #[.int .i64 ae, .int .i64 ac], .agg #[.int .i64 be, .int .i64 bc], .agg #[.int .i64 ce, .int .i64 cc], .int .i64 p, .int .i64 q] w (One w (.bool true)) := by
  obtain ⟨W0, hW0⟩ : ∃ W0, ((w.alloc (.cells #[.int .i64 ae, .int .i64 ac] 23)).alloc (.cells #[.int .i64 be, .int .i64 bc] 23)).alloc (.cells #[.int .i64 ce, .int .i64 cc] 23) = W0 := ⟨_, rfl⟩
  have HT : Hid (∀ V, Below W0.heap.size W0 V → Three W0 w.heap.size ae ac be bc ce cc V) := fun V hV => three_of hW0 hV
  have HW : Hid (∀ V, Below W0.heap.size W0 V → Below w.heap.size w V) := fun V hV => by
    have h3 : Below w.heap.size w W0 := by rw [← hW0]; exact (((Below.refl _ w).alloc (Nat.le_refl _) _).alloc (by simp) _).alloc (by simp; omega) _
    exact h3.trans (hV.mono h3.size)
  have HL : Hid (∀ a b c d r V, lessB a b c d = r → Below W0.heap.size W0 V → Calls Try.prog 12 #[.agg #[.int .i64 a, .int .i64 b], .agg #[.int .i64 c, .int .i64 d]] V (fun e V' => e = .returned (.bool r) ∧ Three W0 w.heap.size ae ac be bc ce cc V')) := fun a b c d r V hr hV => by
    refine (less_calls a b c d V).mono ?_
    rintro e V' ⟨rfl, hb⟩
    exact ⟨by rw [hr], HT.out V' (hV.trans (hb.mono hV.size))⟩
  have HN : Hid (∀ r V, Below W0.heap.size W0 V → Calls Try.prog 11 #[.agg #[.int .i64 ae, .int .i64 ac], .int .i64 r] V (fun e V' => e = .returned (.agg #[.int .i64 (up ae), .int .i64 r]) ∧ Three W0 w.heap.size ae ac be bc ce cc V')) := fun r V hV => by
    refine (next_calls _ _ _ V).mono ?_
    rintro e V' ⟨rfl, hb⟩
    exact ⟨rfl, HT.out V' (hV.trans (hb.mono hV.size))⟩
  have HX : Hid (∀ a b c d V, Below W0.heap.size W0 V → Calls Try.prog 12 #[.agg #[.int .i64 a, .int .i64 b], .agg #[.int .i64 c, .int .i64 d]] V (fun e V' => e = .returned (.bool (lessB a b c d)) ∧ Three W0 w.heap.size ae ac be bc ce cc V')) := fun a b c d V hV => HL.out a b c d _ V rfl hV
  have HE : Hid (ae < 4611686018427387904 → -4611686018427387904 < ae → lessB ae ac (up ae) p = true ∧ lessB (up ae) p (up ae) q = decide (p < q) ∧ lessB ae ac ae ac = false) := fun h1 h2 =>
    ⟨by rw [lessB_iff, up_small (by omega) (by omega)]; omega, by simp [lessB], by simp [lessB]⟩
  have HS := Lib.hid (shown_calls W0)
  have hcase : ∃ o1 o2 o3 o4 : Bool, lessB ae ac be bc = o1 ∧ lessB be bc ae ac = o2 ∧ lessB be bc ce cc = o3 ∧ lessB ae ac ce cc = o4 ∧ ((o1 = true ∧ o2 = false ∧ o3 = true ∧ o4 = true ∧ (¬ ae = be ∨ ae = be ∧ ¬ ac = bc)) ∨ (o1 = true ∧ o2 = false ∧ o3 = false ∧ (¬ ae = be ∨ ae = be ∧ ¬ ac = bc)) ∨ (o1 = false ∧ o2 = true ∧ (¬ ae = be ∨ ae = be ∧ ¬ ac = bc)) ∨ (o1 = false ∧ o2 = false ∧ ae = be ∧ ac = bc)) := by
    refine ⟨_, _, _, _, rfl, rfl, rfl, rfl, ?_⟩
    have htr : lessB ae ac be bc = true → lessB be bc ce cc = true → lessB ae ac ce cc = true := fun h1 h2 => by
      rw [lessB_iff] at *
      omega
    rcases less_cases ae ac be bc with ⟨h1, h2, h3⟩ | h | h
    · cases h3' : lessB be bc ce cc with
      | true => exact .inl ⟨h1, h2, rfl, htr h1 h3', h3⟩
      | false => exact .inr (.inl ⟨h1, h2, rfl, h3⟩)
    · exact .inr (.inr (.inl h))
    · exact .inr (.inr (.inr h))
  obtain ⟨o1, o2, o3, o4, hr1, hr2, hr3, hr4, hcase⟩ := hcase
  have H1 := Lib.hid (fun V hV => HL.out _ _ _ _ _ V hr1 hV)
  have H2 := Lib.hid (fun V hV => HL.out _ _ _ _ _ V hr2 hV)
  have H3 := Lib.hid (fun V hV => HL.out _ _ _ _ _ V hr3 hV)
  have H4 := Lib.hid (fun V hV => HL.out _ _ _ _ _ V hr4 hV)
  clear HL hr1 hr2 hr3 hr4
  rcases hcase with ⟨rfl, rfl, rfl, rfl, (hne | ⟨rfl, hne⟩)⟩ | ⟨rfl, rfl, rfl, (hne | ⟨rfl, hne⟩)⟩ | ⟨rfl, rfl, (hne | ⟨rfl, hne⟩)⟩ | ⟨rfl, rfl, rfl, rfl⟩
  · go_enter Try.func4, Try.ntmps4
    go_wp2_with fail
    clear hW0
    refine HS.out.mono ?_
    rintro e w1 ⟨rfl, b1⟩
    obtain ⟨x0, x1, x2, x3, x4, x5, b1⟩ := HT.out w1 b1
    have h1 := H1.out w1 b1
    clear b1
    go_wp2_with fail
    clear x0 x1 x2 x3 x4 x5
    refine h1.mono ?_
    rintro e w2 ⟨rfl, x0, x1, x2, x3, x4, x5, b2⟩
    have h2 := H2.out w2 b2
    clear b2
    go_wp2_with fail
    clear x0 x1 x2 x3 x4 x5
    refine h2.mono ?_
    rintro e w3 ⟨rfl, x0, x1, x2, x3, x4, x5, b3⟩
    have h3 := H3.out w3 b3
    have HB3 := Lib.hid b3
    clear b3 h1 h2
    go_wp2_with fail
    clear x0 x1 x2 x3 x4 x5 HB3
    refine h3.mono ?_
    rintro e w4 ⟨rfl, x0, x1, x2, x3, x4, x5, b4⟩
    have h4 := H4.out w4 b4
    clear b4 h3
    go_wp2_with fail
    clear x0 x1 x2 x3 x4 x5
    refine h4.mono ?_
    rintro e w5 ⟨rfl, x0, x1, x2, x3, x4, x5, b5⟩
    have HB3 := Lib.hid b5
    clear b5 h4
    by_cases q1 : 4611686018427387904 ≤ ae
    · go_wp2
      go_ret
      exact ⟨rfl, HW.out _ HB3.out⟩
    by_cases q2 : ae ≤ -4611686018427387904
    · go_wp2
      go_ret
      exact ⟨rfl, HW.out _ HB3.out⟩
    obtain ⟨e1, e2, e3⟩ := HE.out (by omega) (by omega)
    have E1 := Lib.hid e1
    have E2 := Lib.hid e2
    have E3 := Lib.hid e3
    clear e1 e2 e3
    have hB := HB3.out
    go_wp2
    go_region_held3 (fun w' => w'.cell? ⟨w.heap.size, 0, none⟩ = some (.int .i64 ae) ∧ w'.cell? ⟨w.heap.size, 1, none⟩ = some (.int .i64 ac) ∧ Below W0.heap.size W0 w') (first | exact ⟨x0, x1, hB.drew⟩ | (go_split_ands; refine ⟨?_, ?_, ?_⟩ <;> assumption)) (first
      | (go_at_call 11; refine (HN.out _ _ (by first | exact hB.drew | assumption)).mono ?_; rintro e u ⟨rfl, y0, y1, _, _, _, _, yb⟩)
      | (go_at_call 12; refine (HX.out _ _ _ _ _ (by first | exact hB.drew | assumption)).mono ?_; rintro e u ⟨rfl, y0, y1, _, _, _, _, yb⟩; first | rw [E1.out] | rw [E2.out] | rw [E3.out]))
    go_wp2
    go_ret
    exact ⟨by simp, HW.out _ (by assumption)⟩
  · go_enter Try.func4, Try.ntmps4
    go_wp2_with fail
    clear hW0
    refine HS.out.mono ?_
    rintro e w1 ⟨rfl, b1⟩
    obtain ⟨x0, x1, x2, x3, x4, x5, b1⟩ := HT.out w1 b1
    have h1 := H1.out w1 b1
    clear b1
    go_wp2_with fail
    clear x0 x1 x2 x3 x4 x5
    refine h1.mono ?_
    rintro e w2 ⟨rfl, x0, x1, x2, x3, x4, x5, b2⟩
    have h2 := H2.out w2 b2
    clear b2
    go_wp2_with fail
    clear x0 x1 x2 x3 x4 x5
    refine h2.mono ?_
    rintro e w3 ⟨rfl, x0, x1, x2, x3, x4, x5, b3⟩
    have h3 := H3.out w3 b3
    have HB3 := Lib.hid b3
    clear b3 h1 h2
    go_wp2_with fail
    clear x0 x1 x2 x3 x4 x5 HB3
    refine h3.mono ?_
    rintro e w4 ⟨rfl, x0, x1, x2, x3, x4, x5, b4⟩
    have h4 := H4.out w4 b4
    clear b4 h3
    go_wp2_with fail
    clear x0 x1 x2 x3 x4 x5
    refine h4.mono ?_
    rintro e w5 ⟨rfl, x0, x1, x2, x3, x4, x5, b5⟩
    have HB3 := Lib.hid b5
    clear b5 h4
    by_cases q1 : 4611686018427387904 ≤ ae
    · go_wp2
      go_ret
      exact ⟨rfl, HW.out _ HB3.out⟩
    by_cases q2 : ae ≤ -4611686018427387904
    · go_wp2
      go_ret
      exact ⟨rfl, HW.out _ HB3.out⟩
    obtain ⟨e1, e2, e3⟩ := HE.out (by omega) (by omega)
    have E1 := Lib.hid e1
    have E2 := Lib.hid e2
    have E3 := Lib.hid e3
    clear e1 e2 e3
    have hB := HB3.out
    go_wp2
    go_region_held3 (fun w' => w'.cell? ⟨w.heap.size, 0, none⟩ = some (.int .i64 ae) ∧ w'.cell? ⟨w.heap.size, 1, none⟩ = some (.int .i64 ac) ∧ Below W0.heap.size W0 w') (first | exact ⟨x0, x1, hB.drew⟩ | (go_split_ands; refine ⟨?_, ?_, ?_⟩ <;> assumption)) (first
      | (go_at_call 11; refine (HN.out _ _ (by first | exact hB.drew | assumption)).mono ?_; rintro e u ⟨rfl, y0, y1, _, _, _, _, yb⟩)
      | (go_at_call 12; refine (HX.out _ _ _ _ _ (by first | exact hB.drew | assumption)).mono ?_; rintro e u ⟨rfl, y0, y1, _, _, _, _, yb⟩; first | rw [E1.out] | rw [E2.out] | rw [E3.out]))
    go_wp2
    go_ret
    exact ⟨by simp, HW.out _ (by assumption)⟩
  · go_enter Try.func4, Try.ntmps4
    go_wp2_with fail
    clear hW0
    refine HS.out.mono ?_
    rintro e w1 ⟨rfl, b1⟩
    obtain ⟨x0, x1, x2, x3, x4, x5, b1⟩ := HT.out w1 b1
    have h1 := H1.out w1 b1
    clear b1
    go_wp2_with fail
    clear x0 x1 x2 x3 x4 x5
    refine h1.mono ?_
    rintro e w2 ⟨rfl, x0, x1, x2, x3, x4, x5, b2⟩
    have h2 := H2.out w2 b2
    clear b2
    go_wp2_with fail
    clear x0 x1 x2 x3 x4 x5
    refine h2.mono ?_
    rintro e w3 ⟨rfl, x0, x1, x2, x3, x4, x5, b3⟩
    have h3 := H3.out w3 b3
    have HB3 := Lib.hid b3
    clear b3 h1 h2
    go_wp2_with fail
    clear x0 x1 x2 x3 x4 x5 HB3
    refine h3.mono ?_
    rintro e w4 ⟨rfl, x0, x1, x2, x3, x4, x5, b4⟩
    have HB3 := Lib.hid b4
    clear b4 h3
    by_cases q1 : 4611686018427387904 ≤ ae
    · go_wp2
      go_ret
      exact ⟨rfl, HW.out _ HB3.out⟩
    by_cases q2 : ae ≤ -4611686018427387904
    · go_wp2
      go_ret
      exact ⟨rfl, HW.out _ HB3.out⟩
    obtain ⟨e1, e2, e3⟩ := HE.out (by omega) (by omega)
    have E1 := Lib.hid e1
    have E2 := Lib.hid e2
    have E3 := Lib.hid e3
    clear e1 e2 e3
    have hB := HB3.out
    go_wp2
    go_region_held3 (fun w' => w'.cell? ⟨w.heap.size, 0, none⟩ = some (.int .i64 ae) ∧ w'.cell? ⟨w.heap.size, 1, none⟩ = some (.int .i64 ac) ∧ Below W0.heap.size W0 w') (first | exact ⟨x0, x1, hB.drew⟩ | (go_split_ands; refine ⟨?_, ?_, ?_⟩ <;> assumption)) (first
      | (go_at_call 11; refine (HN.out _ _ (by first | exact hB.drew | assumption)).mono ?_; rintro e u ⟨rfl, y0, y1, _, _, _, _, yb⟩)
      | (go_at_call 12; refine (HX.out _ _ _ _ _ (by first | exact hB.drew | assumption)).mono ?_; rintro e u ⟨rfl, y0, y1, _, _, _, _, yb⟩; first | rw [E1.out] | rw [E2.out] | rw [E3.out]))
    go_wp2
    go_ret
    exact ⟨by simp, HW.out _ (by assumption)⟩
  · go_enter Try.func4, Try.ntmps4
    go_wp2_with fail
    clear hW0
    refine HS.out.mono ?_
    rintro e w1 ⟨rfl, b1⟩
    obtain ⟨x0, x1, x2, x3, x4, x5, b1⟩ := HT.out w1 b1
    have h1 := H1.out w1 b1
    clear b1
    go_wp2_with fail
    clear x0 x1 x2 x3 x4 x5
    refine h1.mono ?_
    rintro e w2 ⟨rfl, x0, x1, x2, x3, x4, x5, b2⟩
    have h2 := H2.out w2 b2
    clear b2
    go_wp2_with fail
    clear x0 x1 x2 x3 x4 x5
    refine h2.mono ?_
    rintro e w3 ⟨rfl, x0, x1, x2, x3, x4, x5, b3⟩
    have h3 := H3.out w3 b3
    have HB3 := Lib.hid b3
    clear b3 h1 h2
    go_wp2_with fail
    clear x0 x1 x2 x3 x4 x5 HB3
    refine h3.mono ?_
    rintro e w4 ⟨rfl, x0, x1, x2, x3, x4, x5, b4⟩
    have HB3 := Lib.hid b4
    clear b4 h3
    by_cases q1 : 4611686018427387904 ≤ ae
    · go_wp2
      go_ret
      exact ⟨rfl, HW.out _ HB3.out⟩
    by_cases q2 : ae ≤ -4611686018427387904
    · go_wp2
      go_ret
      exact ⟨rfl, HW.out _ HB3.out⟩
    obtain ⟨e1, e2, e3⟩ := HE.out (by omega) (by omega)
    have E1 := Lib.hid e1
    have E2 := Lib.hid e2
    have E3 := Lib.hid e3
    clear e1 e2 e3
    have hB := HB3.out
    go_wp2
    go_region_held3 (fun w' => w'.cell? ⟨w.heap.size, 0, none⟩ = some (.int .i64 ae) ∧ w'.cell? ⟨w.heap.size, 1, none⟩ = some (.int .i64 ac) ∧ Below W0.heap.size W0 w') (first | exact ⟨x0, x1, hB.drew⟩ | (go_split_ands; refine ⟨?_, ?_, ?_⟩ <;> assumption)) (first
      | (go_at_call 11; refine (HN.out _ _ (by first | exact hB.drew | assumption)).mono ?_; rintro e u ⟨rfl, y0, y1, _, _, _, _, yb⟩)
      | (go_at_call 12; refine (HX.out _ _ _ _ _ (by first | exact hB.drew | assumption)).mono ?_; rintro e u ⟨rfl, y0, y1, _, _, _, _, yb⟩; first | rw [E1.out] | rw [E2.out] | rw [E3.out]))
    go_wp2
    go_ret
    exact ⟨by simp, HW.out _ (by assumption)⟩
  · go_enter Try.func4, Try.ntmps4
    go_wp2_with fail
    clear hW0
    refine HS.out.mono ?_
    rintro e w1 ⟨rfl, b1⟩
    obtain ⟨x0, x1, x2, x3, x4, x5, b1⟩ := HT.out w1 b1
    have h1 := H1.out w1 b1
    clear b1
    go_wp2_with fail
    clear x0 x1 x2 x3 x4 x5
    refine h1.mono ?_
    rintro e w2 ⟨rfl, x0, x1, x2, x3, x4, x5, b2⟩
    have h2 := H2.out w2 b2
    clear b2
    go_wp2_with fail
    clear x0 x1 x2 x3 x4 x5
    refine h2.mono ?_
    rintro e w3 ⟨rfl, x0, x1, x2, x3, x4, x5, b3⟩
    have h3 := H3.out w3 b3
    have HB3 := Lib.hid b3
    clear b3 h1 h2
    clear h3
    by_cases q1 : 4611686018427387904 ≤ ae
    · go_wp2
      go_ret
      exact ⟨rfl, HW.out _ HB3.out⟩
    by_cases q2 : ae ≤ -4611686018427387904
    · go_wp2
      go_ret
      exact ⟨rfl, HW.out _ HB3.out⟩
    obtain ⟨e1, e2, e3⟩ := HE.out (by omega) (by omega)
    have E1 := Lib.hid e1
    have E2 := Lib.hid e2
    have E3 := Lib.hid e3
    clear e1 e2 e3
    have hB := HB3.out
    go_wp2
    go_region_held3 (fun w' => w'.cell? ⟨w.heap.size, 0, none⟩ = some (.int .i64 ae) ∧ w'.cell? ⟨w.heap.size, 1, none⟩ = some (.int .i64 ac) ∧ Below W0.heap.size W0 w') (first | exact ⟨x0, x1, hB.drew⟩ | (go_split_ands; refine ⟨?_, ?_, ?_⟩ <;> assumption)) (first
      | (go_at_call 11; refine (HN.out _ _ (by first | exact hB.drew | assumption)).mono ?_; rintro e u ⟨rfl, y0, y1, _, _, _, _, yb⟩)
      | (go_at_call 12; refine (HX.out _ _ _ _ _ (by first | exact hB.drew | assumption)).mono ?_; rintro e u ⟨rfl, y0, y1, _, _, _, _, yb⟩; first | rw [E1.out] | rw [E2.out] | rw [E3.out]))
    go_wp2
    go_ret
    exact ⟨by simp, HW.out _ (by assumption)⟩
  · go_enter Try.func4, Try.ntmps4
    go_wp2_with fail
    clear hW0
    refine HS.out.mono ?_
    rintro e w1 ⟨rfl, b1⟩
    obtain ⟨x0, x1, x2, x3, x4, x5, b1⟩ := HT.out w1 b1
    have h1 := H1.out w1 b1
    clear b1
    go_wp2_with fail
    clear x0 x1 x2 x3 x4 x5
    refine h1.mono ?_
    rintro e w2 ⟨rfl, x0, x1, x2, x3, x4, x5, b2⟩
    have h2 := H2.out w2 b2
    clear b2
    go_wp2_with fail
    clear x0 x1 x2 x3 x4 x5
    refine h2.mono ?_
    rintro e w3 ⟨rfl, x0, x1, x2, x3, x4, x5, b3⟩
    have h3 := H3.out w3 b3
    have HB3 := Lib.hid b3
    clear b3 h1 h2
    clear h3
    by_cases q1 : 4611686018427387904 ≤ ae
    · go_wp2
      go_ret
      exact ⟨rfl, HW.out _ HB3.out⟩
    by_cases q2 : ae ≤ -4611686018427387904
    · go_wp2
      go_ret
      exact ⟨rfl, HW.out _ HB3.out⟩
    obtain ⟨e1, e2, e3⟩ := HE.out (by omega) (by omega)
    have E1 := Lib.hid e1
    have E2 := Lib.hid e2
    have E3 := Lib.hid e3
    clear e1 e2 e3
    have hB := HB3.out
    go_wp2
    go_region_held3 (fun w' => w'.cell? ⟨w.heap.size, 0, none⟩ = some (.int .i64 ae) ∧ w'.cell? ⟨w.heap.size, 1, none⟩ = some (.int .i64 ac) ∧ Below W0.heap.size W0 w') (first | exact ⟨x0, x1, hB.drew⟩ | (go_split_ands; refine ⟨?_, ?_, ?_⟩ <;> assumption)) (first
      | (go_at_call 11; refine (HN.out _ _ (by first | exact hB.drew | assumption)).mono ?_; rintro e u ⟨rfl, y0, y1, _, _, _, _, yb⟩)
      | (go_at_call 12; refine (HX.out _ _ _ _ _ (by first | exact hB.drew | assumption)).mono ?_; rintro e u ⟨rfl, y0, y1, _, _, _, _, yb⟩; first | rw [E1.out] | rw [E2.out] | rw [E3.out]))
    go_wp2
    go_ret
    exact ⟨by simp, HW.out _ (by assumption)⟩
  · go_enter Try.func4, Try.ntmps4
    go_wp2_with fail
    clear hW0
    refine HS.out.mono ?_
    rintro e w1 ⟨rfl, b1⟩
    obtain ⟨x0, x1, x2, x3, x4, x5, b1⟩ := HT.out w1 b1
    have h1 := H1.out w1 b1
    clear b1
    go_wp2_with fail
    clear x0 x1 x2 x3 x4 x5
    refine h1.mono ?_
    rintro e w2 ⟨rfl, x0, x1, x2, x3, x4, x5, b2⟩
    have h2 := H2.out w2 b2
    clear b2
    go_wp2_with fail
    clear x0 x1 x2 x3 x4 x5
    refine h2.mono ?_
    rintro e w3 ⟨rfl, x0, x1, x2, x3, x4, x5, b3⟩
    have h3 := H3.out w3 b3
    have HB3 := Lib.hid b3
    clear b3 h1 h2
    clear h3
    by_cases q1 : 4611686018427387904 ≤ ae
    · go_wp2
      go_ret
      exact ⟨rfl, HW.out _ HB3.out⟩
    by_cases q2 : ae ≤ -4611686018427387904
    · go_wp2
      go_ret
      exact ⟨rfl, HW.out _ HB3.out⟩
    obtain ⟨e1, e2, e3⟩ := HE.out (by omega) (by omega)
    have E1 := Lib.hid e1
    have E2 := Lib.hid e2
    have E3 := Lib.hid e3
    clear e1 e2 e3
    have hB := HB3.out
    go_wp2
    go_region_held3 (fun w' => w'.cell? ⟨w.heap.size, 0, none⟩ = some (.int .i64 ae) ∧ w'.cell? ⟨w.heap.size, 1, none⟩ = some (.int .i64 ac) ∧ Below W0.heap.size W0 w') (first | exact ⟨x0, x1, hB.drew⟩ | (go_split_ands; refine ⟨?_, ?_, ?_⟩ <;> assumption)) (first
      | (go_at_call 11; refine (HN.out _ _ (by first | exact hB.drew | assumption)).mono ?_; rintro e u ⟨rfl, y0, y1, _, _, _, _, yb⟩)
      | (go_at_call 12; refine (HX.out _ _ _ _ _ (by first | exact hB.drew | assumption)).mono ?_; rintro e u ⟨rfl, y0, y1, _, _, _, _, yb⟩; first | rw [E1.out] | rw [E2.out] | rw [E3.out]))
    go_wp2
    go_ret
    exact ⟨by simp, HW.out _ (by assumption)⟩
end Go.Proofs.Ytkhiconkoldllaa.L10
end

section
namespace Go.Proofs.Ytkhiconkoldllaa
open Go.ChangeShapes Go.WideShapes Go.ChangeAt Go.RowKit

set_option maxRecDepth 100000 in
theorem vorder_lifted (os : Os) (started : os.Started) (H : Type) (enc : TypeId × Value → H) :
    ReturnsInHanded {} Try.checked os 4 .any (Rows.viewOrderSpec.pre6 enc Try.prog Try.f4 Rows.viewOrderRow.domain false) (Rows.viewOrderSpec.post enc Try.prog Try.f4 false true false false) := by
  refine returnsInHanded_of_change (C := Try.checked) L5.own started (by kernel_rfl) Try.func4
    (ChangeSpec.witness6 (enc := enc) (C := Try.checked) false ⟨#[], #[.agg #[.int .i64 0, .int .i64 0], .agg #[.int .i64 0, .int .i64 0], .agg #[.int .i64 0, .int .i64 0], .int .i64 0, .int .i64 0], []⟩ 8 (by kernel_rfl) (by kernel_rfl) (by kernel_rfl) (by kernel_rfl)) ?_
  intro W base args ds gs before hval0 hW hcnd _
  have hval : ∀ (j : Nat) t v, Try.f4.params[j]? = some t → args[j]? = some v → Value.okWide Try.prog W .any base t v := hval0
  have hW' := hW
  obtain ⟨p, q, hA0, hV, rfl, hfz, hnd⟩ := hW
  have hA : DataW.TrodAll enc Try.prog W 0 (fun _ => true) true Try.f4.params.toList args.toList ds p := hA0
  rw [Try.params4] at hA hval
  obtain ⟨v0, vs0, d0, ds0, p0, q0, hargs, rfl, rfl, h0, r0⟩ := trodAll_cons hA
  obtain ⟨v1, vs1, d1, ds1, p1, q1, rfl, rfl, rfl, h1, r1⟩ := trodAll_cons r0
  obtain ⟨v2, vs2, d2, ds2, p2, q2, rfl, rfl, rfl, h2, r2⟩ := trodAll_cons r1
  obtain ⟨v3, vs3, d3, ds3, p3, q3, rfl, rfl, rfl, h3, r3⟩ := trodAll_cons r2
  obtain ⟨v4, vs4, d4, ds4, p4, q4, rfl, rfl, rfl, h4, r4⟩ := trodAll_cons r3
  obtain ⟨rfl, rfl, rfl⟩ := trodAll_nil r4
  obtain rfl : args = #[v0, v1, v2, v3, v4] := by cases args; simp_all
  obtain ⟨rfl, rfl⟩ := trodVars_none hV
  have h0k := h0
  obtain ⟨e0, c0, rfl⟩ := L10.open_id (hval 0 23 v0 rfl rfl) h0
  have h1k := h1
  obtain ⟨e1, c1, rfl⟩ := L10.open_id (hval 1 23 v1 rfl rfl) h1
  have h2k := h2
  obtain ⟨e2, c2, rfl⟩ := L10.open_id (hval 2 23 v2 rfl rfl) h2
  obtain ⟨a3, rfl, rfl, rfl, w3⟩ := open_int Try.underlying3 (hval 3 3 v3 rfl rfl) h3
  obtain ⟨a4, rfl, rfl, rfl, w4⟩ := open_int Try.underlying3 (hval 4 3 v4 rfl rfl) h4
  clear hA0 hval0
  simp only [List.append_nil] at hW'
  have hlt0 : ∀ x ∈ p0, x.block < W.heap.size := fun x hx => by simpa using hW'.lt x (by simp [hx])
  have hlt1 : ∀ x ∈ p1, x.block < W.heap.size := fun x hx => by simpa using hW'.lt x (by simp [hx])
  have hlt2 : ∀ x ∈ p2, x.block < W.heap.size := fun x hx => by simpa using hW'.lt x (by simp [hx])
  refine (L10.order_calls e0 c0 e1 c1 e2 c2 a3 a4 W).mono fun e W' ⟨he, hg⟩ => ?_
  subst he
  exact ⟨_, rfl, L5.post_law_at (pv := []) hW' (trodAll_cons_mk (shut_bool Try.underlying4 _) trodAll_mk0) (trodAll_cons_mk (Below.trod L5.laid_out (by kernel_rfl) (of_decide_eq_true (by kernel_rfl)) h0k hg hlt0) (trodAll_cons_mk (Below.trod L5.laid_out (by kernel_rfl) (of_decide_eq_true (by kernel_rfl)) h1k hg hlt1) (trodAll_cons_mk (Below.trod L5.laid_out (by kernel_rfl) (of_decide_eq_true (by kernel_rfl)) h2k hg hlt2) (trodAll_cons_mk (shut_int Try.underlying3 w3) (trodAll_cons_mk (shut_int Try.underlying3 w4) trodAll_mk0))))) rfl (by simp) hg⟩

theorem vorder_over : Rows.viewOrderRow.holds Try.pinned (OpenSpec.ofChange Rows.viewOrderSpec) :=
  OpenClaim.holds_of_wide 4 Try.f4 rfl rfl rfl rfl rfl rfl rfl ⟨rfl, rfl, rfl, rfl, rfl⟩ rfl rfl rfl rfl rfl (by kernel_rfl) Try.func4 (by kernel_rfl)
    (of_decide_eq_true (by kernel_rfl)) (by unfold Func.isWrapper; first | (rw [if_pos (by decide +kernel)]; kernel_rfl) | (rw [if_neg (by decide +kernel)]; exact ⟨rfl, rfl⟩))
    (fun os started H enc _ => vorder_lifted os started H enc)

theorem vorder_proved : Rows.ViewOrderSaid := vorder_over

end Go.Proofs.Ytkhiconkoldllaa
end
