/- The law ViewTells: what is told of ids, views and rows is as the document says. The statement ViewTells: for every input the law returns true, and its arguments read as they did. -/
import Derived.Test.YtkhiconkoldllaaVwA
import Derived.Deep.RegionHeld3
section
namespace Go.Proofs.Ytkhiconkoldllaa.L10
open Go.ChangeShapes Go.WideShapes Go.ChangeAt Go.RowKit Go.Shelf Go.Deep

/-- What lies in memory while all is asked: two views and the next id. -/
def Held (W8 : World) (B N : Nat) (e1 c1 : Int) (v1 : Value) (e2 c2 m p : Int) (V : World) : Prop :=
  V.cell? ⟨B, 0, none⟩ = some (.int .i64 e1) ∧ V.cell? ⟨B, 1, none⟩ = some (.int .i64 c1) ∧ V.cell? ⟨B, 2, none⟩ = some v1 ∧ V.cell? ⟨B + 1, 0, none⟩ = some (.int .i64 e2) ∧ V.cell? ⟨B + 1, 1, none⟩ = some (.int .i64 c2) ∧
  V.cell? ⟨N, 0, none⟩ = some (.int .i64 m) ∧ V.cell? ⟨N, 1, none⟩ = some (.int .i64 p) ∧ Below W8.heap.size W8 V
theorem boxes_of {w V : World} {e1 c1 e2 c2 : Int} {v1 v2 : Value} {W0 : World} (hW : (w.alloc (.cells #[.int .i64 e1, .int .i64 c1, v1] 26)).alloc (.cells #[.int .i64 e2, .int .i64 c2, v2] 26) = W0) (hV : Below W0.heap.size W0 V) :
    V.cell? ⟨w.heap.size, 0, none⟩ = some (.int .i64 e1) ∧ V.cell? ⟨w.heap.size, 1, none⟩ = some (.int .i64 c1) ∧ V.cell? ⟨w.heap.size, 2, none⟩ = some v1 ∧ V.cell? ⟨w.heap.size + 1, 0, none⟩ = some (.int .i64 e2) ∧ V.cell? ⟨w.heap.size + 1, 1, none⟩ = some (.int .i64 c2) ∧ V.cell? ⟨w.heap.size + 1, 2, none⟩ = some v2 := by
  have s1 : (w.alloc (.cells #[.int .i64 e1, .int .i64 c1, v1] 26)).heap.size = w.heap.size + 1 := by simp
  have h0 : W0.heap[w.heap.size]? = some (.cells #[.int .i64 e1, .int .i64 c1, v1] 26 (0, 0)) := by
    rw [← hW]
    exact (Below.heap_alloc _ _ _ (by simp)).trans (World.alloc_heap_new w _)
  have h1 : W0.heap[w.heap.size + 1]? = some (.cells #[.int .i64 e2, .int .i64 c2, v2] 26 (0, 0)) := by
    rw [← hW]
    have := World.alloc_heap_new (w.alloc (.cells #[.int .i64 e1, .int .i64 c1, v1] 26)) (.cells #[.int .i64 e2, .int .i64 c2, v2] 26)
    rwa [s1] at this
  exact ⟨cells_at h0 hV 0, cells_at h0 hV 1, cells_at h0 hV 2, cells_at h1 hV 0, cells_at h1 hV 1, cells_at h1 hV 2⟩

set_option maxRecDepth 100000 in
set_option maxHeartbeats 8000000 in
theorem tells_law (e1 c1 : Int) (v1 : Value) (xs : List Int) (e2 c2 : Int) (v2 : Value) (ys : List Int) (p : Int) (w : World) (hI : IntsA w v1 xs) (hnil : ∀ n k, v1 = .slice none n k → k = 0) (hU : IntsA w v2 ys) : Calls Try.prog 3 #[viewV e1 c1 v1, viewV e2 c2 v2, .int .i64 p] w (One w (.bool true)) := by
  obtain ⟨A1, p1, rfl, _⟩ := id hI.reads
  obtain ⟨A2, p2, rfl, _⟩ := id hU.reads
  have f1 := hI.few
  have f2 := hU.few
  unfold maxLen at f1 f2
  unfold viewV
  obtain ⟨W0, hW0⟩ : ∃ W0, (w.alloc (.cells #[.int .i64 e1, .int .i64 c1, .slice A1 xs.length p1] 26)).alloc (.cells #[.int .i64 e2, .int .i64 c2, .slice A2 ys.length p2] 26) = W0 := ⟨_, rfl⟩
  have hB0 : Below w.heap.size w W0 := by rw [← hW0]; exact below_two w _ _
  have HT := Lib.hid (fun (V : World) (hV : Below W0.heap.size W0 V) => boxes_of hW0 hV)
  have HW : Hid (∀ V, Below W0.heap.size W0 V → Below w.heap.size w V) := fun V hV => hB0.trans (hV.mono hB0.size)
  have HI := Lib.hid (fun V hV => hI.below (HW.out V hV))
  have HU := Lib.hid (fun V hV => hU.below (HW.out V hV))
  have HS := Lib.hid (shown_calls W0)
  have HF : Hid (Fits xs) := hI.fit
  have HNil := Lib.hid hnil
  clear hI hU hB0 hnil
  by_cases hbad : 50 < xs.length ∨ 50 < ys.length
  · by_cases n1 : (50 : Int) < (xs.length : Int)
    · clear hbad
      obtain ⟨x0, x1, x2, y0, y1, y2⟩ := HT.out W0 (Below.refl _ _)
      go_enter Try.func3, Try.ntmps3
      go_wp2_with fail
      clear hW0 x0 x1 x2 y0 y1 y2
      refine HS.out.mono ?_
      rintro e' V1 ⟨rfl, b1⟩
      have HB1 := Lib.hid (HW.out V1 b1)
      obtain ⟨x0, x1, x2, y0, y1, y2⟩ := HT.out V1 b1
      clear b1
      go_wp2
      go_ret
      exact ⟨rfl, HB1.out⟩
    · have n2 : (50 : Int) < (ys.length : Int) := by omega
      clear hbad
      obtain ⟨x0, x1, x2, y0, y1, y2⟩ := HT.out W0 (Below.refl _ _)
      go_enter Try.func3, Try.ntmps3
      go_wp2_with fail
      clear hW0 x0 x1 x2 y0 y1 y2
      refine HS.out.mono ?_
      rintro e' V1 ⟨rfl, b1⟩
      have HB1 := Lib.hid (HW.out V1 b1)
      obtain ⟨x0, x1, x2, y0, y1, y2⟩ := HT.out V1 b1
      clear b1
      go_wp2
      go_ret
      exact ⟨rfl, HB1.out⟩
  have n1 : ¬ (50 : Int) < (xs.length : Int) := by omega
  have n2 : ¬ (50 : Int) < (ys.length : Int) := by omega
  have HN : Hid (xs.length ≤ 50 ∧ ys.length ≤ 50) := by constructor <;> omega
  clear hbad
  go_enter Try.func3, Try.ntmps3
  go_wp2_with fail
  clear hW0
  refine HS.out.mono ?_
  rintro e' V1 ⟨rfl, b1⟩
  have HB1 := Lib.hid b1
  obtain ⟨x0, x1, x2, y0, y1, y2⟩ := HT.out V1 b1
  have hTa := term_calls e1 c1 _ xs V1 (HI.out V1 b1) (by have := HN.out; omega)
  unfold viewV at hTa
  have HTa := Lib.hid hTa
  clear b1 hTa
  go_wp2_with fail
  clear x0 x1 x2 y0 y1 y2 n1 n2
  refine HTa.out.mono ?_
  rintro e' V2 ⟨rfl, b2⟩
  have h2 := HB1.out.trans (b2.mono HB1.out.size)
  have HB2 := Lib.hid h2
  obtain ⟨x0, x1, x2, y0, y1, y2⟩ := HT.out V2 h2
  have hTa := rterm_calls e1 c1 _ xs V2 (HI.out V2 h2) HNil.out
  unfold viewV at hTa
  have HTb := Lib.hid hTa
  obtain ⟨⟨pt, pe⟩, ht⟩ : ∃ r, termP e1 c1 xs = r := ⟨_, rfl⟩
  rw [ht] at HTb ⊢
  clear b2 h2 HTa hTa ht
  go_wp2_with fail
  clear x0 x1 x2 y0 y1 y2
  refine HTb.out.mono ?_
  rintro e' V3 ⟨rfl, b3⟩
  have h3 := HB2.out.trans (b3.mono HB2.out.size)
  have HB3 := Lib.hid h3
  obtain ⟨x0, x1, x2, y0, y1, y2⟩ := HT.out V3 h3
  have HNx := Lib.hid (next_calls e1 c1 p V3)
  clear b3 h3 HTb
  go_wp2_with fail
  clear x0 x1 x2 y0 y1 y2
  refine HNx.out.mono ?_
  rintro e' V4 ⟨rfl, b4⟩
  have h4 := HB3.out.trans (b4.mono HB3.out.size)
  have HB4 := Lib.hid h4
  obtain ⟨m, hm⟩ : ∃ m, wrap64 (e1 + 1) = m := ⟨_, rfl⟩
  have hu : up e1 = m := hm
  have hmw : IntKind.i64.wrap (e1 + 1) = m := by rw [IntKind.wrap_i64, ← hm]; unfold wrap64; first | rfl | omega
  rw [hu]
  obtain ⟨W8, hW8⟩ : ∃ W8, V4.alloc (.cells #[.int .i64 m, .int .i64 p] 23) = W8 := ⟨_, rfl⟩
  have HH : Hid (∀ V, Below W8.heap.size W8 V → Held W8 w.heap.size V4.heap.size e1 c1 (.slice A1 xs.length p1) e2 c2 m p V) := by
    intro V hV
    have hn : W8.heap[V4.heap.size]? = some (.cells #[.int .i64 m, .int .i64 p] 23 (0, 0)) := by rw [← hW8]; exact World.alloc_heap_new V4 _
    have hb8 : Below V4.heap.size V4 W8 := by rw [← hW8]; exact below_one V4 _
    obtain ⟨q0, q1, q2, r0, r1, _⟩ := HT.out V ((HB4.out.trans (hb8.mono HB4.out.size)).trans (hV.mono (Nat.le_trans HB4.out.size hb8.size)))
    exact ⟨q0, q1, q2, r0, r1, cells_at hn hV 0, cells_at hn hV 1, hV⟩
  have HW8 : Hid (∀ V, Below W8.heap.size W8 V → Below W0.heap.size W0 V) := fun V hV => by
    have hb8 : Below V4.heap.size V4 W8 := by rw [← hW8]; exact below_one V4 _
    exact (HB4.out.trans (hb8.mono HB4.out.size)).trans (hV.mono (Nat.le_trans HB4.out.size hb8.size))
  obtain ⟨z0, z1, z2, u0, u1, n0, n1, hB8⟩ := HH.out W8 (Below.refl _ _)
  clear b4 h4 hu HNx
  have K12 : Hid (∀ V, Below W8.heap.size W8 V → Calls Try.prog 12 #[.agg #[.int .i64 e1, .int .i64 c1], .agg #[.int .i64 e2, .int .i64 c2]] V (fun e' V' => e' = .returned (.bool (lessB e1 c1 e2 c2)) ∧ Held W8 w.heap.size V4.heap.size e1 c1 (.slice A1 xs.length p1) e2 c2 m p V')) := fun V hV => by
    have k0 := HW8.out V hV
    have k := less_calls e1 c1 e2 c2 V
    try unfold viewV at k
    refine k.mono ?_
    rintro e' V' ⟨rfl, hb⟩
    exact ⟨rfl, HH.out V' (by first | (rw [← hb]; exact hV) | exact hV.trans (hb.mono hV.size))⟩
  have K13 : Hid (∀ V, Below W8.heap.size W8 V → Calls Try.prog 13 #[.agg #[.int .i64 e1, .int .i64 c1], .agg #[.int .i64 e2, .int .i64 c2]] V (fun e' V' => e' = .returned (.bool (lessB e1 c1 e2 c2)) ∧ Held W8 w.heap.size V4.heap.size e1 c1 (.slice A1 xs.length p1) e2 c2 m p V')) := fun V hV => by
    have k0 := HW8.out V hV
    have k := rless_calls e1 c1 e2 c2 V
    try unfold viewV at k
    refine k.mono ?_
    rintro e' V' ⟨rfl, hb⟩
    exact ⟨rfl, HH.out V' (by first | (rw [← hb]; exact hV) | exact hV.trans (hb.mono hV.size))⟩
  have K14 : Hid (∀ V, Below W8.heap.size W8 V → Calls Try.prog 14 #[.agg #[.int .i64 e1, .int .i64 c1, .slice A1 xs.length p1]] V (fun e' V' => e' = .returned (.bool (rightB e1 c1 xs)) ∧ Held W8 w.heap.size V4.heap.size e1 c1 (.slice A1 xs.length p1) e2 c2 m p V')) := fun V hV => by
    have k0 := HW8.out V hV
    have k := right_calls e1 c1 _ xs V (HI.out V k0) (by have := HN.out; omega)
    try unfold viewV at k
    refine k.mono ?_
    rintro e' V' ⟨rfl, hb⟩
    exact ⟨rfl, HH.out V' (by first | (rw [← hb]; exact hV) | exact hV.trans (hb.mono hV.size))⟩
  have K15 : Hid (∀ V, Below W8.heap.size W8 V → Calls Try.prog 15 #[.agg #[.int .i64 e1, .int .i64 c1, .slice A1 xs.length p1]] V (fun e' V' => e' = .returned (.bool (rightB e1 c1 xs)) ∧ Held W8 w.heap.size V4.heap.size e1 c1 (.slice A1 xs.length p1) e2 c2 m p V')) := fun V hV => by
    have k0 := HW8.out V hV
    have k := rright_calls e1 c1 _ xs V (HI.out V k0)
    try unfold viewV at k
    refine k.mono ?_
    rintro e' V' ⟨rfl, hb⟩
    exact ⟨rfl, HH.out V' (by first | (rw [← hb]; exact hV) | exact hV.trans (hb.mono hV.size))⟩
  have K16 : Hid (∀ V, Below W8.heap.size W8 V → Calls Try.prog 16 #[.slice A1 xs.length p1] V (fun e' V' => e' = .returned (.bool (rowB xs)) ∧ Held W8 w.heap.size V4.heap.size e1 c1 (.slice A1 xs.length p1) e2 c2 m p V')) := fun V hV => by
    have k0 := HW8.out V hV
    have k := row_calls _ xs V (HI.out V k0)
    try unfold viewV at k
    refine k.mono ?_
    rintro e' V' ⟨rfl, hb⟩
    exact ⟨rfl, HH.out V' (by first | (rw [← hb]; exact hV) | exact hV.trans (hb.mono hV.size))⟩
  have K17 : Hid (∀ V, Below W8.heap.size W8 V → Calls Try.prog 17 #[.slice A1 xs.length p1] V (fun e' V' => e' = .returned (.bool (rowB xs)) ∧ Held W8 w.heap.size V4.heap.size e1 c1 (.slice A1 xs.length p1) e2 c2 m p V')) := fun V hV => by
    have k0 := HW8.out V hV
    have k := rrow_calls _ xs V (HI.out V k0)
    try unfold viewV at k
    refine k.mono ?_
    rintro e' V' ⟨rfl, hb⟩
    exact ⟨rfl, HH.out V' (by first | (rw [← hb]; exact hV) | exact hV.trans (hb.mono hV.size))⟩
  have K18 : Hid (∀ V, Below W8.heap.size W8 V → Calls Try.prog 18 #[.slice A1 xs.length p1, .int .i64 p] V (fun e' V' => e' = .returned (.bool (xs.contains p)) ∧ Held W8 w.heap.size V4.heap.size e1 c1 (.slice A1 xs.length p1) e2 c2 m p V')) := fun V hV => by
    have k0 := HW8.out V hV
    have k := has_calls _ xs p V (HI.out V k0) (by have := HN.out; omega)
    try unfold viewV at k
    refine k.mono ?_
    rintro e' V' ⟨rfl, hb⟩
    exact ⟨rfl, HH.out V' (by first | (rw [← hb]; exact hV) | exact hV.trans (hb.mono hV.size))⟩
  have K19 : Hid (∀ V, Below W8.heap.size W8 V → Calls Try.prog 19 #[.slice A1 xs.length p1, .int .i64 p] V (fun e' V' => e' = .returned (.bool (xs.contains p)) ∧ Held W8 w.heap.size V4.heap.size e1 c1 (.slice A1 xs.length p1) e2 c2 m p V')) := fun V hV => by
    have k0 := HW8.out V hV
    have k := rhas_calls _ xs p V (HI.out V k0)
    try unfold viewV at k
    refine k.mono ?_
    rintro e' V' ⟨rfl, hb⟩
    exact ⟨rfl, HH.out V' (by first | (rw [← hb]; exact hV) | exact hV.trans (hb.mono hV.size))⟩
  have K20 : Hid (∀ V, Below W8.heap.size W8 V → Calls Try.prog 20 #[.slice A1 xs.length p1, .slice A2 ys.length p2] V (fun e' V' => e' = .returned (.bool (decide (xs = ys))) ∧ Held W8 w.heap.size V4.heap.size e1 c1 (.slice A1 xs.length p1) e2 c2 m p V')) := fun V hV => by
    have k0 := HW8.out V hV
    have k := same_calls _ _ xs ys V (HI.out V k0) (HU.out V k0)
    try unfold viewV at k
    refine k.mono ?_
    rintro e' V' ⟨rfl, hb⟩
    exact ⟨rfl, HH.out V' (by first | (rw [← hb]; exact hV) | exact hV.trans (hb.mono hV.size))⟩
  have K21 : Hid (∀ V, Below W8.heap.size W8 V → Calls Try.prog 21 #[.slice A1 xs.length p1, .slice A2 ys.length p2] V (fun e' V' => e' = .returned (.bool (decide (xs = ys))) ∧ Held W8 w.heap.size V4.heap.size e1 c1 (.slice A1 xs.length p1) e2 c2 m p V')) := fun V hV => by
    have k0 := HW8.out V hV
    have k := rsame_calls _ _ xs ys V (HI.out V k0) (HU.out V k0)
    try unfold viewV at k
    refine k.mono ?_
    rintro e' V' ⟨rfl, hb⟩
    exact ⟨rfl, HH.out V' (by first | (rw [← hb]; exact hV) | exact hV.trans (hb.mono hV.size))⟩
  have K22 : Hid (∀ V, Below W8.heap.size W8 V → Calls Try.prog 22 #[.slice A1 xs.length p1, .slice A2 ys.length p2] V (fun e' V' => ∃ v, e' = .returned v ∧ IntsA V' v (xs.filter (fun p => ys.contains p)) ∧ Below V.heap.size V V' ∧ Held W8 w.heap.size V4.heap.size e1 c1 (.slice A1 xs.length p1) e2 c2 m p V')) := fun V hV => by
    have k0 := HW8.out V hV
    refine (both_calls _ _ xs ys V (HI.out V k0) (HU.out V k0) (by have := HN.out; omega) (by have := HN.out; omega)).mono ?_
    rintro e' V' ⟨v, rfl, ho, hb⟩
    exact ⟨v, rfl, ints_own10 ho (fits_filter HF.out _) (by have := HN.out.1; have := List.length_filter_le (fun p => ys.contains p) xs; omega), hb, HH.out V' (hV.trans (hb.mono hV.size))⟩
  have K23 : Hid (∀ V, Below W8.heap.size W8 V → Calls Try.prog 23 #[.slice A1 xs.length p1, .slice A2 ys.length p2] V (fun e' V' => ∃ v, e' = .returned v ∧ IntsA V' v (xs.filter (fun p => ys.contains p)) ∧ Below V.heap.size V V' ∧ Held W8 w.heap.size V4.heap.size e1 c1 (.slice A1 xs.length p1) e2 c2 m p V')) := fun V hV => by
    have k0 := HW8.out V hV
    refine (rboth_calls _ _ xs ys V (HI.out V k0) (HU.out V k0) (by have := HN.out; omega)).mono ?_
    rintro e' V' ⟨v, rfl, ho, hb⟩
    exact ⟨v, rfl, ints_own10 ho (fits_filter HF.out _) (by have := HN.out.1; have := List.length_filter_le (fun p => ys.contains p) xs; omega), hb, HH.out V' (hV.trans (hb.mono hV.size))⟩
  have K24 : Hid (∀ V, Below W8.heap.size W8 V → Calls Try.prog 24 #[.slice A1 xs.length p1, .slice A2 ys.length p2] V (fun e' V' => ∃ v, e' = .returned v ∧ IntsA V' v (xs.filter (fun p => !ys.contains p)) ∧ Below V.heap.size V V' ∧ Held W8 w.heap.size V4.heap.size e1 c1 (.slice A1 xs.length p1) e2 c2 m p V')) := fun V hV => by
    have k0 := HW8.out V hV
    refine (without_calls _ _ xs ys V (HI.out V k0) (HU.out V k0) (by have := HN.out; omega) (by have := HN.out; omega)).mono ?_
    rintro e' V' ⟨v, rfl, ho, hb⟩
    exact ⟨v, rfl, ints_own10 ho (fits_filter HF.out _) (by have := HN.out.1; have := List.length_filter_le (fun p => !ys.contains p) xs; omega), hb, HH.out V' (hV.trans (hb.mono hV.size))⟩
  have K25 : Hid (∀ V, Below W8.heap.size W8 V → Calls Try.prog 25 #[.slice A1 xs.length p1, .slice A2 ys.length p2] V (fun e' V' => ∃ v, e' = .returned v ∧ IntsA V' v (xs.filter (fun p => !ys.contains p)) ∧ Below V.heap.size V V' ∧ Held W8 w.heap.size V4.heap.size e1 c1 (.slice A1 xs.length p1) e2 c2 m p V')) := fun V hV => by
    have k0 := HW8.out V hV
    refine (rwithout_calls _ _ xs ys V (HI.out V k0) (HU.out V k0) (by have := HN.out; omega)).mono ?_
    rintro e' V' ⟨v, rfl, ho, hb⟩
    exact ⟨v, rfl, ints_own10 ho (fits_filter HF.out _) (by have := HN.out.1; have := List.length_filter_le (fun p => !ys.contains p) xs; omega), hb, HH.out V' (hV.trans (hb.mono hV.size))⟩
  have KS : Hid (∀ V v u zs, Below W8.heap.size W8 V → IntsA V v zs → IntsA V u zs → Calls Try.prog 21 #[v, u] V (fun e' V' => e' = .returned (.bool true) ∧ Held W8 w.heap.size V4.heap.size e1 c1 (.slice A1 xs.length p1) e2 c2 m p V')) := fun V v u zs hV h1 h2 => by
    refine (rsame_calls v u zs zs V h1 h2).mono ?_
    rintro e' V' ⟨rfl, hb⟩
    exact ⟨by simp, HH.out V' (hV.trans (hb.mono hV.size))⟩
  generalize lessB e1 c1 e2 c2 = b1 at *
  generalize rightB e1 c1 xs = b2 at *
  generalize rowB xs = b3 at *
  generalize xs.contains p = b4 at *
  generalize decide (xs = ys) = b5 at *
  generalize xs.filter (fun p => ys.contains p) = bs at *
  generalize xs.filter (fun p => !ys.contains p) = os at *
  have hD : Below W8.heap.size W8 W8.drew := hB8.drew
  go_wp2
  simp only [List.append_eq, List.cons_append, List.nil_append]
  go_region_held3 (fun V => V.cell? ⟨w.heap.size, 0, none⟩ = some (.int .i64 e1) ∧ V.cell? ⟨w.heap.size, 1, none⟩ = some (.int .i64 c1) ∧ V.cell? ⟨w.heap.size, 2, none⟩ = some (.slice A1 xs.length p1) ∧ V.cell? ⟨w.heap.size + 1, 0, none⟩ = some (.int .i64 e2) ∧ V.cell? ⟨w.heap.size + 1, 1, none⟩ = some (.int .i64 c2) ∧ V.cell? ⟨V4.heap.size, 0, none⟩ = some (.int .i64 m) ∧ V.cell? ⟨V4.heap.size, 1, none⟩ = some (.int .i64 p) ∧ Below W8.heap.size W8 V)
    (first | exact ⟨z0, z1, z2, u0, u1, n0, n1, hD⟩ | (go_split_ands; refine ⟨?_, ?_, ?_, ?_, ?_, ?_, ?_, ?_⟩ <;> assumption)) (first
      | (go_at_call 12; refine (K12.out _ (by first | exact hD | assumption)).mono ?_; rintro e' w12 ⟨rfl, q0, q1, q2, r0, r1, k0, k1, d12⟩)
      | (go_at_call 13; refine (K13.out _ (by first | exact hD | assumption)).mono ?_; rintro e' w13 ⟨rfl, q0, q1, q2, r0, r1, k0, k1, d13⟩)
      | (go_at_call 14; refine (K14.out _ (by first | exact hD | assumption)).mono ?_; rintro e' w14 ⟨rfl, q0, q1, q2, r0, r1, k0, k1, d14⟩)
      | (go_at_call 15; refine (K15.out _ (by first | exact hD | assumption)).mono ?_; rintro e' w15 ⟨rfl, q0, q1, q2, r0, r1, k0, k1, d15⟩)
      | (go_at_call 16; refine (K16.out _ (by first | exact hD | assumption)).mono ?_; rintro e' w16 ⟨rfl, q0, q1, q2, r0, r1, k0, k1, d16⟩)
      | (go_at_call 17; refine (K17.out _ (by first | exact hD | assumption)).mono ?_; rintro e' w17 ⟨rfl, q0, q1, q2, r0, r1, k0, k1, d17⟩)
      | (go_at_call 18; refine (K18.out _ (by first | exact hD | assumption)).mono ?_; rintro e' w18 ⟨rfl, q0, q1, q2, r0, r1, k0, k1, d18⟩)
      | (go_at_call 19; refine (K19.out _ (by first | exact hD | assumption)).mono ?_; rintro e' w19 ⟨rfl, q0, q1, q2, r0, r1, k0, k1, d19⟩)
      | (go_at_call 20; refine (K20.out _ (by first | exact hD | assumption)).mono ?_; rintro e' w20 ⟨rfl, q0, q1, q2, r0, r1, k0, k1, d20⟩)
      | (go_at_call 22; refine (K22.out _ (by first | exact hD | assumption)).mono ?_; rintro e' w22 ⟨r22, rfl, i22, b22, q0, q1, q2, r0, r1, k0, k1, d22⟩; have I22 := Lib.hid i22; have B22 := Lib.hid b22; clear i22 b22)
      | (go_at_call 23; refine (K23.out _ (by first | exact hD | assumption)).mono ?_; rintro e' w23 ⟨r23, rfl, i23, b23, q0, q1, q2, r0, r1, k0, k1, d23⟩; have I23 := Lib.hid i23; have B23 := Lib.hid b23; clear i23 b23)
      | (go_at_call 24; refine (K24.out _ (by first | exact hD | assumption)).mono ?_; rintro e' w24 ⟨r24, rfl, i24, b24, q0, q1, q2, r0, r1, k0, k1, d24⟩; have I24 := Lib.hid i24; have B24 := Lib.hid b24; clear i24 b24)
      | (go_at_call 25; refine (K25.out _ (by first | exact hD | assumption)).mono ?_; rintro e' w25 ⟨r25, rfl, i25, b25, q0, q1, q2, r0, r1, k0, k1, d25⟩; have I25 := Lib.hid i25; have B25 := Lib.hid b25; clear i25 b25)
      | (go_at_call 21; refine (KS.out _ _ _ os (by assumption) (I24.out.below B25.out) I25.out).mono ?_; rintro e' w33 ⟨rfl, q0, q1, q2, r0, r1, k0, k1, d33⟩)
      | (go_at_call 21; refine (KS.out _ _ _ bs (by assumption) (I22.out.below B23.out) I23.out).mono ?_; rintro e' w32 ⟨rfl, q0, q1, q2, r0, r1, k0, k1, d32⟩)
      | (go_at_call 21; refine (K21.out _ (by first | exact hD | assumption)).mono ?_; rintro e' w31 ⟨rfl, q0, q1, q2, r0, r1, k0, k1, d31⟩))
  go_wp2
  go_ret
  exact ⟨by simp, HW.out _ (HW8.out _ d33)⟩
end Go.Proofs.Ytkhiconkoldllaa.L10
end

section
namespace Go.Proofs.Ytkhiconkoldllaa
open Go.ChangeShapes Go.WideShapes Go.ChangeAt Go.RowKit

set_option maxRecDepth 100000 in
theorem vtells_lifted (os : Os) (started : os.Started) (H : Type) (enc : TypeId × Value → H) :
    ReturnsInHanded {} Try.checked os 3 .any (Rows.viewTellsSpec.pre6 enc Try.prog Try.f3 Rows.viewTellsRow.domain false) (Rows.viewTellsSpec.post enc Try.prog Try.f3 false true false false) := by
  refine returnsInHanded_of_change (C := Try.checked) L5.own started (by kernel_rfl) Try.func3
    (ChangeSpec.witness6 (enc := enc) (C := Try.checked) false ⟨#[], #[.agg #[.int .i64 0, .int .i64 0, .slice none 0 0], .agg #[.int .i64 0, .int .i64 0, .slice none 0 0], .int .i64 0], []⟩ 8 (by kernel_rfl) (by kernel_rfl) (by kernel_rfl) (by kernel_rfl)) ?_
  intro W base args ds gs before hval0 hW hcnd _
  have hval : ∀ (j : Nat) t v, Try.f3.params[j]? = some t → args[j]? = some v → Value.okWide Try.prog W .any base t v := hval0
  have hW' := hW
  obtain ⟨p, q, hA0, hV, rfl, hfz, hnd⟩ := hW
  have hA : DataW.TrodAll enc Try.prog W 0 (fun _ => true) true Try.f3.params.toList args.toList ds p := hA0
  rw [Try.params3] at hA hval
  obtain ⟨v0, vs0, d0, ds0, p0, q0, hargs, rfl, rfl, h0, r0⟩ := trodAll_cons hA
  obtain ⟨v1, vs1, d1, ds1, p1, q1, rfl, rfl, rfl, h1, r1⟩ := trodAll_cons r0
  obtain ⟨v2, vs2, d2, ds2, p2, q2, rfl, rfl, rfl, h2, r2⟩ := trodAll_cons r1
  obtain ⟨rfl, rfl, rfl⟩ := trodAll_nil r2
  obtain rfl : args = #[v0, v1, v2] := by cases args; simp_all
  obtain ⟨rfl, rfl⟩ := trodVars_none hV
  have h0k := h0
  obtain ⟨e0, c0, vm0, xs0, rfl, hM0, hn0⟩ := L10.open_view (hval 0 26 v0 rfl rfl) h0
  have h1k := h1
  obtain ⟨e1, c1, vm1, xs1, rfl, hM1, hn1⟩ := L10.open_view (hval 1 26 v1 rfl rfl) h1
  obtain ⟨a2, rfl, rfl, rfl, w2⟩ := open_int Try.underlying3 (hval 2 3 v2 rfl rfl) h2
  clear hA0 hval0
  simp only [List.append_nil] at hW'
  have hlt0 : ∀ x ∈ p0, x.block < W.heap.size := fun x hx => by simpa using hW'.lt x (by simp [hx])
  have hlt1 : ∀ x ∈ p1, x.block < W.heap.size := fun x hx => by simpa using hW'.lt x (by simp [hx])
  refine (L10.tells_law e0 c0 vm0 xs0 e1 c1 vm1 xs1 a2 W hM0 hn0 hM1).mono fun e W' ⟨he, hg⟩ => ?_
  subst he
  exact ⟨_, rfl, L5.post_law_at (pv := []) hW' (trodAll_cons_mk (shut_bool Try.underlying4 _) trodAll_mk0) (trodAll_cons_mk (Below.trod L5.laid_out (by kernel_rfl) (of_decide_eq_true (by kernel_rfl)) h0k hg hlt0) (trodAll_cons_mk (Below.trod L5.laid_out (by kernel_rfl) (of_decide_eq_true (by kernel_rfl)) h1k hg hlt1) (trodAll_cons_mk (shut_int Try.underlying3 w2) trodAll_mk0))) rfl (by simp) hg⟩

theorem vtells_over : Rows.viewTellsRow.holds Try.pinned (OpenSpec.ofChange Rows.viewTellsSpec) :=
  OpenClaim.holds_of_wide 3 Try.f3 rfl rfl rfl rfl rfl rfl rfl ⟨rfl, rfl, rfl, rfl, rfl⟩ rfl rfl rfl rfl rfl (by kernel_rfl) Try.func3 (by kernel_rfl)
    (of_decide_eq_true (by kernel_rfl)) (by unfold Func.isWrapper; first | (rw [if_pos (by decide +kernel)]; kernel_rfl) | (rw [if_neg (by decide +kernel)]; exact ⟨rfl, rfl⟩))
    (fun os started H enc _ => vtells_lifted os started H enc)

theorem vtells_proved : Rows.ViewTellsSaid := vtells_over

end Go.Proofs.Ytkhiconkoldllaa
end
