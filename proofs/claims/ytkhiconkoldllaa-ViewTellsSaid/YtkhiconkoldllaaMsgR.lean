/- Contract of list.Right: is a message right? -/
import Derived.Test.YtkhiconkoldllaaMsg
namespace Go.Proofs.Ytkhiconkoldllaa
open Go.ChangeShapes Go.WideShapes Go.ChangeAt Go.RowKit

set_option maxRecDepth 100000 in
set_option maxHeartbeats 8000000 in
theorem lright_calls (m : Msg) (vm vt : Value) (w : World) (h : MsgA w m vm vt) : Calls Try.prog 34 #[.agg (msgCells m vm vt)] w (One w (.bool m.ok)) := by
  have hB : Below w.heap.size w (w.alloc (.cells (msgCells m vm vt) 51)) := (Below.refl _ w).alloc (Nat.le_refl _) _
  have hB2 : ∀ V, Below (w.alloc (.cells (msgCells m vm vt) 51)).heap.size (w.alloc (.cells (msgCells m vm vt) 51)) V → ∀ j, V.cell? ⟨w.heap.size, j, none⟩ = (w.alloc (.cells (msgCells m vm vt) 51)).cell? ⟨w.heap.size, j, none⟩ := fun V hb j => hb.cell (p := ⟨w.heap.size, j, none⟩) (by simp)
  have hcs : ∀ j, (w.alloc (.cells (msgCells m vm vt) 51)).cell? ⟨w.heap.size, j, none⟩ = (msgCells m vm vt)[j]? := fun j => by
    have := World.alloc_heap_new w (.cells (msgCells m vm vt) 51)
    simp only [World.cell?]
    rw [this]
    rfl
  have HI1 := Lib.hid (fun V => rightId_calls m.e1 m.c1 V)
  have HI2 := Lib.hid (fun V => rightId_calls m.e2 m.c2 V)
  have HK := Lib.hid (fun V => within_calls m.kind 0 20 V)
  have HN := Lib.hid (fun V => within_calls m.num 0 2147483647 V)
  have HM := Lib.hid (fun (V : World) (hb : Below w.heap.size w V) => rise_calls m.mem vm V (h.mem.below hb))
  have HT := Lib.hid (fun (V : World) (hb : Below w.heap.size w V) => measure_calls m.terms vt V (h.terms.below hb))
  have HB := Lib.hid hB
  have HCs : Hid (∀ V, Below (w.heap.size + 1) (w.alloc (.cells (msgCells m vm vt) 51)) V → V.cell? ⟨w.heap.size, 0, none⟩ = some (.int .i64 m.kind) ∧ V.cell? ⟨w.heap.size, 1, none⟩ = some (.int .i64 m.e1) ∧ V.cell? ⟨w.heap.size, 2, none⟩ = some (.int .i64 m.c1) ∧ V.cell? ⟨w.heap.size, 3, none⟩ = some (.int .i64 m.e2) ∧ V.cell? ⟨w.heap.size, 4, none⟩ = some (.int .i64 m.c2) ∧ V.cell? ⟨w.heap.size, 5, none⟩ = some (.int .i64 m.num) ∧ V.cell? ⟨w.heap.size, 6, none⟩ = some vm ∧ V.cell? ⟨w.heap.size, 7, none⟩ = some vt) := fun V hb => by
    have hb' : Below (w.alloc (.cells (msgCells m vm vt) 51)).heap.size (w.alloc (.cells (msgCells m vm vt) 51)) V := by rw [World.size_alloc]; exact hb
    exact ⟨(hB2 V hb' 0).trans (hcs 0), (hB2 V hb' 1).trans (hcs 1), (hB2 V hb' 2).trans (hcs 2), (hB2 V hb' 3).trans (hcs 3), (hB2 V hb' 4).trans (hcs 4), (hB2 V hb' 5).trans (hcs 5), (hB2 V hb' 6).trans (hcs 6), (hB2 V hb' 7).trans (hcs 7)⟩
  unfold Msg.ok Msg.okHead
  unfold msgCells at HCs HB ⊢
  generalize withinB m.kind 0 20 = b1 at *
  generalize idB m.e1 m.c1 = b2 at *
  generalize idB m.e2 m.c2 = b3 at *
  generalize withinB m.num 0 2147483647 = b4 at *
  generalize riseB 0 m.mem = b5 at *
  obtain ⟨A5, n5, c5, rfl⟩ : ∃ A n c, vm = .slice A n c := by obtain ⟨⟨A, c, e, _⟩, _⟩ := h.mem; exact ⟨A, _, c, e⟩
  obtain ⟨A6, n6, c6, rfl⟩ : ∃ A n c, vt = .slice A n c := by obtain ⟨⟨A, c, e, _⟩, _⟩ := h.terms; exact ⟨A, _, c, e⟩
  obtain ⟨⟨q1, q2⟩, hq⟩ : ∃ q, Tm.measureL m.terms = q := ⟨_, rfl⟩
  rw [hq] at HT ⊢
  clear h hB hB2 hcs hq
  obtain ⟨W0, hW0⟩ : ∃ W0, w.alloc (.cells #[.int .i64 m.kind, .int .i64 m.e1, .int .i64 m.c1, .int .i64 m.e2, .int .i64 m.c2, .int .i64 m.num, .slice A5 n5 c5, .slice A6 n6 c6] 51) = W0 := ⟨_, rfl⟩
  have hz0 : W0.heap.size = w.heap.size + 1 := by rw [← hW0]; simp
  rw [hW0] at HCs HB
  have HZ := Lib.hid hz0
  obtain ⟨y0, y1, y2, y3, y4, y5, y6, y7⟩ := HCs.out W0 (by rw [← hz0]; exact Below.refl _ _)
  cases b1 with
  | false =>
    go_enter Try.func34, Try.ntmps34
    go_wp2_with fail
    refine (HK.out _).mono ?_
    rintro e u1 ⟨rfl, rfl⟩
    go_wp2
    go_ret
    exact ⟨rfl, HB.out⟩
  | true =>
  cases b2 with
  | false =>
    go_enter Try.func34, Try.ntmps34
    go_wp2_with fail
    refine (HK.out _).mono ?_
    rintro e u1 ⟨rfl, rfl⟩
    go_wp2_with fail
    refine (HI1.out _).mono ?_
    rintro e w1 ⟨rfl, d1⟩
    obtain ⟨z0, z1, z2, z3, z4, z5, z6, z7⟩ := HCs.out w1 (by rw [← HZ.out]; exact d1)
    have D1 := Lib.hid (HB.out.trans (d1.mono HB.out.size))
    have d1' := Lib.hid d1
    clear d1
    go_wp2
    go_ret
    exact ⟨rfl, D1.out⟩
  | true =>
  cases b3 with
  | false =>
    go_enter Try.func34, Try.ntmps34
    go_wp2_with fail
    refine (HK.out _).mono ?_
    rintro e u1 ⟨rfl, rfl⟩
    go_wp2_with fail
    refine (HI1.out _).mono ?_
    rintro e w1 ⟨rfl, d1⟩
    obtain ⟨z0, z1, z2, z3, z4, z5, z6, z7⟩ := HCs.out w1 (by rw [← HZ.out]; exact d1)
    have D1 := Lib.hid (HB.out.trans (d1.mono HB.out.size))
    have d1' := Lib.hid d1
    clear d1
    go_wp2_with fail
    refine (HI2.out _).mono ?_
    rintro e w2 ⟨rfl, d2⟩
    obtain ⟨x0, x1, x2, x3, x4, x5, x6, x7⟩ := HCs.out w2 (by rw [← HZ.out]; exact d1'.out.trans (d2.mono d1'.out.size))
    have D2 := Lib.hid (D1.out.trans (d2.mono D1.out.size))
    clear d2
    go_wp2
    go_ret
    exact ⟨rfl, D2.out⟩
  | true =>
  cases b4 with
  | false =>
    go_enter Try.func34, Try.ntmps34
    go_wp2_with fail
    refine (HK.out _).mono ?_
    rintro e u1 ⟨rfl, rfl⟩
    go_wp2_with fail
    refine (HI1.out _).mono ?_
    rintro e w1 ⟨rfl, d1⟩
    obtain ⟨z0, z1, z2, z3, z4, z5, z6, z7⟩ := HCs.out w1 (by rw [← HZ.out]; exact d1)
    have D1 := Lib.hid (HB.out.trans (d1.mono HB.out.size))
    have d1' := Lib.hid d1
    clear d1
    go_wp2_with fail
    refine (HI2.out _).mono ?_
    rintro e w2 ⟨rfl, d2⟩
    obtain ⟨x0, x1, x2, x3, x4, x5, x6, x7⟩ := HCs.out w2 (by rw [← HZ.out]; exact d1'.out.trans (d2.mono d1'.out.size))
    have D2 := Lib.hid (D1.out.trans (d2.mono D1.out.size))
    clear d2
    go_wp2_with fail
    refine (HN.out _).mono ?_
    rintro e u2 ⟨rfl, rfl⟩
    go_wp2
    go_ret
    exact ⟨rfl, D2.out⟩
  | true =>
  cases b5 with
  | false =>
    go_enter Try.func34, Try.ntmps34
    go_wp2_with fail
    refine (HK.out _).mono ?_
    rintro e u1 ⟨rfl, rfl⟩
    go_wp2_with fail
    refine (HI1.out _).mono ?_
    rintro e w1 ⟨rfl, d1⟩
    obtain ⟨z0, z1, z2, z3, z4, z5, z6, z7⟩ := HCs.out w1 (by rw [← HZ.out]; exact d1)
    have D1 := Lib.hid (HB.out.trans (d1.mono HB.out.size))
    have d1' := Lib.hid d1
    clear d1
    go_wp2_with fail
    refine (HI2.out _).mono ?_
    rintro e w2 ⟨rfl, d2⟩
    obtain ⟨x0, x1, x2, x3, x4, x5, x6, x7⟩ := HCs.out w2 (by rw [← HZ.out]; exact d1'.out.trans (d2.mono d1'.out.size))
    have D2 := Lib.hid (D1.out.trans (d2.mono D1.out.size))
    clear d2
    go_wp2_with fail
    refine (HN.out _).mono ?_
    rintro e u2 ⟨rfl, rfl⟩
    go_wp2_with fail
    refine (HM.out w2 D2.out).mono ?_
    rintro e u3 ⟨rfl, rfl⟩
    go_wp2
    go_ret
    exact ⟨rfl, D2.out⟩
  | true =>
  by_cases hq2 : q2 = 0
  · subst hq2
    go_enter Try.func34, Try.ntmps34
    go_wp2_with fail
    refine (HK.out _).mono ?_
    rintro e u1 ⟨rfl, rfl⟩
    go_wp2_with fail
    refine (HI1.out _).mono ?_
    rintro e w1 ⟨rfl, d1⟩
    obtain ⟨z0, z1, z2, z3, z4, z5, z6, z7⟩ := HCs.out w1 (by rw [← HZ.out]; exact d1)
    have D1 := Lib.hid (HB.out.trans (d1.mono HB.out.size))
    have d1' := Lib.hid d1
    clear d1
    go_wp2_with fail
    refine (HI2.out _).mono ?_
    rintro e w2 ⟨rfl, d2⟩
    obtain ⟨x0, x1, x2, x3, x4, x5, x6, x7⟩ := HCs.out w2 (by rw [← HZ.out]; exact d1'.out.trans (d2.mono d1'.out.size))
    have D2 := Lib.hid (D1.out.trans (d2.mono D1.out.size))
    clear d2
    go_wp2_with fail
    refine (HN.out _).mono ?_
    rintro e u2 ⟨rfl, rfl⟩
    go_wp2_with fail
    refine (HM.out w2 D2.out).mono ?_
    rintro e u3 ⟨rfl, rfl⟩
    go_wp2_with fail
    refine (HT.out w2 D2.out).mono ?_
    rintro e w3 ⟨rfl, d3⟩
    have D3 := Lib.hid (D2.out.trans (d3.mono D2.out.size))
    clear d3
    go_wp2
    go_ret
    exact ⟨rfl, D3.out⟩
  · have hqf : ((q2 : Int) == 0) = false := by rw [beq_eq_false_iff_ne]; omega
    have hdf : decide (q2 = 0) = false := by simp [hq2]
    go_enter Try.func34, Try.ntmps34
    go_wp2_with fail
    refine (HK.out _).mono ?_
    rintro e u1 ⟨rfl, rfl⟩
    go_wp2_with fail
    refine (HI1.out _).mono ?_
    rintro e w1 ⟨rfl, d1⟩
    obtain ⟨z0, z1, z2, z3, z4, z5, z6, z7⟩ := HCs.out w1 (by rw [← HZ.out]; exact d1)
    have D1 := Lib.hid (HB.out.trans (d1.mono HB.out.size))
    have d1' := Lib.hid d1
    clear d1
    go_wp2_with fail
    refine (HI2.out _).mono ?_
    rintro e w2 ⟨rfl, d2⟩
    obtain ⟨x0, x1, x2, x3, x4, x5, x6, x7⟩ := HCs.out w2 (by rw [← HZ.out]; exact d1'.out.trans (d2.mono d1'.out.size))
    have D2 := Lib.hid (D1.out.trans (d2.mono D1.out.size))
    clear d2
    go_wp2_with fail
    refine (HN.out _).mono ?_
    rintro e u2 ⟨rfl, rfl⟩
    go_wp2_with fail
    refine (HM.out w2 D2.out).mono ?_
    rintro e u3 ⟨rfl, rfl⟩
    go_wp2_with fail
    refine (HT.out w2 D2.out).mono ?_
    rintro e w3 ⟨rfl, d3⟩
    have D3 := Lib.hid (D2.out.trans (d3.mono D2.out.size))
    clear d3
    go_wp2
    go_ret
    exact ⟨by simp [hdf], D3.out⟩

end Go.Proofs.Ytkhiconkoldllaa
