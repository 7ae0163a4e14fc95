/- Contract of list.Right: is a message right? Contract of list.Put: a row as a term, or what is wrong. The head of chapter 4's laws; rows of the call's own as rows that are read. Contract of list.rowOf: a right message as a row of terms. Contract of list.Pack: a message as a term; two right messages are one term just if they are one. -/
import Derived.Test.YtiodphkmllcjdaaGreatMsg
import Derived.Test.YtiodphkmllcjdaaGreatMeasure
import Derived.Test.YtiodphkmllcjdaaGreatBehind
import Derived.Lib.BufferWrite
import Derived.Deep.OwnRows
import Derived.Test.YtiodphkmllcjdaaGreatRowFacts
import Derived.Test.YtiodphkmllcjdaaGreatMkG
import Derived.Test.YtiodphkmllcjdaaGreatLTake
import Derived.Deep.AppendLies
import Derived.Laws.MakeOwn
import Derived.Laws.AppendOwnNone
section
namespace Go.Proofs.YtiodphkmllcjdaaGreat
open Go.ChangeShapes Go.WideShapes Go.ChangeAt Go.RowKit

set_option maxRecDepth 100000 in
set_option maxHeartbeats 8000000 in
theorem lright_calls (m : Msg) (vm vt : Value) (w : World) (h : MsgA w m vm vt) : Calls Tryz.prog 58 #[.agg (msgCells m vm vt)] w (One w (.bool m.ok)) := by
  have hB : Below w.heap.size w (w.alloc (.cells (msgCells m vm vt) 87)) := (Below.refl _ w).alloc (Nat.le_refl _) _
  have hB2 : ∀ V, Below (w.alloc (.cells (msgCells m vm vt) 87)).heap.size (w.alloc (.cells (msgCells m vm vt) 87)) V → ∀ j, V.cell? ⟨w.heap.size, j, none⟩ = (w.alloc (.cells (msgCells m vm vt) 87)).cell? ⟨w.heap.size, j, none⟩ := fun V hb j => hb.cell (p := ⟨w.heap.size, j, none⟩) (by simp)
  have hcs : ∀ j, (w.alloc (.cells (msgCells m vm vt) 87)).cell? ⟨w.heap.size, j, none⟩ = (msgCells m vm vt)[j]? := fun j => by
    have := World.alloc_heap_new w (.cells (msgCells m vm vt) 87)
    simp only [World.cell?]
    rw [this]
    rfl
  have HI1 := Lib.hid (fun V => rightId_calls m.e1 m.c1 V)
  have HI2 := Lib.hid (fun V => rightId_calls m.e2 m.c2 V)
  have HK := Lib.hid (fun V => within_calls m.kind 0 20 V)
  have HN := Lib.hid (fun V => within_calls m.num 0 2147483647 V)
  have HM := Lib.hid (fun (V : World) (hb : Below w.heap.size w V) => rise_calls m.mem vm V (h.mem.below hb))
  have HT := Lib.hid (fun (V : World) (hb : Below w.heap.size w V) => measure_calls m.terms vt V (h.terms.below hb))
  have HB := Lib.hid hB
  have HCs : Hid (∀ V, Below (w.heap.size + 1) (w.alloc (.cells (msgCells m vm vt) 87)) V → V.cell? ⟨w.heap.size, 0, none⟩ = some (.int .i64 m.kind) ∧ V.cell? ⟨w.heap.size, 1, none⟩ = some (.int .i64 m.e1) ∧ V.cell? ⟨w.heap.size, 2, none⟩ = some (.int .i64 m.c1) ∧ V.cell? ⟨w.heap.size, 3, none⟩ = some (.int .i64 m.e2) ∧ V.cell? ⟨w.heap.size, 4, none⟩ = some (.int .i64 m.c2) ∧ V.cell? ⟨w.heap.size, 5, none⟩ = some (.int .i64 m.num) ∧ V.cell? ⟨w.heap.size, 6, none⟩ = some vm ∧ V.cell? ⟨w.heap.size, 7, none⟩ = some vt) := fun V hb => by
    have hb' : Below (w.alloc (.cells (msgCells m vm vt) 87)).heap.size (w.alloc (.cells (msgCells m vm vt) 87)) V := by rw [World.size_alloc]; exact hb
    exact ⟨(hB2 V hb' 0).trans (hcs 0), (hB2 V hb' 1).trans (hcs 1), (hB2 V hb' 2).trans (hcs 2), (hB2 V hb' 3).trans (hcs 3), (hB2 V hb' 4).trans (hcs 4), (hB2 V hb' 5).trans (hcs 5), (hB2 V hb' 6).trans (hcs 6), (hB2 V hb' 7).trans (hcs 7)⟩
  unfold Msg.ok Msg.okHead
  unfold msgCells at HCs HB ⊢
  generalize withinB m.kind 0 20 = b1 at *
  generalize idB m.e1 m.c1 = b2 at *
  generalize idB m.e2 m.c2 = b3 at *
  generalize withinB m.num 0 2147483647 = b4 at *
  generalize riseB 0 m.mem = b5 at *
  obtain ⟨A5, n5, c5, rfl⟩ : ∃ A n c, vm = .slice A n c := by obtain ⟨⟨A, c, e, _⟩, _⟩ := h.mem; exact ⟨A, _, c, e⟩
  obtain ⟨A6, n6, c6, rfl⟩ : ∃ A n c, vt = .slice A n c := by obtain ⟨⟨A, c, e, _⟩, _⟩ := h.terms; exact ⟨A, _, c, e⟩
  obtain ⟨⟨q1, q2⟩, hq⟩ : ∃ q, Tm.measureL m.terms = q := ⟨_, rfl⟩
  rw [hq] at HT ⊢
  clear h hB hB2 hcs hq
  obtain ⟨W0, hW0⟩ : ∃ W0, w.alloc (.cells #[.int .i64 m.kind, .int .i64 m.e1, .int .i64 m.c1, .int .i64 m.e2, .int .i64 m.c2, .int .i64 m.num, .slice A5 n5 c5, .slice A6 n6 c6] 87) = W0 := ⟨_, rfl⟩
  have hz0 : W0.heap.size = w.heap.size + 1 := by rw [← hW0]; simp
  rw [hW0] at HCs HB
  have HZ := Lib.hid hz0
  obtain ⟨y0, y1, y2, y3, y4, y5, y6, y7⟩ := HCs.out W0 (by rw [← hz0]; exact Below.refl _ _)
  cases b1 with
  | false =>
    go_enter Tryz.func58, Tryz.ntmps58
    go_wp2_with fail
    refine (HK.out _).mono ?_
    rintro e u1 ⟨rfl, rfl⟩
    go_wp2
    go_ret
    exact ⟨rfl, HB.out⟩
  | true =>
  cases b2 with
  | false =>
    go_enter Tryz.func58, Tryz.ntmps58
    go_wp2_with fail
    refine (HK.out _).mono ?_
    rintro e u1 ⟨rfl, rfl⟩
    go_wp2_with fail
    refine (HI1.out _).mono ?_
    rintro e w1 ⟨rfl, d1⟩
    obtain ⟨z0, z1, z2, z3, z4, z5, z6, z7⟩ := HCs.out w1 (by rw [← HZ.out]; exact d1)
    have D1 := Lib.hid (HB.out.trans (d1.mono HB.out.size))
    have d1' := Lib.hid d1
    clear d1
    go_wp2
    go_ret
    exact ⟨rfl, D1.out⟩
  | true =>
  cases b3 with
  | false =>
    go_enter Tryz.func58, Tryz.ntmps58
    go_wp2_with fail
    refine (HK.out _).mono ?_
    rintro e u1 ⟨rfl, rfl⟩
    go_wp2_with fail
    refine (HI1.out _).mono ?_
    rintro e w1 ⟨rfl, d1⟩
    obtain ⟨z0, z1, z2, z3, z4, z5, z6, z7⟩ := HCs.out w1 (by rw [← HZ.out]; exact d1)
    have D1 := Lib.hid (HB.out.trans (d1.mono HB.out.size))
    have d1' := Lib.hid d1
    clear d1
    go_wp2_with fail
    refine (HI2.out _).mono ?_
    rintro e w2 ⟨rfl, d2⟩
    obtain ⟨x0, x1, x2, x3, x4, x5, x6, x7⟩ := HCs.out w2 (by rw [← HZ.out]; exact d1'.out.trans (d2.mono d1'.out.size))
    have D2 := Lib.hid (D1.out.trans (d2.mono D1.out.size))
    clear d2
    go_wp2
    go_ret
    exact ⟨rfl, D2.out⟩
  | true =>
  cases b4 with
  | false =>
    go_enter Tryz.func58, Tryz.ntmps58
    go_wp2_with fail
    refine (HK.out _).mono ?_
    rintro e u1 ⟨rfl, rfl⟩
    go_wp2_with fail
    refine (HI1.out _).mono ?_
    rintro e w1 ⟨rfl, d1⟩
    obtain ⟨z0, z1, z2, z3, z4, z5, z6, z7⟩ := HCs.out w1 (by rw [← HZ.out]; exact d1)
    have D1 := Lib.hid (HB.out.trans (d1.mono HB.out.size))
    have d1' := Lib.hid d1
    clear d1
    go_wp2_with fail
    refine (HI2.out _).mono ?_
    rintro e w2 ⟨rfl, d2⟩
    obtain ⟨x0, x1, x2, x3, x4, x5, x6, x7⟩ := HCs.out w2 (by rw [← HZ.out]; exact d1'.out.trans (d2.mono d1'.out.size))
    have D2 := Lib.hid (D1.out.trans (d2.mono D1.out.size))
    clear d2
    go_wp2_with fail
    refine (HN.out _).mono ?_
    rintro e u2 ⟨rfl, rfl⟩
    go_wp2
    go_ret
    exact ⟨rfl, D2.out⟩
  | true =>
  cases b5 with
  | false =>
    go_enter Tryz.func58, Tryz.ntmps58
    go_wp2_with fail
    refine (HK.out _).mono ?_
    rintro e u1 ⟨rfl, rfl⟩
    go_wp2_with fail
    refine (HI1.out _).mono ?_
    rintro e w1 ⟨rfl, d1⟩
    obtain ⟨z0, z1, z2, z3, z4, z5, z6, z7⟩ := HCs.out w1 (by rw [← HZ.out]; exact d1)
    have D1 := Lib.hid (HB.out.trans (d1.mono HB.out.size))
    have d1' := Lib.hid d1
    clear d1
    go_wp2_with fail
    refine (HI2.out _).mono ?_
    rintro e w2 ⟨rfl, d2⟩
    obtain ⟨x0, x1, x2, x3, x4, x5, x6, x7⟩ := HCs.out w2 (by rw [← HZ.out]; exact d1'.out.trans (d2.mono d1'.out.size))
    have D2 := Lib.hid (D1.out.trans (d2.mono D1.out.size))
    clear d2
    go_wp2_with fail
    refine (HN.out _).mono ?_
    rintro e u2 ⟨rfl, rfl⟩
    go_wp2_with fail
    refine (HM.out w2 D2.out).mono ?_
    rintro e u3 ⟨rfl, rfl⟩
    go_wp2
    go_ret
    exact ⟨rfl, D2.out⟩
  | true =>
  by_cases hq2 : q2 = 0
  · subst hq2
    go_enter Tryz.func58, Tryz.ntmps58
    go_wp2_with fail
    refine (HK.out _).mono ?_
    rintro e u1 ⟨rfl, rfl⟩
    go_wp2_with fail
    refine (HI1.out _).mono ?_
    rintro e w1 ⟨rfl, d1⟩
    obtain ⟨z0, z1, z2, z3, z4, z5, z6, z7⟩ := HCs.out w1 (by rw [← HZ.out]; exact d1)
    have D1 := Lib.hid (HB.out.trans (d1.mono HB.out.size))
    have d1' := Lib.hid d1
    clear d1
    go_wp2_with fail
    refine (HI2.out _).mono ?_
    rintro e w2 ⟨rfl, d2⟩
    obtain ⟨x0, x1, x2, x3, x4, x5, x6, x7⟩ := HCs.out w2 (by rw [← HZ.out]; exact d1'.out.trans (d2.mono d1'.out.size))
    have D2 := Lib.hid (D1.out.trans (d2.mono D1.out.size))
    clear d2
    go_wp2_with fail
    refine (HN.out _).mono ?_
    rintro e u2 ⟨rfl, rfl⟩
    go_wp2_with fail
    refine (HM.out w2 D2.out).mono ?_
    rintro e u3 ⟨rfl, rfl⟩
    go_wp2_with fail
    refine (HT.out w2 D2.out).mono ?_
    rintro e w3 ⟨rfl, d3⟩
    have D3 := Lib.hid (D2.out.trans (d3.mono D2.out.size))
    clear d3
    go_wp2
    go_ret
    exact ⟨rfl, D3.out⟩
  · have hqf : ((q2 : Int) == 0) = false := by rw [beq_eq_false_iff_ne]; omega
    have hdf : decide (q2 = 0) = false := by simp [hq2]
    go_enter Tryz.func58, Tryz.ntmps58
    go_wp2_with fail
    refine (HK.out _).mono ?_
    rintro e u1 ⟨rfl, rfl⟩
    go_wp2_with fail
    refine (HI1.out _).mono ?_
    rintro e w1 ⟨rfl, d1⟩
    obtain ⟨z0, z1, z2, z3, z4, z5, z6, z7⟩ := HCs.out w1 (by rw [← HZ.out]; exact d1)
    have D1 := Lib.hid (HB.out.trans (d1.mono HB.out.size))
    have d1' := Lib.hid d1
    clear d1
    go_wp2_with fail
    refine (HI2.out _).mono ?_
    rintro e w2 ⟨rfl, d2⟩
    obtain ⟨x0, x1, x2, x3, x4, x5, x6, x7⟩ := HCs.out w2 (by rw [← HZ.out]; exact d1'.out.trans (d2.mono d1'.out.size))
    have D2 := Lib.hid (D1.out.trans (d2.mono D1.out.size))
    clear d2
    go_wp2_with fail
    refine (HN.out _).mono ?_
    rintro e u2 ⟨rfl, rfl⟩
    go_wp2_with fail
    refine (HM.out w2 D2.out).mono ?_
    rintro e u3 ⟨rfl, rfl⟩
    go_wp2_with fail
    refine (HT.out w2 D2.out).mono ?_
    rintro e w3 ⟨rfl, d3⟩
    have D3 := Lib.hid (D2.out.trans (d3.mono D2.out.size))
    clear d3
    go_wp2
    go_ret
    exact ⟨by simp [hdf], D3.out⟩

end Go.Proofs.YtiodphkmllcjdaaGreat
end

section
namespace Go.Proofs.YtiodphkmllcjdaaGreat
open Go.ChangeShapes Go.WideShapes Go.ChangeAt Go.RowKit Go.Shelf

attribute [local go_sem] Oper.semAt_some

/-- copy, where its run is known, inside the fenced walk. -/
theorem wpListIn_copied {F : Fence} {n : Nat} {P : Program} {w : World} {ops : Array Oper} {rest : List Oper} {o : Oper} {a : Act} {Q : Exit → Act → World → Prop} (hgd : o.guard = none) (d s : Operand) (t t' : TypeId)
    (ho : o.op = .call { callee := .builtin .copy, args := #[d, s], argTypes := #[t, t'] }) {v u v' : Value} {w' : World} (hd : a.eval d = v) (hs : a.eval s = u)
    (hr : (Builtin.copy_ #[t, t'] o.type #[v, u]).run P w = .ok v' w') (h : wpListIn F n P ops Q rest (a.put o.dst v') w') : wpListIn F n P ops Q (o :: rest) a w := by
  refine wpListIn_plain hgd fun K hK => ?_
  unfold Oper.wpIn
  refine ⟨by simp [Oper.about, ho, resolve, Target.leads, Sem.run_pure], ?_⟩
  rw [Oper.semAt_plain F _ _ (by rw [ho]; intro c hc; cases hc)]
  simp [execOp, ho, resolve, invoke, builtin, hd, hs, hr, Result.andThen]
  exact hK _ _ h

namespace Tm
theorem tailL_mono {ps qs : List (List UInt8)} (h : ps <+: qs) : (tailL ps).length ≤ (tailL qs).length := by
  obtain ⟨t, rfl⟩ := h
  simp [tailL]
theorem tailL_pieces {zs ps : List (List UInt8)} (h : ps <+: pieces (back zs zs.length)) : (tailL ps).length ≤ (rowL zs).length := by
  rw [← tailL_all]; exact tailL_mono h
theorem tailL_some {ps qs : List (List UInt8)} {x : List UInt8} (h : ps ++ [x] <+: num0 :: qs) : 9 ≤ (tailL (ps ++ [x])).length := by
  have h1 : [num0] <+: ps ++ [x] := by
    obtain ⟨t, ht⟩ := h
    cases ps with
    | nil => simp at ht; rw [ht.1]; exact List.prefix_refl _
    | cons a ps => simp at ht; rw [ht.1]; exact ⟨ps ++ [x], rfl⟩
  have := tailL_mono h1
  have e : (tailL [num0]).length = 9 := rfl
  omega
end Tm

theorem byteCells_len (l : List UInt8) : (Lib.byteCells l).length = l.length := by simp [Lib.byteCells]

/-- Between two rounds: the bytes behind at are those that came. -/
def Putting (w : World) (n b6 b7 gb : Nat) (pre : List (List UInt8)) (V : World) : Prop :=
  Boxed V b7 3 (.int .i64 ((n : Int) - (Tm.tailL pre).length)) ∧ Boxed V b6 83 (.slice (some ⟨gb, 0, none⟩) n n) ∧
    (∃ cur, V.heap[gb]? = some (.cells cur 5 (0, 0)) ∧ cur.size = n ∧ cur.toList.drop (n - (Tm.tailL pre).length) = Lib.byteCells (Tm.tailL pre)) ∧ Below w.heap.size w V

set_option maxRecDepth 100000 in
set_option maxHeartbeats 4000000 in
theorem lput_ok (zs : List (List UInt8)) (v : Value) (w : World) (h : RowA w v zs) (hm : Tm.measureL zs = ((Tm.rowL zs).length, 0)) (hn : (Tm.rowL zs).length ≤ 20000) (hl : zs.length ≤ 150) :
    Calls Tryz.prog 82 #[v] w (Pair2 w (Tm.rowL zs, 0)) := by
  have HM := measure_calls zs v w h
  rw [hm] at HM
  have HMs := Lib.hid HM
  obtain ⟨n, hnn⟩ : ∃ n, (Tm.rowL zs).length = n := ⟨_, rfl⟩
  rw [hnn] at HMs hn
  have h9 : 9 ≤ n := by rw [← hnn]; simp [Tm.rowL, Tm.num0_len]
  have HN := Lib.hid hnn
  have HRow := Lib.hid h
  obtain ⟨A, c, ev⟩ : ∃ A c, v = .slice A zs.length c := by obtain ⟨⟨A, c, e, _⟩, _⟩ := h; exact ⟨A, c, e⟩
  subst ev
  have hmk : ∀ V : World, (Instr.makeSlice 83 (.int .i64 (n : Int)) (.int .i64 (n : Int))).run Tryz.prog V = .ok (.slice (some ⟨V.heap.size, 0, none⟩) n n) (V.alloc (.cells (madeCells #[.int .u8 0] n) 5)) := fun V =>
    run_make_row' 83 5 (.int .u8 0) 1 Tryz.underlying83 info_byte rfl .i64 .i64 n (by omega) (by omega) V
  have HFb := Lib.hid (fun V => fromBehind_calls (.slice A zs.length c) A zs.length c rfl V)
  clear h hm HM hnn
  refine (callsIn_wide (n := 9)).1 ?_
  refine callsIn_of_wp_marks Tryz.func82 rfl trivial ?_ rfl
  simp only [Tryz.ntmps82, List.size_toArray, List.length_cons, List.length_nil, Nat.reduceAdd, Nat.reduceSub, Array.replicate_succ, Array.replicate_zero, List.push_toArray, List.append_toArray, List.nil_append, List.cons_append]
  gi_wp2_with (refine ⟨trivial, ?_⟩; first
    | (gi_at_call 81; refine (callsIn_wide.2 HMs.out).mono ?_; rintro e w1 ⟨rfl, b1⟩)
    | (gi_at_call 99; refine (callsIn_wide.2 (HFb.out _)).mono ?_; rintro e w' ⟨rfl, rfl⟩))
  obtain ⟨s, hs⟩ : ∃ s, w1.heap.size = s := ⟨_, rfl⟩
  have hsw := b1.size
  have hs0 : w.heap.size ≤ s := by omega
  have c1 : Boxed (w1.alloc (.cells (madeCells #[.int .u8 0] n) 5) |>.alloc (.cells #[.slice (some ⟨w1.heap.size, 0, none⟩) n n] 83)) (w1.heap.size + 1) 83 (.slice (some ⟨w1.heap.size, 0, none⟩) n n) := by
    have := Boxed.new (w1.alloc (.cells (madeCells #[.int .u8 0] n) 5)) 83 (.slice (some ⟨w1.heap.size, 0, none⟩) n n)
    rw [World.size_alloc] at this
    exact this
  have c0 : (w1.alloc (.cells (madeCells #[.int .u8 0] n) 5)).heap[w1.heap.size]? = some (.cells (madeCells #[.int .u8 0] n) 5 (0, 0)) := World.alloc_heap_new w1 _
  rw [hs] at c0 c1
  rw [hs]
  obtain ⟨V0, hV0⟩ : ∃ V0, (((w1.alloc (.cells (madeCells #[.int .u8 0] n) 5)).alloc (.cells #[.slice (some ⟨s, 0, none⟩) n n] 83)).alloc (.cells #[.int .i64 (n : Int)] 3)).alloc (.cells #[.slice A zs.length c] 34) = V0 := ⟨_, rfl⟩
  rw [hV0]
  have hz0 : V0.heap.size = s + 4 := by rw [← hV0, ← hs]; simp
  have c2 : Boxed (((w1.alloc (.cells (madeCells #[.int .u8 0] n) 5)).alloc (.cells #[.slice (some ⟨s, 0, none⟩) n n] 83)).alloc (.cells #[.int .i64 (n : Int)] 3)) (s + 1 + 1) 3 (.int .i64 (n : Int)) := by
    have := Boxed.new ((w1.alloc (.cells (madeCells #[.int .u8 0] n) 5)).alloc (.cells #[.slice (some ⟨s, 0, none⟩) n n] 83)) 3 (.int .i64 (n : Int))
    rw [World.size_alloc, World.size_alloc, hs] at this
    exact this
  have c3 : Boxed V0 (s + 1 + 1 + 1) 34 (.slice A zs.length c) := by
    have := Boxed.new (((w1.alloc (.cells (madeCells #[.int .u8 0] n) 5)).alloc (.cells #[.slice (some ⟨s, 0, none⟩) n n] 83)).alloc (.cells #[.int .i64 (n : Int)] 3)) 34 (.slice A zs.length c)
    rw [World.size_alloc, World.size_alloc, World.size_alloc, hs, hV0] at this
    exact this
  have b6 : Boxed V0 (s + 1) 83 (.slice (some ⟨s, 0, none⟩) n n) := by rw [← hV0]; exact (c1.alloc _).alloc _
  have b7 : Boxed V0 (s + 1 + 1) 3 (.int .i64 (n : Int)) := by rw [← hV0]; exact c2.alloc _
  have hB0 : Below w1.heap.size w1 V0 := by
    rw [← hV0]
    exact ((((Below.refl _ w1).alloc (Nat.le_refl _) _).alloc (by simp) _).alloc (by simp; omega) _).alloc (by simp; omega) _
  have bg : V0.heap[s]? = some (.cells (madeCells #[.int .u8 0] n) 5 (0, 0)) := by
    rw [← hV0]
    have k1 := (World.grownBy_alloc (w1.alloc (.cells (madeCells #[.int .u8 0] n) 5)) (.cells #[.slice (some ⟨s, 0, none⟩) n n] 83) none).block s (by simp [hs]) (by simp)
    have k2 := (World.grownBy_alloc ((w1.alloc (.cells (madeCells #[.int .u8 0] n) 5)).alloc (.cells #[.slice (some ⟨s, 0, none⟩) n n] 83)) (.cells #[.int .i64 (n : Int)] 3) none).block s (by simp [hs]; omega) (by simp)
    have k3 := (World.grownBy_alloc (((w1.alloc (.cells (madeCells #[.int .u8 0] n) 5)).alloc (.cells #[.slice (some ⟨s, 0, none⟩) n n] 83)).alloc (.cells #[.int .i64 (n : Int)] 3)) (.cells #[.slice A zs.length c] 34) none).block s (by simp [hs]; omega) (by simp)
    exact k3.trans (k2.trans (k1.trans c0))
  have hBw : Below w.heap.size w V0 := b1.trans (hB0.mono hsw)
  have hR0 : ReadsA (fun q => q = s + 1 + 1 ∨ q = s) V0 (.slice A zs.length c) zs := by
    obtain ⟨A', c', e', hcs⟩ := HRow.out.reads
    cases e'
    refine ⟨A, c, rfl, fun j x hx => ?_⟩
    obtain ⟨ad, k1, k2, _, k4⟩ := hcs j x hx
    exact ⟨ad, k1, Nat.lt_of_lt_of_le k2 hBw.size, fun q => by omega, (hBw.cell (p := ad.add j) (by rw [addr_block]; exact k2)).trans k4⟩
  have hEach := behind_each (s + 1 + 1 + 1) zs (.slice A zs.length c) (fun q => q = s + 1 + 1 ∨ q = s) V0 c3.cell (by omega) (fun q hq => by omega) (by omega) hR0 (by omega)
  have hI0 : Putting w n (s + 1) (s + 1 + 1) s [] V0 := ⟨by simpa [Tm.tailL] using b7, b6, ⟨_, bg, by simp [size_madeCells], by simp [Tm.tailL, size_madeCells, Lib.byteCells]⟩, hBw⟩
  clear c0 c1 c2 c3 b6 b7 bg hV0 hB0 hR0 hsw
  refine wp_each (gf := 103) (lb := #[.pointer (some ⟨s + 1 + 1 + 1, 0, none⟩)]) rfl (enters_of Tryz.func103 (by kernel_rfl) rfl)
    hEach (fun q hq => by omega) (Below.refl _ _) (fun _ => rfl) (Putting w n (s + 1) (s + 1 + 1) s) ?hang hI0
    (fun x => { tmps := #[.slice A zs.length c, undef, .string ⟨#[]⟩, .int .i64 0, .int .i64 (n : Int), .int .i64 0, .pointer (some ⟨s + 1, 0, none⟩), .pointer (some ⟨s + 1 + 1, 0, none⟩), .string ⟨x.toArray⟩, .tuple #[.int .i64 (n : Int), .int .i64 0], .slice A zs.length c, .tuple #[.int .i64 (n : Int), .int .i64 0], .int .i64 (n : Int), .int .i64 0, .int .i64 0, .bool false, undef, .int .i64 (n : Int), .slice (some ⟨s, 0, none⟩) n n, .int .i64 (n : Int), .slice A zs.length c, .func (.func 103) #[] #[.pointer (some ⟨s + 1 + 1 + 1, 0, none⟩)], .string ⟨x.toArray⟩, undef, undef, undef, undef, undef, undef, undef, undef, undef, undef, undef], defers := [] }) ?assign ?body ?done
  case hang =>
    rintro pre V V' ⟨k1, k2, ⟨cur, k3, k4⟩, k5⟩ hsp
    exact ⟨(hsp.same _ k1.lt (by omega)).trans k1, (hsp.same _ k2.lt (by omega)).trans k2, ⟨cur, (hsp.same _ (Array.getElem?_eq_some_iff.1 k3).1 (by omega)).trans k3, k4⟩, hsp.below k5 k5.size (fun q hq => by omega)⟩
  case assign =>
    intro m l x V Kk hK
    gi_wp2
    exact hK
  case body =>
    rintro m l pre x V hpre ⟨k1, k2, ⟨cur, k3, k4, k5⟩, k6⟩
    have hT := Tm.tailL_pieces hpre
    have hT9 := Tm.tailL_some hpre
    rw [HN.out] at hT
    rw [Tm.tailL_snoc] at hT hT9
    obtain ⟨t, ht⟩ : ∃ t, (Tm.tailL pre).length = t := ⟨_, rfl⟩
    obtain ⟨xl, hxl⟩ : ∃ xl, x.length = xl := ⟨_, rfl⟩
    rw [List.length_append, ht, hxl] at hT hT9
    rw [ht] at k1 k5
    obtain ⟨at', hat⟩ : ∃ at' : Nat, (n : Int) - (t : Int) - (xl : Int) = (at' : Int) := ⟨n - t - xl, by omega⟩
    have ha1 : at' + xl + t = n := by omega
    have h7 := k1.cell
    have h7f := k1.frozen
    have h6 := k2.cell
    have hxs : (⟨x.toArray⟩ : ByteArray).size = xl := by rw [size_list]; exact hxl
    have j1 : (0 : Int) ≤ (at' : Int) := by omega
    have j2 : (at' : Int) ≤ (n : Int) := by omega
    have hg2 : (V.setCell ⟨s + 1 + 1, 0, none⟩ (.int .i64 (at' : Int))).heap[s]? = some (.cells cur 5 (0, 0)) := (Below.heap_setCell _ _ _ _ (by simp; omega)).trans k3
    have hcopy := Lib.run_copy_row_string (P := Tryz.prog) (V.setCell ⟨s + 1 + 1, 0, none⟩ (.int .i64 (at' : Int))) 83 46 3 5 s at' (n - at') (n - at') ⟨x.toArray⟩ cur 5 Tryz.underlying83 (by kernel_rfl) hg2 (by rw [hxs]; omega) (by rw [hxs]; omega)
    rw [hxs] at hcopy
    have hx0 : (⟨x.toArray⟩ : ByteArray).data.toList = x := rfl
    rw [hx0] at hcopy
    obtain ⟨V2, hV2⟩ : ∃ V2, (V.setCell ⟨s + 1 + 1, 0, none⟩ (.int .i64 (at' : Int))).setRow s (cur.toList.take at' ++ Lib.byteCells x ++ cur.toList.drop (at' + xl)).toArray = V2 := ⟨_, rfl⟩
    rw [hV2] at hcopy
    have hblk : ∀ q, q ≠ s → V2.heap[q]? = (V.setCell ⟨s + 1 + 1, 0, none⟩ (.int .i64 (at' : Int))).heap[q]? := fun q hq => by rw [← hV2]; exact setRow_other _ _ _ _ hq
    have hfin : Hid (Spare (fun q => q = s + 1 + 1 ∨ q = s) V V2 ∧ Putting w n (s + 1) (s + 1 + 1) s (pre ++ [x]) V2) := by
      have e1 : (Tm.tailL (pre ++ [x])).length = xl + t := by rw [Tm.tailL_snoc, List.length_append, ht, hxl]
      have sp : Spare (fun q => q = s + 1 + 1 ∨ q = s) V V2 := by
        refine ⟨by rw [← hV2]; rfl, by rw [← hV2]; rfl, by rw [← hV2]; rfl, by rw [← hV2]; simp [World.setRow, World.setCell], fun q hq hx => ?_⟩
        exact (hblk q (fun e => hx (.inr e))).trans (Below.heap_setCell _ _ _ _ (by simp; omega))
      refine ⟨sp, ?_, ?_, ⟨_, by rw [← hV2]; exact setRow_heap _ _ cur _ _ _ hg2, ?_, ?_⟩, sp.below k6 k6.size (fun q hq => by omega)⟩
      · rw [e1, show (n : Int) - ((xl + t : Nat) : Int) = (at' : Int) by omega]
        exact (hblk _ (by omega)).trans (k1.set _)
      · exact (hblk _ (by omega)).trans (k2.other (by omega) _)
      · have : cur.toList.length = n := by simpa using k4
        simp [byteCells_len, hxl]; omega
      · have hl1 : (cur.toList.take at').length = at' := by rw [List.length_take]; have : cur.toList.length = n := by simpa using k4
                                                            omega
        rw [e1, show n - (xl + t) = at' by omega]
        simp only [List.append_assoc]
        rw [List.drop_left' hl1, show at' + xl = n - t by omega, k5, Tm.tailL_snoc]
        simp [Lib.byteCells]
    clear hEach hI0 hpre hg2 hV2 hblk k1 k2 k3 k4 k5 k6
    gi_wp2
    exact hfin.out
  case done =>
    rintro D V hD ⟨k1, k2, ⟨cur, k3, k4, k5⟩, k6⟩ hK
    have h6 := k2.cell
    have eT := Tm.tailL_all zs
    rw [eT, HN.out, Nat.sub_self, List.drop_zero] at k5
    have hcv : (convert 83 46 (.slice (some ⟨s, 0, none⟩) n n)).run Tryz.prog V = .ok (.string ⟨(Tm.rowL zs).toArray⟩) V := by
      have := run_convert_bytes_back (P := Tryz.prog) V 83 46 5 ⟨s, 0, none⟩ n (Tm.rowL zs) Tryz.underlying83 Tryz.underlying5 Tryz.underlying46 (fun j hj => ?_)
      · rw [HN.out] at this; exact this
      · have e : (⟨s, 0, none⟩ : Addr).add j = ⟨s, j, none⟩ := by
          by_cases h0 : j = 0
          · subst h0; simp [Addr.add]
          · simp [Addr.add, h0]
        rw [e]
        have h1 : cur.toList[j]? = some (.int .u8 ((Tm.rowL zs)[j].toNat : Int)) := by rw [k5]; simp [Lib.byteCells, hj]
        simp [World.cell?, k3]
        simpa using h1
    have hB2 := Lib.hid (k6.trans (belowK_b (w := w) (Nat.le_refl _) V D _ (.deferred none) (by omega) hK rfl rfl))
    clear k1 k2 k3 k4 k5 k6 hEach hI0
    gi_wp2
    refine ⟨by simp, .inl ⟨_, _, rfl, run_takeDeferred hK, ?_⟩⟩
    refine ⟨.tuple #[.string ⟨(Tm.rowL zs).toArray⟩, .int .i64 0], by simp [results, Tryz.results82, go_sem], rfl, hB2.out⟩

set_option maxHeartbeats 400000 in
theorem lput_wrong (zs : List (List UInt8)) (v : Value) (w : World) (h : RowA w v zs) {k : Nat} (hm : Tm.measureL zs = (0, k)) (hk : k = 1 ∨ k = 3 ∨ k = 4) : Calls Tryz.prog 82 #[v] w (Pair2 w ([], k)) := by
  have HM := measure_calls zs v w h
  rw [hm] at HM
  have HMs := Lib.hid HM
  clear h hm HM
  rcases hk with rfl | rfl | rfl
  all_goals
    go_enter Tryz.func82, Tryz.ntmps82
    go_wp2_with fail
    refine HMs.out.mono ?_
    rintro e w1 ⟨rfl, b1⟩
    go_wp2
    go_ret2
    exact ⟨rfl, b1⟩

theorem lput_calls (zs : List (List UInt8)) (v : Value) (w : World) (h : RowA w v zs) : Calls Tryz.prog 82 #[v] w (Pair2 w (Tm.putRow zs)) := by
  have hm : Tm.measureL zs = Tm.measureL zs := rfl
  unfold Tm.putRow
  by_cases h1 : 150 < zs.length ∨ Tm.wrongIn zs = true
  · have e : Tm.measureL zs = (0, 1) := by unfold Tm.measureL; rw [if_pos h1]
    rw [e, if_neg (by simp)]
    exact lput_wrong zs v w h e (.inl rfl)
  · by_cases h2 : 20000 < (Tm.rowL zs).length
    · have e : Tm.measureL zs = (0, 3) := by unfold Tm.measureL; rw [if_neg h1, if_pos h2]
      rw [e, if_neg (by simp)]
      exact lput_wrong zs v w h e (.inr (.inl rfl))
    · by_cases h3 : 400 < Tm.deepR zs
      · have e : Tm.measureL zs = (0, 4) := by unfold Tm.measureL; rw [if_neg h1, if_neg h2, if_pos h3]
        rw [e, if_neg (by simp)]
        exact lput_wrong zs v w h e (.inr (.inr rfl))
      · have e : Tm.measureL zs = ((Tm.rowL zs).length, 0) := by unfold Tm.measureL; rw [if_neg h1, if_neg h2, if_neg h3]
        rw [e, if_pos rfl]
        exact lput_ok zs v w h e (by omega) (by have := not_or.1 h1; omega)

end Go.Proofs.YtiodphkmllcjdaaGreat
end

section
namespace Go.Proofs.YtiodphkmllcjdaaGreat
open Go.ChangeShapes Go.WideShapes Go.ChangeAt Go.RowKit

theorem addr_flat (g j : Nat) : (⟨g, 0, none⟩ : Addr).add j = ⟨g, j, none⟩ := by
  by_cases h0 : j = 0
  · subst h0; simp [Addr.add]
  · simp [Addr.add, h0]
theorem rowA_texts {w : World} {g n c : Nat} {zs : List (List UInt8)} (hn : zs.length = n) (hg : g < w.heap.size) (hT : Texts w g zs) (hs : ∀ z ∈ zs, z.length ≤ maxLen) (hf : zs.length ≤ maxLen) : RowA w (.slice (some ⟨g, 0, none⟩) n c) zs := by
  subst hn
  exact ⟨⟨_, c, rfl, fun j x hx => ⟨⟨g, 0, none⟩, rfl, hg, id, by rw [addr_flat]; exact hT j x hx⟩⟩, hs, hf⟩
theorem rowA_own {w : World} {B : Nat} {v : Value} {zs : List (List UInt8)} (h : w.ownsRow B 46 1 v zs.length (strs zs)) (hs : ∀ z ∈ zs, z.length ≤ maxLen) (hf : zs.length ≤ maxLen) : RowA w v zs := by
  rcases h.2 with ⟨rfl, h0⟩ | ⟨g, cap, cur, rfl, _⟩
  · obtain rfl : zs = [] := List.length_eq_zero_iff.1 h0
    exact ⟨⟨none, 0, rfl, fun j x hx => by simp at hx⟩, hs, hf⟩
  · exact rowA_texts rfl (lt_of_row h) (texts_of_row h) hs hf
theorem good_short {k m : Nat} {z : List UInt8} (h : Tm.Good k m z) (hm : m ≤ 20000) : z.length ≤ maxLen := by have := h.2.2; unfold maxLen; omega

namespace Tm
theorem put_good {ts : List (List UInt8)} (hg : ∀ t ∈ ts, depthOf t ≠ 0) (hl : ts.length ≤ 150) : (putRow ts = (rowL ts, 0) ∧ (rowL ts).length ≤ 20000) ∨ putRow ts = ([], 3) ∨ putRow ts = ([], 4) := by
  have hw : wrongIn ts = false := by
    unfold wrongIn
    rw [List.any_eq_false]
    intro t ht
    simpa using hg t ht
  have hn : ¬ (150 < ts.length ∨ wrongIn ts = true) := by rw [hw]; simp; omega
  by_cases h2 : 20000 < (rowL ts).length
  · have e : measureL ts = (0, 3) := by unfold measureL; rw [if_neg hn, if_pos h2]
    unfold putRow
    rw [e]
    exact .inr (.inl rfl)
  · by_cases h3 : 400 < deepR ts
    · have e : measureL ts = (0, 4) := by unfold measureL; rw [if_neg hn, if_neg h2, if_pos h3]
      unfold putRow
      rw [e]
      exact .inr (.inr rfl)
    · exact .inl ⟨putRow_mk hl hw (by omega) (by omega), by omega⟩
theorem shown_row : putRow [[103], [104, 103]] = ([112, 103, 112, 104, 103] ++ num0, 0) := by
  have h1 : depthOf [103] ≠ 0 := good_gen.1
  have hp : put [104] [[103]] = ([104, 103], 0) := put_fine (by decide) (by decide) (fun p hp => by simp at hp; rw [hp]; exact good_gen.mono (by decide) (by decide))
  obtain ⟨_, k2, k3⟩ := good_hash hp good_gen.2.1
  have h2 : depthOf [104, 103] ≠ 0 := k3.1
  have h3 := good_gen.2.1
  have := putRow_mk (zs := [[103], [104, 103]]) (by decide) (by unfold wrongIn; simp [h1, h2]) (by decide) (by rw [deepR_cons _ h1, deepR_cons _ h2, deepR_nil]; omega)
  rw [this]
  rfl
end Tm

namespace L4
end L4

end Go.Proofs.YtiodphkmllcjdaaGreat
end

section
namespace Go.Proofs.YtiodphkmllcjdaaGreat
open Go.ChangeShapes Go.WideShapes Go.ChangeAt Go.RowKit

namespace Tm
def numL (n : Int) : List UInt8 := 117 :: be8 n.toNat
end Tm
def Msg.head (m : Msg) : List Int := [m.kind, m.e1, m.c1, m.e2, m.c2, m.num, (m.mem.length : Int)]
def Msg.nums (m : Msg) : List Int := m.head ++ m.mem
def Msg.row (m : Msg) : List (List UInt8) := m.nums.map Tm.numL ++ m.terms
def RowOfOut (w : World) (zs : List (List UInt8)) (e : Ending) (w' : World) : Prop :=
  ∃ v, e = .returned v ∧ w'.ownsRow w.heap.size 46 1 v zs.length (strs zs) ∧ Below w.heap.size w w'
/-- A loop that appends the numbers of ns, as terms, behind those of pre. -/
def Numbering (w : World) (pre ns : List Int) (k : Nat) (v4 vi : Value) (wr : World) : Prop :=
  ∃ i : Nat, k + i = ns.length ∧ vi = .int .i64 i ∧ wr.ownsRow w.heap.size 46 1 v4 (pre.length + i) (strs ((pre ++ ns.take i).map Tm.numL)) ∧ Below w.heap.size w wr

theorem own_base {W : World} {base base' : Nat} {e : TypeId} {size n : Nat} {v : Value} {xs : List Value} (h : W.ownsRow base e size v n xs) (hb : base' ≤ base) : W.ownsRow base' e size v n xs :=
  ⟨h.1, h.2.imp id (fun ⟨g, cap, cur, a, b, c⟩ => ⟨g, cap, cur, a, Nat.le_trans hb b, c⟩)⟩
theorem numbering_step {w wr w3 w4 : World} {pre ns : List Int} {i : Nat} {v4 v2 : Value} {x : Int} (hi : i < ns.length) (hx : ns[i]? = some x) (hB : Below w.heap.size w wr)
    (hrow : wr.ownsRow w.heap.size 46 1 v4 (pre.length + i) (strs ((pre ++ ns.take i).map Tm.numL))) (b3 : Below wr.heap.size wr w3)
    (k1 : w4.ownsRow w.heap.size 46 1 v2 (pre.length + i + 1) (strs ((pre ++ ns.take i).map Tm.numL) ++ [.string ⟨(Tm.numL x).toArray⟩]))
    (k2 : (w3.alloc (.cells #[.string ⟨(Tm.numL x).toArray⟩] 46)).grownBy w4 v4.ownBlock) : Numbering w pre ns (ns.length - (i + 1)) v2 (.int .i64 ((i + 1 : Nat) : Int)) w4 := by
  have ht : ns.take (i + 1) = ns.take i ++ [x] := by rw [List.take_add_one, hx]; rfl
  have b4 := hB.trans (b3.mono hB.size)
  have hg2 := grow_trans (World.grownBy_alloc w3 (.cells #[.string ⟨(Tm.numL x).toArray⟩] 46) _) k2
  refine ⟨i + 1, by omega, rfl, ?_, b4.grown hg2 b4.size (fun q e => (hrow.lt q e).1)⟩
  rw [ht]
  simpa [strs, Nat.add_assoc] using k1
theorem numL_calls (x : Int) (h0 : 0 ≤ x) (h1 : x ≤ 9223372036854775807) (V : World) : Calls Tryz.prog 27 #[.int .u64 x] V (One V (.string ⟨(Tm.numL x).toArray⟩)) := by
  have := Number_calls x.toNat (by omega) V
  rw [show ((x.toNat : Nat) : Int) = x from by omega] at this
  exact this

set_option maxRecDepth 100000 in
set_option maxHeartbeats 8000000 in
theorem rowOf_calls (m : Msg) (vm vt : Value) (w : World) (h : MsgA w m vm vt) (hn : ∀ n ∈ m.nums, 0 ≤ n ∧ n ≤ 9223372036854775807) (hm : m.mem.length ≤ 8) (ht : m.terms.length ≤ 150) (hnil : ∀ n c, vt = .slice none n c → c = 0) : Calls Tryz.prog 83 #[.agg (msgCells m vm vt)] w (RowOfOut w m.row) := by
  obtain ⟨i0, hi, hzz0, hz1, hz2⟩ := info_parts info_term
  obtain ⟨A5, c5, rfl, hI⟩ : ∃ A c, vm = .slice A m.mem.length c ∧ IntsA w vm m.mem := by obtain ⟨⟨A, c, e, k⟩, f⟩ := h.mem; exact ⟨A, c, e, h.mem⟩
  obtain ⟨A6, c6, rfl, hT⟩ : ∃ A c, vt = .slice A m.terms.length c ∧ RowA w vt m.terms := by obtain ⟨⟨A, c, e, k⟩, f⟩ := h.terms; exact ⟨A, c, e, h.terms⟩
  clear h
  unfold msgCells
  obtain ⟨W0, hW0⟩ : ∃ W0, w.alloc (.cells #[.int .i64 m.kind, .int .i64 m.e1, .int .i64 m.c1, .int .i64 m.e2, .int .i64 m.c2, .int .i64 m.num, .slice A5 m.mem.length c5, .slice A6 m.terms.length c6] 87) = W0 := ⟨_, rfl⟩
  have hz0 : W0.heap.size = w.heap.size + 1 := by rw [← hW0]; simp
  have hcs : ∀ j, W0.cell? ⟨w.heap.size, j, none⟩ = (#[.int .i64 m.kind, .int .i64 m.e1, .int .i64 m.c1, .int .i64 m.e2, .int .i64 m.c2, .int .i64 m.num, .slice A5 m.mem.length c5, .slice A6 m.terms.length c6] : Array Value)[j]? := fun j => by
    rw [← hW0]
    simp only [World.cell?]
    rw [World.alloc_heap_new]
    rfl
  have y0 := hcs 0
  have y1 := hcs 1
  have y2 := hcs 2
  have y3 := hcs 3
  have y4 := hcs 4
  have y5 := hcs 5
  have y6 := hcs 6
  have y7 := hcs 7
  simp at y0 y1 y2 y3 y4 y5 y6 y7
  have hrow : Hid (m.row = (m.head ++ m.mem).map Tm.numL ++ m.terms) := rfl
  obtain ⟨zs, hzs⟩ : ∃ zs, m.row = zs := ⟨_, rfl⟩
  rw [hzs] at hrow ⊢
  have HN := Lib.hid hn
  clear hn hcs hzs
  obtain ⟨W1, hW1⟩ : ∃ W1, W0.alloc (.cells #[.int .i64 m.kind, .int .i64 m.e1, .int .i64 m.c1, .int .i64 m.e2, .int .i64 m.c2, .int .i64 m.num, .int .i64 (m.mem.length : Int)] 182) = W1 := ⟨_, rfl⟩
  have hs1 : W1.heap.size = w.heap.size + 2 := by rw [← hW1]; simp [hz0]
  have hB1 : Below w.heap.size w W1 := by
    rw [← hW1, ← hW0]
    exact ((Below.refl _ w).alloc (Nat.le_refl _) _).alloc (by simp) _
  have hb01 : ∀ j, W1.cell? ⟨w.heap.size, j, none⟩ = W0.cell? ⟨w.heap.size, j, none⟩ := fun j => by
    rw [← hW1]
    exact ((Below.refl W0.heap.size W0).alloc (Nat.le_refl _) _).cell (p := ⟨w.heap.size, j, none⟩) (by simp; omega)
  have hc1 : ∀ j, W1.cell? ⟨w.heap.size + 1, j, none⟩ = (#[.int .i64 m.kind, .int .i64 m.e1, .int .i64 m.c1, .int .i64 m.e2, .int .i64 m.c2, .int .i64 m.num, .int .i64 (m.mem.length : Int)] : Array Value)[j]? := fun j => by
    rw [← hW1, ← hz0]
    simp only [World.cell?]
    rw [World.alloc_heap_new]
    rfl
  obtain ⟨W2, hmk, hown0, hg0⟩ := run_make_own (P := Tryz.prog) (w := W1) W1.heap.size 34 46 i0 (.string ⟨#[]⟩) 1 Tryz.underlying34 hi hzz0 hz1 .i64 .i64 (7 + m.mem.length + m.terms.length) (by rw [hz2]; omega) (by unfold maxLen; omega) (Nat.le_refl _)
  have hmk' : (Instr.makeSlice 34 (.int .i64 0) (.int .i64 (7 + (m.mem.length : Int) + (m.terms.length : Int)))).run Tryz.prog W1 = .ok (.slice (some ⟨w.heap.size + 2, 0, none⟩) 0 (7 + m.mem.length + m.terms.length)) W2 := by
    rw [← hs1, ← hmk]
    congr 2
  rw [hs1] at hown0
  have hB2 : Below W1.heap.size W1 W2 := (Below.refl _ _).grown hg0 (Nat.le_refl _) (by simp)
  have q0 := (hB2.cell (p := ⟨w.heap.size + 1, 0, none⟩) (by simp; omega)).trans (hc1 0)
  have q1 := (hB2.cell (p := ⟨w.heap.size + 1, 1, none⟩) (by simp; omega)).trans (hc1 1)
  have q2 := (hB2.cell (p := ⟨w.heap.size + 1, 2, none⟩) (by simp; omega)).trans (hc1 2)
  have q3 := (hB2.cell (p := ⟨w.heap.size + 1, 3, none⟩) (by simp; omega)).trans (hc1 3)
  have q4 := (hB2.cell (p := ⟨w.heap.size + 1, 4, none⟩) (by simp; omega)).trans (hc1 4)
  have q5 := (hB2.cell (p := ⟨w.heap.size + 1, 5, none⟩) (by simp; omega)).trans (hc1 5)
  have q6 := (hB2.cell (p := ⟨w.heap.size + 1, 6, none⟩) (by simp; omega)).trans (hc1 6)
  simp at q0 q1 q2 q3 q4 q5 q6
  have x6 := (hb01 6).trans y6
  have x7 := (hb01 7).trans y7
  have HX6 : Hid (∀ V, Below W1.heap.size W1 V → V.cell? ⟨w.heap.size, 6, none⟩ = some (.slice A5 m.mem.length c5) ∧ V.cell? ⟨w.heap.size, 7, none⟩ = some (.slice A6 m.terms.length c6)) := fun V hb => ⟨(hb.cell (p := ⟨w.heap.size, 6, none⟩) (by simp; omega)).trans x6, (hb.cell (p := ⟨w.heap.size, 7, none⟩) (by simp; omega)).trans x7⟩
  clear hmk
  have HOwn := Lib.hid hown0
  have HB2 := Lib.hid hB2
  have HB1 := Lib.hid hB1
  have HI5 := Lib.hid hI
  have HT6 := Lib.hid hT
  clear hown0 hg0 hB2 hB1 hI hT hc1 hb01
  go_enter Tryz.func83, Tryz.ntmps83
  go_wp2
  clear x6 x7 y0 y1 y2 y3 y4 y5 y6 y7 q0 q1 q2 q3 q4 q5 q6 hmk' hW0 hW1
  obtain ⟨hv, hhv⟩ : ∃ hv : Array Value, (#[.int .i64 m.kind, .int .i64 m.e1, .int .i64 m.c1, .int .i64 m.e2, .int .i64 m.c2, .int .i64 m.num, .int .i64 (m.mem.length : Int)] : Array Value) = hv := ⟨_, rfl⟩
  rw [hhv]
  have hvs : hv.size = 7 := by rw [← hhv]; rfl
  have HVe : Hid (∀ (i : Nat) (x : Int), m.head[i]? = some x → ∀ V : World, (Instr.index 182 (.agg hv) (.int .i64 (i : Int))).run Tryz.prog V = .ok (.int .i64 x) V) := by
    intro i x hx
    rw [← hhv]
    unfold Msg.head at hx
    match i, hx with
    | 0, hx => simp at hx; subst hx; intro V; kernel_rfl
    | 1, hx => simp at hx; subst hx; intro V; kernel_rfl
    | 2, hx => simp at hx; subst hx; intro V; kernel_rfl
    | 3, hx => simp at hx; subst hx; intro V; kernel_rfl
    | 4, hx => simp at hx; subst hx; intro V; kernel_rfl
    | 5, hx => simp at hx; subst hx; intro V; kernel_rfl
    | 6, hx => simp at hx; subst hx; intro V; kernel_rfl
    | (n + 7), hx => simp at hx
  have HStart : Hid (Numbering W1 [] m.head 7 (.slice (some ⟨w.heap.size + 2, 0, none⟩) 0 (7 + m.mem.length + m.terms.length)) (.int .i64 0) W2) := ⟨0, rfl, rfl, by rw [hs1]; exact HOwn.out, HB2.out⟩
  clear hhv HOwn HB2
  go_loopg [4, 39] 7 (fun k v4 v39 wr => Numbering W1 [] m.head k v4 v39 wr)
  case atStart => exact HStart.out
  case round =>
    clear HStart
    obtain ⟨i, hk, rfl, hrow1, hB⟩ := hrel
    rw [show m.head.length = 7 from rfl] at hk
    by_cases hlt : i < 7
    · obtain ⟨x, hx⟩ : ∃ x, m.head[i]? = some x := ⟨_, List.getElem?_eq_getElem (show i < m.head.length from hlt)⟩
      have hxv := HVe.out i x hx
      have hxn := HN.out x (List.mem_append.2 (.inl (List.mem_of_getElem? hx)))
      have HNum := Lib.hid (fun V => numL_calls x hxn.1 hxn.2 V)
      have HSt := Lib.hid (fun w3 w4 v2 b3 k1 k2 => numbering_step (w3 := w3) (w4 := w4) (v2 := v2) (show i < m.head.length from hlt) hx hB hrow1 b3 k1 k2)
      have j1 : (i : Int) < 7 := by omega
      have j2 : (0 : Int) ≤ (i : Int) := by omega
      obtain ⟨A4, c4, rfl⟩ := own_slice hrow1
      have j3 : IntKind.u64.wrap x = x := by rw [IntKind.wrap_u64]; omega
      have hrw : Hid (Below W1.heap.size W1 wr ∧ W1.heap.size ≤ wr.heap.size) := ⟨hB, hB.size⟩
      have HRow := Lib.hid hrow1
      have HK := Lib.hid hk
      have hi7 : ([] : List Int).length + i + 1 ≤ 7 := by simp; omega
      generalize ([] : List Int).length + i = ni at *
      generalize strs (([] ++ m.head.take i).map Tm.numL) = xs at *
      clear hrow1 hB hk hx hxn hlt
      go_wp2_with (first
        | (go_at_call 27
           refine (HNum.out _).mono ?_
           rintro e' w3 ⟨rfl, b3⟩
           have hr3 := Lib.hid (own_below HRow.out b3)
           have hs3 := Nat.le_trans hrw.out.2 b3.size)
        | (at_builtin
           refine wpList_append_own_at _ rfl _ _ 34 rfl W1.heap.size 46 i0 _ 1 16 Tryz.underlying34 hi hzz0 hz1 hz2 rfl (by decide) _ _ _ rfl (hr3.out.alloc _) ⟨w3.heap.size, 0, none⟩ 1 1 [.string ⟨(Tm.numL x).toArray⟩] rfl rfl (cell_one_new _ _ _) (by simp [Value.oneCell']) (by unfold maxLen; omega) (by omega) (by simp; omega) ?_
           intro v2 w4 hown' hgrow hnil hat
           have hRl := Lib.hid (HSt.out w3 w4 v2 b3 hown' hgrow)
           clear hown' hgrow hnil hat))
      go_roundg (m.head.length - (i + 1))
      case measure => have := HK.out; rw [show m.head.length = 7 from rfl]; omega
      case rel => exact hRl.out
    · obtain rfl : i = 7 := by omega
      obtain ⟨x6, x7⟩ := HX6.out wr hB
      have hrow7 : Hid (wr.ownsRow W1.heap.size 46 1 u4 7 (strs (m.head.map Tm.numL))) := hrow1
      have HBw := Lib.hid hB
      obtain ⟨A4, c4, rfl⟩ := own_slice hrow1
      rw [show ([] : List Int).length + 7 = 7 from rfl] at *
      clear hrow1 hB hk hlt hvs HVe
      go_wp2
      clear x6 x7
      have HStart : Hid (Numbering W1 m.head m.mem m.mem.length (.slice A4 7 c4) (.int .i64 0) wr) := ⟨0, rfl, rfl, by rw [show m.head.length + 0 = 7 from rfl]; simpa using hrow7.out, HBw.out⟩
      clear hrow7 HBw
      go_loopg [4, 52] m.mem.length (fun k v4 v52 wr => Numbering W1 m.head m.mem k v4 v52 wr)
      case atStart => exact HStart.out
      case round =>
        clear HStart
        obtain ⟨i, hk, rfl, hrow1, hB⟩ := hrel
        by_cases hlt : i < m.mem.length
        · obtain ⟨x, hx⟩ : ∃ x, m.mem[i]? = some x := ⟨_, List.getElem?_eq_getElem hlt⟩
          obtain ⟨ad, rfl, a1, a3⟩ : ∃ ad : Addr, A5 = some ad ∧ ad.block < w.heap.size ∧ w.cell? (ad.add i) = some (.int .i64 x) := by
            obtain ⟨⟨A, c, e, k⟩, _⟩ := HI5.out
            cases e
            exact k i x hx
          have a4 := (hB.cell (p := ad.add i) (by rw [addr_block]; omega)).trans ((HB1.out.cell (p := ad.add i) (by rw [addr_block]; exact a1)).trans a3)
          have hxn := HN.out x (List.mem_append.2 (.inr (List.mem_of_getElem? hx)))
          have HNum := Lib.hid (fun V => numL_calls x hxn.1 hxn.2 V)
          have HSt := Lib.hid (fun w3 w4 v2 b3 k1 k2 => numbering_step (w3 := w3) (w4 := w4) (v2 := v2) hlt hx hB hrow1 b3 k1 k2)
          have j1 : (i : Int) < (m.mem.length : Int) := by omega
          have j2 : (0 : Int) ≤ (i : Int) := by omega
          obtain ⟨A4, c4, rfl⟩ := own_slice hrow1
          have j3 : IntKind.u64.wrap x = x := by rw [IntKind.wrap_u64]; omega
          have hrw : Hid (Below W1.heap.size W1 wr ∧ W1.heap.size ≤ wr.heap.size) := ⟨hB, hB.size⟩
          have HRow := Lib.hid hrow1
          have HK := Lib.hid hk
          have hi7 : m.head.length + i + 1 ≤ 20 := by rw [show m.head.length = 7 from rfl]; omega
          generalize m.head.length + i = ni at *
          generalize strs ((m.head ++ m.mem.take i).map Tm.numL) = xs at *
          clear hrow1 hB hk hx hxn hlt a1 a3
          go_wp2_with (first
            | (go_at_call 27
               refine (HNum.out _).mono ?_
               rintro e' w3 ⟨rfl, b3⟩
               have hr3 := Lib.hid (own_below HRow.out b3)
               have hs3 := Nat.le_trans hrw.out.2 b3.size)
            | (at_builtin
               refine wpList_append_own_at _ rfl _ _ 34 rfl W1.heap.size 46 i0 _ 1 16 Tryz.underlying34 hi hzz0 hz1 hz2 rfl (by decide) _ _ _ rfl (hr3.out.alloc _) ⟨w3.heap.size, 0, none⟩ 1 1 [.string ⟨(Tm.numL x).toArray⟩] rfl rfl (cell_one_new _ _ _) (by simp [Value.oneCell']) (by unfold maxLen; omega) (by omega) (by simp; omega) ?_
               intro v2 w4 hown' hgrow hnil' hat
               have hRl := Lib.hid (HSt.out w3 w4 v2 b3 hown' hgrow)
               clear hown' hgrow hnil' hat))
          go_roundg (m.mem.length - (i + 1))
          case measure => have := HK.out; omega
          case rel => exact hRl.out
        · obtain rfl : i = m.mem.length := by omega
          obtain ⟨x6, x7⟩ := HX6.out wr hB
          rw [List.take_length] at hrow1
          have HRow := Lib.hid hrow1
          have HBw := Lib.hid hB
          have HAll : Hid (m.head.length + m.mem.length ≤ 15 ∧ (strs ((m.head ++ m.mem).map Tm.numL)).length = m.head.length + m.mem.length) := ⟨by rw [show m.head.length = 7 from rfl]; omega, by simp [strs]⟩
          obtain ⟨A4, c4, rfl⟩ := own_slice hrow1
          have HFin : Hid (∀ v5 w5, w5.ownsRow W1.heap.size 46 1 v5 (m.head.length + m.mem.length + m.terms.length) (strs ((m.head ++ m.mem).map Tm.numL) ++ strs m.terms) → wr.grownBy w5 (Value.slice A4 (m.head.length + m.mem.length) c4).ownBlock → RowOfOut w zs (.returned v5) w5) := by
            intro v5 w5 k1 k2
            have hw5 : Below W1.heap.size W1 w5 := HBw.out.grown k2 HBw.out.size (fun q e => (HRow.out.lt q e).1)
            refine ⟨v5, rfl, ?_, HB1.out.trans (hw5.mono (by omega))⟩
            rw [hrow.out]
            have hk : ((m.head ++ m.mem).map Tm.numL ++ m.terms).length = m.head.length + m.mem.length + m.terms.length := by simp; omega
            rw [hk]
            have := own_base (base' := w.heap.size) k1 (by omega)
            simpa [strs] using this
          cases A6 with
          | none =>
            have hz : m.terms = [] := by
              cases hm' : m.terms with
              | nil => rfl
              | cons z zs =>
                obtain ⟨A, c, e, k⟩ := HT6.out.reads
                cases e
                obtain ⟨ad, e2, _⟩ := k 0 z (by rw [hm']; rfl)
                cases e2
            obtain rfl : c6 = 0 := hnil _ _ rfl
            have HF := Lib.hid (HFin.out _ wr (by rw [hz]; simpa [strs] using HRow.out) (World.grownBy.refl _ _))
            rw [hz] at x7 
            rw [show ([] : List (List UInt8)).length = 0 from rfl] at x7
            obtain ⟨nt, hnt⟩ : ∃ nt, m.terms.length = nt := ⟨_, rfl⟩
            have hnt0 : nt = 0 := by rw [← hnt, hz]; rfl
            clear hrow1 hB hk hlt HFin HAll
            go_wp2_with (at_builtin; refine wpList_append_own_none rfl _ _ 34 rfl W1.heap.size 46 i0 1 Tryz.underlying34 hi _ _ _ rfl HRow.out rfl ?_)
            go_ret
            exact HF.out
          | some ad =>
            have hnews : ∀ j u, (strs m.terms)[j]? = some u → wr.cell? (ad.add j) = some u := by
              intro j u hu
              unfold strs at hu
              rw [List.getElem?_map, Option.map_eq_some_iff] at hu
              obtain ⟨z, hz, rfl⟩ := hu
              obtain ⟨A, c, e, k⟩ := HT6.out.reads
              cases e
              obtain ⟨ad', e2, b1, _, b2⟩ := k j z hz
              cases e2
              exact (hB.cell (p := ad.add j) (by rw [addr_block]; omega)).trans ((HB1.out.cell (p := ad.add j) (by rw [addr_block]; exact b1)).trans b2)
            have HNews := Lib.hid hnews
            have HOne : Hid (∀ u ∈ strs m.terms, u.oneCell' = true) := by
              intro u hu
              unfold strs at hu
              obtain ⟨z, _, rfl⟩ := List.mem_map.1 hu
              rfl
            have HLen : Hid (m.head.length + m.mem.length + m.terms.length ≤ 165 ∧ (strs m.terms).length = m.terms.length * 1 ∧ W1.heap.size ≤ wr.heap.size) := ⟨by have := HAll.out.1; omega, by simp [strs], hB.size⟩
            clear hrow1 hB hk hlt HAll hnews
            go_wp2_with (at_builtin; refine wpList_append_own_at _ rfl _ _ 34 rfl W1.heap.size 46 i0 _ 1 16 Tryz.underlying34 hi hzz0 hz1 hz2 rfl (by decide) _ _ _ rfl HRow.out ad m.terms.length c6 (strs m.terms) rfl HLen.out.2.1 HNews.out HOne.out (by have := HLen.out.1; unfold maxLen; omega) (by have := HLen.out.1; omega) HLen.out.2.2 ?_; intro v5 w5 k1 k2 _ _)
            have HF := Lib.hid (HFin.out _ _ k1 k2)
            clear k1 k2
            go_ret
            exact HF.out
end Go.Proofs.YtiodphkmllcjdaaGreat
end

section
namespace Go.Proofs.YtiodphkmllcjdaaGreat
open Go.ChangeShapes Go.WideShapes Go.ChangeAt Go.RowKit

namespace Tm
theorem be8_one {a b : Nat} (ha : a < 18446744073709551616) (hb : b < 18446744073709551616) (h : be8 a = be8 b) : a = b := by
  simp only [be8, List.cons.injEq, and_true] at h
  obtain ⟨h7, h6, h5, h4, h3, h2, h1, h0⟩ := h
  have k : ∀ x y : Nat, UInt8.ofNat x = UInt8.ofNat y → x % 256 = y % 256 := by
    intro x y h
    have := congrArg UInt8.toNat h
    rwa [UInt8.toNat_ofNat', UInt8.toNat_ofNat'] at this
  have k7 := k _ _ h7
  have k6 := k _ _ h6
  have k5 := k _ _ h5
  have k4 := k _ _ h4
  have k3 := k _ _ h3
  have k2 := k _ _ h2
  have k1 := k _ _ h1
  have k0 := k _ _ h0
  clear h7 h6 h5 h4 h3 h2 h1 h0 k
  simp only [Nat.pow_zero, Nat.div_one] at k0
  omega
end Tm
theorem riseB_len {a : Int} {xs : List Int} (h : riseB a xs = true) (h0 : 0 ≤ a) (h8 : a ≤ 8) : a + xs.length ≤ 8 := by
  induction xs generalizing a with
  | nil => simpa using h8
  | cons y ys ih =>
    unfold riseB at h
    rw [Bool.and_eq_true] at h
    obtain ⟨h1, h2⟩ := h
    rw [withinB_iff] at h1
    have := ih h2 (by omega) (by omega)
    simp
    omega
theorem measureL_few {zs : List (List UInt8)} (h : (Tm.measureL zs).2 = 0) : zs.length ≤ 150 ∧ Tm.wrongIn zs = false := by
  unfold Tm.measureL at h
  by_cases c : 150 < zs.length ∨ Tm.wrongIn zs = true
  · rw [if_pos c] at h; simp at h
  · constructor
    · omega
    · cases hw : Tm.wrongIn zs with
      | false => rfl
      | true => exact absurd (.inr hw) c
theorem Msg.ok_all {m : Msg} (h : m.ok = true) : (∀ n ∈ m.nums, 0 ≤ n ∧ n ≤ 2147483647) ∧ m.mem.length ≤ 8 ∧ m.terms.length ≤ 150 ∧ Tm.wrongIn m.terms = false := by
  unfold Msg.ok Msg.okHead idB at h
  simp only [Bool.and_eq_true, decide_eq_true_eq, withinB_iff] at h
  obtain ⟨⟨⟨⟨⟨⟨k1, k2⟩, ⟨k3, k4⟩, k5, k6⟩, ⟨k7, k8⟩, k9, k10⟩, k11, k12⟩, hr⟩, hm⟩ := h
  have hl := riseB_len hr (by omega) (by omega)
  refine ⟨?_, by omega, (measureL_few hm).1, (measureL_few hm).2⟩
  intro n hn
  rcases List.mem_append.1 hn with hn | hn
  · unfold Msg.head at hn
    simp only [List.mem_cons, List.not_mem_nil, or_false] at hn
    omega
  · have := riseB_bound hr (by omega) n hn
    omega
def Msg.pack (m : Msg) : List UInt8 × Nat := if m.ok = true then Tm.putRow m.row else ([], 1)
theorem numL_len (n : Int) : (Tm.numL n).length = 9 := by simp [Tm.numL, Tm.be8_length]
theorem numL_inj {a b : Int} (ha : 0 ≤ a ∧ a ≤ 2147483647) (hb : 0 ≤ b ∧ b ≤ 2147483647) (h : Tm.numL a = Tm.numL b) : a = b := by
  have := Tm.be8_one (a := a.toNat) (b := b.toNat) (by omega) (by omega) (by simpa [Tm.numL] using h)
  omega
theorem numsL_inj {xs bs : List Int} (ha : ∀ a ∈ xs, 0 ≤ a ∧ a ≤ 2147483647) (hb : ∀ a ∈ bs, 0 ≤ a ∧ a ≤ 2147483647) (h : xs.map Tm.numL = bs.map Tm.numL) : xs = bs := by
  induction xs generalizing bs with
  | nil => cases bs with
    | nil => rfl
    | cons b bs => simp at h
  | cons a xs ih => cases bs with
    | nil => simp at h
    | cons b bs =>
      simp only [List.map_cons, List.cons.injEq] at h
      rw [numL_inj (ha a (by simp)) (hb b (by simp)) h.1, ih (fun x hx => ha x (by simp [hx])) (fun x hx => hb x (by simp [hx])) h.2]
theorem Msg.row_inj {a b : Msg} (ha : a.ok = true) (hb : b.ok = true) (h : a.row = b.row) : a = b := by
  obtain ⟨na, _, _⟩ := Msg.ok_all ha
  obtain ⟨nb, _, _⟩ := Msg.ok_all hb
  unfold Msg.row Msg.nums at h
  rw [List.map_append, List.map_append, List.append_assoc, List.append_assoc] at h
  obtain ⟨h1, h2⟩ := List.append_inj h (by rw [List.length_map, List.length_map]; rfl)
  have hh := numsL_inj (fun n hn => na n (List.mem_append.2 (.inl hn))) (fun n hn => nb n (List.mem_append.2 (.inl hn))) h1
  unfold Msg.head at hh
  simp only [List.cons.injEq] at hh
  obtain ⟨e1, e2, e3, e4, e5, e6, e7, _⟩ := hh
  obtain ⟨h3, h4⟩ := List.append_inj h2 (by rw [List.length_map, List.length_map]; omega)
  have hm := numsL_inj (fun n hn => na n (List.mem_append.2 (.inr hn))) (fun n hn => nb n (List.mem_append.2 (.inr hn))) h3
  cases a
  cases b
  simp_all
theorem Msg.pack_ok {m : Msg} {t : List UInt8} (h : m.pack = (t, 0)) : m.ok = true ∧ Tm.putRow m.row = (t, 0) := by
  unfold Msg.pack at h
  by_cases c : m.ok = true
  · rw [if_pos c] at h; exact ⟨c, h⟩
  · rw [if_neg c] at h; simp at h
theorem Msg.pack_inj {a b : Msg} {s t : List UInt8} (ha : a.pack = (s, 0)) (hb : b.pack = (t, 0)) : s = t ↔ a = b := by
  obtain ⟨oa, pa⟩ := Msg.pack_ok ha
  obtain ⟨ob, pb⟩ := Msg.pack_ok hb
  constructor
  · rintro rfl
    have h1 := (Tm.take_put pa).2
    have h2 := (Tm.take_put pb).2
    exact Msg.row_inj oa ob (congrArg Prod.fst (h1.symm.trans h2))
  · rintro rfl
    exact congrArg Prod.fst (ha.symm.trans hb)

set_option maxRecDepth 100000 in
set_option maxHeartbeats 4000000 in
theorem lpack_calls (m : Msg) (vm vt : Value) (w : World) (h : MsgA w m vm vt) (hnil : ∀ n c, vt = .slice none n c → c = 0) : Calls Tryz.prog 63 #[.agg (msgCells m vm vt)] w (Pair2 w m.pack) := by
  have hB : Below w.heap.size w (w.alloc (.cells (msgCells m vm vt) 87)) := (Below.refl _ w).alloc (Nat.le_refl _) _
  have hcs : ∀ V : World, Below (w.heap.size + 1) (w.alloc (.cells (msgCells m vm vt) 87)) V → ∀ j, V.cell? ⟨w.heap.size, j, none⟩ = (msgCells m vm vt)[j]? := fun V hb j => by
    have e1 := World.alloc_heap_new w (.cells (msgCells m vm vt) 87)
    have e2 : V.cell? ⟨w.heap.size, j, none⟩ = (w.alloc (.cells (msgCells m vm vt) 87)).cell? ⟨w.heap.size, j, none⟩ := hb.cell (p := ⟨w.heap.size, j, none⟩) (by simp)
    rw [e2]
    simp only [World.cell?]
    rw [e1]
    rfl
  have HCs : Hid (∀ V : World, Below (w.heap.size + 1) (w.alloc (.cells (msgCells m vm vt) 87)) V → V.cell? ⟨w.heap.size, 0, none⟩ = some (.int .i64 m.kind) ∧ V.cell? ⟨w.heap.size, 1, none⟩ = some (.int .i64 m.e1) ∧ V.cell? ⟨w.heap.size, 2, none⟩ = some (.int .i64 m.c1) ∧ V.cell? ⟨w.heap.size, 3, none⟩ = some (.int .i64 m.e2) ∧ V.cell? ⟨w.heap.size, 4, none⟩ = some (.int .i64 m.c2) ∧ V.cell? ⟨w.heap.size, 5, none⟩ = some (.int .i64 m.num) ∧ V.cell? ⟨w.heap.size, 6, none⟩ = some vm ∧ V.cell? ⟨w.heap.size, 7, none⟩ = some vt) := fun V hb => ⟨hcs V hb 0, hcs V hb 1, hcs V hb 2, hcs V hb 3, hcs V hb 4, hcs V hb 5, hcs V hb 6, hcs V hb 7⟩
  have HR := Lib.hid (fun (V : World) (hb : Below w.heap.size w V) => lright_calls m vm vt V (h.below hb))
  have HRow : Hid (m.ok = true → ∀ V : World, Below w.heap.size w V → Calls Tryz.prog 83 #[.agg (msgCells m vm vt)] V (RowOfOut V m.row)) := fun ho V hb => by
    obtain ⟨k1, k2, k3, _⟩ := Msg.ok_all ho
    exact rowOf_calls m vm vt V (h.below hb) (fun n hn => by have := k1 n hn; omega) k2 k3 hnil
  have HP : Hid (m.ok = true → ∀ V W v, RowOfOut V m.row (.returned v) W → Calls Tryz.prog 82 #[v] W (Pair2 W (Tm.putRow m.row))) := by
    intro ho V W v hv
    obtain ⟨v', e, hown, _⟩ := hv
    cases e
    obtain ⟨k1, k2, k3, k4⟩ := Msg.ok_all ho
    refine lput_calls _ _ _ (rowA_own hown ?_ ?_)
    · intro z hz
      unfold Msg.row at hz
      rcases List.mem_append.1 hz with hz | hz
      · obtain ⟨n, _, rfl⟩ := List.mem_map.1 hz
        rw [numL_len]; unfold maxLen; omega
      · exact h.terms.short z hz
    · unfold Msg.row Msg.nums
      simp [Msg.head]
      unfold maxLen
      omega
  unfold Msg.pack
  unfold msgCells at HCs HR HRow hB ⊢
  obtain ⟨W0, hW0⟩ : ∃ W0, w.alloc (.cells #[.int .i64 m.kind, .int .i64 m.e1, .int .i64 m.c1, .int .i64 m.e2, .int .i64 m.c2, .int .i64 m.num, vm, vt] 87) = W0 := ⟨_, rfl⟩
  have hs0 : W0.heap.size = w.heap.size + 1 := by rw [← hW0]; simp
  rw [hW0] at HCs hB
  have HB0 := Lib.hid hB
  have HS := Lib.hid hs0
  obtain ⟨y0, y1, y2, y3, y4, y5, y6, y7⟩ := HCs.out W0 (by rw [← hs0]; exact Below.refl _ _)
  clear hB hcs h
  cases ho : m.ok with
  | false =>
    rw [ho] at HR
    rw [if_neg (by simp)]
    clear HRow HP ho
    go_enter Tryz.func63, Tryz.ntmps63
    go_wp2_with fail
    refine (HR.out _ HB0.out).mono ?_
    rintro e w1 ⟨rfl, b1⟩
    have HB := Lib.hid (HB0.out.trans (b1.mono (by have := HS.out; omega)))
    clear b1
    go_wp2
    go_ret2
    exact ⟨rfl, HB.out⟩
  | true =>
    rw [ho] at HR
    rw [if_pos rfl]
    have HRow' := Lib.hid (HRow.out ho)
    have HP' := Lib.hid (HP.out ho)
    obtain ⟨⟨r1, r2⟩, hr⟩ : ∃ r, Tm.putRow m.row = r := ⟨_, rfl⟩
    rw [hr] at HP' ⊢
    clear HRow HP ho hr
    go_enter Tryz.func63, Tryz.ntmps63
    go_wp2_with fail
    refine (HR.out _ HB0.out).mono ?_
    rintro e w1 ⟨rfl, b1⟩
    have HB := Lib.hid (HB0.out.trans (b1.mono (by have := HS.out; omega)))
    obtain ⟨z0, z1, z2, z3, z4, z5, z6, z7⟩ := HCs.out w1 (by rw [← HS.out]; exact b1)
    clear b1
    go_wp2_with fail
    refine (HRow'.out _ HB.out).mono ?_
    rintro e w2 hro
    obtain ⟨v, rfl, _, b2⟩ := id hro
    have HB2 := Lib.hid (HB.out.trans (b2.mono HB.out.size))
    have HPP := Lib.hid (HP'.out _ _ _ hro)
    clear b2 hro
    go_wp2_with fail
    refine HPP.out.mono ?_
    rintro e w3 ⟨rfl, b3⟩
    have HB3 := Lib.hid (HB2.out.trans (b3.mono HB2.out.size))
    clear b3
    go_wp2
    go_ret2
    exact ⟨rfl, HB3.out⟩
end Go.Proofs.YtiodphkmllcjdaaGreat
end
