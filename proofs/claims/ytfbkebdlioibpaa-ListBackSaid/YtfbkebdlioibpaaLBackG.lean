/- The law ListBack: for all steps, messages and texts it returns true. The statement ListBack: for every input the law returns true, and its arguments read as they did. -/
import Derived.Test.YtfbkebdlioibpaaMsgG
import Derived.Test.YtfbkebdlioibpaaAsG
import Derived.Test.YtfbkebdlioibpaaMsgR
import Derived.Test.YtfbkebdlioibpaaLShown
import Derived.Test.YtfbkebdlioibpaaHelpK4
import Derived.Deep.Cut
import Derived.Deep.RegionHeld3
import Derived.Test.YtfbkebdlioibpaaOpenK4
import Derived.Test.YtfbkebdlioibpaaOpenM
section
namespace Go.Proofs.Ytfbkebdlioibpaa.L4
open Go.ChangeShapes Go.WideShapes Go.ChangeAt Go.RowKit

theorem own_rowA {W : World} {B : Nat} {v : Value} {zs : List (List UInt8)} (h : W.ownsRow B 9 1 v zs.length (strs zs)) (hs : ∀ z ∈ zs, z.length ≤ maxLen) (hf : zs.length ≤ maxLen) : RowA W v zs := by
  rcases h.2 with ⟨rfl, h0⟩ | ⟨g, cap, cur, rfl, h1, h2, h3, h4, h5, h6⟩
  · obtain rfl : zs = [] := List.length_eq_zero_iff.1 h0
    exact ⟨⟨none, 0, rfl, fun j x hx => by simp at hx⟩, hs, hf⟩
  · refine ⟨⟨_, cap, rfl, fun j x hx => ⟨⟨g, 0, none⟩, rfl, (Array.getElem?_eq_some_iff.1 h2).1, id, ?_⟩⟩, hs, hf⟩
    exact h.cells (g := g) rfl j _ (by unfold strs; rw [List.getElem?_map, hx]; rfl)
/-- What a call of a Go function with a body comes to. -/
theorem run_call {P : Program} {w : World} {a : Act} {f : FuncId} {fn : Func} {c : Code} (hf : P.funcs[f]? = some fn) (hb : fn.body = some c) (hn : ¬ fn.name = "runtime.NumGoroutine") {xs : Array Operand} {ts : Array TypeId} {o : Oper} (ho : o.op = .call { callee := .value (.func f), args := xs, argTypes := ts }) : (execOp a.eval o).run P w = .ok (.enter f (xs.map a.eval)) w := by
  unfold execOp
  simp only [ho]
  simp [resolve, invoke, Act.eval, Deferred.ofValue]
  simp [callFunc, go_sem, hf, hb, hn]
/-- A call of a Go function by its contract, at a step of a drawn region whose guard stands. -/
theorem step_call_wanted {P : Program} {w : World} {ops : Array Oper} {o : Oper} {a : Act} {K : Act → World → Prop} {Q : Exit → Act → World → Prop} {E : Prop} (hw : Region.wanted o (yielded ops a.tmps) = true) {f : FuncId} {fn : Func} {c : Code} (hf : P.funcs[f]? = some fn) (hb : fn.body = some c) (hn : ¬ fn.name = "runtime.NumGoroutine") {xs : Array Operand} {ts : Array TypeId} (ho : o.op = .call { callee := .value (.func f), args := xs, argTypes := ts }) (args : Array Value) (hargs : xs.map a.eval = args)
    (Post : Ending → World → Prop) (hc : Calls P f args w Post) (h : ∀ e w'', Post e w'' → ∃ v, e = .returned v ∧ K (a.put o.dst v) w'') :
    if Region.wanted o (yielded ops a.tmps) = true then Oper.wp P o a w K Q else E := by
  rw [if_pos hw]
  unfold Oper.wp
  rw [run_call hf hb hn ho, hargs, Oper.upon_enter]
  refine hc.mono fun e w'' hh => ?_
  obtain ⟨v, rfl, hk⟩ := h e w'' hh
  exact hk
def BackGo (w : World) (n k : Nat) (v : Value) (wr : World) : Prop := ∃ i : Nat, k + i = n ∧ v = .int .i64 i ∧ Below w.heap.size w wr

set_option maxRecDepth 100000 in
set_option maxHeartbeats 8000000 in
theorem back_all (A0 : Option Addr) (n0 c0 : Nat) (m : Msg) (vm vt : Value) (s : ByteArray) (w : World) (hS : Steps w A0 n0) (hnc : n0 ≤ maxLen) (h : MsgA w m vm vt) (hs : s.size ≤ maxLen) :
    Calls Try.prog 5 #[.slice A0 n0 c0, .agg (msgCells m vm vt), .string s] w (One w (.bool true)) := by
  obtain ⟨A5, c5, rfl⟩ : ∃ A c, vm = .slice A m.mem.length c := by obtain ⟨⟨A, c, e, k⟩, f⟩ := h.mem; exact ⟨A, c, e⟩
  obtain ⟨A6, c6, rfl⟩ : ∃ A c, vt = .slice A m.terms.length c := by obtain ⟨⟨A, c, e, k⟩, f⟩ := h.terms; exact ⟨A, c, e⟩
  have HSh := Lib.hid shown_calls
  have HSa := Lib.hid (fun (V : World) (hV : Below w.heap.size w V) => short_calls m _ _ V (h.below hV))
  have HMd := Lib.hid (fun (V : World) (hV : Below w.heap.size w V) => made_calls A0 n0 c0 V (steps_below hS hV) hnc)
  have HMem := Lib.hid h.mem
  have HSs := Lib.hid hs
  have hbx := boxed_new w m (.slice A5 m.mem.length c5) (.slice A6 m.terms.length c6) 44
  unfold msgCells at hbx HSa ⊢
  obtain ⟨W0, hW0⟩ : ∃ W0, w.alloc (.cells #[.int .i64 m.kind, .int .i64 m.e1, .int .i64 m.c1, .int .i64 m.e2, .int .i64 m.c2, .int .i64 m.num, .slice A5 m.mem.length c5, .slice A6 m.terms.length c6] 44) = W0 := ⟨_, rfl⟩
  have hblk : W0.heap[w.heap.size]? = some (.cells #[.int .i64 m.kind, .int .i64 m.e1, .int .i64 m.c1, .int .i64 m.e2, .int .i64 m.c2, .int .i64 m.num, .slice A5 m.mem.length c5, .slice A6 m.terms.length c6] 44 (0, 0)) := by rw [← hW0]; exact heap_alloc_new _ _
  have hs0 : W0.heap.size = w.heap.size + 1 := by rw [← hW0]; simp
  have hB0 : Below w.heap.size w W0 := by rw [← hW0]; exact (Below.refl _ w).alloc (Nat.le_refl _) _
  rw [hW0] at hbx
  have HTwo : Hid (∀ V, Below W0.heap.size W0 V → Boxed V w.heap.size m (.slice A5 m.mem.length c5) (.slice A6 m.terms.length c6)) := fun V hV => hbx.below hV (by omega)
  have HW : Hid (∀ V, Below W0.heap.size W0 V → Below w.heap.size w V) := fun V hV => hB0.trans (hV.mono (by omega))
  have HBlk := Lib.hid (And.intro hblk hs0)
  clear h hbx hB0 hS hnc hs hblk hs0
  go_enter Try.func5, Try.ntmps5
  go_wp2_with fail
  refine (HSh.out _).mono ?_
  rintro e u1 ⟨rfl, b1⟩
  have HB1 := Lib.hid b1
  obtain ⟨y0, y1, y2, y3, y4, y5, y6, y7⟩ := HTwo.out u1 b1
  clear b1
  go_wp2_with fail
  refine (HSa.out _ (HW.out _ HB1.out)).mono ?_
  rintro e u2 ⟨s1, rfl, hs1, b2⟩
  have HB2 := Lib.hid (HB1.out.trans (b2.mono HB1.out.size))
  have HF2 := Lib.hid (HW.out _ HB2.out)
  have HShort := Lib.hid hs1
  clear b2 y0 y1 y2 y3 y4 y5 y6 y7 HB1 hs1
  cases s1 with
  | false =>
    go_wp2
    go_ret
    exact ⟨rfl, HF2.out⟩
  | true =>
  by_cases hsl : 3000 < s.size
  · have j1 : (3000 : Int) < (s.size : Int) := by omega
    go_wp2
    go_ret
    exact ⟨rfl, HF2.out⟩
  have j1 : ¬ (3000 : Int) < (s.size : Int) := by omega
  have HLen := Lib.hid (HShort.out rfl)
  clear HShort
  go_wp2_with fail
  refine (HMd.out _ HF2.out).mono ?_
  rintro e u3 ⟨g, cap, ts, rfl, hrow, hlen, hgood, b3⟩
  have HB3 := Lib.hid (HB2.out.trans (b3.mono HB2.out.size))
  have h42 : ts.length ≤ 42 := by omega
  have hU3 : RowA u3 (.slice (some ⟨g, 0, none⟩) ts.length cap) ts := rowA_own hrow (fun z hz => good_short (hgood z hz) (by omega)) (by unfold maxLen; omega)
  have hTx := texts_of_row hrow
  have hgl := lt_of_row hrow
  have hglo : u2.heap.size ≤ g := (hrow.lt g rfl).1
  obtain ⟨t, e, hpt⟩ : ∃ t e, Tm.putRow ts = (t, e) := ⟨_, _, rfl⟩
  have HPut := Lib.hid (lput_calls ts _ u3 hU3)
  rw [hpt] at HPut
  have HRow := Lib.hid (And.intro hU3 (And.intro hTx (And.intro hgl (And.intro hglo hgood))))
  have HPt := Lib.hid hpt
  have hI42 : (ts.length : Int) ≤ 42 := by omega
  have HTs := Lib.hid (show 2 ≤ ts.length by omega)
  have HB2s : Hid (w.heap.size + 1 ≤ u2.heap.size) := by have h1 := HB2.out.size; have h2 := HBlk.out.2; show _ ≤ _; omega
  clear hrow hlen hgood b3 hU3 hTx hgl hglo hpt HB2 HMd HSa HSh HF2
  go_wp2_with fail
  refine HPut.out.mono ?_
  rintro e' u4 ⟨rfl, b4⟩
  have HXX0 := Lib.hid b4
  clear b4 HPut
  go_upto_if 46 with (fail)
  go_cut [] from 23 (fun wc => Below u3.heap.size u3 wc)
  case rest =>
    obtain ⟨XX, rfl⟩ : ∃ z, z = wc := ⟨wc, rfl⟩
    have HXX : Hid (Below u3.heap.size u3 XX) := hcut
    clear hcut HXX0
    have hB34 : Below u3.heap.size u3 XX := HXX.out
    obtain ⟨hU3, hTx, hgl, hglo, hgood⟩ := HRow.out
    obtain ⟨hblk, hs0⟩ := HBlk.out
    have hBX : Below W0.heap.size W0 XX := HB3.out.trans (hB34.mono HB3.out.size)
    obtain ⟨y0, y1, y2, y3, y4, y5, y6, y7⟩ := HTwo.out XX hBX
    have hblkX : XX.heap[w.heap.size]? = some (.cells #[.int .i64 m.kind, .int .i64 m.e1, .int .i64 m.c1, .int .i64 m.e2, .int .i64 m.c2, .int .i64 m.num, .slice A5 m.mem.length c5, .slice A6 m.terms.length c6] 44 (0, 0)) := (hBX.block _ (by omega)).trans hblk
    have f7 : XX.frozen? ⟨w.heap.size, 7, none⟩ = false := blk_frozen hblkX
    obtain ⟨X1, hX1⟩ : ∃ X1, XX.setCell ⟨w.heap.size, 7, none⟩ (.slice (some ⟨g, 0, none⟩) ts.length cap) = X1 := ⟨_, rfl⟩
    have hblk1 : X1.heap[w.heap.size]? = some (.cells #[.int .i64 m.kind, .int .i64 m.e1, .int .i64 m.c1, .int .i64 m.e2, .int .i64 m.c2, .int .i64 m.num, .slice A5 m.mem.length c5, .slice (some ⟨g, 0, none⟩) ts.length cap] 44 (0, 0)) := by rw [← hX1]; exact set_blk hblkX _
    have hne1 : ∀ q, q ≠ w.heap.size → X1.heap[q]? = XX.heap[q]? := fun q hq => by rw [← hX1]; exact Below.heap_setCell _ _ _ _ (by simpa using hq)
    have hsz1 : X1.heap.size = XX.heap.size := by rw [← hX1]; simp [World.setCell]
    have hBw1 : Below w.heap.size w X1 := by rw [← hX1]; exact (HW.out XX hBX).setCell (by simp) _
    have hgX : g < X1.heap.size := by have := hB34.size; omega
    have hgne : g ≠ w.heap.size := by have := HB2s.out; omega
    have hTx1 : Texts X1 g ts := fun j z hz => (World.cell?_of_block (a := ⟨g, j, none⟩) (hne1 g hgne)).trans ((hB34.cell (p := ⟨g, j, none⟩) hgl).trans (hTx j z hz))
    have hRA : RowA X1 (.slice (some ⟨g, 0, none⟩) ts.length cap) ts := rowA_texts rfl hgX hTx1 (fun z hz => good_short (hgood z hz) (by omega)) (by unfold maxLen; omega)
    have hM1 : MsgA X1 { m with terms := ts } (.slice A5 m.mem.length c5) (.slice (some ⟨g, 0, none⟩) ts.length cap) := ⟨HMem.out.below hBw1, hRA⟩
    have HM1 := Lib.hid hM1
    have HBw1 := Lib.hid hBw1
    have HBlk1 := Lib.hid hblk1
    have HPk : Hid (∀ V, Below X1.heap.size X1 V → Calls Try.prog 27 #[.agg #[.int .i64 m.kind, .int .i64 m.e1, .int .i64 m.c1, .int .i64 m.e2, .int .i64 m.c2, .int .i64 m.num, .slice A5 m.mem.length c5, .slice (some ⟨g, 0, none⟩) ts.length cap]] V (Pair2 V (Msg.pack { m with terms := ts }))) := fun V hV => lpack_calls { m with terms := ts } _ _ V (hM1.below hV) (fun n c e => by cases e)
    have HBx1 : Hid (∀ V, Below X1.heap.size X1 V → Boxed V w.heap.size { m with terms := ts } (.slice A5 m.mem.length c5) (.slice (some ⟨g, 0, none⟩) ts.length cap)) := fun V hV => by
      have hb : V.heap[w.heap.size]? = X1.heap[w.heap.size]? := hV.block _ (Array.getElem?_eq_some_iff.1 hblk1).1
      have hb2 := hb.trans hblk1
      exact ⟨blk_cell hb2, blk_cell hb2, blk_cell hb2, blk_cell hb2, blk_cell hb2, blk_cell hb2, blk_cell hb2, blk_cell hb2⟩
    obtain ⟨x0, x1, x2, x3, x4, x5, x6, x7⟩ := HBx1.out X1 (Below.refl _ _)
    obtain ⟨⟨pu, pe⟩, hpk⟩ : ∃ r, Msg.pack { m with terms := ts } = r := ⟨_, rfl⟩
    rw [hpk] at HPk
    have HPkE := Lib.hid hpk
    clear hB34 hU3 hTx hgl hglo hgood hblk hs0 hBX hblkX hblk1 hne1 hsz1 hBw1 hgX hgne hTx1 hRA hM1 HXX hpk HB3 HTwo HW HBlk HRow HPt
    go_wp2_with fail
    refine (HPk.out _ (Below.refl _ _)).mono ?_
    rintro e u6 ⟨rfl, b6⟩
    have HB6 := Lib.hid b6
    have HBw6 := Lib.hid (HBw1.out.trans (b6.mono HBw1.out.size))
    clear b6 x0 x1 x2 x3 x4 x5 x6 x7 y0 y1 y2 y3 y4 y5 y6 y7 f7 hX1 hW0
    go_upto_if 84 with (fail)
    go_cut [] from 23 (fun wc => Below w.heap.size w wc)
    case rest =>
      obtain ⟨UU, rfl⟩ : ∃ z, z = wc := ⟨wc, rfl⟩
      have HBU : Hid (Below w.heap.size w UU) := hcut
      clear hcut HPk HBx1 HM1 HMem HB6 HBw6 HPkE HBw1 HBlk1
      have HUp := Lib.hid (unpack_calls s HSs.out UU)
      go_wp2_with fail
      refine HUp.out.mono ?_
      rintro e v1 (⟨m2, vm2, vt2, hsay2, rfl, hMA2, hnl2, c1⟩ | ⟨rfl, _, c1⟩)
      · have hp2 : m2.pack = (s.data.toList, 0) := says_pack hsay2
        have hok2 : m2.ok = true := (Msg.pack_ok hp2).1
        have hbc := boxed_new v1 m2 vm2 vt2 44
        obtain ⟨E5, e5, rfl⟩ : ∃ A c, vm2 = .slice A m2.mem.length c := by obtain ⟨⟨A, c, e, k⟩, f⟩ := hMA2.mem; exact ⟨A, c, e⟩
        obtain ⟨E6, e6, rfl⟩ : ∃ A c, vt2 = .slice A m2.terms.length c := by obtain ⟨⟨A, c, e, k⟩, f⟩ := hMA2.terms; exact ⟨A, c, e⟩
        unfold msgCells at hbc
        simp only [msgCells]
        obtain ⟨W9, hW9⟩ : ∃ W9, v1.alloc (.cells #[.int .i64 m2.kind, .int .i64 m2.e1, .int .i64 m2.c1, .int .i64 m2.e2, .int .i64 m2.c2, .int .i64 m2.num, .slice E5 m2.mem.length e5, .slice E6 m2.terms.length e6] 44) = W9 := ⟨_, rfl⟩
        have hB9 : Below v1.heap.size v1 W9 := by rw [← hW9]; exact (Below.refl _ v1).alloc (Nat.le_refl _) _
        have hs9 : W9.heap.size = v1.heap.size + 1 := by rw [← hW9]; simp
        rw [hW9] at hbc
        have HPk2 : Hid (Calls Try.prog 27 #[.agg #[.int .i64 m2.kind, .int .i64 m2.e1, .int .i64 m2.c1, .int .i64 m2.e2, .int .i64 m2.c2, .int .i64 m2.num, .slice E5 m2.mem.length e5, .slice E6 m2.terms.length e6]] W9 fun e w' => e = .returned (.tuple #[.string s, .int .i64 0]) ∧ Below W9.heap.size W9 w') := by
          refine (lpack_calls m2 _ _ W9 (hMA2.below hB9) hnl2).mono ?_
          rintro e w' ⟨rfl, h2⟩
          rw [hp2]
          exact ⟨by cases s; simp, h2⟩
        have HRt : Hid (∀ V, Below W9.heap.size W9 V → Calls Try.prog 31 #[.agg #[.int .i64 m2.kind, .int .i64 m2.e1, .int .i64 m2.c1, .int .i64 m2.e2, .int .i64 m2.c2, .int .i64 m2.num, .slice E5 m2.mem.length e5, .slice E6 m2.terms.length e6]] V (One V (.bool true))) := fun V hV => by
          have := lright_calls m2 _ _ V ((hMA2.below hB9).below hV)
          rwa [hok2] at this
        have HBx9 : Hid (∀ V, Below W9.heap.size W9 V → Boxed V v1.heap.size m2 (.slice E5 m2.mem.length e5) (.slice E6 m2.terms.length e6)) := fun V hV => hbc.below hV (by omega)
        have HU9 := Lib.hid (HBU.out.trans ((c1.trans (hB9.mono c1.size)).mono HBU.out.size))
        obtain ⟨z0, z1, z2, z3, z4, z5, z6, z7⟩ := HBx9.out W9 (Below.refl _ _)
        clear hsay2 hMA2 hnl2 c1 hp2 hok2 hbc hB9 hs9 HUp HBU
        go_wp2_with fail
        refine HPk2.out.mono ?_
        rintro e v2 ⟨rfl, c2⟩
        clear z0 z1 z2 z3 z4 z5 z6 z7
        obtain ⟨z0, z1, z2, z3, z4, z5, z6, z7⟩ := HBx9.out v2 c2
        have HR2 := Lib.hid (HRt.out v2 c2)
        have HU10 := Lib.hid (HU9.out.trans (c2.mono HU9.out.size))
        clear c2 HRt HBx9 HPk2
        go_wp2_with fail
        refine HR2.out.mono ?_
        rintro e v3 ⟨rfl, c3⟩
        have HU11 := Lib.hid (HU10.out.trans (c3.mono HU10.out.size))
        clear c3
        go_wp2
        go_ret
        exact ⟨rfl, HU11.out⟩
      · simp only [zeroMsg]
        have HU9 : Hid (∀ o, Below w.heap.size w (v1.alloc o)) := fun o => (HBU.out.trans (c1.mono HBU.out.size)).alloc (HBU.out.trans (c1.mono HBU.out.size)).size _
        clear c1 HUp HBU
        go_wp2
        go_ret
        exact ⟨rfl, HU9.out _⟩
    case first =>
      by_cases hpe : pe = 0
      · subst hpe
        have hsay := Msg.pack_says HPkE.out
        have hpl : pu.length ≤ maxLen := by
          obtain ⟨_, h1⟩ := Msg.pack_ok HPkE.out
          have h2 := Tm.putRow_ok h1
          rw [h2.1]
          unfold maxLen
          omega
        have HUn := Lib.hid (unpack_calls ⟨pu.toArray⟩ (by rw [size_list]; exact hpl) u6)
        have HSay := Lib.hid hsay
        clear hsay hpl
        go_wp2_with fail
        refine HUn.out.mono ?_
        rintro e u7 (⟨m', vm', vt', hsay', rfl, hMA', _, b7⟩ | ⟨rfl, hno, _⟩)
        case inr => exact absurd ⟨_, HSay.out⟩ hno
        obtain rfl : m' = { m with terms := ts } := says_one hsay' HSay.out
        obtain ⟨D5, d5, rfl⟩ : ∃ A c, vm' = .slice A m.mem.length c := by obtain ⟨⟨A, c, e, k⟩, f⟩ := hMA'.mem; exact ⟨A, c, e⟩
        obtain ⟨D6, d6, rfl⟩ : ∃ A c, vt' = .slice A ts.length c := by obtain ⟨⟨A, c, e, k⟩, f⟩ := hMA'.terms; exact ⟨A, c, e⟩
        have hbc := boxed_new u7 { m with terms := ts } (.slice D5 m.mem.length d5) (.slice D6 ts.length d6) 44
        unfold msgCells at hbc
        simp only [msgCells]
        obtain ⟨W8, hW8⟩ : ∃ W8, u7.alloc (.cells #[.int .i64 m.kind, .int .i64 m.e1, .int .i64 m.c1, .int .i64 m.e2, .int .i64 m.c2, .int .i64 m.num, .slice D5 m.mem.length d5, .slice D6 ts.length d6] 44) = W8 := ⟨_, rfl⟩
        have hB8 : Below u7.heap.size u7 W8 := by rw [← hW8]; exact (Below.refl _ u7).alloc (Nat.le_refl _) _
        have hs8 : W8.heap.size = u7.heap.size + 1 := by rw [← hW8]; simp
        have hbc8 : Boxed W8 u7.heap.size { m with terms := ts } (.slice D5 m.mem.length d5) (.slice D6 ts.length d6) := by rw [← hW8]; exact hbc
        have hB68 : Below u6.heap.size u6 W8 := b7.trans (hB8.mono b7.size)
        have hB18 : Below X1.heap.size X1 W8 := HB6.out.trans (hB68.mono HB6.out.size)
        have hd8 : Below W8.heap.size W8 W8.drew := ⟨rfl, rfl, rfl, Nat.le_refl _, fun _ _ => rfl⟩
        have hM8 := (hMA'.below hB8)
        have HCs : Hid (∀ V, Below W8.heap.size W8 V → V.cell? ⟨w.heap.size, 0, none⟩ = some (.int .i64 m.kind) ∧ V.cell? ⟨w.heap.size, 1, none⟩ = some (.int .i64 m.e1) ∧ V.cell? ⟨w.heap.size, 2, none⟩ = some (.int .i64 m.c1) ∧ V.cell? ⟨w.heap.size, 3, none⟩ = some (.int .i64 m.e2) ∧ V.cell? ⟨w.heap.size, 4, none⟩ = some (.int .i64 m.c2) ∧ V.cell? ⟨w.heap.size, 5, none⟩ = some (.int .i64 m.num) ∧ V.cell? ⟨w.heap.size, 6, none⟩ = some (.slice A5 m.mem.length c5) ∧ V.cell? ⟨w.heap.size, 7, none⟩ = some (.slice (some ⟨g, 0, none⟩) ts.length cap) ∧ V.cell? ⟨u7.heap.size, 0, none⟩ = some (.int .i64 m.kind) ∧ V.cell? ⟨u7.heap.size, 1, none⟩ = some (.int .i64 m.e1) ∧ V.cell? ⟨u7.heap.size, 2, none⟩ = some (.int .i64 m.c1) ∧ V.cell? ⟨u7.heap.size, 3, none⟩ = some (.int .i64 m.e2) ∧ V.cell? ⟨u7.heap.size, 4, none⟩ = some (.int .i64 m.c2) ∧ V.cell? ⟨u7.heap.size, 5, none⟩ = some (.int .i64 m.num) ∧ V.cell? ⟨u7.heap.size, 6, none⟩ = some (.slice D5 m.mem.length d5) ∧ V.cell? ⟨u7.heap.size, 7, none⟩ = some (.slice D6 ts.length d6)) := fun V hV => by
          obtain ⟨p0, p1, p2, p3, p4, p5, p6, p7⟩ := HBx1.out V (hB18.trans (hV.mono hB18.size))
          obtain ⟨q0, q1, q2, q3, q4, q5, q6, q7⟩ := hbc8.below hV (by omega)
          exact ⟨p0, p1, p2, p3, p4, p5, p6, p7, q0, q1, q2, q3, q4, q5, q6, q7⟩
        have hts : ts.length < 200 := by omega
        have hsmt : ∀ z ∈ ts, z.length ≤ maxLen := HM1.out.terms.short
        have HAs2 : Hid (Calls Try.prog 26 #[.agg #[.int .i64 m.kind, .int .i64 m.e1, .int .i64 m.c1, .int .i64 m.e2, .int .i64 m.c2, .int .i64 m.num, .slice A5 m.mem.length c5, .slice (some ⟨g, 0, none⟩) ts.length cap]] W8.drew (fun e w' => ∃ v, e = .returned (.agg #[.int .i64 m.kind, .int .i64 m.e1, .int .i64 m.c1, .int .i64 m.e2, .int .i64 m.c2, .int .i64 m.num, .slice A5 m.mem.length c5, v]) ∧ (w'.cell? ⟨w.heap.size, 0, none⟩ = some (.int .i64 m.kind) ∧ w'.cell? ⟨w.heap.size, 1, none⟩ = some (.int .i64 m.e1) ∧ w'.cell? ⟨w.heap.size, 2, none⟩ = some (.int .i64 m.c1) ∧ w'.cell? ⟨w.heap.size, 3, none⟩ = some (.int .i64 m.e2) ∧ w'.cell? ⟨w.heap.size, 4, none⟩ = some (.int .i64 m.c2) ∧ w'.cell? ⟨w.heap.size, 5, none⟩ = some (.int .i64 m.num) ∧ w'.cell? ⟨w.heap.size, 6, none⟩ = some (.slice A5 m.mem.length c5) ∧ w'.cell? ⟨w.heap.size, 7, none⟩ = some (.slice (some ⟨g, 0, none⟩) ts.length cap) ∧ w'.cell? ⟨u7.heap.size, 0, none⟩ = some (.int .i64 m.kind) ∧ w'.cell? ⟨u7.heap.size, 1, none⟩ = some (.int .i64 m.e1) ∧ w'.cell? ⟨u7.heap.size, 2, none⟩ = some (.int .i64 m.c1) ∧ w'.cell? ⟨u7.heap.size, 3, none⟩ = some (.int .i64 m.e2) ∧ w'.cell? ⟨u7.heap.size, 4, none⟩ = some (.int .i64 m.c2) ∧ w'.cell? ⟨u7.heap.size, 5, none⟩ = some (.int .i64 m.num) ∧ w'.cell? ⟨u7.heap.size, 6, none⟩ = some (.slice D5 m.mem.length d5) ∧ w'.cell? ⟨u7.heap.size, 7, none⟩ = some (.slice D6 ts.length d6)) ∧ Hid (Below W8.heap.size W8 w' ∧ w'.ownsRow W8.drew.heap.size 9 1 v ts.length (strs ts)))) := by
          refine (asMsg_calls { m with terms := ts } _ _ W8.drew ((HM1.out.below hB18).below hd8) hts).mono ?_
          rintro e w' ⟨v, rfl, hown, hb'⟩
          have hw' : Below W8.heap.size W8 w' := hd8.trans (hb'.mono hd8.size)
          exact ⟨v, rfl, HCs.out w' hw', hw', hown⟩
        have HSm2 : Hid (∀ (V : World) (v : Value), Hid (Below W8.heap.size W8 V ∧ V.ownsRow W8.drew.heap.size 9 1 v ts.length (strs ts)) → Calls Try.prog 33 #[.agg #[.int .i64 m.kind, .int .i64 m.e1, .int .i64 m.c1, .int .i64 m.e2, .int .i64 m.c2, .int .i64 m.num, .slice D5 m.mem.length d5, .slice D6 ts.length d6], .agg #[.int .i64 m.kind, .int .i64 m.e1, .int .i64 m.c1, .int .i64 m.e2, .int .i64 m.c2, .int .i64 m.num, .slice A5 m.mem.length c5, v]] V (fun e w' => e = .returned (.bool true) ∧ (w'.cell? ⟨w.heap.size, 0, none⟩ = some (.int .i64 m.kind) ∧ w'.cell? ⟨w.heap.size, 1, none⟩ = some (.int .i64 m.e1) ∧ w'.cell? ⟨w.heap.size, 2, none⟩ = some (.int .i64 m.c1) ∧ w'.cell? ⟨w.heap.size, 3, none⟩ = some (.int .i64 m.e2) ∧ w'.cell? ⟨w.heap.size, 4, none⟩ = some (.int .i64 m.c2) ∧ w'.cell? ⟨w.heap.size, 5, none⟩ = some (.int .i64 m.num) ∧ w'.cell? ⟨w.heap.size, 6, none⟩ = some (.slice A5 m.mem.length c5) ∧ w'.cell? ⟨w.heap.size, 7, none⟩ = some (.slice (some ⟨g, 0, none⟩) ts.length cap) ∧ w'.cell? ⟨u7.heap.size, 0, none⟩ = some (.int .i64 m.kind) ∧ w'.cell? ⟨u7.heap.size, 1, none⟩ = some (.int .i64 m.e1) ∧ w'.cell? ⟨u7.heap.size, 2, none⟩ = some (.int .i64 m.c1) ∧ w'.cell? ⟨u7.heap.size, 3, none⟩ = some (.int .i64 m.e2) ∧ w'.cell? ⟨u7.heap.size, 4, none⟩ = some (.int .i64 m.c2) ∧ w'.cell? ⟨u7.heap.size, 5, none⟩ = some (.int .i64 m.num) ∧ w'.cell? ⟨u7.heap.size, 6, none⟩ = some (.slice D5 m.mem.length d5) ∧ w'.cell? ⟨u7.heap.size, 7, none⟩ = some (.slice D6 ts.length d6)) ∧ Hid (Below W8.heap.size W8 w'))) := by
          intro V v hv
          obtain ⟨h1, h2⟩ := hv.out
          refine (sameMsg_calls { m with terms := ts } { m with terms := ts } _ _ _ v V (hM8.below h1) ⟨(HM1.out.mem.below (hB18.trans (h1.mono hB18.size))), own_rowA h2 hsmt (show ts.length ≤ maxLen by unfold maxLen; omega)⟩).mono ?_
          rintro e w' ⟨r, rfl, hr, hb'⟩
          have hw' := h1.trans (hb'.mono h1.size)
          obtain rfl : r = true := hr.2 rfl
          exact ⟨rfl, HCs.out w' hw', hw'⟩
        have HB8 : Hid (∀ V, Below W8.heap.size W8 V → Below w.heap.size w V) := fun V hV => (HBw6.out.trans (hB68.mono HBw6.out.size)).trans (hV.mono (by have := HBw6.out.size; have := hB68.size; omega))
        clear hbc hbc8 hsay' hMA' b7 hB8 hs8 hB68 hB18 hd8 hM8 hts hsmt HUn HSay HPk HBx1 HM1 HMem
        go_upto_region 20 with (fail)
        obtain ⟨p0, p1, p2, p3, p4, p5, p6, p7, q0, q1, q2, q3, q4, q5, q6, q7⟩ := HCs.out W8 (Below.refl _ _)
        clear HCs hW8
        go_region_held3 (fun w' => w'.cell? ⟨w.heap.size, 0, none⟩ = some (.int .i64 m.kind) ∧ w'.cell? ⟨w.heap.size, 1, none⟩ = some (.int .i64 m.e1) ∧ w'.cell? ⟨w.heap.size, 2, none⟩ = some (.int .i64 m.c1) ∧ w'.cell? ⟨w.heap.size, 3, none⟩ = some (.int .i64 m.e2) ∧ w'.cell? ⟨w.heap.size, 4, none⟩ = some (.int .i64 m.c2) ∧ w'.cell? ⟨w.heap.size, 5, none⟩ = some (.int .i64 m.num) ∧ w'.cell? ⟨w.heap.size, 6, none⟩ = some (.slice A5 m.mem.length c5) ∧ w'.cell? ⟨w.heap.size, 7, none⟩ = some (.slice (some ⟨g, 0, none⟩) ts.length cap) ∧ w'.cell? ⟨u7.heap.size, 0, none⟩ = some (.int .i64 m.kind) ∧ w'.cell? ⟨u7.heap.size, 1, none⟩ = some (.int .i64 m.e1) ∧ w'.cell? ⟨u7.heap.size, 2, none⟩ = some (.int .i64 m.c1) ∧ w'.cell? ⟨u7.heap.size, 3, none⟩ = some (.int .i64 m.e2) ∧ w'.cell? ⟨u7.heap.size, 4, none⟩ = some (.int .i64 m.c2) ∧ w'.cell? ⟨u7.heap.size, 5, none⟩ = some (.int .i64 m.num) ∧ w'.cell? ⟨u7.heap.size, 6, none⟩ = some (.slice D5 m.mem.length d5) ∧ w'.cell? ⟨u7.heap.size, 7, none⟩ = some (.slice D6 ts.length d6)) (repeat' (first | assumption | refine And.intro ?_ ?_)) (first
          | (refine step_call_wanted (by rfl) Try.func26 (by rfl) (by decide) rfl #[.agg #[.int .i64 m.kind, .int .i64 m.e1, .int .i64 m.c1, .int .i64 m.e2, .int .i64 m.c2, .int .i64 m.num, .slice A5 m.mem.length c5, .slice (some ⟨g, 0, none⟩) ts.length cap]] (by simp only [List.map_toArray, List.map_cons, List.map_nil]; rfl) _ HAs2.out ?_; rintro e' u8 ⟨v8, rfl, ⟨s0, s1, s2, s3, s4, s5, s6, s7, s8, s9, s10, s11, s12, s13, s14, s15⟩, HO8⟩; refine ⟨_, rfl, ?_⟩)
          | (refine step_call_wanted (by rfl) Try.func33 (by rfl) (by decide) rfl #[.agg #[.int .i64 m.kind, .int .i64 m.e1, .int .i64 m.c1, .int .i64 m.e2, .int .i64 m.c2, .int .i64 m.num, .slice D5 m.mem.length d5, .slice D6 ts.length d6], .agg #[.int .i64 m.kind, .int .i64 m.e1, .int .i64 m.c1, .int .i64 m.e2, .int .i64 m.c2, .int .i64 m.num, .slice A5 m.mem.length c5, v8]] (by simp only [List.map_toArray, List.map_cons, List.map_nil]; rfl) _ (HSm2.out u8 v8 HO8) ?_; rintro e' u9 ⟨rfl, ⟨t0, t1, t2, t3, t4, t5, t6, t7, t8, t9, t10, t11, t12, t13, t14, t15⟩, HO9⟩; refine ⟨_, rfl, ?_⟩))
        have HBU := Lib.hid (HB8.out u9 HO9.out)
        clear s0 s1 s2 s3 s4 s5 s6 s7 s8 s9 s10 s11 s12 s13 s14 s15 t0 t1 t2 t3 t4 t5 t6 t7 t8 t9 t10 t11 t12 t13 t14 t15 p0 p1 p2 p3 p4 p5 p6 p7 q0 q1 q2 q3 q4 q5 q6 q7 HAs2 HSm2 HO8 HO9 HB8
        go_wp2
        go_meet
        case rel => exact HBU.out
      · have g3 : ((pe : Int) == 0) = false := by rw [beq_eq_false_iff_ne]; omega
        have g4 : ¬ (pe : Int) = 0 := by omega
        clear hpe
        go_wp2
        go_meet
        case rel => exact HBw6.out
  case first =>
    by_cases he : e = 0
    · subst he
      have hTk : Tm.takeRow t = (ts, 0) := (Tm.take_put HPt.out).2
      have htl : t.length ≤ 20000 := by have := Tm.putRow_ok HPt.out; rw [this.1]; exact this.2.2.2.1
      have HTake : Hid (∀ V : World, Calls Try.prog 36 #[.string ⟨t.toArray⟩] V (TakeOut V (ts, 0))) := fun V => by
        have := ltake_calls ⟨t.toArray⟩ (by rw [size_list]; unfold maxLen; omega) V
        rw [show (⟨t.toArray⟩ : ByteArray).data.toList = t from rfl, hTk] at this
        exact this
      clear hTk htl
      go_wp2_with fail
      refine (HTake.out _).mono ?_
      rintro e' u5 ⟨v5, rfl, hr5, _, b5⟩
      have hr5' : u5.ownsRow u4.heap.size 28 1 v5 ts.length (strs ts) := hr5
      have h2 : 0 < ts.length := by have := HTs.out; omega
      obtain ⟨g5, c5', ev5⟩ : ∃ g5 c5', v5 = .slice (some ⟨g5, 0, none⟩) ts.length c5' := by
        rcases hr5'.2 with ⟨_, h0⟩ | ⟨g', cap', cur, rfl, _⟩
        · omega
        · exact ⟨g', cap', rfl⟩
      subst ev5
      have hT5 := texts_of_row hr5'
      have hg5 := lt_of_row hr5'
      have HXX5 := Lib.hid (HXX0.out.trans (b5.mono HXX0.out.size))
      have HCell : Hid (∀ j x V, ts[j]? = some x → Below u5.heap.size u5 V → V.cell? ⟨g5, j, none⟩ = some (.string ⟨x.toArray⟩) ∧ V.cell? ⟨g, j, none⟩ = some (.string ⟨x.toArray⟩)) := fun j x V hx hV => by
        obtain ⟨_, hTx, hgl, _, _⟩ := HRow.out
        have h3 := HXX5.out.trans (hV.mono HXX5.out.size)
        exact ⟨(hV.cell (p := ⟨g5, j, none⟩) hg5).trans (hT5 j x hx), (h3.cell (p := ⟨g, j, none⟩) hgl).trans (hTx j x hx)⟩
      clear hr5 hr5' b5 hT5 hg5 h2 HTake
      go_wp2
      go_loopg [14] ts.length (fun k v14 wr => BackGo u5 ts.length k v14 wr)
      case atStart => exact ⟨0, by omega, rfl, Below.refl _ _⟩
      case round =>
        obtain ⟨j, hk, rfl, hB⟩ := hrel
        by_cases hjl : j < ts.length
        · obtain ⟨x, hx⟩ : ∃ x, ts[j]? = some x := ⟨_, List.getElem?_eq_getElem hjl⟩
          obtain ⟨k1, k2⟩ := HCell.out j x wr hx hB
          have hRel : Hid (BackGo u5 ts.length (gk - 1) (.int .i64 ((j + 1 : Nat) : Int)) wr.drew) := ⟨j + 1, by omega, rfl, ⟨hB.os, hB.tape, hB.output, hB.size, hB.block⟩⟩
          have hgk := Lib.hid (show gk - 1 < gk by omega)
          have r1 : (j : Int) < (ts.length : Int) := by omega
          have r2 : (0 : Int) ≤ (j : Int) := by omega
          clear hB hk hx HCell
          go_wp2
          go_region_held3 (fun w' => w'.cell? ⟨g5, j, none⟩ = some (.string ⟨x.toArray⟩) ∧ w'.cell? ⟨g, j, none⟩ = some (.string ⟨x.toArray⟩)) (go_keep) (fail)
          go_wp2
          go_roundg (gk - 1)
          case measure => exact hgk.out
          case rel => simpa using hRel.out
        · have r1 : ¬ ((j : Int) < (ts.length : Int)) := by omega
          obtain ⟨XX, rfl⟩ : ∃ z, z = wr := ⟨wr, rfl⟩
          have HXX : Hid (Below u3.heap.size u3 XX) := HXX5.out.trans (hB.mono HXX5.out.size)
          clear hB hk HCell HXX5
          go_wp2
          go_meet
          case rel => exact HXX.out
    · have g1 : ((e : Int) == 0) = false := by rw [beq_eq_false_iff_ne]; omega
      have g2 : ¬ (e : Int) = 0 := by omega
      clear he
      go_wp2
      go_meet
      case rel => exact HXX0.out

end Go.Proofs.Ytfbkebdlioibpaa.L4
end

section
namespace Go.Proofs.Ytfbkebdlioibpaa
open Go.ChangeShapes Go.WideShapes Go.ChangeAt Go.RowKit

set_option maxRecDepth 100000 in
theorem back4_lifted (os : Os) (started : os.Started) (H : Type) (enc : TypeId × Value → H) :
    ReturnsInHanded {} Try.checked os 5 .any (Rows.listBackSpec.pre6 enc Try.prog Try.f5 Rows.listBackRow.domain false) (Rows.listBackSpec.post enc Try.prog Try.f5 false true false false) := by
  refine returnsInHanded_of_change (C := Try.checked) own started (by kernel_rfl) Try.func5
    (ChangeSpec.witness6 (enc := enc) (C := Try.checked) false ⟨#[], #[.slice none 0 0, .agg #[.int .i64 0, .int .i64 0, .int .i64 0, .int .i64 0, .int .i64 0, .int .i64 0, .slice none 0 0, .slice none 0 0], .string ⟨#[]⟩], []⟩ 8 (by kernel_rfl) (by kernel_rfl) (by kernel_rfl) (by kernel_rfl)) ?_
  intro W base args ds gs before hval0 hW hcnd _
  have hval : ∀ (j : Nat) t v, Try.f5.params[j]? = some t → args[j]? = some v → Value.okWide Try.prog W .any base t v := hval0
  have hW' := hW
  obtain ⟨p, q, hA0, hV, rfl, hfz, hnd⟩ := hW
  have hA : DataW.TrodAll enc Try.prog W 0 (fun _ => true) true Try.f5.params.toList args.toList ds p := hA0
  rw [Try.params5] at hA hval
  obtain ⟨v0, vs0, d0, ds0, p0, q0, hargs, rfl, rfl, h0, r0⟩ := trodAll_cons hA
  obtain ⟨v1, vs1, d1, ds1, p1, q1, rfl, rfl, rfl, h1, r1⟩ := trodAll_cons r0
  obtain ⟨v2, vs2, d2, ds2, p2, q2, rfl, rfl, rfl, h2, r2⟩ := trodAll_cons r1
  obtain ⟨rfl, rfl, rfl⟩ := trodAll_nil r2
  obtain rfl : args = #[v0, v1, v2] := by cases args; simp_all
  obtain ⟨rfl, rfl⟩ := trodVars_none hV
  have h0k := h0
  obtain ⟨A0, n0, c0, rfl, hS0, hn0⟩ := L4.open_steps (hval 0 60 v0 rfl rfl) h0
  have h1k := h1
  obtain ⟨m1, vm1, vt1, rfl, hM1, _⟩ := open_msg (hval 1 44 v1 rfl rfl) h1
  obtain ⟨s2, rfl, rfl, rfl, w2⟩ := Go.ChangeMaps.open_string Try.underlying9 (hval 2 9 v2 rfl rfl) h2
  clear hA0 hval0
  simp only [List.append_nil] at hW'
  have hlt0 : ∀ x ∈ p0, x.block < W.heap.size := fun x hx => by simpa using hW'.lt x (by simp [hx])
  have hlt1 : ∀ x ∈ p1, x.block < W.heap.size := fun x hx => by simpa using hW'.lt x (by simp [hx])
  refine (L4.back_all A0 n0 c0 m1 vm1 vt1 s2 W hS0 hn0 hM1 w2).mono fun e W' ⟨he, hg⟩ => ?_
  subst he
  exact ⟨_, rfl, L4.post_law_at (pv := []) hW' (trodAll_cons_mk (shut_bool Try.underlying4 _) trodAll_mk0) (trodAll_cons_mk (Below.trod L4.laid_out (by kernel_rfl) (of_decide_eq_true (by kernel_rfl)) h0k hg hlt0) (trodAll_cons_mk (Below.trod L4.laid_out (by kernel_rfl) (of_decide_eq_true (by kernel_rfl)) h1k hg hlt1) (trodAll_cons_mk (Go.ChangeMaps.shut_string Try.underlying9 w2) trodAll_mk0))) rfl (by simp) hg⟩

theorem back4_over : Rows.listBackRow.holds Try.pinned (OpenSpec.ofChange Rows.listBackSpec) :=
  OpenClaim.holds_of_wide 5 Try.f5 rfl rfl rfl rfl rfl rfl rfl ⟨rfl, rfl, rfl, rfl, rfl⟩ rfl rfl rfl rfl rfl (by kernel_rfl) Try.func5 (by kernel_rfl)
    (of_decide_eq_true (by kernel_rfl)) (by unfold Func.isWrapper; first | (rw [if_pos (by decide +kernel)]; kernel_rfl) | (rw [if_neg (by decide +kernel)]; exact ⟨rfl, rfl⟩))
    (fun os started H enc _ => back4_lifted os started H enc)

theorem back4_proved : Rows.ListBackSaid := back4_over

end Go.Proofs.Ytfbkebdlioibpaa
end
