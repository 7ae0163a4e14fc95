/- Contract of list.Put: a row as a term, or what is wrong. -/
import Derived.Test.YtckmpbmlneionaaMeasure
import Derived.Test.YtckmpbmlneionaaBehind
import Derived.Lib.BufferWrite
import Derived.Deep.OwnRows
namespace Go.Proofs.Ytckmpbmlneionaa
open Go.ChangeShapes Go.WideShapes Go.ChangeAt Go.RowKit Go.Shelf

attribute [local go_sem] Oper.semAt_some

/-- copy, where its run is known, inside the fenced walk. -/
theorem wpListIn_copied {F : Fence} {n : Nat} {P : Program} {w : World} {ops : Array Oper} {rest : List Oper} {o : Oper} {a : Act} {Q : Exit → Act → World → Prop} (hgd : o.guard = none) (d s : Operand) (t t' : TypeId)
    (ho : o.op = .call { callee := .builtin .copy, args := #[d, s], argTypes := #[t, t'] }) {v u v' : Value} {w' : World} (hd : a.eval d = v) (hs : a.eval s = u)
    (hr : (Builtin.copy_ #[t, t'] o.type #[v, u]).run P w = .ok v' w') (h : wpListIn F n P ops Q rest (a.put o.dst v') w') : wpListIn F n P ops Q (o :: rest) a w := by
  refine wpListIn_plain hgd fun K hK => ?_
  unfold Oper.wpIn
  refine ⟨by simp [Oper.about, ho, resolve, Target.leads, Sem.run_pure], ?_⟩
  rw [Oper.semAt_plain F _ _ (by rw [ho]; intro c hc; cases hc)]
  simp [execOp, ho, resolve, invoke, builtin, hd, hs, hr, Result.andThen]
  exact hK _ _ h

namespace Tm
theorem tailL_mono {ps qs : List (List UInt8)} (h : ps <+: qs) : (tailL ps).length ≤ (tailL qs).length := by
  obtain ⟨t, rfl⟩ := h
  simp [tailL]
theorem tailL_pieces {zs ps : List (List UInt8)} (h : ps <+: pieces (back zs zs.length)) : (tailL ps).length ≤ (rowL zs).length := by
  rw [← tailL_all]; exact tailL_mono h
theorem tailL_some {ps qs : List (List UInt8)} {x : List UInt8} (h : ps ++ [x] <+: num0 :: qs) : 9 ≤ (tailL (ps ++ [x])).length := by
  have h1 : [num0] <+: ps ++ [x] := by
    obtain ⟨t, ht⟩ := h
    cases ps with
    | nil => simp at ht; rw [ht.1]; exact List.prefix_refl _
    | cons a ps => simp at ht; rw [ht.1]; exact ⟨ps ++ [x], rfl⟩
  have := tailL_mono h1
  have e : (tailL [num0]).length = 9 := rfl
  omega
end Tm

theorem byteCells_len (l : List UInt8) : (Lib.byteCells l).length = l.length := by simp [Lib.byteCells]

/-- Between two rounds: the bytes behind at are those that came. -/
def Putting (w : World) (n b6 b7 gb : Nat) (pre : List (List UInt8)) (V : World) : Prop :=
  Boxed V b7 3 (.int .i64 ((n : Int) - (Tm.tailL pre).length)) ∧ Boxed V b6 129 (.slice (some ⟨gb, 0, none⟩) n n) ∧
    (∃ cur, V.heap[gb]? = some (.cells cur 5 (0, 0)) ∧ cur.size = n ∧ cur.toList.drop (n - (Tm.tailL pre).length) = Lib.byteCells (Tm.tailL pre)) ∧ Below w.heap.size w V

set_option maxRecDepth 100000 in
set_option maxHeartbeats 4000000 in
theorem lput_ok (zs : List (List UInt8)) (v : Value) (w : World) (h : RowA w v zs) (hm : Tm.measureL zs = ((Tm.rowL zs).length, 0)) (hn : (Tm.rowL zs).length ≤ 20000) (hl : zs.length ≤ 150) :
    Calls Try.prog 54 #[v] w (Pair2 w (Tm.rowL zs, 0)) := by
  have HM := measure_calls zs v w h
  rw [hm] at HM
  have HMs := Lib.hid HM
  obtain ⟨n, hnn⟩ : ∃ n, (Tm.rowL zs).length = n := ⟨_, rfl⟩
  rw [hnn] at HMs hn
  have h9 : 9 ≤ n := by rw [← hnn]; simp [Tm.rowL, Tm.num0_len]
  have HN := Lib.hid hnn
  have HRow := Lib.hid h
  obtain ⟨A, c, ev⟩ : ∃ A c, v = .slice A zs.length c := by obtain ⟨⟨A, c, e, _⟩, _⟩ := h; exact ⟨A, c, e⟩
  subst ev
  have hmk : ∀ V : World, (Instr.makeSlice 129 (.int .i64 (n : Int)) (.int .i64 (n : Int))).run Try.prog V = .ok (.slice (some ⟨V.heap.size, 0, none⟩) n n) (V.alloc (.cells (madeCells #[.int .u8 0] n) 5)) := fun V =>
    run_make_row' 129 5 (.int .u8 0) 1 Try.underlying129 info_byte rfl .i64 .i64 n (by omega) (by omega) V
  have HFb := Lib.hid (fun V => fromBehind_calls (.slice A zs.length c) A zs.length c rfl V)
  clear h hm HM hnn
  refine (callsIn_wide (n := 9)).1 ?_
  refine callsIn_of_wp_marks Try.func54 rfl trivial ?_ rfl
  simp only [Try.ntmps54, List.size_toArray, List.length_cons, List.length_nil, Nat.reduceAdd, Nat.reduceSub, Array.replicate_succ, Array.replicate_zero, List.push_toArray, List.append_toArray, List.nil_append, List.cons_append]
  gi_wp2_with (refine ⟨trivial, ?_⟩; first
    | (gi_at_call 68; refine (callsIn_wide.2 HMs.out).mono ?_; rintro e w1 ⟨rfl, b1⟩)
    | (gi_at_call 69; refine (callsIn_wide.2 (HFb.out _)).mono ?_; rintro e w' ⟨rfl, rfl⟩))
  obtain ⟨s, hs⟩ : ∃ s, w1.heap.size = s := ⟨_, rfl⟩
  have hsw := b1.size
  have hs0 : w.heap.size ≤ s := by omega
  have c1 : Boxed (w1.alloc (.cells (madeCells #[.int .u8 0] n) 5) |>.alloc (.cells #[.slice (some ⟨w1.heap.size, 0, none⟩) n n] 129)) (w1.heap.size + 1) 129 (.slice (some ⟨w1.heap.size, 0, none⟩) n n) := by
    have := Boxed.new (w1.alloc (.cells (madeCells #[.int .u8 0] n) 5)) 129 (.slice (some ⟨w1.heap.size, 0, none⟩) n n)
    rw [World.size_alloc] at this
    exact this
  have c0 : (w1.alloc (.cells (madeCells #[.int .u8 0] n) 5)).heap[w1.heap.size]? = some (.cells (madeCells #[.int .u8 0] n) 5 (0, 0)) := World.alloc_heap_new w1 _
  rw [hs] at c0 c1
  rw [hs]
  obtain ⟨V0, hV0⟩ : ∃ V0, (((w1.alloc (.cells (madeCells #[.int .u8 0] n) 5)).alloc (.cells #[.slice (some ⟨s, 0, none⟩) n n] 129)).alloc (.cells #[.int .i64 (n : Int)] 3)).alloc (.cells #[.slice A zs.length c] 30) = V0 := ⟨_, rfl⟩
  rw [hV0]
  have hz0 : V0.heap.size = s + 4 := by rw [← hV0, ← hs]; simp
  have c2 : Boxed (((w1.alloc (.cells (madeCells #[.int .u8 0] n) 5)).alloc (.cells #[.slice (some ⟨s, 0, none⟩) n n] 129)).alloc (.cells #[.int .i64 (n : Int)] 3)) (s + 1 + 1) 3 (.int .i64 (n : Int)) := by
    have := Boxed.new ((w1.alloc (.cells (madeCells #[.int .u8 0] n) 5)).alloc (.cells #[.slice (some ⟨s, 0, none⟩) n n] 129)) 3 (.int .i64 (n : Int))
    rw [World.size_alloc, World.size_alloc, hs] at this
    exact this
  have c3 : Boxed V0 (s + 1 + 1 + 1) 30 (.slice A zs.length c) := by
    have := Boxed.new (((w1.alloc (.cells (madeCells #[.int .u8 0] n) 5)).alloc (.cells #[.slice (some ⟨s, 0, none⟩) n n] 129)).alloc (.cells #[.int .i64 (n : Int)] 3)) 30 (.slice A zs.length c)
    rw [World.size_alloc, World.size_alloc, World.size_alloc, hs, hV0] at this
    exact this
  have b6 : Boxed V0 (s + 1) 129 (.slice (some ⟨s, 0, none⟩) n n) := by rw [← hV0]; exact (c1.alloc _).alloc _
  have b7 : Boxed V0 (s + 1 + 1) 3 (.int .i64 (n : Int)) := by rw [← hV0]; exact c2.alloc _
  have hB0 : Below w1.heap.size w1 V0 := by
    rw [← hV0]
    exact ((((Below.refl _ w1).alloc (Nat.le_refl _) _).alloc (by simp) _).alloc (by simp; omega) _).alloc (by simp; omega) _
  have bg : V0.heap[s]? = some (.cells (madeCells #[.int .u8 0] n) 5 (0, 0)) := by
    rw [← hV0]
    have k1 := (World.grownBy_alloc (w1.alloc (.cells (madeCells #[.int .u8 0] n) 5)) (.cells #[.slice (some ⟨s, 0, none⟩) n n] 129) none).block s (by simp [hs]) (by simp)
    have k2 := (World.grownBy_alloc ((w1.alloc (.cells (madeCells #[.int .u8 0] n) 5)).alloc (.cells #[.slice (some ⟨s, 0, none⟩) n n] 129)) (.cells #[.int .i64 (n : Int)] 3) none).block s (by simp [hs]; omega) (by simp)
    have k3 := (World.grownBy_alloc (((w1.alloc (.cells (madeCells #[.int .u8 0] n) 5)).alloc (.cells #[.slice (some ⟨s, 0, none⟩) n n] 129)).alloc (.cells #[.int .i64 (n : Int)] 3)) (.cells #[.slice A zs.length c] 30) none).block s (by simp [hs]; omega) (by simp)
    exact k3.trans (k2.trans (k1.trans c0))
  have hBw : Below w.heap.size w V0 := b1.trans (hB0.mono hsw)
  have hR0 : ReadsA (fun q => q = s + 1 + 1 ∨ q = s) V0 (.slice A zs.length c) zs := by
    obtain ⟨A', c', e', hcs⟩ := HRow.out.reads
    cases e'
    refine ⟨A, c, rfl, fun j x hx => ?_⟩
    obtain ⟨ad, k1, k2, _, k4⟩ := hcs j x hx
    exact ⟨ad, k1, Nat.lt_of_lt_of_le k2 hBw.size, fun q => by omega, (hBw.cell (p := ad.add j) (by rw [addr_block]; exact k2)).trans k4⟩
  have hEach := behind_each (s + 1 + 1 + 1) zs (.slice A zs.length c) (fun q => q = s + 1 + 1 ∨ q = s) V0 c3.cell (by omega) (fun q hq => by omega) (by omega) hR0 (by omega)
  have hI0 : Putting w n (s + 1) (s + 1 + 1) s [] V0 := ⟨by simpa [Tm.tailL] using b7, b6, ⟨_, bg, by simp [size_madeCells], by simp [Tm.tailL, size_madeCells, Lib.byteCells]⟩, hBw⟩
  clear c0 c1 c2 c3 b6 b7 bg hV0 hB0 hR0 hsw
  refine wp_each (gf := 82) (lb := #[.pointer (some ⟨s + 1 + 1 + 1, 0, none⟩)]) rfl (enters_of Try.func82 (by kernel_rfl) rfl)
    hEach (fun q hq => by omega) (Below.refl _ _) (fun _ => rfl) (Putting w n (s + 1) (s + 1 + 1) s) ?hang hI0
    (fun x => { tmps := #[.slice A zs.length c, undef, .string ⟨#[]⟩, .int .i64 0, .int .i64 (n : Int), .int .i64 0, .pointer (some ⟨s + 1, 0, none⟩), .pointer (some ⟨s + 1 + 1, 0, none⟩), .string ⟨x.toArray⟩, .tuple #[.int .i64 (n : Int), .int .i64 0], .slice A zs.length c, .tuple #[.int .i64 (n : Int), .int .i64 0], .int .i64 (n : Int), .int .i64 0, .int .i64 0, .bool false, undef, .int .i64 (n : Int), .slice (some ⟨s, 0, none⟩) n n, .int .i64 (n : Int), .slice A zs.length c, .func (.func 82) #[] #[.pointer (some ⟨s + 1 + 1 + 1, 0, none⟩)], .string ⟨x.toArray⟩, undef, undef, undef, undef, undef, undef, undef, undef, undef, undef, undef], defers := [] }) ?assign ?body ?done
  case hang =>
    rintro pre V V' ⟨k1, k2, ⟨cur, k3, k4⟩, k5⟩ hsp
    exact ⟨(hsp.same _ k1.lt (by omega)).trans k1, (hsp.same _ k2.lt (by omega)).trans k2, ⟨cur, (hsp.same _ (Array.getElem?_eq_some_iff.1 k3).1 (by omega)).trans k3, k4⟩, hsp.below k5 k5.size (fun q hq => by omega)⟩
  case assign =>
    intro m l x V Kk hK
    gi_wp2
    exact hK
  case body =>
    rintro m l pre x V hpre ⟨k1, k2, ⟨cur, k3, k4, k5⟩, k6⟩
    have hT := Tm.tailL_pieces hpre
    have hT9 := Tm.tailL_some hpre
    rw [HN.out] at hT
    rw [Tm.tailL_snoc] at hT hT9
    obtain ⟨t, ht⟩ : ∃ t, (Tm.tailL pre).length = t := ⟨_, rfl⟩
    obtain ⟨xl, hxl⟩ : ∃ xl, x.length = xl := ⟨_, rfl⟩
    rw [List.length_append, ht, hxl] at hT hT9
    rw [ht] at k1 k5
    obtain ⟨at', hat⟩ : ∃ at' : Nat, (n : Int) - (t : Int) - (xl : Int) = (at' : Int) := ⟨n - t - xl, by omega⟩
    have ha1 : at' + xl + t = n := by omega
    have h7 := k1.cell
    have h7f := k1.frozen
    have h6 := k2.cell
    have hxs : (⟨x.toArray⟩ : ByteArray).size = xl := by rw [size_list]; exact hxl
    have j1 : (0 : Int) ≤ (at' : Int) := by omega
    have j2 : (at' : Int) ≤ (n : Int) := by omega
    have hg2 : (V.setCell ⟨s + 1 + 1, 0, none⟩ (.int .i64 (at' : Int))).heap[s]? = some (.cells cur 5 (0, 0)) := (Below.heap_setCell _ _ _ _ (by simp; omega)).trans k3
    have hcopy := Lib.run_copy_row_string (P := Try.prog) (V.setCell ⟨s + 1 + 1, 0, none⟩ (.int .i64 (at' : Int))) 129 31 3 5 s at' (n - at') (n - at') ⟨x.toArray⟩ cur 5 Try.underlying129 (by kernel_rfl) hg2 (by rw [hxs]; omega) (by rw [hxs]; omega)
    rw [hxs] at hcopy
    have hx0 : (⟨x.toArray⟩ : ByteArray).data.toList = x := rfl
    rw [hx0] at hcopy
    obtain ⟨V2, hV2⟩ : ∃ V2, (V.setCell ⟨s + 1 + 1, 0, none⟩ (.int .i64 (at' : Int))).setRow s (cur.toList.take at' ++ Lib.byteCells x ++ cur.toList.drop (at' + xl)).toArray = V2 := ⟨_, rfl⟩
    rw [hV2] at hcopy
    have hblk : ∀ q, q ≠ s → V2.heap[q]? = (V.setCell ⟨s + 1 + 1, 0, none⟩ (.int .i64 (at' : Int))).heap[q]? := fun q hq => by rw [← hV2]; exact setRow_other _ _ _ _ hq
    have hfin : Hid (Spare (fun q => q = s + 1 + 1 ∨ q = s) V V2 ∧ Putting w n (s + 1) (s + 1 + 1) s (pre ++ [x]) V2) := by
      have e1 : (Tm.tailL (pre ++ [x])).length = xl + t := by rw [Tm.tailL_snoc, List.length_append, ht, hxl]
      have sp : Spare (fun q => q = s + 1 + 1 ∨ q = s) V V2 := by
        refine ⟨by rw [← hV2]; rfl, by rw [← hV2]; rfl, by rw [← hV2]; rfl, by rw [← hV2]; simp [World.setRow, World.setCell], fun q hq hx => ?_⟩
        exact (hblk q (fun e => hx (.inr e))).trans (Below.heap_setCell _ _ _ _ (by simp; omega))
      refine ⟨sp, ?_, ?_, ⟨_, by rw [← hV2]; exact setRow_heap _ _ cur _ _ _ hg2, ?_, ?_⟩, sp.below k6 k6.size (fun q hq => by omega)⟩
      · rw [e1, show (n : Int) - ((xl + t : Nat) : Int) = (at' : Int) by omega]
        exact (hblk _ (by omega)).trans (k1.set _)
      · exact (hblk _ (by omega)).trans (k2.other (by omega) _)
      · have : cur.toList.length = n := by simpa using k4
        simp [byteCells_len, hxl]; omega
      · have hl1 : (cur.toList.take at').length = at' := by rw [List.length_take]; have : cur.toList.length = n := by simpa using k4
                                                            omega
        rw [e1, show n - (xl + t) = at' by omega]
        simp only [List.append_assoc]
        rw [List.drop_left' hl1, show at' + xl = n - t by omega, k5, Tm.tailL_snoc]
        simp [Lib.byteCells]
    clear hEach hI0 hpre hg2 hV2 hblk k1 k2 k3 k4 k5 k6
    gi_wp2
    exact hfin.out
  case done =>
    rintro D V hD ⟨k1, k2, ⟨cur, k3, k4, k5⟩, k6⟩ hK
    have h6 := k2.cell
    have eT := Tm.tailL_all zs
    rw [eT, HN.out, Nat.sub_self, List.drop_zero] at k5
    have hcv : (convert 129 31 (.slice (some ⟨s, 0, none⟩) n n)).run Try.prog V = .ok (.string ⟨(Tm.rowL zs).toArray⟩) V := by
      have := run_convert_bytes_back (P := Try.prog) V 129 31 5 ⟨s, 0, none⟩ n (Tm.rowL zs) Try.underlying129 Try.underlying5 Try.underlying31 (fun j hj => ?_)
      · rw [HN.out] at this; exact this
      · have e : (⟨s, 0, none⟩ : Addr).add j = ⟨s, j, none⟩ := by
          by_cases h0 : j = 0
          · subst h0; simp [Addr.add]
          · simp [Addr.add, h0]
        rw [e]
        have h1 : cur.toList[j]? = some (.int .u8 ((Tm.rowL zs)[j].toNat : Int)) := by rw [k5]; simp [Lib.byteCells, hj]
        simp [World.cell?, k3]
        simpa using h1
    have hB2 := Lib.hid (k6.trans (belowK_b (w := w) (Nat.le_refl _) V D _ (.deferred none) (by omega) hK rfl rfl))
    clear k1 k2 k3 k4 k5 k6 hEach hI0
    gi_wp2
    refine ⟨by simp, .inl ⟨_, _, rfl, run_takeDeferred hK, ?_⟩⟩
    refine ⟨.tuple #[.string ⟨(Tm.rowL zs).toArray⟩, .int .i64 0], by simp [results, Try.results54, go_sem], rfl, hB2.out⟩

set_option maxHeartbeats 400000 in
theorem lput_wrong (zs : List (List UInt8)) (v : Value) (w : World) (h : RowA w v zs) {k : Nat} (hm : Tm.measureL zs = (0, k)) (hk : k = 1 ∨ k = 3 ∨ k = 4) : Calls Try.prog 54 #[v] w (Pair2 w ([], k)) := by
  have HM := measure_calls zs v w h
  rw [hm] at HM
  have HMs := Lib.hid HM
  clear h hm HM
  rcases hk with rfl | rfl | rfl
  all_goals
    go_enter Try.func54, Try.ntmps54
    go_wp2_with fail
    refine HMs.out.mono ?_
    rintro e w1 ⟨rfl, b1⟩
    go_wp2
    go_ret2
    exact ⟨rfl, b1⟩

theorem lput_calls (zs : List (List UInt8)) (v : Value) (w : World) (h : RowA w v zs) : Calls Try.prog 54 #[v] w (Pair2 w (Tm.putRow zs)) := by
  have hm : Tm.measureL zs = Tm.measureL zs := rfl
  unfold Tm.putRow
  by_cases h1 : 150 < zs.length ∨ Tm.wrongIn zs = true
  · have e : Tm.measureL zs = (0, 1) := by unfold Tm.measureL; rw [if_pos h1]
    rw [e, if_neg (by simp)]
    exact lput_wrong zs v w h e (.inl rfl)
  · by_cases h2 : 20000 < (Tm.rowL zs).length
    · have e : Tm.measureL zs = (0, 3) := by unfold Tm.measureL; rw [if_neg h1, if_pos h2]
      rw [e, if_neg (by simp)]
      exact lput_wrong zs v w h e (.inr (.inl rfl))
    · by_cases h3 : 400 < Tm.deepR zs
      · have e : Tm.measureL zs = (0, 4) := by unfold Tm.measureL; rw [if_neg h1, if_neg h2, if_pos h3]
        rw [e, if_neg (by simp)]
        exact lput_wrong zs v w h e (.inr (.inr rfl))
      · have e : Tm.measureL zs = ((Tm.rowL zs).length, 0) := by unfold Tm.measureL; rw [if_neg h1, if_neg h2, if_neg h3]
        rw [e, if_pos rfl]
        exact lput_ok zs v w h e (by omega) (by have := not_or.1 h1; omega)

end Go.Proofs.Ytckmpbmlneionaa
