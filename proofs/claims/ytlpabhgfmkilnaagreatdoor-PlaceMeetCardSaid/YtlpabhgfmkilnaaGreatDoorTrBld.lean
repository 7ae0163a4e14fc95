/- Contracts of a strings.Builder that lies at block b, with a block of the caller's own behind it; its bytes lie from b + 2 on. -/
import Derived.Test.YtlpabhgfmkilnaaGreatDoorTrRead
import Derived.Lib.Builder
import Derived.Lib.AppendStr
import Derived.Shelf.Abstract
namespace Go.Proofs.YtlpabhgfmkilnaaGreatDoor.L13
open Go.ChangeShapes Go.WideShapes Go.ChangeAt Go.RowKit Go.Deep

def BdO (b q : Nat) : Prop := q = b ∨ b + 2 ≤ q
/-- A builder that holds the bytes l. -/
structure Bd (b : Nat) (l : List UInt8) (w : World) : Prop where
  size : b + 2 ≤ w.heap.size
  has : ∃ p v, w.heap[b]? = some (.cells #[p, v] 81 (0, 0)) ∧ (p = .pointer none ∨ p = .pointer (some ⟨b, 0, none⟩)) ∧ w.ownsRow (b + 2) 5 1 v (Lib.byteCells l).length (Lib.byteCells l)

set_option maxHeartbeats 1000000 in
set_option maxRecDepth 100000 in
theorem copyCheck_used (b : Nat) (w : World) (h0 : w.cell? ⟨b, 0, none⟩ = some (.pointer (some ⟨b, 0, none⟩))) :
    Calls Tryz.prog 63 #[.pointer (some ⟨b, 0, none⟩)] w fun e w' => e = .returned (.tuple #[]) ∧ w' = w := by
  obtain ⟨j, hj⟩ := info_builder
  have hne := Lib.run_neq_ptr_same (P := Tryz.prog) w (⟨b, 0, none⟩ : Addr) Tryz.underlying78 hj
  go_enter Tryz.func63, Tryz.ntmps63
  go_wp2
  go_end0
  exact ⟨rfl, rfl⟩
set_option maxHeartbeats 1000000 in
set_option maxRecDepth 100000 in
theorem copyCheck_fresh (b : Nat) (w : World) (h0 : w.cell? ⟨b, 0, none⟩ = some (.pointer none)) (hsh : w.shape? b = some (81, 2)) (hfz : w.frozen? ⟨b, 0, none⟩ = false) :
    Calls Tryz.prog 63 #[.pointer (some ⟨b, 0, none⟩)] w fun e w' => e = .returned (.tuple #[]) ∧ w' = w.setCell ⟨b, 0, none⟩ (.pointer (some ⟨b, 0, none⟩)) := by
  obtain ⟨j, hj, hjs⟩ : ∃ j, Tryz.prog.info? 81 = some j ∧ j.size = 2 := by
    have h : (Tryz.prog.info? 81).map (·.size) = some 2 := by kernel_rfl
    exact Option.map_eq_some_iff.1 h
  have hl : liesAt Tryz.prog Tryz.prog.depth 81 (2 / Tryz.prog.cellsOf 81) 0 81 1 = true := by kernel_rfl
  go_enter Tryz.func63, Tryz.ntmps63
  go_wp2
  rw [Lib.run_to_unsafe w ⟨b, 0, none⟩ Tryz.underlying78 Tryz.underlying117 hj (by rw [hjs]; decide) hsh (Nat.zero_lt_succ 1)]
  simp only [Result.andThen]
  rw [Oper.upon_value]
  go_wp2
  rw [run_callFunc_extern Tryz.func82 (by kernel_rfl) (by kernel_rfl) (by kernel_rfl) (e := Extern.AbiNoEscape.same) (by kernel_rfl)]
  rw [Lib.run_noEscape]
  simp only [Result.andThen]
  rw [Oper.upon_value]
  go_wp2
  rw [Lib.run_from_unsafe w ⟨b, 0, none⟩ Tryz.underlying117 Tryz.underlying78 hj hsh hl]
  simp only [Result.andThen]
  rw [Oper.upon_value]
  go_wp2
  go_end0
  exact ⟨rfl, rfl⟩
theorem copyCheck_bd {b : Nat} {l : List UInt8} {w : World} (h : Bd b l w) : Calls Tryz.prog 63 #[.pointer (some ⟨b, 0, none⟩)] w fun e w' => e = .returned (.tuple #[]) ∧ Fr (BdO b) w w' ∧
    ∃ v, w'.heap[b]? = some (.cells #[.pointer (some ⟨b, 0, none⟩), v] 81 (0, 0)) ∧ w'.ownsRow (b + 2) 5 1 v (Lib.byteCells l).length (Lib.byteCells l) := by
  obtain ⟨hs, p, v, hb, hp, ho⟩ := h
  rcases hp with rfl | rfl
  · refine (copyCheck_fresh b w (by rw [cells_of hb]; rfl) (by simp [World.shape?, hb]) (frozen_of hb 0)).mono ?_
    rintro e w' ⟨rfl, rfl⟩
    refine ⟨rfl, (Fr.refl _ _).set _ _ (.inl rfl), v, set_blk hb _, L5.own_same ho (fun q e => Below.heap_setCell _ _ _ _ ?_)⟩
    have := (ho.lt q e).1
    show q ≠ b
    omega
  · refine (copyCheck_used b w (by rw [cells_of hb]; rfl)).mono ?_
    rintro e w' ⟨rfl, rfl⟩
    exact ⟨rfl, Fr.refl _ _, v, hb, ho⟩
theorem Bd.grown {b : Nat} {l l2 : List UInt8} {w w2 : World} {v v2 : Value} (hs : b + 2 ≤ w.heap.size) (hb : w.heap[b]? = some (.cells #[.pointer (some ⟨b, 0, none⟩), v] 81 (0, 0))) (ho : w.ownsRow (b + 2) 5 1 v (Lib.byteCells l).length (Lib.byteCells l))
    (hg : w.grownBy w2 v.ownBlock) (ho2 : w2.ownsRow (b + 2) 5 1 v2 (Lib.byteCells l2).length (Lib.byteCells l2)) : w2.heap[b]? = some (.cells #[.pointer (some ⟨b, 0, none⟩), v] 81 (0, 0)) ∧ Bd b l2 (w2.setCell ⟨b, 1, none⟩ v2) ∧ Fr (BdO b) w (w2.setCell ⟨b, 1, none⟩ v2) := by
  have hb2 : w2.heap[b]? = some (.cells #[.pointer (some ⟨b, 0, none⟩), v] 81 (0, 0)) := by
    rw [hg.block b (by omega) (fun e => by have := (ho.lt b e.symm).1; omega)]
    exact hb
  refine ⟨hb2, ⟨by have := hg.size; simp; omega, _, v2, set_blk hb2 _, .inr rfl, L5.own_same ho2 (fun q e => Below.heap_setCell _ _ _ _ ?_)⟩, ?_⟩
  · have := (ho2.lt q e).1
    show q ≠ b
    omega
  · refine Fr.set ⟨hg.os, hg.tape, hg.output, hg.size, fun q hq hO => hg.block q hq (fun e => hO (.inr (ho.lt q e.symm).1))⟩ _ _ (.inl rfl)

set_option maxRecDepth 100000 in
set_option maxHeartbeats 1000000 in
theorem writeString_calls {b : Nat} {l : List UInt8} {w : World} (s : ByteArray) (h : Bd b l w) (hlen : l.length + s.size ≤ 1000000) :
    Calls Tryz.prog 50 #[.pointer (some ⟨b, 0, none⟩), .string s] w fun e w' => e = .returned (.tuple #[.int .i64 s.size, .nilIface]) ∧ Bd b (l ++ s.data.toList) w' ∧ Fr (BdO b) w w' := by
  obtain ⟨i0, hi, hz0, hz1, hz2⟩ := info_parts info_byte
  have HC := Lib.hid (copyCheck_bd h)
  have HS := Lib.hid h.size
  have hbl : (Lib.byteCells l).length = l.length := Lib.byteCells_length l
  have HL := Lib.hid hbl
  clear hbl h
  go_enter Tryz.func50, Tryz.ntmps50
  go_wp2_with (go_at_call 63; refine HC.out.mono ?_)
  rintro e1 w1 ⟨rfl, hf1, v, hb1, ho1⟩
  have hs1 : b + 2 ≤ w1.heap.size := Nat.le_trans HS.out hf1.size
  have c1 : w1.cell? ⟨b, 1, none⟩ = some v := by rw [cells_of hb1]; rfl
  have HO := Lib.hid ho1
  have HB := Lib.hid hb1
  have HF := Lib.hid hf1
  clear ho1 hb1 hf1 HC
  go_wp2_with (at_builtin; refine Lib.wpList_append_own_string _ rfl _ _ 79 9 rfl (b + 2) 5 i0 Tryz.underlying79 Tryz.underlying9 hi hz0 hz1 hz2 _ _ _ rfl HO.out s rfl (by have := HL.out; unfold maxLen; omega) (by have := HL.out; omega) hs1 ?_)
  intro v' w2 hown' hgrow _
  have e1 : Lib.byteCells (l ++ s.data.toList) = Lib.byteCells l ++ Lib.strCells s := by simp [Lib.byteCells, Lib.strCells]
  have hg := Bd.grown (l2 := l ++ s.data.toList) (v2 := v') hs1 HB.out HO.out hgrow (by rw [e1]; simpa [Lib.strCells_length] using hown')
  have d1 : w2.cell? ⟨b, 1, none⟩ = some v := by rw [cells_of hg.1]; rfl
  have f1 : w2.frozen? ⟨b, 1, none⟩ = false := frozen_of hg.1 1
  obtain ⟨ao, n', cap, rfl⟩ : ∃ ao n' cap, v' = .slice ao n' cap := by
    rcases hown'.2 with ⟨hv, _⟩ | ⟨g, cap, cur, hv, _⟩
    · exact ⟨_, _, _, hv⟩
    · exact ⟨_, _, _, hv⟩
  have HG := Lib.hid hg
  clear hg hgrow hown' e1
  go_wp2
  go_ret2
  exact ⟨rfl, HG.out.2.1, HF.out.trans HG.out.2.2⟩
set_option maxRecDepth 100000 in
set_option maxHeartbeats 1000000 in
theorem writeByte_calls {b : Nat} {l : List UInt8} {w : World} (c : UInt8) (h : Bd b l w) (hlen : l.length ≤ 999999) :
    Calls Tryz.prog 52 #[.pointer (some ⟨b, 0, none⟩), .int .u8 c.toNat] w fun e w' => e = .returned .nilIface ∧ Bd b (l ++ [c]) w' ∧ Fr (BdO b) w w' := by
  obtain ⟨i0, hi, hz0, hz1, hz2⟩ := info_parts info_byte
  have HC := Lib.hid (copyCheck_bd h)
  have HS := Lib.hid h.size
  have hbl : (Lib.byteCells l).length = l.length := Lib.byteCells_length l
  have HL := Lib.hid hbl
  clear hbl h
  have e1 : Lib.byteCells (l ++ [c]) = Lib.byteCells l ++ [.int .u8 c.toNat] := by simp [Lib.byteCells]
  have HE := Lib.hid e1
  clear e1
  go_enter Tryz.func52, Tryz.ntmps52
  go_wp2_with (go_at_call 63; refine HC.out.mono ?_)
  rintro e1 w1 ⟨rfl, hf1, v, hb1, ho1⟩
  have hs1 : b + 2 ≤ w1.heap.size := Nat.le_trans HS.out hf1.size
  have c1 : w1.cell? ⟨b, 1, none⟩ = some v := by rw [cells_of hb1]; rfl
  have HO := Lib.hid ho1
  have HB := Lib.hid hb1
  have HF := Lib.hid hf1
  clear ho1 hb1 hf1 HC
  go_wp2_with (at_builtin; refine wpList_append_own _ rfl _ _ 79 rfl (b + 2) 5 i0 (.int .u8 0) 1 1 Tryz.underlying79 hi hz0 hz1 hz2 rfl (by decide) _ _ _ rfl (HO.out.alloc _) ⟨w1.heap.size, 0, none⟩ 1 1 [.int .u8 c.toNat] rfl rfl (cell_one_new _ _ _) (by simp [Value.oneCell']) (by have := HL.out; unfold maxLen; omega) (by have := HL.out; omega) (by simp; omega) ?_)
  intro v' w2 hown' hgrow _
  have hgrow := L5.grow_trans (World.grownBy_alloc w1 (.cells #[.int .u8 c.toNat] 5) _) hgrow
  have hg := Bd.grown (l2 := l ++ [c]) (v2 := v') hs1 HB.out HO.out hgrow (by rw [HE.out]; simpa using hown')
  have d1 : w2.cell? ⟨b, 1, none⟩ = some v := by rw [cells_of hg.1]; rfl
  have f1 : w2.frozen? ⟨b, 1, none⟩ = false := frozen_of hg.1 1
  obtain ⟨ao, n', cap, rfl⟩ : ∃ ao n' cap, v' = .slice ao n' cap := by
    rcases hown'.2 with ⟨hv, _⟩ | ⟨g, cap, cur, hv, _⟩
    · exact ⟨_, _, _, hv⟩
    · exact ⟨_, _, _, hv⟩
  have HG := Lib.hid hg
  clear hg hgrow hown'
  go_wp2
  go_ret
  exact ⟨rfl, HG.out.2.1, HF.out.trans HG.out.2.2⟩
set_option maxHeartbeats 1000000 in
set_option maxRecDepth 100000 in
theorem string_calls {b : Nat} {l : List UInt8} {w : World} (h : Bd b l w) (h0 : l ≠ []) :
    Calls Tryz.prog 53 #[.pointer (some ⟨b, 0, none⟩)] w fun e w' => e = .returned (.string ⟨l.toArray⟩) ∧ Below b w w' := by
  obtain ⟨hs, p, v, hbk, hp, hown⟩ := h
  have hl0 : l.length ≠ 0 := by simpa using h0
  rw [Lib.byteCells_length] at hown
  obtain ⟨g, cap, cur, rfl, hbg, hg, hnc, hcm, hcs, htake⟩ : ∃ g cap cur, v = .slice (some ⟨g, 0, none⟩) l.length cap ∧ b + 2 ≤ g ∧ w.heap[g]? = some (.cells cur 5 (0, 0)) ∧ l.length ≤ cap ∧ cap ≤ maxLen ∧ cur.size = cap * 1 ∧ cur.toList.take (l.length * 1) = Lib.byteCells l := by
    rcases hown.2 with ⟨_, hz⟩ | ⟨g, cap, cur, hv, r⟩
    · exact absurd hz hl0
    · exact ⟨g, cap, cur, hv, r⟩
  have c1 : w.drew.cell? ⟨b, 1, none⟩ = some (.slice (some ⟨g, 0, none⟩) l.length cap) := by
    have : w.drew.heap[b]? = some (.cells #[p, .slice (some ⟨g, 0, none⟩) l.length cap] 81 (0, 0)) := hbk
    rw [Lib.cell_of_heap this]; rfl
  have hcb : Tryz.prog.cellsOf 5 = 1 := by kernel_rfl
  have hSD : (Builtin.unsafeSliceData_ #[79] 99 #[.slice (some ⟨g, 0, none⟩) l.length cap]).run Tryz.prog w.drew = .ok (.pointer (some ⟨g, 0, none⟩)) w.drew :=
    Lib.run_unsafeSliceData_row _ _ _ _ _ _ (by omega)
  have hUS : (Builtin.unsafeString_ #[99, 3] 9 #[.pointer (some ⟨g, 0, none⟩), .int .i64 l.length]).run Tryz.prog w.drew = .ok (.string ⟨l.toArray⟩) (w.drew.freeze ⟨g, 0, none⟩ l.length) := by
    refine Lib.run_unsafeString_row w.drew 99 3 9 5 Tryz.underlying99 hcb g cur.size (by have hg' : w.drew.heap[g]? = some (.cells cur 5 (0, 0)) := hg; simp [World.shape?, hg']) l h0 (by omega) (by unfold maxLen at hcm; omega) ?_
    intro j x hx
    have := hown.cells (g := g) rfl j (.int .u8 x.toNat) (by simp [Lib.byteCells, hx])
    exact this
  have hgb : b ≤ g := by omega
  have mixed : Tryz.prog.follows Departure.mixedOrders = true := by kernel_rfl
  clear hs hown hbg hg hnc hcm hcs htake
  go_enter Tryz.func53, Tryz.ntmps53
  go_wp2
  go_region_o
  all_goals (go_wp2; go_ret; exact ⟨rfl, Lib.below_freeze (Below.drew (Below.refl b w)) (p := ⟨g, 0, none⟩) hgb _⟩)
set_option maxHeartbeats 1000000 in
theorem itoa_calls (p : Nat) (h1 : 1 ≤ p) (h8 : p ≤ 8) (w : World) : Calls Tryz.prog 51 #[.int .i64 p] w fun e w' => e = .returned (.string ⟨#[UInt8.ofNat (48 + p)]⟩) ∧ w' = w := by
  have hs : Calls Tryz.prog 93 #[.int .i64 p] w fun e w' => e = .returned (.string ⟨#[UInt8.ofNat (48 + p)]⟩) ∧ w' = w := by
    obtain rfl | rfl | rfl | rfl | rfl | rfl | rfl | rfl : p = 1 ∨ p = 2 ∨ p = 3 ∨ p = 4 ∨ p = 5 ∨ p = 6 ∨ p = 7 ∨ p = 8 := by omega
    all_goals
      go_enter Tryz.func93, Tryz.ntmps93
      go_wp2
      go_ret
      exact ⟨rfl, rfl⟩
  have hf : Calls Tryz.prog 83 #[.int .i64 p, .int .i64 10] w fun e w' => e = .returned (.string ⟨#[UInt8.ofNat (48 + p)]⟩) ∧ w' = w := by
    have j1 : (0 : Int) ≤ (p : Int) := by omega
    have j2 : (p : Int) < 100 := by omega
    generalize UInt8.ofNat (48 + p) = c at *
    go_enter Tryz.func83, Tryz.ntmps83
    go_wp2_with (go_at_call 93; refine hs.mono ?_; rintro e w1 ⟨rfl, rfl⟩)
    go_ret
    exact ⟨rfl, rfl⟩
  have hi : Calls Tryz.prog 64 #[.int .i64 p] w fun e w' => e = .returned (.string ⟨#[UInt8.ofNat (48 + p)]⟩) ∧ w' = w := by
    clear hs
    generalize UInt8.ofNat (48 + p) = c at *
    go_enter Tryz.func64, Tryz.ntmps64
    go_wp2_with (go_at_call 83; refine hf.mono ?_; rintro e w1 ⟨rfl, rfl⟩)
    go_ret
    exact ⟨rfl, rfl⟩
  clear hs hf
  generalize UInt8.ofNat (48 + p) = c at *
  go_enter Tryz.func51, Tryz.ntmps51
  go_wp2_with (go_at_call 64; refine hi.mono ?_; rintro e w1 ⟨rfl, rfl⟩)
  go_ret
  exact ⟨rfl, rfl⟩
end Go.Proofs.YtlpabhgfmkilnaaGreatDoor.L13
