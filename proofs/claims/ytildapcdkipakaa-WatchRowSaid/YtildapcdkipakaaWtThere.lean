/- Contract of watch.There. -/
import Derived.Test.YtildapcdkipakaaWtHear
namespace Go.Proofs.Ytildapcdkipakaa.L9
open Go.ChangeShapes Go.WideShapes Go.ChangeAt Go.RowKit Go.Deep

def ThereGo (w W0 : World) (lim : Int) (L : List Int) (k : Nat) (v3 v7 : Value) (wr : World) : Prop := ∃ i : Nat, k + i = 8 ∧ v7 = .int .i64 i ∧ wr.ownsRow W0.heap.size 3 1 v3 (thereTo lim L i).length (ints (thereTo lim L i)) ∧ Below W0.heap.size W0 wr ∧ Below w.heap.size w wr
set_option maxRecDepth 100000 in
set_option maxHeartbeats 2000000 in
theorem There_calls (B : Nat) (me lim : Int) (v : Value) (L : List Int) (w : World) (h : WOk me lim L) (r : w.ownsRow B 3 1 v 8 (ints L)) :
    Calls Try.prog 26 #[.agg #[.int .i64 me, .int .i64 lim, v]] w (OutRow w (thereL lim L)) := by
  have hl := h.len
  obtain ⟨A1, k1, rfl, _⟩ := own_eight r
  obtain ⟨i0, hi0, hz0, hz1, hz2⟩ := info_parts9 info_int
  have h1 : (w.alloc (.cells #[.int .i64 me, .int .i64 lim, .slice (some ⟨A1, 0, none⟩) 8 k1] 55)).heap[w.heap.size]? = some (.cells #[.int .i64 me, .int .i64 lim, .slice (some ⟨A1, 0, none⟩) 8 k1] 55 (0, 0)) := heap_alloc_new _ _
  have hB : Below w.heap.size w (w.alloc (.cells #[.int .i64 me, .int .i64 lim, .slice (some ⟨A1, 0, none⟩) 8 k1] 55)) := (Below.refl _ w).alloc (Nat.le_refl _) _
  obtain ⟨W0, hW0⟩ : ∃ W0, w.alloc (.cells #[.int .i64 me, .int .i64 lim, .slice (some ⟨A1, 0, none⟩) 8 k1] 55) = W0 := ⟨_, rfl⟩
  rw [hW0] at h1 hB
  have hr := L5.own_below r hB
  obtain ⟨x0, x1, x2, _, _, _⟩ := cells3 h1
  have HT := Lib.hid (told_calls (.int .i64 me) (.int .i64 lim) (some ⟨A1, 0, none⟩) k1 W0)
  have HW := Lib.hid (And.intro h1 (And.intro hB hr))
  have HL := Lib.hid h
  clear h1 hB hr r h hl
  go_enter Try.func26, Try.ntmps26
  go_wp2_with fail
  refine HT.out.mono ?_
  rintro e w2 ⟨rfl, b2⟩
  have HB2 := Lib.hid b2
  clear hW0 x0 x1 x2 HT b2
  go_wp2
  go_loopg [3, 7] 8 (fun k v3 v7 wr => ThereGo w W0 lim L k v3 v7 wr)
  case atStart => exact ⟨0, rfl, rfl, World.ownsRow_nil _ _ _ _, HB2.out, HW.out.2.1.trans (HB2.out.mono HW.out.2.1.size)⟩
  case round =>
    obtain ⟨i, hk, rfl, hrow, hb0, hb⟩ := hrel
    obtain ⟨a3, c3, rfl⟩ := L5.own_slice hrow
    have HK := Lib.hid (show 8 - (i + 1) + (i + 1) = 8 ∨ i = 8 by omega)
    by_cases hi : i < 8
    · have j1 : (i : Int) < 8 := by omega
      have j2 : (0 : Int) ≤ (i : Int) := by omega
      have hc := own_cell (L5.own_below HW.out.2.2 hb0) hi HL.out.len
      have h1 := (hb0.block _ (Array.getElem?_eq_some_iff.1 HW.out.1).1).trans HW.out.1
      obtain ⟨x0, x1, x2, _, _, _⟩ := cells3 h1
      obtain ⟨x, hx⟩ : ∃ x, L.getD i 0 = x := ⟨_, rfl⟩
      have hc1 := hc.1
      rw [hx] at hc1
      have HM := Lib.hid (show 8 - (i + 1) < gk by omega)
      have HR := Lib.hid (And.intro hrow (And.intro hb0 hb))
      by_cases hxl : x ≤ lim
      · have hstep : thereTo lim L (i + 1) = thereTo lim L i ++ [(i : Int) + 1] := by
          show (if _ then _ else _) = _
          rw [if_pos (by rw [hx]; exact hxl)]
        have j4 : ¬ lim < x := by omega
        have jw : IntKind.i64.wrap ((i : Int) + 1) = (i : Int) + 1 := by rw [IntKind.wrap_i64]; omega
        have HS := Lib.hid hstep
        have hle := thereTo_len lim L i
        have HFin : Hid (∀ v2 w6, w6.ownsRow W0.heap.size 3 1 v2 ((thereTo lim L i).length + 1) (ints (thereTo lim L i) ++ [.int .i64 ((i : Int) + 1)]) → (wr.alloc (.cells #[.int .i64 ((i : Int) + 1)] 3)).drew.grownBy w6 (Value.slice a3 (thereTo lim L i).length c3).ownBlock → ThereGo w W0 lim L (8 - (i + 1)) v2 (.int .i64 ((i + 1 : Nat) : Int)) w6) := fun v2 w6 q1 q2 => by
          refine ⟨i + 1, by omega, rfl, ?_, ?_, ?_⟩
          · rw [HS.out, List.length_append]
            simpa [ints] using q1
          · exact ((HR.out.2.1.alloc HR.out.2.1.size _).drew).grown q2 (by have := HR.out.2.1.size; simp; omega) (fun q e => (HR.out.1.lt q e).1)
          · have hWs := HW.out.2.1.size
            exact ((HR.out.2.2.alloc HR.out.2.2.size _).drew).grown q2 (by have := HR.out.2.2.size; simp; omega) (fun q e => by have := (HR.out.1.lt q e).1; omega)
        have HD : Hid ((wr.alloc (.cells #[.int .i64 ((i : Int) + 1)] 3)).drew.ownsRow W0.heap.size 3 1 (.slice a3 (thereTo lim L i).length c3) (thereTo lim L i).length (ints (thereTo lim L i))) := (hrow.alloc _).drew
        have HSz : Hid (W0.heap.size ≤ wr.heap.size) := HR.out.2.1.size
        clear hc hx hrow hb0 hb hstep hk h1
        go_wp2
        go_region_held3 (fun w' => w'.cell? ⟨A1, i, none⟩ = some (.int .i64 x) ∧ w'.cell? ⟨w.heap.size, 1, none⟩ = some (.int .i64 lim) ∧ w'.cell? ⟨w.heap.size, 2, none⟩ = some (.slice (some ⟨A1, 0, none⟩) 8 k1)) (go_keep) (fail)
        go_wp2_with (at_builtin; refine wpList_append_own_at _ rfl _ _ 53 rfl W0.heap.size 3 i0 _ 1 8 Try.underlying53 hi0 hz0 hz1 hz2 rfl (by decide) _ _ _ rfl HD.out ⟨wr.heap.size, 0, none⟩ 1 1 [.int .i64 ((i : Int) + 1)] rfl rfl (cell_one_new _ _ _) (by simp [Value.oneCell']) (by unfold maxLen; omega) (by omega) (by have := HSz.out; simp; omega) ?_; intro v2 w6 hown6 hgrow6 hnil6 hat6; have HF := Lib.hid (HFin.out v2 w6 hown6 hgrow6); clear hown6 hgrow6 hnil6 hat6)
        go_roundg (8 - (i + 1))
        case measure => exact HM.out
        case rel => simpa using HF.out
      · have hstep : thereTo lim L (i + 1) = thereTo lim L i := by
          show (if _ then _ else _) = _
          rw [if_neg (by rw [hx]; exact hxl)]
        have j4 : lim < x := by omega
        have HF : Hid (ThereGo w W0 lim L (8 - (i + 1)) (.slice a3 (thereTo lim L i).length c3) (.int .i64 ((i + 1 : Nat) : Int)) wr.drew) := ⟨i + 1, by omega, rfl, by rw [hstep]; exact hrow.drew, hb0.drew, hb.drew⟩
        clear hc hx hrow hb0 hb hstep hk h1
        go_wp2
        go_region_held3 (fun w' => w'.cell? ⟨A1, i, none⟩ = some (.int .i64 x) ∧ w'.cell? ⟨w.heap.size, 1, none⟩ = some (.int .i64 lim) ∧ w'.cell? ⟨w.heap.size, 2, none⟩ = some (.slice (some ⟨A1, 0, none⟩) 8 k1)) (go_keep) (fail)
        go_wp2
        go_roundg (8 - (i + 1))
        case measure => exact HM.out
        case rel => simpa using HF.out
    · have j1 : ¬ (i : Int) < 8 := by omega
      obtain rfl : i = 8 := by omega
      have HF : Hid (OutRow w (thereL lim L) (.returned (.slice a3 (thereTo lim L 8).length c3)) wr) := ⟨_, rfl, own_base hrow HW.out.2.1.size, hb⟩
      clear hrow hb0 hb hk
      go_wp2
      go_ret
      exact HF.out
end Go.Proofs.Ytildapcdkipakaa.L9
