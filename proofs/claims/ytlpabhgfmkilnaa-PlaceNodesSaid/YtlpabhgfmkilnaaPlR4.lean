/- The document's Co and Duties. -/
import Derived.Test.YtlpabhgfmkilnaaPlR3
namespace Go.Proofs.Ytlpabhgfmkilnaa.L14
open Go.ChangeShapes Go.WideShapes Go.ChangeAt Go.RowKit Go.Deep
open Go.Proofs.Ytlpabhgfmkilnaa.L13
open Go.Proofs.Ytlpabhgfmkilnaa.L5 (One)

theorem upL_down {x : List UInt8} {p : Int} {y : Nd} (h : y ∈ upL x p) : y ∈ downX x := by
  unfold upL at h
  exact (List.mem_filter.1 (List.mem_reverse.1 h)).1
theorem drop_take (U : List Nd) : U.dropLast = U.take (U.length - 1) := List.dropLast_eq_take ..
/-- What the first of a path's nodes leave. -/
def CoRel (f : List Nd → List (List UInt8)) (U : List Nd) (w : World) (k : Nat) (v5 v7 : Value) (wr : World) : Prop :=
  ∃ i : Nat, k + i = U.length - 1 ∧ v7 = .int .i64 i ∧ wr.ownsRow w.heap.size 9 1 v5 (f (U.take i)).length (strV (f (U.take i))) ∧ Below w.heap.size w wr
theorem co_next (U : List Nd) (i : Nat) (y : Nd) (h : U[i]? = some y) : U.take (i + 1) = U.take i ++ [y] := by
  rw [List.take_add_one, h]; rfl
def dstep (p : Int) (l : List Nd) : List (List UInt8) := (l.filter (fun y => decide ((low y.2 : Int) = p))).map (fun y => y.1)
theorem dstep_next (p : Int) (l : List Nd) (y : Nd) : dstep p (l ++ [y]) = dstep p l ++ (if decide ((low y.2 : Int) = p) = true then [y.1] else []) := by
  unfold dstep
  rw [List.filter_append, List.filter_cons, List.map_append]
  split <;> rfl
theorem dstep_len (p : Int) (l : List Nd) : (dstep p l).length ≤ l.length := by
  unfold dstep
  rw [List.length_map]
  exact List.length_filter_le _ _
set_option maxRecDepth 100000 in
set_option maxHeartbeats 16000000 in
theorem rco_calls (x : List UInt8) (p : Int) (hx : x.length ≤ 90) (w : World) : Calls Try.prog 15 #[.string ⟨x.toArray⟩, .int .i64 p] w (TextsOut w (coX x p)) := by
  obtain ⟨i0, hi, hz0, hz1, hz2⟩ := info_parts info_str
  have hNo := rpath_calls x p hx w
  have HS := Lib.hid (fun (y : Nd) (hy : y ∈ upL x p) V => show Calls Try.prog 13 #[.string ⟨y.1.toArray⟩] V (One V (.string ⟨(besideL y.1).toArray⟩)) from rbeside_calls y.1 (by have := (downX_ok (upL_down hy)).2; omega) V)
  have hD15 := upL_len x p
  have hres : coX x p = List.map (fun y => besideL y.1) (upL x p).dropLast := co_drop x p
  have hNd : pathX x p = (upL x p).map (fun s => s.1) := rfl
  rw [hNd] at hNo
  rw [hres]
  obtain ⟨U, hU⟩ : ∃ U, upL x p = U := ⟨_, rfl⟩
  rw [hU, drop_take]
  rw [hU] at hNo HS hD15
  have hml : (U.map (fun s => s.1)).length = U.length := by simp
  clear hNd hU hres
  obtain ⟨zr, hzr⟩ : ∃ zr, List.map (fun y => besideL y.1) (U.take (U.length - 1)) = zr := ⟨_, rfl⟩
  rw [hzr]
  have Hzr := Lib.hid hzr
  clear hzr
  go_enter Try.func15, Try.ntmps15
  go_wp2_with fail
  refine hNo.mono ?_
  rintro e w1 ⟨v6, rfl, o6, y6⟩
  have hT6 := TxA.of_own o6
  obtain ⟨A6, c6, rfl⟩ := L5.own_slice o6
  have HT6 := Lib.hid hT6.nth
  have HB1 := Lib.hid y6
  rw [hml]
  have HSt : Hid (CoRel (fun l => List.map (fun y => besideL y.1) l) U w1 (U.length - 1) (.slice none 0 0) (.int .i64 0) w1) := ⟨0, rfl, rfl, by rw [List.take_zero]; exact World.ownsRow_nil _ _ _ _, Below.refl _ _⟩
  have n15 : (U.length : Int) ≤ 15 := by omega
  clear o6 y6 hT6 hNo hml
  go_wp2
  go_loopg [5, 7] (U.length - 1) (fun k v5 v7 wr => CoRel (fun l => List.map (fun y => besideL y.1) l) U w1 k v5 v7 wr)
  case atStart => exact HSt.out
  case round =>
    clear HSt
    obtain ⟨i, hki, rfl, hrow, hb⟩ := hrel
    have HBr := Lib.hid hb
    have hs0 : ((List.map (fun y => besideL y.1) (U.take i))).length ≤ 15 := by
      refine Nat.le_trans (by rw [List.length_map]; exact Nat.le_refl _) (m := (U.take i).length) ?_
      rw [List.length_take]
      omega
    obtain ⟨zs, hzs⟩ : ∃ zs, List.map (fun y => besideL y.1) (U.take i) = zs := ⟨_, rfl⟩
    try dsimp only at hrow hs0 hzs
    rw [hzs] at hrow hs0
    by_cases hil : i < U.length - 1
    · obtain ⟨k, rfl⟩ : ∃ k, gk = k + 1 := ⟨gk - 1, by omega⟩
      obtain ⟨y, hy⟩ : ∃ y, U[i]? = some y := ⟨_, List.getElem?_eq_getElem (by omega)⟩
      have hym := List.mem_of_getElem? hy
      obtain ⟨ad6, rfl, hc6⟩ := HT6.out i y.1 (by rw [List.getElem?_map, hy]; rfl)
      have c0 := hc6 wr hb
      have Hc6 := Lib.hid hc6
      have hS := HS.out y hym wr
      have htk := co_next U i y hy
      obtain ⟨A5, c5, rfl⟩ := L5.own_slice hrow
      have HYes : Hid (∀ V, Below wr.heap.size wr V → (V.alloc (.cells #[.string ⟨(besideL y.1).toArray⟩] 9)).ownsRow w1.heap.size 9 1 (.slice A5 zs.length c5) zs.length (strV zs) ∧ w1.heap.size ≤ (V.alloc (.cells #[.string ⟨(besideL y.1).toArray⟩] 9)).heap.size ∧
          ∀ v' w7, w7.ownsRow w1.heap.size 9 1 v' (zs.length + 1) (strV zs ++ [.string ⟨(besideL y.1).toArray⟩]) → (V.alloc (.cells #[.string ⟨(besideL y.1).toArray⟩] 9)).grownBy w7 (Value.slice A5 zs.length c5).ownBlock → CoRel (fun l => List.map (fun y => besideL y.1) l) U w1 k v' (.int .i64 (i + 1 : Nat)) w7) := fun V hV => by
        have ba : Below wr.heap.size wr (V.alloc (.cells #[.string ⟨(besideL y.1).toArray⟩] 9)) := hV.trans ((Below.refl _ V).alloc hV.size _)
        have hs1 := HBr.out.size
        have hs2 := hV.size
        have e : List.map (fun y => besideL y.1) (U.take (i + 1)) = zs ++ [(besideL y.1)] := by rw [htk, List.map_append, hzs]; rfl
        refine ⟨own_later hrow ba, by simp; omega, fun v' w7 h1 h2 => ⟨i + 1, by omega, rfl, ?_, ?_⟩⟩
        · dsimp only
          rw [e]
          simpa [strV] using h1
        · exact HBr.out.grown (L5.grow_trans ⟨ba.os, ba.tape, ba.output, ba.size, fun k hk _ => ba.block k hk⟩ h2) hs1 (fun q e => (hrow.lt q e).1)
      have j1 : (i : Int) + 1 < (U.length : Int) := by omega
      have j3 : (i : Int) < (U.length : Int) := by omega
      have j4 : (0 : Int) ≤ (i : Int) := by omega
      have j5 : (i : Int) ≤ 15 := by omega
      obtain ⟨yx, yt⟩ := y
      dsimp only at hS c0
      clear hy hym hrow hb hki hzs hil htk HS hc6 HT6
      generalize besideL yx = bx at *
      go_wp2_with fail
      refine hS.mono ?_
      rintro e wa ⟨rfl, ya⟩
      obtain ⟨g1, g2, g3⟩ := HYes.out wa ya
      have HG := Lib.hid g3
      clear HYes g3 ya hS c0
      go_wp2_with (at_builtin; refine wpList_append_own_at _ rfl _ _ 30 rfl w1.heap.size 9 i0 (.string ⟨#[]⟩) 1 16 Try.underlying30 hi hz0 hz1 hz2 rfl (by decide) _ _ _ rfl g1 ⟨wa.heap.size, 0, none⟩ 1 1 [.string ⟨bx.toArray⟩] rfl rfl (cell_one_new _ _ _) (by simp [Value.oneCell']) (by unfold maxLen; omega) (by omega) g2 ?_; intro v2 w5 hown' hgrow hnil hat; have HRl := Lib.hid (HG.out v2 w5 hown' hgrow); clear hown' hgrow hnil hat)
      go_roundg k
      case measure => omega
      case rel => exact HRl.out
    · have e0 : i = U.length - 1 ∨ U.length - 1 < i := by omega
      have HE : Hid (∀ e, e = Ending.returned u5 → TextsOut w zr e wr) := fun e he => ⟨_, he, by rw [← Hzr.out, show U.length - 1 = i by omega, hzs]; exact L10.own_base hrow HB1.out.size, HB1.out.trans (HBr.out.mono HB1.out.size)⟩
      have j1 : ¬ (i : Int) + 1 < (U.length : Int) := by omega
      have j4 : (0 : Int) ≤ (i : Int) := by omega
      have j5 : (i : Int) ≤ 15 := by omega
      clear hzs e0
      obtain ⟨A5, c5, rfl⟩ := L5.own_slice hrow
      clear hrow hb HS HT6 hki hil hs0
      go_wp2
      go_ret
      exact HE.out _ rfl
set_option maxRecDepth 100000 in
set_option maxHeartbeats 16000000 in
theorem rduties_calls (x : List UInt8) (p : Int) (hx : x.length ≤ 90) (w : World) : Calls Try.prog 19 #[.string ⟨x.toArray⟩, .int .i64 p] w (TextsOut w (dutiesX x p)) := by
  obtain ⟨i0, hi, hz0, hz1, hz2⟩ := info_parts info_str
  have hNo := rpath_calls x p hx w
  have HS := Lib.hid (fun (y : Nd) (hy : y ∈ upL x p) V => show Calls Try.prog 17 #[.string ⟨x.toArray⟩, .string ⟨y.1.toArray⟩] V (One V (.int .i64 (low y.2 : Int))) from by
    have := rsponsor_calls x y.1 hx (by have := (downX_ok (upL_down hy)).2; omega) V
    rwa [(at_downX (upL_down hy)).2] at this)
  have hD15 := upL_len x p
  have hres : dutiesX x p = dstep p (upL x p).dropLast := duties_drop x p
  have hNd : pathX x p = (upL x p).map (fun s => s.1) := rfl
  rw [hNd] at hNo
  rw [hres]
  obtain ⟨U, hU⟩ : ∃ U, upL x p = U := ⟨_, rfl⟩
  rw [hU, drop_take]
  rw [hU] at hNo HS hD15
  have hml : (U.map (fun s => s.1)).length = U.length := by simp
  clear hNd hU hres
  obtain ⟨zr, hzr⟩ : ∃ zr, dstep p (U.take (U.length - 1)) = zr := ⟨_, rfl⟩
  rw [hzr]
  have Hzr := Lib.hid hzr
  clear hzr
  go_enter Try.func19, Try.ntmps19
  go_wp2_with fail
  refine hNo.mono ?_
  rintro e w1 ⟨v6, rfl, o6, y6⟩
  have hT6 := TxA.of_own o6
  obtain ⟨A6, c6, rfl⟩ := L5.own_slice o6
  have HT6 := Lib.hid hT6.nth
  have HB1 := Lib.hid y6
  rw [hml]
  have HSt : Hid (CoRel (fun l => dstep p l) U w1 (U.length - 1) (.slice none 0 0) (.int .i64 0) w1) := ⟨0, rfl, rfl, by rw [List.take_zero]; exact World.ownsRow_nil _ _ _ _, Below.refl _ _⟩
  have n15 : (U.length : Int) ≤ 15 := by omega
  clear o6 y6 hT6 hNo hml
  go_wp2
  go_loopg [5, 7] (U.length - 1) (fun k v5 v7 wr => CoRel (fun l => dstep p l) U w1 k v5 v7 wr)
  case atStart => exact HSt.out
  case round =>
    clear HSt
    obtain ⟨i, hki, rfl, hrow, hb⟩ := hrel
    have HBr := Lib.hid hb
    have hs0 : ((dstep p (U.take i))).length ≤ 15 := by
      refine Nat.le_trans (dstep_len _ _) (m := (U.take i).length) ?_
      rw [List.length_take]
      omega
    obtain ⟨zs, hzs⟩ : ∃ zs, dstep p (U.take i) = zs := ⟨_, rfl⟩
    try dsimp only at hrow hs0 hzs
    rw [hzs] at hrow hs0
    by_cases hil : i < U.length - 1
    · obtain ⟨k, rfl⟩ : ∃ k, gk = k + 1 := ⟨gk - 1, by omega⟩
      obtain ⟨y, hy⟩ : ∃ y, U[i]? = some y := ⟨_, List.getElem?_eq_getElem (by omega)⟩
      have hym := List.mem_of_getElem? hy
      obtain ⟨ad6, rfl, hc6⟩ := HT6.out i y.1 (by rw [List.getElem?_map, hy]; rfl)
      have c0 := hc6 wr hb
      have Hc6 := Lib.hid hc6
      have hS := HS.out y hym wr
      have htk := co_next U i y hy
      obtain ⟨bb, hbb⟩ : ∃ bb, decide ((low y.2 : Int) = p) = bb := ⟨_, rfl⟩
      have HNo : Hid (bb = false → ∀ V, Below w1.heap.size w1 V → Below wr.heap.size wr V → CoRel (fun l => dstep p l) U w1 k u5 (.int .i64 (i + 1 : Nat)) V) := fun hf V hV hV2 => by
        refine ⟨i + 1, by omega, rfl, ?_, hV⟩
        have e : dstep p (U.take (i + 1)) = zs := by
          rw [htk, dstep_next, hbb, hf, hzs]
          simp
        dsimp only
        rw [e]
        exact own_later hrow hV2
      obtain ⟨A5, c5, rfl⟩ := L5.own_slice hrow
      have HYes : Hid (bb = true → ∀ V, Below wr.heap.size wr V → (V.alloc (.cells #[.string ⟨y.1.toArray⟩] 9)).ownsRow w1.heap.size 9 1 (.slice A5 zs.length c5) zs.length (strV zs) ∧ w1.heap.size ≤ (V.alloc (.cells #[.string ⟨y.1.toArray⟩] 9)).heap.size ∧
          ∀ v' w7, w7.ownsRow w1.heap.size 9 1 v' (zs.length + 1) (strV zs ++ [.string ⟨y.1.toArray⟩]) → (V.alloc (.cells #[.string ⟨y.1.toArray⟩] 9)).grownBy w7 (Value.slice A5 zs.length c5).ownBlock → CoRel (fun l => dstep p l) U w1 k v' (.int .i64 (i + 1 : Nat)) w7) := fun ht V hV => by
        have ba : Below wr.heap.size wr (V.alloc (.cells #[.string ⟨y.1.toArray⟩] 9)) := hV.trans ((Below.refl _ V).alloc hV.size _)
        have hs1 := HBr.out.size
        have hs2 := hV.size
        have e : dstep p (U.take (i + 1)) = zs ++ [y.1] := by rw [htk, dstep_next, hbb, ht, hzs]; rfl
        refine ⟨own_later hrow ba, by simp; omega, fun v' w7 h1 h2 => ⟨i + 1, by omega, rfl, ?_, ?_⟩⟩
        · dsimp only
          rw [e]
          simpa [strV] using h1
        · exact HBr.out.grown (L5.grow_trans ⟨ba.os, ba.tape, ba.output, ba.size, fun k hk _ => ba.block k hk⟩ h2) hs1 (fun q e => (hrow.lt q e).1)
      have j1 : (i : Int) + 1 < (U.length : Int) := by omega
      have j3 : (i : Int) < (U.length : Int) := by omega
      have j4 : (0 : Int) ≤ (i : Int) := by omega
      have j5 : (i : Int) ≤ 15 := by omega
      obtain ⟨yx, yt⟩ := y
      dsimp only at hS c0
      have hlp : bb = decide ((low yt : Int) = p) := hbb.symm
      clear hy hym hrow hb hki hzs hil htk HS HT6 hbb hc6
      generalize low yt = lw at *
      go_wp2_with fail
      refine hS.mono ?_
      rintro e wa ⟨rfl, ya⟩
      have HBa := Lib.hid ya
      have h1b := HBr.out.trans (HBa.out.mono HBr.out.size)
      have H1b := Lib.hid h1b
      have cc := Hc6.out wa h1b
      clear h1b ya hS c0 Hc6
      cases bb with
      | false =>
        have hne : ¬ (lw : Int) = p := by simpa using hlp.symm
        have HR := Lib.hid (HNo.out rfl wa H1b.out HBa.out)
        clear HNo HYes cc hlp
        go_wp2
        go_roundg k
        case measure => omega
        case rel => exact HR.out
      | true =>
        have heq : (lw : Int) = p := by simpa using hlp.symm
        obtain ⟨g1, g2, g3⟩ := HYes.out rfl wa HBa.out
        have HG := Lib.hid g3
        clear HNo HYes g3 hlp
        go_wp2_with (at_builtin; refine wpList_append_own_at _ rfl _ _ 30 rfl w1.heap.size 9 i0 (.string ⟨#[]⟩) 1 16 Try.underlying30 hi hz0 hz1 hz2 rfl (by decide) _ _ _ rfl g1 ⟨wa.heap.size, 0, none⟩ 1 1 [.string ⟨yx.toArray⟩] rfl rfl (cell_one_new _ _ _) (by simp [Value.oneCell']) (by unfold maxLen; omega) (by omega) g2 ?_; intro v2 w5 hown' hgrow hnil hat; have HRl := Lib.hid (HG.out v2 w5 hown' hgrow); clear hown' hgrow hnil hat)
        go_roundg k
        case measure => omega
        case rel => exact HRl.out
    · have e0 : i = U.length - 1 ∨ U.length - 1 < i := by omega
      have HE : Hid (∀ e, e = Ending.returned u5 → TextsOut w zr e wr) := fun e he => ⟨_, he, by rw [← Hzr.out, show U.length - 1 = i by omega, hzs]; exact L10.own_base hrow HB1.out.size, HB1.out.trans (HBr.out.mono HB1.out.size)⟩
      have j1 : ¬ (i : Int) + 1 < (U.length : Int) := by omega
      have j4 : (0 : Int) ≤ (i : Int) := by omega
      have j5 : (i : Int) ≤ 15 := by omega
      clear hzs e0
      obtain ⟨A5, c5, rfl⟩ := L5.own_slice hrow
      clear hrow hb HS HT6 hki hil hs0
      go_wp2
      go_ret
      exact HE.out _ rfl
end Go.Proofs.Ytlpabhgfmkilnaa.L14
