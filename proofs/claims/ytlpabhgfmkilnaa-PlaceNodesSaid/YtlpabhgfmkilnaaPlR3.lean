/- The document's Path, Co, Sponsor and Duties. -/
import Derived.Test.YtlpabhgfmkilnaaPlR2
namespace Go.Proofs.Ytlpabhgfmkilnaa.L14
open Go.ChangeShapes Go.WideShapes Go.ChangeAt Go.RowKit Go.Deep
open Go.Proofs.Ytlpabhgfmkilnaa.L13
open Go.Proofs.Ytlpabhgfmkilnaa.L5 (One)

theorem at_downX {x : List UInt8} {y : Nd} (h : y ∈ downX x) : atX x y.1 = (y.2.text, 0) ∧ sponsorX x y.1 = (low y.2 : Int) := by
  unfold downX at h
  unfold atX sponsorX
  cases hx : readT x with
  | none => rw [hx] at h; cases h
  | some t =>
    rw [hx] at h
    have := (t.down_mem y.1 y.2).1 h
    dsimp only
    rw [this]
    exact ⟨rfl, rfl⟩
/-- A path's nodes but the root. -/
theorem upL_cases (x : List UInt8) (p : Int) : upL x p = [] ∨ ∃ U r, upL x p = U ++ [([], r)] ∧ ∀ s ∈ U, s.1 ≠ [] := by
  cases hx : readT x with
  | none => left; unfold upL downX; rw [hx]; rfl
  | some t =>
    obtain ⟨rfl, ho⟩ := readT_some hx
    by_cases h : 1 ≤ p ∧ p.toNat ∈ t.procs
    · obtain ⟨q, rfl⟩ : ∃ q : Nat, p = (q : Int) := ⟨p.toNat, by omega⟩
      rw [Int.toNat_natCast] at h
      obtain ⟨U, e, hU⟩ := ho.up_root h.2
      exact .inr ⟨U, t, by rw [upL_text ho (by omega), e], hU⟩
    · left
      unfold upL
      rw [downX_text ho, List.reverse_eq_nil_iff, List.filter_eq_nil_iff]
      intro y hy hp
      have hat := (t.down_mem y.1 y.2).1 hy
      unfold hasI at hp
      rw [(ho.at hat).contains, decide_eq_true_iff] at hp
      exact h ⟨hp.1, Tr.at_procs hat _ hp.2⟩
theorem co_drop (x : List UInt8) (p : Int) : coX x p = (upL x p).dropLast.map (fun y => besideL y.1) := by
  unfold coX coL
  rcases upL_cases x p with e | ⟨U, r, e, hU⟩
  · rw [e]; rfl
  · rw [e, List.dropLast_concat, List.filter_append, List.filter_eq_self.2 (fun y hy => decide_eq_true (hU y hy))]
    simp
theorem duties_drop (x : List UInt8) (p : Int) : dutiesX x p = ((upL x p).dropLast.filter (fun y => decide ((low y.2 : Int) = p))).map (fun y => y.1) := by
  unfold dutiesX dutL
  rcases upL_cases x p with e | ⟨U, r, e, hU⟩
  · rw [e]; rfl
  · rw [e, List.dropLast_concat, List.filter_append]
    have h1 : U.filter (isDutyI p) = U.filter (fun y => decide ((low y.2 : Int) = p)) := List.filter_congr (fun y hy => by
      unfold isDutyI
      rw [Bool.eq_iff_iff, decide_eq_true_iff, decide_eq_true_iff]
      exact ⟨fun h => h.2, fun h => ⟨hU y hy, h⟩⟩)
    rw [h1]
    simp [isDutyI]
set_option maxHeartbeats 4000000 in
theorem rsponsor_calls (x node : List UInt8) (hx : x.length ≤ 90) (hn : node.length ≤ 90) (w : World) : Calls Try.prog 17 #[.string ⟨x.toArray⟩, .string ⟨node.toArray⟩] w (One w (.int .i64 (sponsorX x node))) := by
  have hA := rat_calls x node hx hn w
  have hcase : (∃ u : Tr, u.ok ∧ atX x node = (u.text, 0) ∧ sponsorX x node = low u) ∨ (∃ y k, atX x node = (y, k) ∧ (k != 0) = true ∧ sponsorX x node = 0) := by
    unfold atX sponsorX
    cases hx : readT x with
    | none => exact .inr ⟨[], 1, rfl, rfl, rfl⟩
    | some t =>
      have ho := (readT_some hx).2
      dsimp only
      cases ha : t.at node with
      | none => exact .inr ⟨[], 8, rfl, rfl, rfl⟩
      | some u => exact .inl ⟨u, ho.at ha, rfl, rfl⟩
  rcases hcase with ⟨u, hu, e1, e2⟩ | ⟨y, k, e1, hk, e2⟩
  · rw [e1] at hA
    rw [e2]
    have hM : ∀ V, Calls Try.prog 27 #[.string ⟨u.text.toArray⟩] V (L10.IntsOut V u.mems) := fun V => by
      have := rMembers_top u.text (by have := hu.len; omega) V
      unfold memsX at this
      rwa [readT_text hu] at this
    have HM := Lib.hid hM
    have h0 : u.mems[0]? = some (low u : Int) := by rw [← (mems_head u).1]; cases u.mems <;> rfl
    have HI := Lib.hid (fun (V : World) (v : Value) B (h : V.ownsRow B 3 1 v u.mems.length (u.mems.map (Value.int .i64))) => hu.ints h)
    have hpos : 0 < u.mems.length := (List.getElem?_eq_some_iff.1 h0).1
    have H0 := Lib.hid h0
    have j1 : (0 : Int) < (u.mems.length : Int) := by omega
    clear e1 e2 hu hM h0
    unfold Str2 at hA
    dsimp only at hA
    generalize u.text = tx at *
    generalize u.mems = ms at *
    go_enter Try.func17, Try.ntmps17
    go_wp2_with fail
    refine hA.mono ?_
    rintro e w1 ⟨rfl, b1⟩
    have HB := Lib.hid b1
    clear b1
    go_wp2_with fail
    refine (HM.out _).mono ?_
    rintro e w2 ⟨v, rfl, o2, b2⟩
    have hI := HI.out _ _ _ o2
    obtain ⟨A, c, rfl⟩ := L5.own_slice o2
    obtain ⟨_, ad, rfl, c0⟩ := (intsA_at hI).2 0 _ H0.out
    have c0' : w2.cell? ad = some (.int .i64 (low u : Int)) := by rwa [show ad.add 0 = ad by simp [Addr.add]] at c0
    have HB2 := Lib.hid b2
    clear o2 b2 hI c0
    go_wp2
    go_ret
    exact ⟨rfl, HB.out.trans (HB2.out.mono HB.out.size)⟩
  · rw [e1] at hA
    rw [e2]
    clear e1 e2
    unfold Str2 at hA
    dsimp only at hA
    go_enter Try.func17, Try.ntmps17
    go_wp2_with (go_at_call 6; refine hA.mono ?_; rintro e w1 ⟨rfl, b1⟩; have HB := Lib.hid b1; clear b1)
    go_ret
    exact ⟨rfl, HB.out⟩
def RpRel (D : List Nd) (p : Int) (w : World) (k : Nat) (v5 v7 : Value) (wr : World) : Prop :=
  k ≤ D.length ∧ v7 = .int .i64 ((k : Int) - 1) ∧ wr.ownsRow w.heap.size 9 1 v5 (((D.drop k).reverse.filter (hasI p)).map (fun s => s.1)).length (strV (((D.drop k).reverse.filter (hasI p)).map (fun s => s.1))) ∧ Below w.heap.size w wr
theorem drop_rev {D : List Nd} {k : Nat} {y : Nd} (h : D[k]? = some y) : (D.drop k).reverse = (D.drop (k + 1)).reverse ++ [y] := by
  obtain ⟨hk, e⟩ := List.getElem?_eq_some_iff.1 h
  rw [List.drop_eq_getElem_cons hk, e, List.reverse_cons]
set_option maxRecDepth 100000 in
set_option maxHeartbeats 16000000 in
theorem rpath_calls (x : List UInt8) (p : Int) (hx : x.length ≤ 90) (w : World) : Calls Try.prog 11 #[.string ⟨x.toArray⟩, .int .i64 p] w (TextsOut w (pathX x p)) := by
  obtain ⟨i0, hi, hz0, hz1, hz2⟩ := info_parts info_str
  have hNo := rnodes_calls x hx w
  have HA := Lib.hid (fun (y : Nd) (hy : y ∈ downX x) V => show Calls Try.prog 6 #[.string ⟨x.toArray⟩, .string ⟨y.1.toArray⟩] V (Str2 V (y.2.text, 0)) from by have := rat_calls x y.1 hx (by have := (downX_ok hy).2; omega) V; rwa [(at_downX hy).1] at this)
  have HMm := Lib.hid (fun (y : Nd) (hy : y ∈ downX x) V => show Calls Try.prog 27 #[.string ⟨y.2.text.toArray⟩] V (L10.IntsOut V y.2.mems) from by
    have ho := (downX_ok hy).1
    have := rMembers_top y.2.text (by have := ho.len; omega) V
    unfold memsX at this
    rwa [readT_text ho] at this)
  have HH := Lib.hid (fun (y : Nd) (hy : y ∈ downX x) (V : World) (v : Value) B (h : V.ownsRow B 3 1 v y.2.mems.length (y.2.mems.map (Value.int .i64))) => L10.rhas_calls v y.2.mems p V ((downX_ok hy).1.ints h))
  have hD15 := downX_len x
  have HP : Hid (pathX x p = ((((downX x).drop 0).reverse.filter (hasI p)).map (fun s => s.1))) := by unfold Hid pathX upL; rw [List.drop_zero, List.filter_reverse]
  have hNd : nodesX x = (downX x).map (fun s => s.1) := rfl
  rw [hNd] at hNo
  obtain ⟨D, hD⟩ : ∃ D, downX x = D := ⟨_, rfl⟩
  rw [hD] at hNo HA HMm HH hD15 HP
  have hml : (D.map (fun s => s.1)).length = D.length := by simp
  clear hNd hD
  go_enter Try.func11, Try.ntmps11
  go_wp2_with fail
  refine hNo.mono ?_
  rintro e w1 ⟨v6, rfl, o6, y6⟩
  have hT6 := TxA.of_own o6
  obtain ⟨A6, c6, rfl⟩ := L5.own_slice o6
  have HT6 := Lib.hid hT6.nth
  have HB1 := Lib.hid y6
  rw [hml]
  have HSt : Hid (RpRel D p w1 D.length (.slice none 0 0) (.int .i64 ((D.length : Int) - 1)) w1) := ⟨Nat.le_refl _, rfl, by rw [List.drop_length]; exact World.ownsRow_nil _ _ _ _, Below.refl _ _⟩
  have n15 : (D.length : Int) ≤ 15 := by omega
  clear o6 y6 hT6 hNo hml
  go_wp2
  go_loopg [5, 7] D.length (fun k v5 v7 wr => RpRel D p w1 k v5 v7 wr)
  case atStart => exact HSt.out
  case round =>
    clear HSt
    obtain ⟨hkD, rfl, hrow, hb⟩ := hrel
    have HBr := Lib.hid hb
    cases gk with
    | zero =>
      obtain ⟨zs, hzs⟩ : ∃ zs, ((D.drop 0).reverse.filter (hasI p)).map (fun s => s.1) = zs := ⟨_, rfl⟩
      rw [hzs] at hrow
      have HE : Hid (∀ e, e = Ending.returned u5 → TextsOut w (pathX x p) e wr) := fun e he => ⟨_, he, by rw [HP.out, hzs]; exact L10.own_base hrow HB1.out.size, HB1.out.trans (HBr.out.mono (by have := HB1.out.size; omega))⟩
      clear hzs
      obtain ⟨A5, c5, rfl⟩ := L5.own_slice hrow
      have j1 : ¬ (0 : Int) ≤ ((0 : Nat) : Int) - 1 := by omega
      clear hrow hb HP HA HMm HH hD15
      go_wp2
      go_ret
      exact HE.out _ rfl
    | succ k =>
      obtain ⟨y, hy⟩ : ∃ y, D[k]? = some y := ⟨_, List.getElem?_eq_getElem (by omega)⟩
      have hym := List.mem_of_getElem? hy
      obtain ⟨ad6, rfl, hc6⟩ := HT6.out k y.1 (by rw [List.getElem?_map, hy]; rfl)
      have c0 := hc6 wr hb
      have Hc6 := Lib.hid hc6
      have hAt := HA.out y hym wr
      have HM := Lib.hid (fun V => HMm.out y hym V)
      have HHa := Lib.hid (fun V v B h => HH.out y hym V v B h)
      obtain ⟨bb, hbb⟩ : ∃ bb, y.2.mems.contains p = bb := ⟨_, rfl⟩
      rw [hbb] at HHa
      have hhas : hasI p y = bb := hbb
      have hdr := drop_rev hy
      have HNo : Hid (bb = false → ∀ V, Below w1.heap.size w1 V → Below wr.heap.size wr V → RpRel D p w1 k u5 (.int .i64 ((k : Int) - 1)) V) := fun hf V hV hV2 => by
        refine ⟨by omega, rfl, ?_, hV⟩
        rw [hdr, List.filter_append, List.filter_cons, hhas, hf]
        simpa using own_later hrow hV2
      have hfl : (((D.drop (k + 1)).reverse.filter (hasI p)).map (fun s => s.1)).length ≤ 15 := by
        rw [List.length_map]
        refine Nat.le_trans (List.length_filter_le _ _) ?_
        rw [List.length_reverse, List.length_drop]
        omega
      obtain ⟨zs, hzs⟩ : ∃ zs, ((D.drop (k + 1)).reverse.filter (hasI p)).map (fun s => s.1) = zs := ⟨_, rfl⟩
      rw [hzs] at hrow hfl
      obtain ⟨A5, c5, rfl⟩ := L5.own_slice hrow
      have HYes : Hid (bb = true → ∀ V, Below wr.heap.size wr V → (V.alloc (.cells #[.string ⟨y.1.toArray⟩] 9)).ownsRow w1.heap.size 9 1 (.slice A5 zs.length c5) zs.length (strV zs) ∧ w1.heap.size ≤ (V.alloc (.cells #[.string ⟨y.1.toArray⟩] 9)).heap.size ∧
          ∀ v' w7, w7.ownsRow w1.heap.size 9 1 v' (zs.length + 1) (strV zs ++ [.string ⟨y.1.toArray⟩]) → (V.alloc (.cells #[.string ⟨y.1.toArray⟩] 9)).grownBy w7 (Value.slice A5 zs.length c5).ownBlock → RpRel D p w1 k v' (.int .i64 ((k : Int) - 1)) w7) := fun ht V hV => by
        have ba : Below wr.heap.size wr (V.alloc (.cells #[.string ⟨y.1.toArray⟩] 9)) := hV.trans ((Below.refl _ V).alloc hV.size _)
        have hs1 := HBr.out.size
        have hs2 := hV.size
        refine ⟨own_later hrow ba, by simp; omega, fun v' w7 h1 h2 => ⟨by omega, rfl, ?_, ?_⟩⟩
        · rw [hdr, List.filter_append, List.filter_cons, hhas, ht, List.map_append, hzs]
          simpa [strV] using h1
        · exact HBr.out.grown (L5.grow_trans ⟨ba.os, ba.tape, ba.output, ba.size, fun k hk _ => ba.block k hk⟩ h2) hs1 (fun q e => (hrow.lt q e).1)
      have j1 : (0 : Int) ≤ ((k + 1 : Nat) : Int) - 1 := by omega
      have j2 : ((k + 1 : Nat) : Int) - 1 = (k : Int) := by omega
      have j3 : (k : Int) < (D.length : Int) := by omega
      have j4 : (0 : Int) ≤ (k : Int) := by omega
      have j5 : (k : Int) ≤ 15 := by omega
      rw [j2]
      obtain ⟨yx, yt⟩ := y
      unfold Str2 at hAt
      dsimp only at hAt c0 HM HHa
      clear hy hym hrow hb hkD hbb hhas hdr hzs HP HA HMm HH hc6 HT6
      generalize yt.text = tx at *
      generalize yt.mems = ms at *
      go_wp2_with fail
      refine hAt.mono ?_
      rintro e wa ⟨rfl, ya⟩
      have HBa := Lib.hid ya
      clear ya hAt c0
      go_wp2_with fail
      refine (HM.out _).mono ?_
      rintro e wb ⟨vb, rfl, ob, yb⟩
      have hHa := HHa.out _ _ _ ob
      obtain ⟨Ab, cb, rfl⟩ := L5.own_slice ob
      have HBb := Lib.hid (HBa.out.trans (yb.mono HBa.out.size))
      clear ob yb HHa HM
      go_wp2_with fail
      refine hHa.mono ?_
      rintro e wc ⟨rfl, rfl⟩
      have h1b := HBr.out.trans (HBb.out.mono HBr.out.size)
      have H1b := Lib.hid h1b
      have cc := Hc6.out wb h1b
      clear h1b hHa Hc6
      cases bb with
      | false =>
        have HR := Lib.hid (HNo.out rfl wb H1b.out HBb.out)
        clear HNo HYes cc
        go_wp2
        go_roundg k
        case measure => omega
        case rel => exact HR.out
      | true =>
        obtain ⟨g1, g2, g3⟩ := HYes.out rfl wb HBb.out
        have HG := Lib.hid g3
        clear HNo HYes g3
        go_wp2_with (at_builtin; refine wpList_append_own_at _ rfl _ _ 30 rfl w1.heap.size 9 i0 (.string ⟨#[]⟩) 1 16 Try.underlying30 hi hz0 hz1 hz2 rfl (by decide) _ _ _ rfl g1 ⟨wb.heap.size, 0, none⟩ 1 1 [.string ⟨yx.toArray⟩] rfl rfl (cell_one_new _ _ _) (by simp [Value.oneCell']) (by unfold maxLen; omega) (by omega) g2 ?_; intro v2 w5 hown' hgrow hnil hat; have HRl := Lib.hid (HG.out v2 w5 hown' hgrow); clear hown' hgrow hnil hat)
        go_roundg k
        case measure => omega
        case rel => exact HRl.out
end Go.Proofs.Ytlpabhgfmkilnaa.L14
