/- The law TreeLeaves. -/
import Derived.Test.YtembihlkildodaaDoorTrMade
namespace Go.Proofs.YtembihlkildodaaDoor.L13
open Go.ChangeShapes Go.WideShapes Go.ChangeAt Go.RowKit Go.Deep
open Go.Proofs.YtembihlkildodaaDoor.L5 (One)

theorem filter_len {l : List Nat} (h : l.Nodup) {p : Nat} (hp : p ∈ l) : (l.filter (fun q => decide (q ≠ p))).length + 1 = l.length := by
  have e : l.filter (fun q => decide (q ≠ p)) = l.erase p := by
    rw [h.erase_eq_filter]
    congr 1
    funext q
    by_cases e : q = p <;> simp [e]
  rw [e, List.length_erase_of_mem hp]
  have := List.length_pos_of_mem hp
  omega
theorem mem_mems {t : Tr} {y : Int} (o : t.ok) (h : y ∈ t.mems) : 1 ≤ y ∧ y ≤ 8 ∧ y.toNat ∈ t.procs := by
  have e := o.contains y
  rw [List.contains_iff_mem.2 h] at e
  have g := of_decide_eq_true e.symm
  have := o.small _ g.2
  exact ⟨g.1, by omega, g.2⟩
/-- One of more leaves. -/
theorem leave_mem {t : Tr} (o : t.ok) {y : Int} (hy : y ∈ t.mems) (h2 : 2 ≤ t.procs.length) : ∃ u : Tr, u.ok ∧ leaveX t.text y = (u.text, 0) ∧ t.out y.toNat = some u ∧ u.procs = t.procs.filter (fun q => decide (q ≠ y.toNat)) ∧ u.procs.length + 1 = t.procs.length := by
  obtain ⟨g1, g8, gm⟩ := mem_mems o hy
  cases t with
  | leaf p => simp [Tr.procs] at h2
  | node l r =>
    obtain ⟨u, e, hp⟩ := Tr.out_some (o.other y.toNat)
    refine ⟨u, o.out hp, ?_, e, hp, ?_⟩
    · unfold leaveX
      rw [readT_text o]
      dsimp only
      unfold outX
      rw [e]
      dsimp only
      rw [if_pos ⟨g1, gm⟩]
    · rw [hp]
      exact filter_len o.once gm
theorem memsX_text {t : Tr} (o : t.ok) : memsX t.text = t.mems := by unfold memsX; rw [readT_text o]
theorem deepX_text {t : Tr} (o : t.ok) : deepX t.text = (t.deep : Int) := by unfold deepX; rw [readT_text o]
theorem mems_leaf (p : Nat) : (Tr.leaf p).mems = [(p : Int)] := by
  simp [Tr.mems, Tr.ints, Tr.procs, L10.sortL]
def LeavesRel (w : World) (k : Nat) (v6 v7 : Value) (wr : World) : Prop := ∃ (i : Nat) (t : Tr), k + i = 8 ∧ v7 = .int .i64 i ∧ t.ok ∧ t.procs.length + i ≤ 8 ∧ v6 = .string ⟨t.text.toArray⟩ ∧ Below w.heap.size w wr
set_option maxRecDepth 100000 in
set_option maxHeartbeats 8000000 in
theorem leaves_calls (v u : Value) (xs ys : List Int) (w : World) (hI : IntsA w v xs) (hU : IntsA w u ys) : Calls Tryd.prog 8 #[v, u] w (One w (.bool true)) := by
  have hSh := shown_calls w
  have HMa := Lib.hid (fun V (hb : Below w.heap.size w V) => made_calls v xs V (hI.below hb))
  obtain ⟨A, c, rfl, _⟩ := id hI.reads
  obtain ⟨A2, c2, rfl, _⟩ := id hU.reads
  have HY := Lib.hid (ints_at hU)
  have hfew := hU.few
  unfold maxLen at hfew
  clear hI hU
  by_cases h20 : 20 < ys.length
  · have h20' : (20 : Int) < (ys.length : Int) := by omega
    clear HMa HY h20
    go_enter Tryd.func8, Tryd.ntmps8
    go_wp2_with fail
    refine hSh.mono ?_
    rintro e w1 ⟨rfl, b1⟩
    have B1 := Lib.hid b1
    clear b1 hSh
    go_wp2
    go_ret
    exact ⟨rfl, B1.out⟩
  · have h20' : ¬ (20 : Int) < (ys.length : Int) := by omega
    go_enter Tryd.func8, Tryd.ntmps8
    go_wp2_with fail
    refine hSh.mono ?_
    rintro e w1 ⟨rfl, b1⟩
    have hMa := HMa.out _ b1
    have B1 := Lib.hid b1
    clear b1 hSh
    go_wp2_with fail
    refine hMa.mono ?_
    rintro e w2 ⟨t, ot, rfl, b2⟩
    have HSt : Hid (LeavesRel w 8 (.string ⟨t.text.toArray⟩) (.int .i64 0) w2) := ⟨0, t, by omega, rfl, ot, by have := ot.few; omega, rfl, B1.out.trans (b2.mono B1.out.size)⟩
    clear b2 hMa HMa ot
    generalize t.text = tx at *
    go_wp2
    go_loopg [6, 7] 8 (fun k v6 v7 wr => LeavesRel w k v6 v7 wr)
    case atStart => exact HSt.out
    case round =>
      clear HSt
      obtain ⟨i, t, hk, rfl, ot, h8, rfl, hb⟩ := hrel
      have h1 := t.procs_pos
      have hi : i < 8 := by omega
      have j1 : (i : Int) < 8 := by omega
      have j2 : (0 : Int) ≤ (i : Int) := by omega
      have hM := members_top t.text wr
      rw [memsX_text ot] at hM
      have hml := mems_len t
      have HB := Lib.hid hb
      clear hb
      by_cases hn : t.procs.length = 1
      · obtain ⟨p, rfl⟩ := Tr.one_of_len hn
        have hp := ot.small p (by simp [Tr.procs])
        have hl : leafX (p : Int) = ((Tr.leaf p).text, 0) := by unfold leafX; rw [if_pos (by omega)]; rfl
        have HL := Lib.hid (fun V => leaf_top (p : Int) V)
        rw [hl] at HL
        unfold Str2 at HL
        dsimp only at HL
        have HD := Lib.hid (fun V => depth_top (Tr.leaf p).text V)
        rw [deepX_text ot] at HD
        rw [show (((Tr.leaf p).deep : Nat) : Int) = 0 from rfl] at HD
        have R1 := Lib.hid (fun (V : World) (v : Value) (B : Nat) (h : V.ownsRow B 3 1 v (Tr.leaf p).mems.length ((Tr.leaf p).mems.map (Value.int .i64))) => head_cell (ot.ints h))
        rw [mems_leaf] at R1 hM
        rw [show (Tr.leaf p).procs.length = 1 from rfl, show [(p : Int)].headD 0 = (p : Int) from rfl] at R1
        clear hl hp ot h8 hk h1 hn hml
        generalize (Tr.leaf p).text = tx at *
        go_wp2_with fail
        refine hM.mono ?_
        rintro e w3 ⟨v3, rfl, o3, b3⟩
        obtain ⟨ad, c3, rfl, hl3, hc3⟩ := R1.out _ _ _ o3
        have d3 := hc3 _ (Below.refl _ _)
        have B3 := Lib.hid (HB.out.trans (b3.mono HB.out.size))
        clear o3 b3 hc3 hM R1
        go_wp2_with fail
        refine (HL.out _).mono ?_
        rintro e w4 ⟨rfl, b4⟩
        have B4 := Lib.hid (B3.out.trans (b4.mono B3.out.size))
        clear b4
        go_wp2_with fail
        refine (HD.out _).mono ?_
        rintro e w5 ⟨rfl, b5⟩
        have B5 := Lib.hid (B4.out.trans (b5.mono B4.out.size))
        clear b5
        go_wp2
        go_ret
        exact ⟨rfl, B5.out⟩
      · have hn1 : ((t.mems.length : Int) == 1) = false := by rw [beq_eq_false_iff_ne]; omega
        have HO : Hid (∀ (V : World) (v : Value) (B : Nat), V.ownsRow B 3 1 v t.mems.length (t.mems.map (Value.int .i64)) → IntsA V v t.mems) := fun V v B h => ot.ints h
        have HLv : Hid (∀ y, y ∈ t.mems → ∃ u : Tr, u.ok ∧ leaveX t.text y = (u.text, 0) ∧ u.mems.length + 1 = t.mems.length ∧ u.procs.length + 1 = t.procs.length) := fun y hy => by
          obtain ⟨u, o, e, _, _, hl⟩ := leave_mem ot hy (by omega)
          exact ⟨u, o, e, by rw [mems_len, mems_len]; exact hl, hl⟩
        have hgk := Lib.hid (show gk - 1 < gk by omega)
        have HRel : Hid (∀ (V : World) (u : Tr), u.ok → u.procs.length + 1 = t.procs.length → Below w.heap.size w V → LeavesRel w (gk - 1) (.string ⟨u.text.toArray⟩) (.int .i64 ((i + 1 : Nat) : Int)) V) := fun V u ou hl hb => ⟨i + 1, u, by omega, rfl, ou, by omega, rfl, hb⟩
        have n2 : 2 ≤ t.mems.length ∧ t.mems.length ≤ 8 := by omega
        clear ot hk h8 h1 hml hn
        generalize hms : t.mems = ms at *
        clear hms
        obtain ⟨n2a, n2b⟩ := n2
        generalize t.text = tx at *
        by_cases hy0 : ys.length = 0
        · have j5 : ¬ (0 : Int) < (ys.length : Int) := by omega
          obtain ⟨at0, hat0⟩ : ∃ at0 : Nat, at0 = 0 := ⟨0, rfl⟩
          have hat : at0 < ms.length := by omega
          clear hy0
          go_wp2_with fail
          refine hM.mono ?_
          rintro e w3 ⟨v3, rfl, o3, b3⟩
          have hms := HO.out _ _ _ o3
          obtain ⟨A3, c3, rfl⟩ := L5.own_slice o3
          have HI3 := Lib.hid (ints_at hms)
          have B3 := Lib.hid (HB.out.trans (b3.mono HB.out.size))
          clear o3 b3 hms hM HO
          subst hat0
          obtain ⟨y, hy⟩ : ∃ y, ms[0]? = some y := ⟨_, List.getElem?_eq_getElem hat⟩
          obtain ⟨_, ad, hA3, hc3⟩ := HI3.out _ _ hy
          subst hA3
          have d3 := hc3 _ (Below.refl _ _)
          have e0 : ad.add 0 = ad := by unfold Addr.add; rw [if_pos rfl]
          rw [e0] at d3
          clear e0
          have k1 : (0 : Int) < (ms.length : Int) := by omega
          have k2 : (0 : Int) ≤ 0 := by omega
          obtain ⟨u, ou, hux, hul, hup⟩ := HLv.out y (List.mem_of_getElem? hy)
          have hV := leave_top tx y w3
          rw [hux] at hV
          unfold Str2 at hV
          dsimp only at hV
          have HM2 := Lib.hid (fun V => members_top u.text V)
          rw [memsX_text ou] at HM2
          have HR2 := Lib.hid (fun V (hb : Below w.heap.size w V) => HRel.out V u ou hup hb)
          have hul' : IntKind.i64.wrap ((ms.length : Int) - 1) = (u.mems.length : Int) := by rw [IntKind.wrap_i64]; omega
          have hul2 : (ms.length : Int) - 1 = (u.mems.length : Int) := by omega
          clear hc3 hy hux hup HLv HRel ou
          generalize u.text = ux at *
          generalize u.mems = um at *
          go_wp2_with fail
          refine hV.mono ?_
          rintro e w5 ⟨rfl, b5⟩
          have B5 := Lib.hid (B3.out.trans (b5.mono B3.out.size))
          clear b5 hV
          go_wp2_with fail
          refine (HM2.out _).mono ?_
          rintro e w6 ⟨v6, rfl, o6, b6⟩
          obtain ⟨A6, c6, rfl⟩ := L5.own_slice o6
          have HE := Lib.hid (HR2.out _ (B5.out.trans (b6.mono B5.out.size)))
          clear o6 b6 HR2 HM2
          go_wp2
          go_roundg (gk - 1)
          case measure => exact hgk.out
          case rel => exact HE.out
        · have j5 : (0 : Int) < (ys.length : Int) := by omega
          have j6 : ¬ (ys.length : Int) = 0 := by omega
          have j7 : (i : Int).tmod (ys.length : Int) = ((i % ys.length : Nat) : Int) := by rw [Int.tmod_eq_emod_of_nonneg (by omega)]; first | rfl | simp
          have hil : i % ys.length < ys.length := Nat.mod_lt _ (by omega)
          obtain ⟨z, hz⟩ : ∃ z, ys[i % ys.length]? = some z := ⟨_, List.getElem?_eq_getElem hil⟩
          obtain ⟨hzi, ad2, rfl, hcz⟩ := HY.out _ _ hz
          generalize i % ys.length = im at *
          have k5 : (im : Int) < (ys.length : Int) := by omega
          have k6 : (0 : Int) ≤ (im : Int) := by omega
          have HP := Lib.hid (fun V => pick_calls z (ms.length : Int) hzi (by omega) V)
          obtain ⟨hq1, hq2⟩ := pickI_bounds z (show (1 : Int) ≤ (ms.length : Int) by omega)
          generalize pickI z (ms.length : Int) = aI at *
          obtain ⟨at0, rfl⟩ : ∃ at0 : Nat, aI = at0 := ⟨aI.toNat, by omega⟩
          have hat : at0 < ms.length := by omega
          clear hil hz hzi hy0
          go_wp2_with fail
          refine hM.mono ?_
          rintro e w3 ⟨v3, rfl, o3, b3⟩
          have hms := HO.out _ _ _ o3
          obtain ⟨A3, c3, rfl⟩ := L5.own_slice o3
          have HI3 := Lib.hid (ints_at hms)
          have B3 := Lib.hid (HB.out.trans (b3.mono HB.out.size))
          clear o3 b3 hms hM HO
          have e3 := hcz w3 B3.out
          clear hcz
          go_wp2_with fail
          refine (HP.out _).mono ?_
          rintro e w4 ⟨rfl, rfl⟩
          obtain ⟨y, hy⟩ : ∃ y, ms[at0]? = some y := ⟨_, List.getElem?_eq_getElem hat⟩
          obtain ⟨_, ad, hA3, hc3⟩ := HI3.out _ _ hy
          subst hA3
          have d3 := hc3 _ (Below.refl _ _)
          have k1 : (at0 : Int) < (ms.length : Int) := by omega
          have k2 : (0 : Int) ≤ (at0 : Int) := by omega
          obtain ⟨u, ou, hux, hul, hup⟩ := HLv.out y (List.mem_of_getElem? hy)
          have hV := leave_top tx y w4
          rw [hux] at hV
          unfold Str2 at hV
          dsimp only at hV
          have HM2 := Lib.hid (fun V => members_top u.text V)
          rw [memsX_text ou] at HM2
          have HR2 := Lib.hid (fun V (hb : Below w.heap.size w V) => HRel.out V u ou hup hb)
          have hul' : IntKind.i64.wrap ((ms.length : Int) - 1) = (u.mems.length : Int) := by rw [IntKind.wrap_i64]; omega
          have hul2 : (ms.length : Int) - 1 = (u.mems.length : Int) := by omega
          clear hc3 hy hux hup HLv HRel ou
          generalize u.text = ux at *
          generalize u.mems = um at *
          go_wp2_with fail
          refine hV.mono ?_
          rintro e w5 ⟨rfl, b5⟩
          have B5 := Lib.hid (B3.out.trans (b5.mono B3.out.size))
          clear b5 hV
          go_wp2_with fail
          refine (HM2.out _).mono ?_
          rintro e w6 ⟨v6, rfl, o6, b6⟩
          obtain ⟨A6, c6, rfl⟩ := L5.own_slice o6
          have HE := Lib.hid (HR2.out _ (B5.out.trans (b6.mono B5.out.size)))
          clear o6 b6 HR2 HM2
          go_wp2
          go_roundg (gk - 1)
          case measure => exact hgk.out
          case rel => exact HE.out
end Go.Proofs.YtembihlkildodaaDoor.L13
