/- The law TreeBack. -/
import Derived.Test.YtembihlkildodaaDoorTrLv
namespace Go.Proofs.YtembihlkildodaaDoor.L13
open Go.ChangeShapes Go.WideShapes Go.ChangeAt Go.RowKit Go.Deep
open Go.Proofs.YtembihlkildodaaDoor.L5 (One)

theorem sorted_unique : ∀ (xs ys : List Int), xs.Pairwise (· ≤ ·) → ys.Pairwise (· ≤ ·) → xs.Perm ys → xs = ys := by
  intro xs
  induction xs with
  | nil => intro ys _ _ h; exact (List.nil_perm.1 h).symm
  | cons x xs ih =>
    intro ys hx hy h
    cases ys with
    | nil => exact absurd h.length_eq (by simp)
    | cons y ys =>
      have h1 := List.pairwise_cons.1 hx
      have h2 := List.pairwise_cons.1 hy
      have e : x = y := by
        have m1 : x ∈ y :: ys := h.mem_iff.1 (by simp)
        have m2 : y ∈ x :: xs := h.mem_iff.2 (by simp)
        rcases List.mem_cons.1 m1 with e | m1
        · exact e
        · rcases List.mem_cons.1 m2 with e | m2
          · exact e.symm
          · have := h1.1 y m2
            have := h2.1 x m1
            omega
      subst e
      rw [ih ys h1.2 h2.2 (List.Perm.cons_inv h)]
theorem sortL_perm (xs : List Int) : (L10.sortL xs).Perm xs := List.mergeSort_perm xs _
/-- Who is left, sorted. -/
theorem mems_filter {t u : Tr} {q : Nat} (hu : u.procs = t.procs.filter (fun p => decide (p ≠ q))) : u.mems = t.mems.filter (fun p => ![(q : Int)].contains p) := by
  refine sorted_unique _ _ (L10.sortL_sorted _) ((L10.sortL_sorted _).filter _) ?_
  refine (sortL_perm _).trans ?_
  refine List.Perm.trans ?_ ((sortL_perm t.ints).filter _).symm
  unfold Tr.ints
  rw [hu, List.filter_map]
  refine List.Perm.of_eq ?_
  congr 2
  funext p
  by_cases e : p = q
  · subst e; simp
  · have : ¬ (p : Int) = (q : Int) := by omega
    simp [e, this]
theorem back_join {t : Tr} (o : t.ok) {q : Nat} (hq : 1 ≤ q ∧ q ≤ 8) (hn : q ∉ t.procs) : joinX t.text (q : Int) = ((t.put q).text, 0) ∧ leaveX (t.put q).text (q : Int) = (t.text, 0) := by
  have ou := o.put hq hn
  refine ⟨?_, ?_⟩
  · unfold joinX
    rw [readT_text o]
    dsimp only
    rw [Int.toNat_natCast, if_pos ⟨by omega, by omega, hn⟩]
  · unfold leaveX
    rw [readT_text ou]
    dsimp only
    have hout := Tr.out_put hn
    have hm : q ∈ (t.put q).procs := (t.put_mem q q).2 (.inl rfl)
    unfold outX
    rw [Int.toNat_natCast, hout]
    cases hp : t.put q with
    | leaf p => exfalso; have h1 := t.put_len q; have h2 := t.procs_pos; rw [hp, show (Tr.leaf p).procs.length = 1 from rfl] at h1; omega
    | node l r =>
      dsimp only
      rw [if_pos ⟨by omega, by rw [← hp]; exact hm⟩]
theorem natCast_one (m : Nat) : (1 : Int) + (m : Int) = ((1 + m : Nat) : Int) := by omega
set_option maxRecDepth 100000 in
set_option maxHeartbeats 8000000 in
theorem back_calls (v : Value) (xs : List Int) (p : Int) (w : World) (hI : IntsA w v xs) (hp : -9223372036854775808 ≤ p ∧ p ≤ 9223372036854775807) : Calls Tryd.prog 5 #[v, .int .i64 p] w (One w (.bool true)) := by
  have hSh := shown_calls w
  have HMa := Lib.hid (fun V (hb : Below w.heap.size w V) => made_calls v xs V (hI.below hb))
  obtain ⟨A, c, rfl, _⟩ := id hI.reads
  clear hI
  have HP := Lib.hid (fun V => pick_calls p 8 hp (by omega) V)
  obtain ⟨hq1, hq2⟩ := pickI_bounds p (show (1 : Int) ≤ 8 by omega)
  generalize pickI p 8 = q at *
  obtain ⟨m, rfl⟩ : ∃ m : Nat, q = m := ⟨q.toNat, by omega⟩
  obtain ⟨qn, hqn⟩ : ∃ qn : Nat, qn = 1 + m := ⟨_, rfl⟩
  have hqi : (1 : Int) + (m : Int) = (qn : Int) := by omega
  have hq8 : 1 ≤ qn ∧ qn ≤ 8 := by omega
  have HQ := Lib.hid hqn
  clear hqn
  go_enter Tryd.func5, Tryd.ntmps5
  go_wp2_with fail
  refine hSh.mono ?_
  rintro e w1 ⟨rfl, b1⟩
  have hMa := HMa.out _ b1
  have B1 := Lib.hid b1
  clear b1 hSh
  go_wp2_with fail
  refine hMa.mono ?_
  rintro e w2 ⟨t, ot, rfl, b2⟩
  have B2 := Lib.hid (B1.out.trans (b2.mono B1.out.size))
  have hM := members_top t.text w2
  rw [memsX_text ot] at hM
  clear b2 hMa HMa
  go_wp2_with fail
  refine hM.mono ?_
  rintro e w3 ⟨v3, rfl, o3, b3⟩
  have hI3 := ot.ints o3
  obtain ⟨A3, c3, rfl⟩ := L5.own_slice o3
  have B3 := Lib.hid (B2.out.trans (b3.mono B2.out.size))
  have hH := L10.rhas_calls _ _ (qn : Int) w3 hI3
  have HI3 := Lib.hid (And.intro hI3 o3)
  clear o3 b3 hM hI3
  go_wp2_with fail
  refine (HP.out _).mono ?_
  rintro e w4 ⟨rfl, rfl⟩
  clear HP
  have hcon := ot.contains (qn : Int)
  rw [Int.toNat_natCast] at hcon
  have HO := Lib.hid ot
  by_cases hm : qn ∈ t.procs
  · rw [decide_eq_true (And.intro (by omega) hm)] at hcon
    rw [hcon] at hH
    have hml := mems_len t
    by_cases hn : t.procs.length = 1
    · have hX : leaveX t.text (qn : Int) = ([], 8) := by
        obtain ⟨r, rfl⟩ := Tr.one_of_len hn
        unfold leaveX
        rw [readT_text ot]
        rfl
      have HV := Lib.hid (fun V => leave_top t.text (qn : Int) V)
      rw [hX] at HV
      unfold Str2 at HV
      dsimp only at HV
      have hl1 : (t.mems.length : Int) = 1 := by omega
      clear hX hn hml hm hcon ot
      generalize t.text = tx at *
      go_wp2_with fail
      refine hH.mono ?_
      rintro e w5 ⟨rfl, rfl⟩
      go_wp2_with fail
      refine (HV.out _).mono ?_
      rintro e w6 ⟨rfl, b6⟩
      have B6 := Lib.hid (B3.out.trans (b6.mono B3.out.size))
      clear b6
      go_wp2
      go_ret
      exact ⟨rfl, B6.out⟩
    · have h2 : 2 ≤ t.procs.length := by have := t.procs_pos; omega
      have hy : (qn : Int) ∈ t.mems := List.contains_iff_mem.1 hcon
      obtain ⟨u, ou, hX, hout, hup, hul⟩ := leave_mem ot hy h2
      rw [Int.toNat_natCast] at hup hout
      have hdeep := Tr.out_deep hout
      have HV := Lib.hid (fun V => leave_top t.text (qn : Int) V)
      rw [hX] at HV
      unfold Str2 at HV
      dsimp only at HV
      have hl1 : ((t.mems.length : Int) == 1) = false := by rw [beq_eq_false_iff_ne]; omega
      have HR := Lib.hid (fun V => right_top u.text V)
      rw [readT_text ou, show Option.isSome (some u) = true from rfl] at HR
      have HM2 := Lib.hid (fun V => members_top u.text V)
      rw [memsX_text ou] at HM2
      have HU : Hid (∀ (V : World) (v : Value) (B : Nat), V.ownsRow B 3 1 v u.mems.length (u.mems.map (Value.int .i64)) → IntsA V v u.mems) := fun V v B h => ou.ints h
      have HD1 := Lib.hid (fun V => depth_top u.text V)
      have HD2 := Lib.hid (fun V => depth_top t.text V)
      rw [deepX_text ou] at HD1
      rw [deepX_text ot] at HD2
      have hdd : (u.deep : Int) ≤ (t.deep : Int) := by omega
      have hfit : L10.Fits [(qn : Int)] := fun y hy => by rw [List.mem_singleton] at hy; omega
      have HWo : Hid (∀ (V : World) (v : Value), IntsA V v t.mems → ∀ V', V' = V.alloc (.cells #[.int .i64 (qn : Int)] 3) → Calls Tryd.prog 31 #[v, .slice (some ⟨V.heap.size, 0, none⟩) 1 1] V' (L10.IntsOut V' u.mems)) := fun V v h V' hV => by
        subst hV
        have hn := L10.ints_new V [(qn : Int)] hfit (by simp)
        have := L10.rwithout_calls v (.slice (some ⟨V.heap.size, 0, none⟩) 1 1) t.mems [(qn : Int)] _ (h.below ((Below.refl _ _).alloc (Nat.le_refl _) _)) hn (by rw [mems_len]; have := ot.few; omega)
        rw [← mems_filter hup] at this
        exact this
      have HSm : Hid (∀ (V : World) (v x : Value), IntsA V v u.mems → IntsA V x u.mems → Calls Tryd.prog 19 #[v, x] V (L5.One V (.bool true))) := fun V v x h1 h2 => by
        have := L10.rsame_calls v x _ _ V h1 h2
        rw [decide_eq_true rfl] at this
        exact this
      clear hX hn hml hm hcon ot ou h2 hy hup hul hout hdeep hfit
      generalize t.text = tx at *
      generalize u.text = ux at *
      generalize t.deep = td at *
      generalize u.deep = ud at *
      go_wp2_with fail
      refine hH.mono ?_
      rintro e w5 ⟨rfl, rfl⟩
      go_wp2_with fail
      refine (HV.out _).mono ?_
      rintro e w6 ⟨rfl, b6⟩
      have B6 := Lib.hid (B3.out.trans (b6.mono B3.out.size))
      have HI6 := Lib.hid (HI3.out.1.below b6)
      clear b6
      go_wp2_with fail
      refine (HR.out _).mono ?_
      rintro e w7 ⟨rfl, b7⟩
      have B7 := Lib.hid (B6.out.trans (b7.mono B6.out.size))
      have HI7 := Lib.hid (HI6.out.below b7)
      clear b7
      go_wp2_with fail
      refine (HM2.out _).mono ?_
      rintro e w8 ⟨v8, rfl, o8, b8⟩
      have hI8 := HU.out _ _ _ o8
      obtain ⟨A8, c8, rfl⟩ := L5.own_slice o8
      have B8 := Lib.hid (B7.out.trans (b8.mono B7.out.size))
      have HI8 := Lib.hid (And.intro (HI7.out.below b8) hI8)
      clear o8 b8 hI8
      have hb9 : Below w8.heap.size w8 (w8.alloc (.cells #[.int .i64 (qn : Int)] 3)) := (Below.refl _ _).alloc (Nat.le_refl _) _
      have hW := HWo.out w8 _ HI8.out.1 _ rfl
      have HB9 := Lib.hid hb9
      clear hb9
      go_wp2_with fail
      refine hW.mono ?_
      rintro e w9 ⟨v9, rfl, o9, b9⟩
      have hb := HB9.out.trans (b9.mono HB9.out.size)
      have hS := HSm.out w9 _ _ (HI8.out.2.below hb) (HU.out _ _ _ o9)
      obtain ⟨A9, c9, rfl⟩ := L5.own_slice o9
      have B9 := Lib.hid (B8.out.trans (hb.mono B8.out.size))
      clear o9 b9 hb hW HWo
      go_wp2_with fail
      refine hS.mono ?_
      rintro e w10 ⟨rfl, b10⟩
      have B10 := Lib.hid (B9.out.trans (b10.mono B9.out.size))
      clear b10
      go_wp2_with fail
      refine (HD1.out _).mono ?_
      rintro e w11 ⟨rfl, b11⟩
      have B11 := Lib.hid (B10.out.trans (b11.mono B10.out.size))
      clear b11
      go_wp2_with fail
      refine (HD2.out _).mono ?_
      rintro e w12 ⟨rfl, b12⟩
      have B12 := Lib.hid (B11.out.trans (b12.mono B11.out.size))
      clear b12
      go_wp2
      go_ret
      exact ⟨rfl, B12.out⟩
  · rw [decide_eq_false (fun h => hm h.2)] at hcon
    rw [hcon] at hH
    obtain ⟨hX, hY⟩ := back_join ot hq8 hm
    have ou := ot.put hq8 hm
    have HJ := Lib.hid (fun V => join_top t.text (qn : Int) V)
    rw [hX] at HJ
    have HV := Lib.hid (fun V => leave_top (t.put qn).text (qn : Int) V)
    rw [hY] at HV
    unfold Str2 at HJ HV
    dsimp only at HJ HV
    have HR := Lib.hid (fun V => right_top (t.put qn).text V)
    rw [readT_text ou, show Option.isSome (some (t.put qn)) = true from rfl] at HR
    have HM2 := Lib.hid (fun V => members_top (t.put qn).text V)
    rw [memsX_text ou] at HM2
    have hlen : ((t.put qn).mems.length : Int) = (t.mems.length : Int) + 1 := by have := t.put_len qn; rw [mems_len, mems_len]; omega
    have hl8 : t.mems.length ≤ 8 := by rw [mems_len]; exact ot.few
    have hc2 := ou.contains (qn : Int)
    rw [Int.toNat_natCast, decide_eq_true (And.intro (by omega) ((t.put_mem qn qn).2 (.inl rfl)))] at hc2
    have HH2 : Hid (∀ (V : World) (v : Value) (B : Nat), V.ownsRow B 3 1 v (t.put qn).mems.length ((t.put qn).mems.map (Value.int .i64)) → Calls Tryd.prog 30 #[v, .int .i64 (qn : Int)] V fun e w' => e = .returned (.bool true) ∧ V = w') := fun V v B h => by
      have := L10.rhas_calls v _ (qn : Int) V (ou.ints h)
      rw [hc2] at this
      exact this
    have HD1 := Lib.hid (fun V => depth_top (t.put qn).text V)
    have HD2 := Lib.hid (fun V => depth_top t.text V)
    rw [deepX_text ou] at HD1
    rw [deepX_text ot] at HD2
    have hdd : ((t.put qn).deep : Int) ≤ (t.deep : Int) + 1 := by have := t.put_deep qn; split at this <;> omega
    have hd7 := ot.deep8
    clear hX hY hm hcon ot ou hc2
    generalize t.text = tx at *
    generalize (t.put qn).text = ux at *
    generalize t.deep = td at *
    generalize (t.put qn).deep = ud at *
    generalize (t.put qn).mems = um at *
    go_wp2_with fail
    refine hH.mono ?_
    rintro e w5 ⟨rfl, rfl⟩
    go_wp2_with fail
    refine (HJ.out _).mono ?_
    rintro e w6 ⟨rfl, b6⟩
    have B6 := Lib.hid (B3.out.trans (b6.mono B3.out.size))
    clear b6
    go_wp2_with fail
    refine (HV.out _).mono ?_
    rintro e w7 ⟨rfl, b7⟩
    have B7 := Lib.hid (B6.out.trans (b7.mono B6.out.size))
    clear b7
    go_wp2_with fail
    refine (HR.out _).mono ?_
    rintro e w8 ⟨rfl, b8⟩
    have B8 := Lib.hid (B7.out.trans (b8.mono B7.out.size))
    clear b8
    go_wp2_with fail
    refine (HM2.out _).mono ?_
    rintro e w9 ⟨v9, rfl, o9, b9⟩
    obtain ⟨A9, c9, rfl⟩ := L5.own_slice o9
    have B9 := Lib.hid (B8.out.trans (b9.mono B8.out.size))
    clear o9 b9
    go_wp2_with fail
    refine (HM2.out _).mono ?_
    rintro e w10 ⟨v10, rfl, o10, b10⟩
    have hH2 := HH2.out _ _ _ o10
    obtain ⟨A10, c10, rfl⟩ := L5.own_slice o10
    have B10 := Lib.hid (B9.out.trans (b10.mono B9.out.size))
    clear o10 b10
    go_wp2_with fail
    refine hH2.mono ?_
    rintro e w11 ⟨rfl, rfl⟩
    go_wp2_with fail
    refine (HD1.out _).mono ?_
    rintro e w12 ⟨rfl, b12⟩
    have B12 := Lib.hid (B10.out.trans (b12.mono B10.out.size))
    clear b12
    go_wp2_with fail
    refine (HD2.out _).mono ?_
    rintro e w13 ⟨rfl, b13⟩
    have B13 := Lib.hid (B12.out.trans (b13.mono B12.out.size))
    clear b13
    go_wp2
    go_ret
    exact ⟨rfl, B13.out⟩
end Go.Proofs.YtembihlkildodaaDoor.L13
