/- The document's Leaf, Join, Leave, Depth. -/
import Derived.Test.YtembihlkildodaaDoorRtOut
namespace Go.Proofs.YtembihlkildodaaDoor.L13
open Go.ChangeShapes Go.WideShapes Go.ChangeAt Go.RowKit Go.Deep
open Go.Proofs.YtembihlkildodaaDoor.L5 (One)

set_option maxHeartbeats 2000000 in
theorem rLeaf_top (p : Int) (w : World) : Calls Tryd.prog 16 #[.int .i64 p] w (Str2 w (leafX p)) := by
  by_cases h : 1 ≤ p ∧ p ≤ 8
  · obtain ⟨q, rfl⟩ : ∃ q : Nat, p = q := ⟨p.toNat, by omega⟩
    have hX : leafX (q : Int) = ((Tr.leaf q).text, 0) := by unfold leafX; rw [if_pos h]; rfl
    rw [hX]
    have hL := rleaf_calls q (by omega) w
    have k1 : ¬ (q : Int) < 1 := by omega
    have k2 : ¬ (8 : Int) < (q : Int) := by omega
    clear h hX
    generalize (Tr.leaf q).text = x at *
    go_enter Tryd.func16, Tryd.ntmps16
    go_wp2_with (go_at_call 44; refine hL.mono ?_; rintro e w1 ⟨rfl, rfl⟩)
    go_ret2
    exact ⟨rfl, Below.refl _ _⟩
  · have hX : leafX p = ([], 1) := by unfold leafX; rw [if_neg h]
    rw [hX]
    by_cases h1 : p < 1
    · clear h hX
      go_enter Tryd.func16, Tryd.ntmps16
      go_wp2
      go_ret2
      exact ⟨rfl, Below.refl _ _⟩
    · have h8 : (8 : Int) < p := by omega
      clear h hX
      go_enter Tryd.func16, Tryd.ntmps16
      go_wp2
      go_ret2
      exact ⟨rfl, Below.refl _ _⟩
theorem Tr.ok.icontains {t : Tr} (h : t.ok) (p : Int) : t.ints.contains p = decide (1 ≤ p ∧ p.toNat ∈ t.procs) := by
  rw [← h.contains p, Bool.eq_iff_iff, List.contains_iff_mem, List.contains_iff_mem]
  unfold Tr.mems
  rw [L10.sortL_mem]
theorem Tr.ok.iints {t : Tr} (h : t.ok) {w : World} {v : Value} {B : Nat} (ho : w.ownsRow B 3 1 v t.ints.length (t.ints.map (Value.int .i64))) : IntsA w v t.ints :=
  L10.ints_own10 ho (by rw [← digits_text h.small]; exact digits_fits _) (by simp only [Tr.ints, List.length_map]; have := h.few; omega)
set_option maxHeartbeats 4000000 in
theorem rJoin_top (L : List UInt8) (hL : L.length ≤ 200) (p : Int) (w : World) : Calls Tryd.prog 12 #[.string ⟨L.toArray⟩, .int .i64 p] w (Str2 w (joinX L p)) := by
  have hR := rright_calls L hL w
  unfold joinX
  cases hr : readT L with
  | none =>
    rw [hr, show Option.isSome (none : Option Tr) = false from rfl] at hR
    clear hr
    dsimp only
    go_enter Tryd.func12, Tryd.ntmps12
    go_wp2_with (go_at_call 18; refine hR.mono ?_; rintro e w1 ⟨rfl, b1⟩; have B1 := Lib.hid b1; clear b1)
    go_ret2
    exact ⟨rfl, B1.out⟩
  | some t =>
    rw [hr, show Option.isSome (some t) = true from rfl] at hR
    obtain ⟨rfl, ot⟩ := readT_some hr
    clear hr hL
    dsimp only
    by_cases hp : 1 ≤ p ∧ p ≤ 8
    · obtain ⟨q, rfl⟩ : ∃ q : Nat, p = q := ⟨p.toNat, by omega⟩
      have k1 : ¬ (q : Int) < 1 := by omega
      have k2 : ¬ (8 : Int) < (q : Int) := by omega
      have HD := Lib.hid (fun V => digits_calls t.text (by have := ot.len; omega) V)
      rw [digits_text ot.small] at HD
      have HH := Lib.hid (fun V v B (h : V.ownsRow B 3 1 v t.ints.length (t.ints.map (Value.int .i64))) => L10.rhas_calls v _ (q : Int) V (ot.iints h))
      rw [ot.icontains] at HH
      rw [Int.toNat_natCast] at HH ⊢
      by_cases hm : q ∈ t.procs
      · rw [if_neg (fun h => h.2.2 hm)]
        rw [decide_eq_true (And.intro (by omega) hm)] at HH
        clear hm ot hp
        generalize t.text = x at *
        go_enter Tryd.func12, Tryd.ntmps12
        go_wp2_with fail
        refine hR.mono ?_
        rintro e w1 ⟨rfl, b1⟩
        have B1 := Lib.hid b1
        clear b1
        go_wp2_with fail
        refine (HD.out _).mono ?_
        rintro e w2 ⟨v2, rfl, o2, b2⟩
        have hH := HH.out _ _ _ o2
        obtain ⟨A2, c2, rfl⟩ := L5.own_slice o2
        have B2 := Lib.hid (B1.out.trans (b2.mono B1.out.size))
        clear b2 o2
        go_wp2_with fail
        refine hH.mono ?_
        rintro e w3 ⟨rfl, rfl⟩
        go_wp2
        go_ret2
        exact ⟨rfl, B2.out⟩
      · rw [if_pos ⟨hp.1, hp.2, hm⟩]
        rw [decide_eq_false (fun h => hm h.2)] at HH
        have HPl := Lib.hid (fun V => rplace_calls t ot V)
        have HPu := Lib.hid (fun V => rput_calls q (by omega) t ot V)
        clear hm ot hp
        generalize (t.put q).text = y at *
        generalize t.text = x at *
        generalize t.best = d at *
        go_enter Tryd.func12, Tryd.ntmps12
        go_wp2_with fail
        refine hR.mono ?_
        rintro e w1 ⟨rfl, b1⟩
        have B1 := Lib.hid b1
        clear b1
        go_wp2_with fail
        refine (HD.out _).mono ?_
        rintro e w2 ⟨v2, rfl, o2, b2⟩
        have hH := HH.out _ _ _ o2
        obtain ⟨A2, c2, rfl⟩ := L5.own_slice o2
        have B2 := Lib.hid (B1.out.trans (b2.mono B1.out.size))
        clear b2 o2
        go_wp2_with fail
        refine hH.mono ?_
        rintro e w3 ⟨rfl, rfl⟩
        go_wp2_with fail
        refine (HPl.out _).mono ?_
        rintro e w4 ⟨rfl, b4⟩
        have B4 := Lib.hid (B2.out.trans (b4.mono B2.out.size))
        clear b4
        go_wp2_with fail
        refine (HPu.out _).mono ?_
        rintro e w5 ⟨rfl, b5⟩
        have B5 := Lib.hid (B4.out.trans (b5.mono B4.out.size))
        clear b5
        go_wp2
        go_ret2
        exact ⟨rfl, B5.out⟩
    · rw [if_neg (fun h => hp ⟨h.1, h.2.1⟩)]
      clear ot
      generalize t.text = x at *
      by_cases h1 : p < 1
      · clear hp
        go_enter Tryd.func12, Tryd.ntmps12
        go_wp2_with (go_at_call 18; refine hR.mono ?_; rintro e w1 ⟨rfl, b1⟩; have B1 := Lib.hid b1; clear b1)
        go_ret2
        exact ⟨rfl, B1.out⟩
      · have h8 : (8 : Int) < p := by omega
        clear hp
        go_enter Tryd.func12, Tryd.ntmps12
        go_wp2_with (go_at_call 18; refine hR.mono ?_; rintro e w1 ⟨rfl, b1⟩; have B1 := Lib.hid b1; clear b1)
        go_ret2
        exact ⟨rfl, B1.out⟩
set_option maxHeartbeats 4000000 in
theorem rDepth_top (L : List UInt8) (hL : L.length ≤ 200) (w : World) : Calls Tryd.prog 23 #[.string ⟨L.toArray⟩] w (One w (.int .i64 (deepX L))) := by
  have hR := rright_calls L hL w
  unfold deepX
  cases hr : readT L with
  | none =>
    rw [hr, show Option.isSome (none : Option Tr) = false from rfl] at hR
    clear hr
    dsimp only
    go_enter Tryd.func23, Tryd.ntmps23
    go_wp2_with (go_at_call 18; refine hR.mono ?_; rintro e w1 ⟨rfl, b1⟩; have B1 := Lib.hid b1; clear b1)
    go_ret
    exact ⟨rfl, B1.out⟩
  | some t =>
    rw [hr, show Option.isSome (some t) = true from rfl] at hR
    obtain ⟨rfl, ot⟩ := readT_some hr
    have HD := Lib.hid (fun V => rdeep_calls t ot V)
    clear hr hL ot
    dsimp only
    generalize t.text = x at *
    go_enter Tryd.func23, Tryd.ntmps23
    go_wp2_with fail
    refine hR.mono ?_
    rintro e w1 ⟨rfl, b1⟩
    have B1 := Lib.hid b1
    clear b1
    go_wp2_with fail
    refine (HD.out _).mono ?_
    rintro e w2 ⟨rfl, b2⟩
    have B2 := Lib.hid (B1.out.trans (b2.mono B1.out.size))
    clear b2
    go_wp2
    go_ret
    exact ⟨rfl, B2.out⟩
set_option maxHeartbeats 4000000 in
theorem rLeave_top (L : List UInt8) (hL : L.length ≤ 200) (p : Int) (w : World) : Calls Tryd.prog 14 #[.string ⟨L.toArray⟩, .int .i64 p] w (Str2 w (leaveX L p)) := by
  have hR := rright_calls L hL w
  unfold leaveX
  cases hr : readT L with
  | none =>
    rw [hr, show Option.isSome (none : Option Tr) = false from rfl] at hR
    clear hr
    dsimp only
    go_enter Tryd.func14, Tryd.ntmps14
    go_wp2_with (go_at_call 18; refine hR.mono ?_; rintro e w1 ⟨rfl, b1⟩; have B1 := Lib.hid b1; clear b1)
    go_ret2
    exact ⟨rfl, B1.out⟩
  | some t =>
    rw [hr, show Option.isSome (some t) = true from rfl] at hR
    obtain ⟨rfl, ot⟩ := readT_some hr
    clear hr hL
    dsimp only
    have HD := Lib.hid (fun V => digits_calls t.text (by have := ot.len; omega) V)
    rw [digits_text ot.small] at HD
    have HH := Lib.hid (fun V v B (h : V.ownsRow B 3 1 v t.ints.length (t.ints.map (Value.int .i64))) => L10.rhas_calls v _ p V (ot.iints h))
    rw [ot.icontains] at HH
    by_cases hm : 1 ≤ p ∧ p.toNat ∈ t.procs
    · rw [decide_eq_true hm] at HH
      cases t with
      | leaf q =>
        rw [outX_leaf]
        have h1 : ((Tr.leaf q).text.length : Int) = 1 := rfl
        clear hm ot
        generalize (Tr.leaf q).text = x at *
        go_enter Tryd.func14, Tryd.ntmps14
        go_wp2_with fail
        refine hR.mono ?_
        rintro e w1 ⟨rfl, b1⟩
        have B1 := Lib.hid b1
        clear b1
        go_wp2_with fail
        refine (HD.out _).mono ?_
        rintro e w2 ⟨v2, rfl, o2, b2⟩
        have hH := HH.out _ _ _ o2
        obtain ⟨A2, c2, rfl⟩ := L5.own_slice o2
        have B2 := Lib.hid (B1.out.trans (b2.mono B1.out.size))
        clear b2 o2
        go_wp2_with fail
        refine hH.mono ?_
        rintro e w3 ⟨rfl, rfl⟩
        go_wp2
        go_ret2
        exact ⟨rfl, B2.out⟩
      | node l r =>
        obtain ⟨q, rfl⟩ : ∃ q : Nat, p = q := ⟨p.toNat, by omega⟩
        rw [Int.toNat_natCast] at hm
        have hq := ot.small q hm.2
        obtain ⟨u, hu, hup⟩ := Tr.out_some (ot.other q)
        have hX : outX (.node l r) (q : Int) = (u.text, 0) := by
          unfold outX
          rw [Int.toNat_natCast, hu]
          dsimp only
          rw [if_pos hm]
        rw [hX]
        have h1 := node_len l r
        have HO := Lib.hid (fun V => rout_calls q hq (.node l r) ot V)
        rw [hu, show outT (some u) = u.text from rfl] at HO
        clear hm ot hX hu hup hq
        generalize u.text = y at *
        generalize (Tr.node l r).text = x at *
        go_enter Tryd.func14, Tryd.ntmps14
        go_wp2_with fail
        refine hR.mono ?_
        rintro e w1 ⟨rfl, b1⟩
        have B1 := Lib.hid b1
        clear b1
        go_wp2_with fail
        refine (HD.out _).mono ?_
        rintro e w2 ⟨v2, rfl, o2, b2⟩
        have hH := HH.out _ _ _ o2
        obtain ⟨A2, c2, rfl⟩ := L5.own_slice o2
        have B2 := Lib.hid (B1.out.trans (b2.mono B1.out.size))
        clear b2 o2
        go_wp2_with fail
        refine hH.mono ?_
        rintro e w3 ⟨rfl, rfl⟩
        go_wp2_with fail
        refine (HO.out _).mono ?_
        rintro e w4 ⟨rfl, b4⟩
        have B4 := Lib.hid (B2.out.trans (b4.mono B2.out.size))
        clear b4
        go_wp2
        go_ret2
        exact ⟨rfl, B4.out⟩
    · have hX : outX t p = ([], 8) := by
        unfold outX
        split
        · rw [if_neg hm]
        · rfl
      rw [hX]
      rw [decide_eq_false hm] at HH
      clear hm ot hX
      generalize t.text = x at *
      go_enter Tryd.func14, Tryd.ntmps14
      go_wp2_with fail
      refine hR.mono ?_
      rintro e w1 ⟨rfl, b1⟩
      have B1 := Lib.hid b1
      clear b1
      go_wp2_with fail
      refine (HD.out _).mono ?_
      rintro e w2 ⟨v2, rfl, o2, b2⟩
      have hH := HH.out _ _ _ o2
      obtain ⟨A2, c2, rfl⟩ := L5.own_slice o2
      have B2 := Lib.hid (B1.out.trans (b2.mono B1.out.size))
      clear b2 o2
      go_wp2_with fail
      refine hH.mono ?_
      rintro e w3 ⟨rfl, rfl⟩
      go_wp2
      go_ret2
      exact ⟨rfl, B2.out⟩
end Go.Proofs.YtembihlkildodaaDoor.L13
