/- The law KnowPowers: for all numbers it returns true. The statement KnowPowers: for every input the law returns true, and its arguments read as they did. -/
import Derived.Test.YtanfhnpnpdecnaaKShowG
import Derived.Test.YtanfhnpnpdecnaaHelpK3
import Derived.Maps.AppendAt
section
namespace Go.Proofs.Ytanfhnpnpdecnaa.L3
open Go.ChangeShapes Go.WideShapes Go.ChangeAt Go.RowKit

def xn (i : Nat) : List UInt8 := Tm.nm (50 + i)
def xsN (n : Nat) : List (List UInt8) := (List.range n).map xn
def keepN (m h n : Nat) : List Nat := (List.range n).filter (fun j => decide (j ≠ m ∧ j ≠ h))
def knN (m h n : Nat) : List (List UInt8) := (keepN m h n).map xn
theorem xsN_succ (n : Nat) : xsN (n + 1) = xsN n ++ [xn n] := by simp [xsN, List.range_succ]
theorem knN_succ (m h n : Nat) : knN m h (n + 1) = knN m h n ++ (if n ≠ m ∧ n ≠ h then [xn n] else []) := by
  unfold knN keepN
  rw [List.range_succ, List.filter_append, List.map_append]
  congr 1
  by_cases hc : n ≠ m ∧ n ≠ h <;> simp [hc]
theorem xn_inj {i j : Nat} (hi : i < 100) (hj : j < 100) (h : xn i = xn j) : i = j := by
  have := Tm.nm_inj (by omega) (by omega) h
  omega
theorem xsN_len (n : Nat) : (xsN n).length = n := by simp [xsN]
theorem xsN_flat (n : Nat) : (xsN n).flatten.length = 9 * n := by
  induction n with
  | zero => rfl
  | succ n ih => rw [xsN_succ, List.flatten_append, List.length_append, ih]; simp [xn, Tm.nm_len]; omega
theorem xsN_depth (n : Nat) : ∀ x ∈ xsN n, Tm.depthOf x ≤ 1 := by
  intro x hx
  obtain ⟨i, _, rfl⟩ := List.mem_map.1 hx
  unfold xn
  rw [Tm.nm_depth]
  omega
theorem knN_len (m h n : Nat) : (knN m h n).length ≤ n := by
  unfold knN keepN
  rw [List.length_map]
  exact Nat.le_trans (List.length_filter_le _ _) (by simp)
theorem mem_knN {m h n : Nat} {x : List UInt8} (hx : x ∈ knN m h n) : ∃ i, i < n ∧ i ≠ m ∧ i ≠ h ∧ x = xn i := by
  obtain ⟨i, hi, rfl⟩ := List.mem_map.1 hx
  unfold keepN at hi
  rw [List.mem_filter] at hi
  have := of_decide_eq_true hi.2
  exact ⟨i, List.mem_range.1 hi.1, this.1, this.2, rfl⟩
theorem in_knN {m h n i : Nat} (hi : i < n) (h1 : i ≠ m) (h2 : i ≠ h) : xn i ∈ knN m h n := by
  refine List.mem_map.2 ⟨i, ?_, rfl⟩
  unfold keepN
  rw [List.mem_filter]
  exact ⟨List.mem_range.2 hi, decide_eq_true ⟨h1, h2⟩⟩
/-- All names but one. -/
theorem others (h n : Nat) (hh : h < n) : ∃ rest, ([xn h] ++ rest).Perm (xsN n) ∧ ∀ x ∈ rest, ∃ i, i < n ∧ i ≠ h ∧ x = xn i := by
  induction n with
  | zero => omega
  | succ n ih =>
    rw [xsN_succ]
    by_cases e : h = n
    · subst e
      refine ⟨xsN h, List.perm_append_comm, fun x hx => ?_⟩
      obtain ⟨i, hi, rfl⟩ := List.mem_map.1 hx
      have := List.mem_range.1 hi
      exact ⟨i, by omega, by omega, rfl⟩
    · obtain ⟨rest, h1, h2⟩ := ih (by omega)
      refine ⟨rest ++ [xn n], ?_, fun x hx => ?_⟩
      · rw [← List.append_assoc]
        exact h1.append_right _
      · rcases List.mem_append.1 hx with hx | hx
        · obtain ⟨i, k1, k2, k3⟩ := h2 x hx
          exact ⟨i, by omega, k2, k3⟩
        · simp at hx
          exact ⟨n, by omega, fun e2 => e e2.symm, hx⟩

/-- What the law asks of what is known. -/
structure PowKnow (m h n : Nat) (goal b : List UInt8) : Prop where
  one : Tm.Mk (rightIn (knN m h n ++ [b])) goal ↔ m = h
  two : Tm.Mk (rightIn (knN m h n ++ [b] ++ [xn m])) goal
theorem powKnow {m h n : Nat} {goal b : List UInt8} (hn : n ≤ 6) (hn2 : 2 ≤ n) (hm : m < n) (hh : h < n) (hg : Tm.Elt (xsN n) goal) (hb : Tm.Elt [xn h] b) : PowKnow m h n goal b := by
  have hxne : xsN n ≠ [] := fun e => by have := xsN_len n; rw [e] at this; simp at this; omega
  have hgk := hg.kind hxne
  have hbk := hb.kind (by simp)
  have hr : ∀ i, Tm.right (xn i) = true := fun i => Tm.nm_right _
  obtain ⟨rest, p1, p2⟩ := others h n hh
  have kb : ∀ l : List (List UInt8), rightIn (l ++ [b]) b := fun l => ⟨by simp, hb.right⟩
  refine ⟨⟨fun hmk => ?_, fun e => ?_⟩, ?_⟩
  · by_cases hmh : m = h
    · exact hmh
    · exfalso
      have hKm : ¬ rightIn (knN m h n ++ [b]) (xn m) := by
        rintro ⟨h1, _⟩
        rcases List.mem_append.1 h1 with h1 | h1
        · obtain ⟨i, k1, k2, _, k4⟩ := mem_knN h1
          exact k2 (xn_inj (by omega) (by omega) k4).symm
        · simp at h1
          rw [← h1] at hbk
          have : (xn m).getD 0 0 = 110 := rfl
          rw [this] at hbk
          simp at hbk
      have hKg : ¬ rightIn (knN m h n ++ [b]) goal := by
        rintro ⟨h1, _⟩
        rcases List.mem_append.1 h1 with h1 | h1
        · obtain ⟨i, _, _, _, k4⟩ := mem_knN h1
          rw [k4] at hgk
          have : (xn i).getD 0 0 = 110 := rfl
          rw [this] at hgk
          simp at hgk
        · simp at h1
          subst h1
          have := hg.perm.length_eq.symm.trans hb.perm.length_eq
          rw [xsN_len] at this
          simp at this
          omega
      refine Tm.mk_elt_no hg hxne hKg (m := xn m) (List.mem_map.2 ⟨m, List.mem_range.2 hm, rfl⟩) (nm_not hKm) (fun b' k1 k2 k3 => ?_) hmk
      rcases List.mem_append.1 k1.1 with h1 | h1
      · obtain ⟨i, _, _, _, k4⟩ := mem_knN h1
        rw [k4] at k2
        have : (xn i).getD 0 0 = 110 := rfl
        rw [this] at k2
        simp at k2
      · simp at h1
        subst h1
        have := hb.perm.mem_iff.1 k3
        simp at this
        exact hmh (xn_inj (by omega) (by omega) this)
  · subst e
    refine Tm.mk_elt_yes hg hxne hb (by simp) (kb _) p1 (fun x hx => ?_)
    obtain ⟨i, k1, k2, rfl⟩ := p2 x hx
    exact .known ⟨List.mem_append_left _ (in_knN k1 k2 k2), hr i⟩
  · refine Tm.mk_elt_yes hg hxne hb (by simp) ⟨by simp, hb.right⟩ p1 (fun x hx => ?_)
    obtain ⟨i, k1, k2, rfl⟩ := p2 x hx
    refine .known ⟨?_, hr i⟩
    by_cases him : i = m
    · subst him; simp
    · exact List.mem_append_left _ (List.mem_append_left _ (in_knN k1 him k2))

/-- The key of an element. -/
theorem key_made {K : List UInt8 → Prop} {goal : List UInt8} (hg : Tm.right goal = true) (hk : Tm.right (107 :: goal) = true) (hn : ¬ K (107 :: goal)) : Tm.Mk K (107 :: goal) ↔ Tm.Mk K goal := by
  rw [Tm.mk_parts hk hn (by simp)]
  have e : Tm.ofL (107 :: goal) = [goal] := by
    have := Tm.ofL_node (hd := [107]) (ps := [goal]) (by simp [Tm.begin_, Tm.headOf]) (by intro p hp; simp at hp; subst hp; exact (Tm.right_iff _).1 hg)
    simpa using this
  rw [e]
  simp

def Raising (V : World) (m h n : Nat) (k : Nat) (v11 v12 v13 : Value) (wr : World) : Prop :=
  ∃ (i : Nat) (goal : List UInt8), k + i = n ∧ v13 = .int .i64 i ∧ v11 = .string ⟨goal.toArray⟩ ∧ Tm.Elt (xsN i) goal ∧ wr.ownsRow V.heap.size 23 1 v12 (knN m h i).length (strs (knN m h i)) ∧ Below V.heap.size V wr
theorem below_row2 {V wr w2 : World} {e : TypeId} {size k : Nat} {v : Value} {xs : List Value} (h : Below V.heap.size V wr) (hr : wr.ownsRow V.heap.size e size v k xs) (hg : wr.grownBy w2 v.ownBlock) : Below V.heap.size V w2 :=
  h.grown hg h.size (fun j hj => (hr.lt j hj).1)
theorem row_below {w w' : World} {B : Nat} {e : TypeId} {size k : Nat} {v : Value} {xs : List Value} (h : w.ownsRow B e size v k xs) (hb : Below w.heap.size w w') : w'.ownsRow B e size v k xs :=
  row_same h (fun g e1 => hb.block g (h.lt g e1).2)
theorem name_at (k : Nat) (hk : k < 100) (W : World) : Calls Try.prog 28 #[.int .u64 (50 + (k : Int))] W (One W (.string ⟨(xn k).toArray⟩)) := by
  have h := Name_calls (50 + k) (by omega) W
  have e : (((50 + k : Nat)) : Int) = 50 + (k : Int) := by omega
  rw [e] at h
  exact h

set_option maxRecDepth 100000 in
set_option maxHeartbeats 40000000 in
theorem powers_all (a0 a1 a2 : Int) (w : World) (r0 : isInt a0) (r1 : isInt a1) (r2 : isInt a2) :
    Calls Try.prog 6 #[.int .i64 a0, .int .i64 a1, .int .i64 a2] w (One w (.bool true)) := by
  obtain ⟨i0, hi, hz0, hz1, hz2⟩ := info_parts info_term
  have HS := Lib.hid shown_calls
  have hp5 := Tm.pickN_lt a0 5 (by omega)
  have cP0 := fun W => pick_calls a0 5 r0.1 r0.2 (by omega) (by omega) W
  obtain ⟨p, hp⟩ : ∃ p, Tm.pickN a0 5 = p := ⟨_, rfl⟩
  rw [hp] at hp5 cP0
  have cP0' : ∀ W : World, Calls Try.prog 29 #[.int .i64 a0, .int .i64 5] W fun e w' => e = .returned (.int .i64 p) ∧ W = w' := cP0
  obtain ⟨n, hn⟩ : ∃ n, 2 + p = n := ⟨_, rfl⟩
  have hw : IntKind.i64.wrap (2 + (p : Int)) = (n : Int) := by rw [IntKind.wrap_i64]; omega
  have hm := Tm.pickN_lt a1 n (by omega)
  have cP1 := fun W => pick_calls a1 n r1.1 r1.2 (by omega) (by omega) W
  have hh := Tm.pickN_lt a2 n (by omega)
  have cP2 := fun W => pick_calls a2 n r2.1 r2.2 (by omega) (by omega) W
  obtain ⟨m, hme⟩ : ∃ m, Tm.pickN a1 n = m := ⟨_, rfl⟩
  obtain ⟨h, hhe⟩ : ∃ h, Tm.pickN a2 n = h := ⟨_, rfl⟩
  rw [hme] at hm cP1
  rw [hhe] at hh cP2
  have H0 := Lib.hid cP0'
  have H1 := Lib.hid cP1
  have H2 := Lib.hid cP2
  have hn6 : n ≤ 6 := by omega
  have hn2 : 2 ≤ n := by omega
  have HGen : Hid (∀ W : World, Calls Try.prog 32 #[] W (One W (.string ⟨[103].toArray⟩))) := fun W => Gen_calls W
  clear cP0 cP0' cP1 cP2 hp hme hhe hn hp5 r0 r1 r2
  go_enter Try.func6, Try.ntmps6
  go_wp2_with fail
  refine (HS.out _).mono ?_
  rintro e w0 ⟨rfl, B⟩
  go_wp2_with fail
  refine (H0.out _).mono ?_
  rintro e w' ⟨rfl, rfl⟩
  go_wp2_with fail
  refine (H1.out _).mono ?_
  rintro e w' ⟨rfl, rfl⟩
  go_wp2_with fail
  refine (H2.out _).mono ?_
  rintro e w' ⟨rfl, rfl⟩
  go_wp2_with fail
  refine (HGen.out _).mono ?_
  rintro e w1 ⟨rfl, b1⟩
  have HB := Lib.hid (B.trans (b1.mono B.size))
  clear B b1 HS H0 H1 H2 hw
  go_wp2
  go_loopg [11, 12, 13] n (fun k v11 v12 v13 wr => Raising w1 m h n k v11 v12 v13 wr)
  case atStart => exact ⟨0, [103], by omega, rfl, rfl, Tm.elt_gen, World.ownsRow_nil _ _ _ _, Below.refl _ _⟩
  case round =>
    obtain ⟨i, goal, hk, rfl, rfl, hE, hrow, hbel⟩ := hrel
    have HK := Lib.hid hk
    have HBel := Lib.hid hbel
    by_cases hin : i < n
    · have HN := Lib.hid (fun W => name_at i (by omega) W)
      have HPw := Lib.hid (fun W => pow_elt (50 + i) hE (xsN_depth i) (by rw [xsN_len]; omega) (by rw [xsN_flat]; omega) W)
      have j1 : (i : Int) < (n : Int) := by omega
      have k1 : IntKind.i64.wrap (50 + (i : Int)) = 50 + (i : Int) := by rw [IntKind.wrap_i64]; omega
      have k2 : IntKind.u64.wrap (50 + (i : Int)) = 50 + (i : Int) := by simp [IntKind.wrap, IntKind.bits, IntKind.signed]; omega
      have hgk : gk - 1 < gk := by omega
      have HRow := Lib.hid hrow
      clear hk hE hrow hbel
      go_wp2_with fail
      refine (HN.out _).mono ?_
      rintro e w2 ⟨rfl, b2⟩
      go_wp2_with fail
      refine (HPw.out _).mono ?_
      rintro e w3 ⟨goal', rfl, hE', b3⟩
      have b23 := b2.trans (b3.mono b2.size)
      have hrow3 := row_below HRow.out b23
      have HB3 := Lib.hid (HBel.out.trans (b23.mono HBel.out.size))
      have hE2 : Hid (Tm.Elt (xsN (i + 1)) goal') := by show Tm.Elt _ _; rw [xsN_succ]; exact hE'
      have hlen := knN_len m h i
      have HSn := Lib.hid (knN_succ m h i)
      have hs3 : w1.heap.size ≤ w3.heap.size := HB3.out.size
      clear b2 b3 b23 hE' HRow HBel HN HPw
      by_cases him : i = m
      · have q1 : ((i : Int) != (m : Int)) = false := by simp; omega
        have q1' : ((i : Int) == (m : Int)) = true := by simp; omega
        have hRel : Hid (Raising w1 m h n (gk - 1) (.string ⟨goal'.toArray⟩) u12 (.int .i64 ((i + 1 : Nat) : Int)) w3) := by
          refine ⟨i + 1, goal', by have := HK.out; omega, rfl, rfl, hE2.out, ?_, HB3.out⟩
          rw [HSn.out, if_neg (by omega), List.append_nil]
          exact hrow3
        clear hrow3 him
        go_wp2
        go_roundg (gk - 1)
        case measure => exact hgk
        case rel => exact hRel.out
      · have q1 : ((i : Int) != (m : Int)) = true := by simp; omega
        have q1' : ((i : Int) == (m : Int)) = false := by simp; omega
        by_cases hih : i = h
        · have q2 : ((i : Int) != (h : Int)) = false := by simp; omega
          have q2' : ((i : Int) == (h : Int)) = true := by simp; omega
          have hRel : Hid (Raising w1 m h n (gk - 1) (.string ⟨goal'.toArray⟩) u12 (.int .i64 ((i + 1 : Nat) : Int)) w3) := by
            refine ⟨i + 1, goal', by have := HK.out; omega, rfl, rfl, hE2.out, ?_, HB3.out⟩
            rw [HSn.out, if_neg (by omega), List.append_nil]
            exact hrow3
          clear hrow3 him hih
          go_wp2
          go_roundg (gk - 1)
          case measure => exact hgk
          case rel => exact hRel.out
        · have q2 : ((i : Int) != (h : Int)) = true := by simp; omega
          have q2' : ((i : Int) == (h : Int)) = false := by simp; omega
          have hRel : Hid (∀ (v2 : Value) (w4 : World), w4.ownsRow w1.heap.size 23 1 v2 ((knN m h i).length + 1) (strs (knN m h i) ++ [.string ⟨(xn i).toArray⟩]) → w3.grownBy w4 u12.ownBlock → Raising w1 m h n (gk - 1) (.string ⟨goal'.toArray⟩) v2 (.int .i64 ((i + 1 : Nat) : Int)) w4) := by
            intro v2 w4 k3 k4
            refine ⟨i + 1, goal', by have := HK.out; omega, rfl, rfl, hE2.out, ?_, HB3.out.grown k4 HB3.out.size (fun j hj => (hrow3.lt j hj).1)⟩
            rw [HSn.out, if_pos ⟨him, hih⟩]
            simpa [strs] using k3
          clear him hih
          generalize knN m h i = kn at *
          go_wp2_with (at_builtin; refine wpList_append_own _ rfl _ _ 34 rfl w1.heap.size 23 i0 (.string ⟨#[]⟩) 1 16 Try.underlying34 hi hz0 hz1 hz2 rfl (by decide) _ _ _ rfl (hrow3.alloc _) ⟨w3.heap.size, 0, none⟩ 1 1 [.string ⟨(xn i).toArray⟩] rfl rfl (cell_one_new _ _ _) (by simp [Value.oneCell']) (by unfold maxLen; omega) (by omega) (by simp; omega) ?_; intro v2 w4 hown' hgrow _)
          go_roundg (gk - 1)
          case measure => exact hgk
          case rel => exact hRel.out v2 w4 hown' (grown_trans (World.grownBy_alloc w3 _ u12.ownBlock) hgrow)
    · obtain rfl : i = n := by omega
      have j1 : ¬ ((i : Int) < (i : Int)) := by omega
      have hxne : xsN i ≠ [] := fun e => by have := xsN_len i; rw [e] at this; simp at this; omega
      have hgk := hE.kind hxne
      have hgl : goal.length ≤ 60 := by have := hE.size; rw [xsN_flat] at this; omega
      have hgd := elt_depth hE (xsN_depth i)
      have hgne : goal ≠ [] := (Tm.right_ne_nil hE.right).1
      have HNh := Lib.hid (fun W => name_at h (by omega) W)
      have HNm := Lib.hid (fun W => name_at m (by omega) W)
      have HPb : Hid (∀ W, Calls Try.prog 31 #[.string ⟨[103].toArray⟩, .string ⟨(xn h).toArray⟩] W (EltOut W ([] ++ [xn h]))) := fun W => pow_elt (50 + h) Tm.elt_gen (by simp) (by simp) (by simp) W
      have cKey := fun W => Key_calls ⟨goal.toArray⟩ (by rw [size_list]; unfold maxLen; omega) (by rw [list_data]; exact hE.elem) W
      have hput : Tm.put [107] [goal] = (107 :: goal, 0) := by
        have := Tm.put_ok (hd := [107]) (ps := [goal]) (by intro p hp; simp at hp; subst hp; exact (Tm.right_iff _).1 hE.right) (by unfold Tm.total; simp; omega) (by
          have := Tm.maxDepth_bound (k := 2) (ps := [goal]) (by intro p hp; simp at hp; subst hp; exact hgd)
          omega)
        simpa using this
      have hkr : Tm.right (107 :: goal) = true := (Tm.right_iff _).2 (Tm.good_key hput hE.elem hgd).2.2.1
      simp only at cKey
      rw [hput] at cKey
      have HKey := Lib.hid cKey
      have HPK := Lib.hid (fun b hb => powKnow (m := m) (h := h) (n := i) (goal := goal) (b := b) hn6 hn2 hm hh hE hb)
      have hlen := knN_len m h i
      have HKn : Hid (∀ x ∈ knN m h i, x.getD 0 0 = 110 ∧ x.length = 9) := fun x hx => by
        obtain ⟨j, _, _, _, rfl⟩ := mem_knN hx
        exact ⟨rfl, Tm.nm_len _⟩
      obtain ⟨d, hd⟩ : ∃ d : Bool, ((m : Int) == (h : Int)) = d := ⟨_, rfl⟩
      have hd2 : d = true ↔ m = h := by rw [← hd]; simp; omega
      have HD2 := Lib.hid hd2
      have qd : (d == d) = true := by simp
      have qg : (goal == ([] : List UInt8)) = false := by simpa using hgne
      have k1 : IntKind.i64.wrap (50 + (h : Int)) = 50 + (h : Int) := by rw [IntKind.wrap_i64]; omega
      have k2 : IntKind.u64.wrap (50 + (h : Int)) = 50 + (h : Int) := by simp [IntKind.wrap, IntKind.bits, IntKind.signed]; omega
      have k3 : IntKind.i64.wrap (50 + (m : Int)) = 50 + (m : Int) := by rw [IntKind.wrap_i64]; omega
      have k4 : IntKind.u64.wrap (50 + (m : Int)) = 50 + (m : Int) := by simp [IntKind.wrap, IntKind.bits, IntKind.signed]; omega
      have HRow := Lib.hid hrow
      have HGr := Lib.hid (And.intro hE.right (And.intro hkr (And.intro hgk hgne)))
      generalize hkn : knN m h i = kn at *
      have HKN := Lib.hid hkn
      clear hkn
      clear hk hE hrow hbel cKey hput hkr hgk hgd hd2 hxne hgne
      go_wp2_with fail
      refine (HGen.out _).mono ?_
      rintro e w2 ⟨rfl, b2⟩
      go_wp2_with fail
      refine (HNh.out _).mono ?_
      rintro e w3 ⟨rfl, b3⟩
      go_wp2_with fail
      refine (HPb.out _).mono ?_
      rintro e w4 ⟨b, rfl, hb, b4⟩
      have b24 := (b2.trans (b3.mono b2.size)).trans (b4.mono (Nat.le_trans b2.size b3.size))
      have hrow4 := row_below HRow.out b24
      have HB4 := Lib.hid (HBel.out.trans (b24.mono HBel.out.size))
      have hs4 : w1.heap.size ≤ w4.heap.size := HB4.out.size
      have HPK2 := Lib.hid (HPK.out b hb)
      have hbk := hb.kind (by simp)
      have hbl : b.length ≤ 11 := by have := hb.size; simp [xn, Tm.nm_len] at this; omega
      have HBk := Lib.hid (And.intro hbk hb.right)
      clear b2 b3 b4 b24 HPK HPb HNh HGen HRow HBel hb hbk
      go_wp2_with (at_builtin; refine wpList_append_own _ rfl _ _ 34 rfl w1.heap.size 23 i0 (.string ⟨#[]⟩) 1 16 Try.underlying34 hi hz0 hz1 hz2 rfl (by decide) _ _ _ rfl (hrow4.alloc _) ⟨w4.heap.size, 0, none⟩ 1 1 [.string ⟨b.toArray⟩] rfl rfl (cell_one_new _ _ _) (by simp [Value.oneCell']) (by unfold maxLen; omega) (by omega) (by simp; omega) ?_; intro v5 w5 hown5 hgrow5 _; obtain ⟨g5, c5, rfl⟩ := ownsRow_succ hown5)
      have hg45 : w4.grownBy w5 u12.ownBlock := grown_trans (World.grownBy_alloc w4 _ u12.ownBlock) hgrow5
      have HB5 : Hid (Below w1.heap.size w1 w5) := HB4.out.grown hg45 HB4.out.size (fun j hj => (hrow4.lt j hj).1)
      have hrow5 : w5.ownsRow w1.heap.size 23 1 (.slice (some ⟨g5, 0, none⟩) (kn ++ [b]).length c5) (kn ++ [b]).length (strs (kn ++ [b])) := by
        have e : (kn ++ [b]).length = kn.length + 1 := by simp
        have e2 : strs (kn ++ [b]) = strs kn ++ [.string ⟨b.toArray⟩] := by simp [strs]
        rw [e, e2]
        exact hown5
      have hR5 := reads_terms hrow5
      have hplain : ∀ z ∈ kn ++ [b], Tm.right z = true → plainT z := fun z hz hr => by
        rcases List.mem_append.1 hz with hz | hz
        · exact plain_kind hr (.inl (HKn.out z hz).1)
        · simp at hz; subst hz; exact plain_kind hr (.inr HBk.out.1)
      have hshort : ∀ z ∈ kn ++ [b], z.length ≤ 1000000 := fun z hz => by
        rcases List.mem_append.1 hz with hz | hz
        · have := (HKn.out z hz).2; omega
        · simp at hz; subst hz; omega
      have hplain2 : ∀ z ∈ kn ++ [b] ++ [xn m], Tm.right z = true → plainT z := fun z hz hr => by
        rcases List.mem_append.1 hz with hz | hz
        · exact hplain z hz hr
        · simp at hz; subst hz; exact plain_kind hr (.inl rfl)
      have hshort2 : ∀ z ∈ kn ++ [b] ++ [xn m], z.length ≤ 1000000 := fun z hz => by
        rcases List.mem_append.1 hz with hz | hz
        · exact hshort z hz
        · simp at hz; subst hz; have := Tm.nm_len (50 + m); unfold xn; omega
      obtain ⟨g1, g2, g3, g4⟩ := HGr.out
      have hone := HPK2.out.one
      have htwo := HPK2.out.two
      rw [HKN.out] at hone htwo
      have hkK : ¬ rightIn (kn ++ [b]) (107 :: goal) := by
        rintro ⟨h1, _⟩
        rcases List.mem_append.1 h1 with h1 | h1
        · have := (HKn.out _ h1).1; simp at this
        · simp at h1; have := HBk.out.1; rw [← h1] at this; simp at this
      have toOne : ∀ (W w' : World) (t : List UInt8) (e : Ending), Tm.right t = true → (Tm.Mk (rightIn (kn ++ [b])) t ↔ m = h) → DerOut W (rightIn (kn ++ [b])) t e w' → One W (.bool d) e w' := by
        rintro W w' t e ht hiff ⟨b', rfl, hb', h3⟩
        have : b' = d := by
          apply Bool.eq_iff_iff.2
          rw [hb', HD2.out, ← hiff]
          exact ⟨fun q => q.2, fun q => ⟨ht, q⟩⟩
        subst this
        exact ⟨rfl, h3⟩
      have D1 := Lib.hid (fun W (hR : Reads W (.slice (some ⟨g5, 0, none⟩) (kn ++ [b]).length c5) (kn ++ [b])) => (Derivable_plain (kn ++ [b]) goal _ W hR (by simp; omega) hshort hplain (by omega)).mono (fun e w' q => toOne W w' goal e g1 hone q))
      have D3 := Lib.hid (fun W (hR : Reads W (.slice (some ⟨g5, 0, none⟩) (kn ++ [b]).length c5) (kn ++ [b])) => (Derivable_plain (kn ++ [b]) (107 :: goal) _ W hR (by simp; omega) hshort hplain (by simp; omega)).mono (fun e w' q => toOne W w' (107 :: goal) e g2 ((key_made g1 g2 hkK).trans hone) q))
      have D2 := Lib.hid (fun W v (hR : Reads W v (kn ++ [b] ++ [xn m])) => (Derivable_plain (kn ++ [b] ++ [xn m]) goal v W hR (by simp; omega) hshort2 hplain2 (by omega)).mono (fun e w' q => der_true q ⟨g1, htwo⟩))
      have HR5 := Lib.hid hR5
      have H5 := Lib.hid hrow5
      have eL : (kn ++ [b]).length = kn.length + 1 := by simp
      have HWB := Lib.hid (HB.out.trans (HB5.out.mono HB.out.size))
      rw [eL] at D1 D3 HR5 H5
      clear hR5 hplain hshort hplain2 hshort2 hone htwo hkK toOne g1 g2 g3 g4 hgrow5 hown5 hg45 hrow5 HB5 HB4 hrow4 HPK2 HD2 HBk eL hs4
      go_wp2_with fail
      refine (D1.out _ HR5.out).mono ?_
      rintro e w6 ⟨rfl, b6⟩
      have hrow6 := row_below H5.out b6
      obtain ⟨_, _, hT6, hg6⟩ : ∃ (_ : True) (_ : True), Texts w6 g5 (kn ++ [b]) ∧ g5 < w6.heap.size := by
        have e : kn.length + 1 = (kn ++ [b]).length := by simp
        rw [e] at hrow6
        exact ⟨trivial, trivial, texts_of_row hrow6, lt_of_row hrow6⟩
      have hlit : (w6.alloc (.cells #[] 23)).ownsRow w6.heap.size 23 1 (.slice (some ⟨w6.heap.size, 0, none⟩) 0 0) 0 [] :=
        ⟨rfl, .inr ⟨w6.heap.size, 0, #[], rfl, Nat.le_refl _, World.alloc_heap_new _ _, Nat.le_refl _, by decide, rfl, rfl⟩⟩
      have hnews : ∀ (j : Nat) (u : Value), (strs (kn ++ [b]))[j]? = some u → (w6.alloc (.cells #[] 23)).cell? ((⟨g5, 0, none⟩ : Addr).add j) = some u := by
        intro j u hu
        unfold strs at hu
        rw [List.getElem?_map, Option.map_eq_some_iff] at hu
        obtain ⟨z, hz, rfl⟩ := hu
        have h1 := hT6 j z hz
        have hb : Below w6.heap.size w6 (w6.alloc (.cells #[] 23)) := (Below.refl _ w6).alloc (Nat.le_refl _) _
        have h2 : (w6.alloc (.cells #[] 23)).cell? ⟨g5, j, none⟩ = w6.cell? ⟨g5, j, none⟩ := hb.cell (p := ⟨g5, j, none⟩) hg6
        have e : (⟨g5, 0, none⟩ : Addr).add j = ⟨g5, j, none⟩ := by
          by_cases hj : j = 0
          · subst hj; simp [Addr.add]
          · simp [Addr.add, hj]
        rw [e]
        exact h2.trans h1
      have HLit := Lib.hid hlit
      have HNews := Lib.hid hnews
      have HO : Hid (∀ u ∈ strs (kn ++ [b]), u.oneCell' = true) := fun u hu => by
        unfold strs at hu
        obtain ⟨z, _, rfl⟩ := List.mem_map.1 hu
        rfl
      have HWB6 := Lib.hid (HWB.out.trans (b6.mono HWB.out.size))
      have HR6 := Lib.hid (HR5.out.below b6)
      clear hlit hnews hT6 hg6 hrow6 b6 D1
      go_wp2_with (at_builtin; refine wpList_append_own _ rfl _ _ 34 rfl w6.heap.size 23 i0 (.string ⟨#[]⟩) 1 16 Try.underlying34 hi hz0 hz1 hz2 rfl (by decide) _ _ _ rfl HLit.out ⟨g5, 0, none⟩ (kn.length + 1) c5 (strs (kn ++ [b])) rfl (by simp [strs]) HNews.out HO.out (by unfold maxLen; omega) (by omega) (by simp) ?_; intro v7 w7 hown7 hgrow7 _)
      rw [Nat.zero_add, List.nil_append] at hown7
      have b67 : Below w6.heap.size w6 w7 := by
        have hga : w6.grownBy w7 (some w6.heap.size) := grown_trans (World.grownBy_alloc w6 _ (some w6.heap.size)) hgrow7
        exact ⟨hga.os, hga.tape, hga.output, hga.size, fun k hk => hga.block k hk (fun e => by cases e; omega)⟩
      have HR7 := Lib.hid (HR6.out.below b67)
      have HWB7 := Lib.hid (HWB6.out.trans (b67.mono HWB6.out.size))
      have H7 := Lib.hid hown7
      have hs67 := b67.size
      have HB67 := Lib.hid b67
      clear hown7 hgrow7 b67 HLit HNews HO HR5 HWB H5
      go_wp2_with fail
      refine (HNm.out _).mono ?_
      rintro e w8 ⟨rfl, b8⟩
      have hrow8 := row_below H7.out b8
      have HR8 := Lib.hid (HR7.out.below b8)
      have HWB8 := Lib.hid (HWB7.out.trans (b8.mono HWB7.out.size))
      have hs78 := b8.size
      have hs68 : w6.heap.size ≤ w8.heap.size := by omega
      have HB68 := Lib.hid (HB67.out.trans (b8.mono HB67.out.size))
      clear b8 H7 HR7 HWB7 HNm hs67 hs78
      go_wp2_with (at_builtin; refine wpList_append_own _ rfl _ _ 34 rfl w6.heap.size 23 i0 (.string ⟨#[]⟩) 1 16 Try.underlying34 hi hz0 hz1 hz2 rfl (by decide) _ _ _ rfl (hrow8.alloc _) ⟨w8.heap.size, 0, none⟩ 1 1 [.string ⟨(xn m).toArray⟩] rfl rfl (cell_one_new _ _ _) (by simp [Value.oneCell']) (by unfold maxLen; omega) (by omega) (by simp; omega) ?_; intro v9 w9 hown9 hgrow9 _)
      have hg89 : w8.grownBy w9 v7.ownBlock := grown_trans (World.grownBy_alloc w8 _ v7.ownBlock) hgrow9
      have hR9 : Hid (Reads w9 v9 (kn ++ [b] ++ [xn m])) := by
        have e : (kn ++ [b] ++ [xn m]).length = kn.length + 1 + 1 := by simp
        have e2 : strs (kn ++ [b] ++ [xn m]) = strs (kn ++ [b]) ++ [.string ⟨(xn m).toArray⟩] := by simp [strs]
        have h9 : w9.ownsRow w6.heap.size 23 1 v9 (kn ++ [b] ++ [xn m]).length (strs (kn ++ [b] ++ [xn m])) := by
          rw [e, e2]
          exact hown9
        exact reads_terms h9
      have b69 : Below w6.heap.size w6 w9 := HB68.out.grown hg89 HB68.out.size (fun j hj => (hrow8.lt j hj).1)
      have HR9 : Hid (Reads w9 (.slice (some ⟨g5, 0, none⟩) (kn.length + 1) c5) (kn ++ [b])) := HR6.out.below b69
      have HWB9 : Hid (Below w.heap.size w w9) := HWB6.out.trans (b69.mono HWB6.out.size)
      clear hown9 hgrow9 hg89 hrow8 HR8 HWB8 b69 HB68 HB67 HR6 HWB6
      go_wp2_with fail
      refine (D2.out _ _ hR9.out).mono ?_
      rintro e w10 ⟨rfl, b10⟩
      have HR10 := Lib.hid (HR9.out.below b10)
      have HWB10 := Lib.hid (HWB9.out.trans (b10.mono HWB9.out.size))
      clear b10 HR9 HWB9 D2 hR9
      go_wp2_with fail
      refine (HKey.out _).mono ?_
      rintro e w11 ⟨rfl, b11⟩
      have HR11 := Lib.hid (HR10.out.below b11)
      have HWB11 := Lib.hid (HWB10.out.trans (b11.mono HWB10.out.size))
      clear b11 HR10 HWB10 HKey
      go_wp2_with fail
      refine (D3.out _ HR11.out).mono ?_
      rintro e w12 ⟨rfl, b12⟩
      have HWB12 := Lib.hid (HWB11.out.trans (b12.mono HWB11.out.size))
      clear b12 HR11 HWB11 D3
      go_wp2
      go_ret
      exact ⟨by simp, HWB12.out⟩

end Go.Proofs.Ytanfhnpnpdecnaa.L3
end

section
namespace Go.Proofs.Ytanfhnpnpdecnaa
open Go.ChangeShapes Go.WideShapes Go.ChangeAt Go.RowKit

set_option maxRecDepth 100000 in
theorem kpowers_lifted (os : Os) (started : os.Started) (H : Type) (enc : TypeId × Value → H) :
    ReturnsInHanded {} Try.checked os 6 .any (Rows.knowPowersSpec.pre6 enc Try.prog Try.f6 Rows.knowPowersRow.domain false) (Rows.knowPowersSpec.post enc Try.prog Try.f6 false true false false) := by
  refine returnsInHanded_of_change (C := Try.checked) own started (by kernel_rfl) Try.func6
    (ChangeSpec.witness6 (enc := enc) (C := Try.checked) false ⟨#[], #[.int .i64 0, .int .i64 0, .int .i64 0], []⟩ 8 (by kernel_rfl) (by kernel_rfl) (by kernel_rfl) (by kernel_rfl)) ?_
  intro W base args ds gs before hval0 hW hcnd _
  have hval : ∀ (j : Nat) t v, Try.f6.params[j]? = some t → args[j]? = some v → Value.okWide Try.prog W .any base t v := hval0
  have hW' := hW
  obtain ⟨p, q, hA0, hV, rfl, hfz, hnd⟩ := hW
  have hA : DataW.TrodAll enc Try.prog W 0 (fun _ => true) true Try.f6.params.toList args.toList ds p := hA0
  rw [Try.params6] at hA hval
  obtain ⟨v0, vs0, d0, ds0, p0, q0, hargs, rfl, rfl, h0, r0⟩ := trodAll_cons hA
  obtain ⟨v1, vs1, d1, ds1, p1, q1, rfl, rfl, rfl, h1, r1⟩ := trodAll_cons r0
  obtain ⟨v2, vs2, d2, ds2, p2, q2, rfl, rfl, rfl, h2, r2⟩ := trodAll_cons r1
  obtain ⟨rfl, rfl, rfl⟩ := trodAll_nil r2
  obtain rfl : args = #[v0, v1, v2] := by cases args; simp_all
  obtain ⟨rfl, rfl⟩ := trodVars_none hV
  obtain ⟨a0, rfl, rfl, rfl, w0⟩ := open_int Try.underlying3 (hval 0 3 v0 rfl rfl) h0
  obtain ⟨a1, rfl, rfl, rfl, w1⟩ := open_int Try.underlying3 (hval 1 3 v1 rfl rfl) h1
  obtain ⟨a2, rfl, rfl, rfl, w2⟩ := open_int Try.underlying3 (hval 2 3 v2 rfl rfl) h2
  clear hA0 hval0
  simp only [List.append_nil] at hW'
  refine (L3.powers_all a0 a1 a2 W (i64_of_wf w0) (i64_of_wf w1) (i64_of_wf w2)).mono fun e W' ⟨he, hg⟩ => ?_
  subst he
  exact ⟨_, rfl, L3.post_law_at (pv := []) hW' (trodAll_cons_mk (shut_bool Try.underlying4 _) trodAll_mk0) (trodAll_cons_mk (shut_int Try.underlying3 w0) (trodAll_cons_mk (shut_int Try.underlying3 w1) (trodAll_cons_mk (shut_int Try.underlying3 w2) trodAll_mk0))) rfl (by simp) hg⟩

theorem kpowers_over : Rows.knowPowersRow.holds Try.pinned (OpenSpec.ofChange Rows.knowPowersSpec) :=
  OpenClaim.holds_of_wide 6 Try.f6 rfl rfl rfl rfl rfl rfl rfl ⟨rfl, rfl, rfl, rfl, rfl⟩ rfl rfl rfl rfl rfl (by kernel_rfl) Try.func6 (by kernel_rfl)
    (of_decide_eq_true (by kernel_rfl)) (by unfold Func.isWrapper; first | (rw [if_pos (by decide +kernel)]; kernel_rfl) | (rw [if_neg (by decide +kernel)]; exact ⟨rfl, rfl⟩))
    (fun os started H enc _ => kpowers_lifted os started H enc)

theorem kpowers_proved : Rows.KnowPowersSaid := kpowers_over

end Go.Proofs.Ytanfhnpnpdecnaa
end
