/- The law PartsAll: for all steps and places it returns true. -/
import Derived.Test.YtanfhnpnpdecnaaPHas
import Derived.Test.YtanfhnpnpdecnaaLater
import Derived.Laws.Cover1
import Derived.Deep.RegionHeld3
namespace Go.Proofs.Ytanfhnpnpdecnaa.L2
open Go.ChangeShapes Go.WideShapes Go.ChangeAt Go.RowKit

theorem pick_any2 {V : World} {B g cap : Nat} {ts : List (List UInt8)} (hrow : V.ownsRow B 23 1 (.slice (some ⟨g, 0, none⟩) ts.length cap) ts.length (strs ts)) (h2 : 2 ≤ ts.length) (h42 : ts.length ≤ 42) (hg : ∀ t ∈ ts, Tm.Good 41 600 t) {v : Int} (hv : isInt v) :
    ∃ (p : Nat) (x : List UInt8), (∀ W, Calls Try.prog 22 #[.int .i64 v, .int .i64 ts.length] W fun e w' => e = .returned (.int .i64 p) ∧ W = w') ∧ (p : Int) < (ts.length : Int) ∧ V.cell? ⟨g, p, none⟩ = some (.string ⟨x.toArray⟩) ∧ Tm.Good 41 600 x := by
  have hl := Tm.pickN_lt v ts.length (by omega)
  obtain ⟨x, hx⟩ : ∃ x, ts[Tm.pickN v ts.length]? = some x := ⟨_, List.getElem?_eq_getElem hl⟩
  exact ⟨_, x, fun W => pick_calls v ts.length hv.1 hv.2 (by omega) (by omega) W, by omega, texts_of_row hrow _ _ hx, hg x (List.mem_of_getElem? hx)⟩

theorem list_bytes (a : List UInt8) : (⟨a.toArray⟩ : ByteArray).data.toList = a := by simp

theorem count_one {a : List UInt8} {xs : List (List UInt8)} (h : xs.Nodup) (hm : a ∈ xs) : xs.count a = 1 := by
  induction xs with
  | nil => cases hm
  | cons y ys ih =>
    obtain ⟨h1, h2⟩ := List.nodup_cons.1 h
    by_cases hy : y = a
    · subst hy
      rw [List.count_cons_self, List.count_eq_zero_of_not_mem h1]
    · rw [List.count_cons_of_ne hy]
      rcases List.mem_cons.1 hm with e | e
      · exact absurd e.symm hy
      · exact ih h2 e

/-- What the law asks of a row of all that stands in a term. -/
structure AllFact (a : List UInt8) (xs ps : List (List UInt8)) : Prop where
  strict : ∀ k x y, xs[k]? = some x → xs[k + 1]? = some y → Op.bytesLess x y = true
  small : ∀ x ∈ xs, x.length ≤ a.length ∧ Tm.depthOf x ≤ Tm.depthOf a
  inner : ∀ x ∈ xs, x = a ∨ ∃ p ∈ ps, Tm.Sub p x
  parts : ∀ p ∈ ps, p ∈ xs
  once : xs.count a = 1
  leaf : ps.length = 0 ↔ xs.length = 1
  right : ∀ p ∈ ps, Tm.right p = true ∧ p.length ≤ 600
  few : ps.length ≤ 32

theorem allFact {a : List UInt8} {xs : List (List UInt8)} (ha : Tm.Good 41 600 a) (h1 : xs.Pairwise Tm.strict) (h2 : ∀ x, x ∈ xs ↔ Tm.Sub a x) : AllFact a xs (Tm.ofL a) := by
  have hr := ha.right
  have hnod : xs.Nodup := h1.imp (fun {x y} h => by
    rintro rfl
    have := Tm.less_asymm _ _ h
    unfold Tm.strict at h
    rw [h] at this
    cases this)
  have ham : a ∈ xs := (h2 a).2 (.self a)
  obtain ⟨o1, o2, o3, o4, o5, o6⟩ := Tm.ofL_ok hr
  constructor
  · intro k x y hx hy
    obtain ⟨i1, rfl⟩ := List.getElem?_eq_some_iff.1 hx
    obtain ⟨i2, rfl⟩ := List.getElem?_eq_some_iff.1 hy
    exact List.pairwise_iff_getElem.1 h1 k (k + 1) i1 i2 (by omega)
  · intro x hx
    have := ((h2 x).1 hx).right hr
    exact this.2
  · intro x hx
    exact (sub_iff x).1 ((h2 x).1 hx)
  · intro p hp
    exact (h2 p).2 (.part hp (.self p))
  · exact count_one hnod ham
  · constructor
    · intro h0
      have : xs = [a] := Tm.strict_unique h1 (List.pairwise_singleton _ _) (fun x => by
        rw [h2 x, sub_iff x, List.length_eq_zero_iff.1 h0]
        simp)
      rw [this]
      rfl
    · intro hx1
      obtain ⟨y, hy⟩ := List.length_eq_one_iff.1 hx1
      rw [hy] at ham
      have hya : a = y := by simpa using ham
      subst hya
      cases hps : Tm.ofL a with
      | nil => rfl
      | cons p q =>
        have hp : p ∈ Tm.ofL a := by rw [hps]; simp
        have h3 := (h2 p).2 (.part hp (.self p))
        rw [hy] at h3
        have h4 : p = a := by simpa using h3
        have := (o2 p hp).2.1
        have h5 := (o2 p hp).2.2
        rw [h4] at this h5
        have h6 := Tm.right_begin hr
        omega
  · intro p hp
    refine ⟨(Tm.right_iff p).2 (o2 p hp).1, ?_⟩
    have := (o2 p hp).2.2
    have := ha.2.2
    omega
  · rw [o3]; exact (Tm.begin_le _).2

theorem lt_of_cell {W : World} {q : Addr} {v : Value} (h : W.cell? q = some v) : q.block < W.heap.size := by
  obtain ⟨o, ho, _⟩ := cells_of_cell h
  exact (Array.getElem?_eq_some_iff.1 ho).1
theorem all_keeps {p : List UInt8} (hr : Tm.right p = true) (q r : Addr) (u v : Value) (W : World) (hq : W.cell? q = some u) (hv : W.cell? r = some v) :
    Calls Try.prog 19 #[.string ⟨p.toArray⟩] W fun e W' => ∃ z ys, e = .returned z ∧ Reads W' z ys ∧ (∀ y, y ∈ ys ↔ Tm.Sub p y) ∧ ys.length ≤ 700000 ∧ Below W.heap.size W W' ∧ W'.cell? q = some u ∧ W'.cell? r = some v := by
  refine (All_right ⟨p.toArray⟩ (by rw [list_bytes]; exact hr) W).mono ?_
  rintro e W' ⟨z, ys, rfl, h1, h2, h3, h4, h5⟩
  rw [list_bytes] at h3
  exact ⟨z, ys, rfl, reads_of_terms h1, h3, h4, h5, (h5.cell (lt_of_cell hq)).trans hq, (h5.cell (lt_of_cell hv)).trans hv⟩

def Round (V : World) (a : List UInt8) (xs : List (List UInt8)) (K : Nat) (v10 v11 : Value) (wr : World) : Prop :=
  ∃ k : Nat, K + k = xs.length ∧ v11 = .int .i64 k ∧ v10 = .int .i64 ((xs.take k).count a : Nat) ∧ Below V.heap.size V wr
def Inner (V : World) (a x : List UInt8) (ps : List (List UInt8)) (J : Nat) (v12 v13 : Value) (wr : World) : Prop :=
  ∃ (j : Nat) (b : Bool), J + j = ps.length ∧ v13 = .int .i64 j ∧ v12 = .bool b ∧ (b = true ↔ (x = a ∨ ∃ p ∈ ps.take j, Tm.Sub p x)) ∧ Below V.heap.size V wr
def Last (V : World) (ps : List (List UInt8)) (J : Nat) (v14 : Value) (wr : World) : Prop :=
  ∃ j : Nat, J + j = ps.length ∧ v14 = .int .i64 j ∧ Below V.heap.size V wr

set_option maxRecDepth 100000 in
set_option maxHeartbeats 1000000 in
theorem all_all (A : Option Addr) (n c : Nat) (i : Int) (w : World) (hS : Steps w A n) (hnc : n ≤ maxLen) (ri : isInt i) :
    Calls Try.prog 4 #[.slice A n c, .int .i64 i] w (One w (.bool true)) := by
  have HS := Lib.hid shown_calls
  have HSt := Lib.hid hS
  have HNC := Lib.hid hnc
  have HR := Lib.hid ri
  clear hS hnc ri
  go_enter Try.func4, Try.ntmps4
  go_wp2_with fail
  refine (HS.out _).mono ?_
  rintro e' w0 ⟨rfl, B0⟩
  have HM := Lib.hid (made_calls A n c w0 (steps_below HSt.out B0) HNC.out)
  go_wp2_with fail
  refine HM.out.mono ?_
  rintro e' w1 ⟨g, cap, ts, rfl, hrow, hlen, hgood, hb1⟩
  have B := B0.trans (hb1.mono B0.size)
  have h42 : ts.length ≤ 42 := by omega
  have h22 : 2 ≤ ts.length := by omega
  obtain ⟨pa, a, cPa, la, ca, Ga⟩ := pick_any2 hrow h22 h42 hgood HR.out
  have HPa := Lib.hid cPa
  have ja : (0 : Int) ≤ (pa : Int) := by omega
  have HGa := Lib.hid Ga
  clear hrow hgood hlen hb1 cPa HM HSt HNC HS B0 Ga
  go_wp2_with fail
  refine (HPa.out _).mono ?_
  rintro e' w' ⟨rfl, rfl⟩
  have hal : (⟨a.toArray⟩ : ByteArray).size ≤ 600 := by rw [size_list]; exact HGa.out.2.2
  have HA := Lib.hid (All_right ⟨a.toArray⟩ (by rw [list_bytes]; exact HGa.out.right) w1)
  go_wp2_with fail
  refine HA.out.mono ?_
  rintro e' w2 ⟨v8, xs, rfl, hrow8, hst, hmem, hlx, b2⟩
  have HO := Lib.hid (Of_right ⟨a.toArray⟩ (by rw [list_bytes]; exact HGa.out.right) w2)
  have hF := allFact HGa.out hst hmem
  have B2 := B.trans (b2.mono B.size)
  clear b2 hst hmem HA B ca
  go_wp2_with fail
  refine HO.out.mono ?_
  rintro e' w3 ⟨v9, rfl, hrow9, _, b3⟩
  have B3 := B2.trans (b3.mono B2.size)
  have r8 := (reads_of_terms hrow8).below b3
  have r9 := reads_of_terms hrow9
  generalize Tm.ofL a = ps at *
  obtain ⟨A8, c8, rfl, h8⟩ := r8
  obtain ⟨A9, c9, rfl, h9⟩ := r9
  have H8 := Lib.hid h8
  have H9 := Lib.hid h9
  have HF := Lib.hid hF
  have HB := Lib.hid B3
  have hfew := hF.few
  clear h8 h9 hF B3 B2 b3 hrow8 hrow9 HO
  go_wp2
  go_loopg [10, 11] xs.length (fun K v10 v11 wr => Round w3 a xs K v10 v11 wr)
  case atStart => exact ⟨0, by omega, rfl, by simp, Below.refl _ _⟩
  case round =>
    obtain ⟨k, hk, rfl, rfl, hbel⟩ := hrel
    obtain ⟨gkO, hgkO⟩ : ∃ gkO, gkO = gk := ⟨_, rfl⟩
    rw [← hgkO] at hk
    have HGK := Lib.hid hgkO
    clear hgkO
    by_cases hkl : k < xs.length
    · obtain ⟨x, hx⟩ : ∃ x, xs[k]? = some x := ⟨_, List.getElem?_eq_getElem hkl⟩
      obtain ⟨g8, rfl, hg8, hc8⟩ := H8.out k x hx
      have j1 : (k : Int) < (xs.length : Int) := by omega
      have j2 : (0 : Int) ≤ (k : Int) := by omega
      obtain ⟨hs1, hs2⟩ := HF.out.small x (List.mem_of_getElem? hx)
      have hc8' : ∀ X : Later wr, X.world.cell? ⟨g8, k, none⟩ = some (.string ⟨x.toArray⟩) := fun X => ((hbel.trans (X.kept.mono hbel.size)).cell (p := ⟨g8, k, none⟩) hg8).trans hc8
      have HX := Lib.hid hx
      clear hx hc8
      have hxl : (⟨x.toArray⟩ : ByteArray).size ≤ maxLen := by rw [size_list]; have := HGa.out.2.2; unfold maxLen; omega
      have hal2 : (⟨a.toArray⟩ : ByteArray).size ≤ maxLen := by unfold maxLen; omega
      have cDx := fun W => Depth_calls ⟨x.toArray⟩ hxl W
      have cDa := fun W => Depth_calls ⟨a.toArray⟩ hal2 W
      rw [list_bytes] at cDx cDa
      have HDx := Lib.hid cDx
      have HDa := Lib.hid cDa
      have q1 : decide (a.length < x.length) = false := by simp; omega
      have q2 : decide (Tm.depthOf a < Tm.depthOf x) = false := by simp; omega
      generalize Tm.depthOf a = da at *
      generalize Tm.depthOf x = dx at *
      have HK := Lib.hid hk
      clear cDx cDa hxl hal2 hs1 hs2 hk
      rcases k with _ | m
      · have j3 : (0 : Int) < (xs.length : Int) := by omega
        clear j1 j2 hkl
        go_wp2
        refine wp_region_later (by kernel_rfl) (by kernel_rfl) ?_
        repeat
          (refine Quietly.step (fun K hK => ?_)
           go_simp
           first
             | (refine hK _ ?_; clear hK K)
             | (apply Exists.intro
                refine ⟨fun _ => ?_, hK _ ?_⟩
                first
                  | (go_at_call_of 23 (Value.string ⟨x.toArray⟩); exact (HDx.out _).mono (fun _ W h => ⟨h.1, ⟨W, Below.trans (Later.kept _) (h.2.mono (Later.kept _).size)⟩, rfl⟩))
                  | (go_at_call_of 23 (Value.string ⟨a.toArray⟩); exact (HDa.out _).mono (fun _ W h => ⟨h.1, ⟨W, Below.trans (Later.kept _) (h.2.mono (Later.kept _).size)⟩, rfl⟩))
                clear hK K))
        refine Quietly.none ?_
        rintro w2 ⟨⟨V, b2⟩, rfl⟩
        have hbel2 := hbel.trans (b2.mono hbel.size)
        have hcx : w2.cell? ⟨g8, 0, none⟩ = some (.string ⟨x.toArray⟩) := hc8' ⟨w2, b2⟩
        have HBel := Lib.hid hbel2
        clear hbel b2 hc8' hbel2
        go_wp2
        go_loopg [12, 13] ps.length (fun J v12 v13 wr => Inner w3 a x ps J v12 v13 wr)
        case atStart => exact ⟨0, (x == a), by omega, rfl, rfl, by simp, HBel.out⟩
        case round =>
          obtain ⟨j, b, hJ, rfl, rfl, hb, hbel3⟩ := hrel
          have HBi := Lib.hid hb
          clear hb
          have hcx3 : wr.cell? ⟨g8, 0, none⟩ = some (.string ⟨x.toArray⟩) := (hbel3.cell (p := ⟨g8, 0, none⟩) hg8).trans (((HBel.out).cell (p := ⟨g8, 0, none⟩) hg8).symm.trans hcx)
          have HJ := Lib.hid hJ
          have HBel3 := Lib.hid hbel3
          have hjn : j ≤ ps.length := by omega
          clear hJ hbel3
          rcases b with _ | _
          · have hnot : Hid (¬ (x = a ∨ ∃ p ∈ ps.take j, Tm.Sub p x)) := fun h => by have := HBi.out.2 h; cases this
            by_cases hjl : j < ps.length
            · obtain ⟨p, hp⟩ : ∃ p, ps[j]? = some p := ⟨_, List.getElem?_eq_getElem hjl⟩
              obtain ⟨g9, rfl, hg9, hc9⟩ := H9.out j p hp
              have hcp : wr.cell? ⟨g9, j, none⟩ = some (.string ⟨p.toArray⟩) := (HBel3.out.cell (p := ⟨g9, j, none⟩) hg9).trans hc9
              obtain ⟨hpr, _⟩ := HF.out.right p (List.mem_of_getElem? hp)
              have HAp := Lib.hid (fun W => all_keeps hpr ⟨g9, j, none⟩ ⟨g8, 0, none⟩ (.string ⟨p.toArray⟩) (.string ⟨x.toArray⟩) W)
              have HP := Lib.hid hp
              have l1 : (j : Int) < (ps.length : Int) := by omega
              have l2 : (0 : Int) ≤ (j : Int) := by omega
              clear hp hc9 hpr
              go_wp2
              go_region_held3 (fun w' => w'.cell? ⟨g9, j, none⟩ = some (.string ⟨p.toArray⟩) ∧ w'.cell? ⟨g8, 0, none⟩ = some (.string ⟨x.toArray⟩)) (go_keep) (first
                | (go_at_call 19; refine (HAp.out _ (by simp [*]) (by simp [*])).mono ?_; rintro e' wA ⟨vA, ys, rfl, rA, mA, lA, bA, cA1, cA2⟩)
                | (go_at_call 24; refine (has_calls ys x vA _ (by omega) ‹_› (decide (x ∈ ys)) (by simp)).mono ?_; rintro e' wB ⟨rfl, rfl⟩))
              have hbA : Below w3.heap.size w3 wA := HBel3.out.trans (Below.trans (below_drewN (Below.refl wr.heap.size wr) 1) (bA.mono (Nat.le_refl _)) |>.mono HBel3.out.size)
              have hRel : Hid (Inner w3 a x ps (gk - 1) (.bool (decide (x ∈ ys))) (.int .i64 ((j + 1 : Nat) : Int)) wA) := by
                refine ⟨j + 1, _, by have := HJ.out; omega, rfl, rfl, ?_, hbA⟩
                rw [List.take_add_one, HP.out, decide_eq_true_iff, mA x]
                constructor
                · intro h
                  exact .inr ⟨p, by simp, h⟩
                · rintro (h | ⟨q, hq, h⟩)
                  · exact absurd (.inl h) hnot.out
                  · rcases List.mem_append.1 hq with hq | hq
                    · exact absurd (.inr ⟨q, hq, h⟩) hnot.out
                    · simp at hq
                      subst hq
                      exact h
              have hgk : gk - 1 < gk := by have := HJ.out; omega
              clear rA mA lA bA hnot HBi hbA cA1 cA2 hcx3 hcp
              go_wp2
              go_roundg (gk - 1)
              case measure => exact hgk
              case rel => exact hRel.out
            · obtain rfl : j = ps.length := by omega
              exfalso
              apply hnot.out
              rw [List.take_length]
              exact HF.out.inner x (List.mem_of_getElem? HX.out)
          · have hRel : ∀ c : Nat, c = (if x = a then 1 else 0) → Round w3 a xs (gkO - 1) (.int .i64 ((((List.take (0) xs).count a + c : Nat)) : Int)) (.int .i64 ((0 + 1 : Nat) : Int)) wr := by
              rintro c rfl
              have e0 : List.take (0 + 1) xs = List.take (0) xs ++ [x] := by
                have := List.take_add_one (l := xs) (i := 0)
                rw [HX.out] at this
                exact this
              refine ⟨0 + 1, by have := HK.out; omega, rfl, ?_, HBel3.out⟩
              rw [e0, List.count_append, List.count_singleton]
              by_cases h : x = a <;> simp [h]
            have HRel := Lib.hid hRel
            have hcnt : (List.take (0) xs).count a ≤ 700000 := Nat.le_trans List.count_le_length (by rw [List.length_take]; omega)
            have hgk : gkO - 1 < gkO := by have := HK.out; omega
            have s1 : IntKind.i64.wrap (((List.take (0) xs).count a : Int) + 1) = ((((List.take (0) xs).count a + 1 : Nat)) : Int) := by rw [IntKind.wrap_i64]; omega
            clear hRel HBi HBel3 HJ
            by_cases hjl : j < ps.length
            all_goals
              by_cases hxa : x = a
              · have l1 : ((j : Int) < (ps.length : Int)) ∨ ¬ ((j : Int) < (ps.length : Int)) := by omega
                have q5 : (x == a) = true := by simpa using hxa
                rcases l1 with l1 | l1
                all_goals
                  go_wp2
                  go_roundg (gkO - 1)
                  case measure => have := HGK.out; omega
                  case rel => first | exact HRel.out 1 (by rw [if_pos hxa]) | (have := HRel.out 1 (by rw [if_pos hxa]); simpa using this)
              · have l1 : ((j : Int) < (ps.length : Int)) ∨ ¬ ((j : Int) < (ps.length : Int)) := by omega
                have q5 : (x == a) = false := by simpa using hxa
                rcases l1 with l1 | l1
                all_goals
                  go_wp2
                  go_roundg (gkO - 1)
                  case measure => have := HGK.out; omega
                  case rel => first | exact HRel.out 0 (by rw [if_neg hxa]) | (have := HRel.out 0 (by rw [if_neg hxa]); simpa using this)
      · have j3 : ((m + 1 : Nat) : Int) < (xs.length : Int) := by omega
        obtain ⟨y, hy⟩ : ∃ y, xs[m]? = some y := ⟨_, List.getElem?_eq_getElem (by omega)⟩
        obtain ⟨g8', e8, _, hc8y⟩ := H8.out m y hy
        cases e8
        have hcy' : ∀ X : Later wr, X.world.cell? ⟨g8, m, none⟩ = some (.string ⟨y.toArray⟩) := fun X => ((hbel.trans (X.kept.mono hbel.size)).cell (p := ⟨g8, m, none⟩) hg8).trans hc8y
        have hlt := HF.out.strict m y x hy HX.out
        have q7 : Op.bytesLess x y = false := Tm.less_asymm _ _ hlt
        have q9 : ¬ x = y := by rintro rfl; rw [hlt] at q7; cases q7
        have q8 : (x == y) = false := by simpa using q9
        have j4 : (m : Int) < (xs.length : Int) := by omega
        have j5 : (0 : Int) ≤ (m : Int) := by omega
        have j6 : (m : Int) + 1 < (xs.length : Int) := by omega
        have j7 : (0 : Int) ≤ (m : Int) + 1 := by omega
        have j8 : IntKind.i64.wrap (m : Int) = (m : Int) := by rw [IntKind.wrap_i64]; omega
        clear hy hc8y j1 j2 hkl
        go_wp2
        refine wp_region_later (by kernel_rfl) (by kernel_rfl) ?_
        repeat
          (refine Quietly.step (fun K hK => ?_)
           go_simp
           first
             | (refine hK _ ?_; clear hK K)
             | (apply Exists.intro
                refine ⟨fun _ => ?_, hK _ ?_⟩
                first
                  | (go_at_call_of 23 (Value.string ⟨x.toArray⟩); exact (HDx.out _).mono (fun _ W h => ⟨h.1, ⟨W, Below.trans (Later.kept _) (h.2.mono (Later.kept _).size)⟩, rfl⟩))
                  | (go_at_call_of 23 (Value.string ⟨a.toArray⟩); exact (HDa.out _).mono (fun _ W h => ⟨h.1, ⟨W, Below.trans (Later.kept _) (h.2.mono (Later.kept _).size)⟩, rfl⟩))
                clear hK K))
        refine Quietly.none ?_
        rintro w2 ⟨⟨V, b2⟩, rfl⟩
        have hbel2 := hbel.trans (b2.mono hbel.size)
        have hcx : w2.cell? ⟨g8, m + 1, none⟩ = some (.string ⟨x.toArray⟩) := hc8' ⟨w2, b2⟩
        have HBel := Lib.hid hbel2
        clear hbel b2 hc8' hcy' hbel2
        go_wp2
        go_loopg [12, 13] ps.length (fun J v12 v13 wr => Inner w3 a x ps J v12 v13 wr)
        case atStart => exact ⟨0, (x == a), by omega, rfl, rfl, by simp, HBel.out⟩
        case round =>
          obtain ⟨j, b, hJ, rfl, rfl, hb, hbel3⟩ := hrel
          have HBi := Lib.hid hb
          clear hb
          have hcx3 : wr.cell? ⟨g8, m + 1, none⟩ = some (.string ⟨x.toArray⟩) := (hbel3.cell (p := ⟨g8, m + 1, none⟩) hg8).trans (((HBel.out).cell (p := ⟨g8, m + 1, none⟩) hg8).symm.trans hcx)
          have HJ := Lib.hid hJ
          have HBel3 := Lib.hid hbel3
          have hjn : j ≤ ps.length := by omega
          clear hJ hbel3
          rcases b with _ | _
          · have hnot : Hid (¬ (x = a ∨ ∃ p ∈ ps.take j, Tm.Sub p x)) := fun h => by have := HBi.out.2 h; cases this
            by_cases hjl : j < ps.length
            · obtain ⟨p, hp⟩ : ∃ p, ps[j]? = some p := ⟨_, List.getElem?_eq_getElem hjl⟩
              obtain ⟨g9, rfl, hg9, hc9⟩ := H9.out j p hp
              have hcp : wr.cell? ⟨g9, j, none⟩ = some (.string ⟨p.toArray⟩) := (HBel3.out.cell (p := ⟨g9, j, none⟩) hg9).trans hc9
              obtain ⟨hpr, _⟩ := HF.out.right p (List.mem_of_getElem? hp)
              have HAp := Lib.hid (fun W => all_keeps hpr ⟨g9, j, none⟩ ⟨g8, m + 1, none⟩ (.string ⟨p.toArray⟩) (.string ⟨x.toArray⟩) W)
              have HP := Lib.hid hp
              have l1 : (j : Int) < (ps.length : Int) := by omega
              have l2 : (0 : Int) ≤ (j : Int) := by omega
              clear hp hc9 hpr
              go_wp2
              go_region_held3 (fun w' => w'.cell? ⟨g9, j, none⟩ = some (.string ⟨p.toArray⟩) ∧ w'.cell? ⟨g8, m + 1, none⟩ = some (.string ⟨x.toArray⟩)) (go_keep) (first
                | (go_at_call 19; refine (HAp.out _ (by simp [*]) (by simp [*])).mono ?_; rintro e' wA ⟨vA, ys, rfl, rA, mA, lA, bA, cA1, cA2⟩)
                | (go_at_call 24; refine (has_calls ys x vA _ (by omega) ‹_› (decide (x ∈ ys)) (by simp)).mono ?_; rintro e' wB ⟨rfl, rfl⟩))
              have hbA : Below w3.heap.size w3 wA := HBel3.out.trans (Below.trans (below_drewN (Below.refl wr.heap.size wr) 1) (bA.mono (Nat.le_refl _)) |>.mono HBel3.out.size)
              have hRel : Hid (Inner w3 a x ps (gk - 1) (.bool (decide (x ∈ ys))) (.int .i64 ((j + 1 : Nat) : Int)) wA) := by
                refine ⟨j + 1, _, by have := HJ.out; omega, rfl, rfl, ?_, hbA⟩
                rw [List.take_add_one, HP.out, decide_eq_true_iff, mA x]
                constructor
                · intro h
                  exact .inr ⟨p, by simp, h⟩
                · rintro (h | ⟨q, hq, h⟩)
                  · exact absurd (.inl h) hnot.out
                  · rcases List.mem_append.1 hq with hq | hq
                    · exact absurd (.inr ⟨q, hq, h⟩) hnot.out
                    · simp at hq
                      subst hq
                      exact h
              have hgk : gk - 1 < gk := by have := HJ.out; omega
              clear rA mA lA bA hnot HBi hbA cA1 cA2 hcx3 hcp
              go_wp2
              go_roundg (gk - 1)
              case measure => exact hgk
              case rel => exact hRel.out
            · obtain rfl : j = ps.length := by omega
              exfalso
              apply hnot.out
              rw [List.take_length]
              exact HF.out.inner x (List.mem_of_getElem? HX.out)
          · have hRel : ∀ c : Nat, c = (if x = a then 1 else 0) → Round w3 a xs (gkO - 1) (.int .i64 ((((List.take (m + 1) xs).count a + c : Nat)) : Int)) (.int .i64 ((m + 1 + 1 : Nat) : Int)) wr := by
              rintro c rfl
              have e0 : List.take (m + 1 + 1) xs = List.take (m + 1) xs ++ [x] := by
                have := List.take_add_one (l := xs) (i := m + 1)
                rw [HX.out] at this
                exact this
              refine ⟨m + 1 + 1, by have := HK.out; omega, rfl, ?_, HBel3.out⟩
              rw [e0, List.count_append, List.count_singleton]
              by_cases h : x = a <;> simp [h]
            have HRel := Lib.hid hRel
            have hcnt : (List.take (m + 1) xs).count a ≤ 700000 := Nat.le_trans List.count_le_length (by rw [List.length_take]; omega)
            have hgk : gkO - 1 < gkO := by have := HK.out; omega
            have s1 : IntKind.i64.wrap (((List.take (m + 1) xs).count a : Int) + 1) = ((((List.take (m + 1) xs).count a + 1 : Nat)) : Int) := by rw [IntKind.wrap_i64]; omega
            clear hRel HBi HBel3 HJ
            generalize (List.take (m + 1) xs).count a = ct at *
            by_cases hjl : j < ps.length
            all_goals
              by_cases hxa : x = a
              · have l1 : ((j : Int) < (ps.length : Int)) ∨ ¬ ((j : Int) < (ps.length : Int)) := by omega
                have q5 : (x == a) = true := by simpa using hxa
                rcases l1 with l1 | l1
                all_goals
                  go_wp2
                  go_roundg (gkO - 1)
                  case measure => have := HGK.out; omega
                  case rel => first | exact HRel.out 1 (by rw [if_pos hxa]) | (have := HRel.out 1 (by rw [if_pos hxa]); simpa using this)
              · have l1 : ((j : Int) < (ps.length : Int)) ∨ ¬ ((j : Int) < (ps.length : Int)) := by omega
                have q5 : (x == a) = false := by simpa using hxa
                rcases l1 with l1 | l1
                all_goals
                  go_wp2
                  go_roundg (gkO - 1)
                  case measure => have := HGK.out; omega
                  case rel => first | exact HRel.out 0 (by rw [if_neg hxa]) | (have := HRel.out 0 (by rw [if_neg hxa]); simpa using this)
    · obtain rfl : k = xs.length := by omega
      have j1 : ¬ ((xs.length : Int) < (xs.length : Int)) := by omega
      rw [List.take_length, HF.out.once]
      obtain ⟨wz, hwz⟩ : ∃ wz, wz = wr := ⟨_, rfl⟩
      rw [← hwz] at hbel ⊢
      have HBZ := Lib.hid hbel
      clear hwz hbel HGK hk
      go_wp2
      go_loopg [14] ps.length (fun J v14 wr => Last wz ps J v14 wr)
      case atStart => exact ⟨0, by omega, rfl, Below.refl _ _⟩
      case round =>
        obtain ⟨j, hJ, rfl, hbelz⟩ := hrel
        have hbel4 := HBZ.out.trans (hbelz.mono HBZ.out.size)
        by_cases hjl : j < ps.length
        · obtain ⟨p, hp⟩ : ∃ p, ps[j]? = some p := ⟨_, List.getElem?_eq_getElem hjl⟩
          have hreads : Reads wr (.slice A8 xs.length c8) xs := ⟨A8, c8, rfl, fun q y hy => by
            obtain ⟨g8, e, h1, h2⟩ := H8.out q y hy
            exact ⟨g8, e, Nat.lt_of_lt_of_le h1 hbel4.size, (hbel4.cell (p := ⟨g8, q, none⟩) h1).trans h2⟩⟩
          have HHas := Lib.hid (has_calls xs p (.slice A8 xs.length c8) wr (by omega) hreads true (by simp [HF.out.parts p (List.mem_of_getElem? hp)]))
          obtain ⟨g9, rfl, hg9, hc9⟩ := H9.out j p hp
          have hcp : wr.cell? ⟨g9, j, none⟩ = some (.string ⟨p.toArray⟩) := (hbel4.cell (p := ⟨g9, j, none⟩) hg9).trans hc9
          have l1 : (j : Int) < (ps.length : Int) := by omega
          have l2 : (0 : Int) ≤ (j : Int) := by omega
          have HJ := Lib.hid hJ
          clear hp hc9 hreads hJ
          go_wp2_with fail
          refine HHas.out.mono ?_
          rintro e' wB ⟨rfl, rfl⟩
          go_wp2
          go_roundg (gk - 1)
          case measure => have := HJ.out; omega
          case rel => exact ⟨j + 1, by have := HJ.out; omega, rfl, hbelz⟩
        · obtain rfl : j = ps.length := by omega
          have l1 : ¬ ((ps.length : Int) < (ps.length : Int)) := by omega
          have hleaf := HF.out.leaf
          have hB : Hid (Below w.heap.size w wr) := HB.out.trans (hbel4.mono HB.out.size)
          by_cases h0 : ps.length = 0
          · have h1 := hleaf.1 h0
            have z1 : ((ps.length : Int) == 0) = true := by simp [h0]
            have z2 : ((xs.length : Int) == 1) = true := by simp [h1]
            clear hleaf hJ H8 H9
            go_wp2
            go_ret
            exact ⟨rfl, hB.out⟩
          · have h1 : ¬ xs.length = 1 := fun h => h0 (hleaf.2 h)
            have z1 : ((ps.length : Int) == 0) = false := by rw [beq_eq_false_iff_ne]; omega
            have z2 : ((xs.length : Int) == 1) = false := by rw [beq_eq_false_iff_ne]; omega
            clear hleaf hJ H8 H9
            go_wp2
            go_ret
            exact ⟨rfl, hB.out⟩

theorem all_every (A : Option Addr) (n c : Nat) (i : Int) (w : World) (hS : Steps w A n) (hnc : n ≤ maxLen) (ri : isInt i) :
    Calls Try.prog 4 #[.slice A n c, .int .i64 i] w (One w (.bool true)) := all_all A n c i w hS hnc ri

end Go.Proofs.Ytanfhnpnpdecnaa.L2
