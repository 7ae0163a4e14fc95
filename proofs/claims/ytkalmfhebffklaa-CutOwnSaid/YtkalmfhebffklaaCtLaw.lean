/- What layer 11's statements share: pick, same, texts. -/
import Derived.Test.YtkalmfhebffklaaCtMiss
namespace Go.Proofs.Ytkalmfhebffklaa.L11
open Go.ChangeShapes Go.WideShapes Go.ChangeAt Go.RowKit Go.Deep

def pickN (c : Int) (n : Nat) : Nat := (if c < 0 then -(c + 1) else c).toNat % n
theorem pickN_lt (c : Int) {n : Nat} (hn : 0 < n) : pickN c n < n := Nat.mod_lt _ hn
set_option maxHeartbeats 400000 in
theorem pick_calls (c : Int) (n : Nat) (h1 : -9223372036854775808 ≤ c) (h2 : c ≤ 9223372036854775807) (hn : 0 < n) (hn2 : n ≤ 1000) (w : World) :
    Calls Try.prog 34 #[.int .i64 c, .int .i64 n] w fun e w' => ∃ m : Nat, m < n ∧ m = (if c < 0 then -(c + 1) else c).toNat % n ∧ e = .returned (.int .i64 m) ∧ w = w' := by
  have hz : ((n : Int) == 0) = false := by simp; omega
  have hz2 : ¬ (n : Int) = 0 := by omega
  by_cases hc : c < 0
  · obtain ⟨m, hm⟩ : ∃ m : Nat, -(c + 1) = m := ⟨(-(c + 1)).toNat, by omega⟩
    rw [if_pos hc, hm]
    have k1 : (0 : Int) ≤ (m : Int) := by omega
    have k2 : (m : Int) ≤ 9223372036854775807 := by omega
    have hcc : c = -(m : Int) - 1 := by omega
    have HN := Lib.hid (Nat.mod_lt m hn)
    clear hm
    subst hcc
    go_enter Try.func34, Try.ntmps34
    go_wp2
    all_goals first | omega | (go_ret; exact ⟨m % n, HN.out, rfl, by simp, rfl⟩)
  · obtain ⟨m, rfl⟩ : ∃ m : Nat, c = m := ⟨c.toNat, by omega⟩
    rw [if_neg hc]
    have HN := Lib.hid (Nat.mod_lt m hn)
    go_enter Try.func34, Try.ntmps34
    go_wp2
    all_goals first | omega | (go_ret; exact ⟨m % n, HN.out, rfl, by simp, rfl⟩)
theorem pick_is {c : Int} {n : Nat} (hc : isInt c) (hn : 0 < n) (hn2 : n ≤ 1000) (w : World) : Calls Try.prog 34 #[.int .i64 c, .int .i64 n] w fun e w' => e = .returned (.int .i64 (pickN c n)) ∧ w = w' := by
  refine (pick_calls c n hc.1 hc.2 hn hn2 w).mono ?_
  rintro e w' ⟨m, _, hm, he, hw⟩
  exact ⟨by rw [he, hm]; rfl, hw⟩
set_option maxRecDepth 100000 in
set_option maxHeartbeats 2000000 in
theorem same_calls (x y : It) (w : World) (hx : ItAt w x) (hy : ItAt w y) : Calls Try.prog 18 #[x.v, y.v] w (One w (.bool (decide (x.l = y.l)))) := by
  have H1 := Lib.hid (it_read hx)
  have H2 := Lib.hid (it_read hy)
  have f1 := Nat.le_trans hx.le hx.few
  have f2 := Nat.le_trans hy.le hy.few
  obtain ⟨A, c, xs⟩ := x
  obtain ⟨A2, c2, ys⟩ := y
  simp only [It.v] at *
  unfold maxLen at f1 f2
  clear hx hy
  by_cases hn : xs.length = ys.length
  · obtain ⟨r, hr⟩ : ∃ r, decide (xs = ys) = r := ⟨_, rfl⟩
    rw [hr]
    have HR := Lib.hid hr
    have HN := Lib.hid hn
    clear hr
    rw [← hn]
    clear hn f2
    go_enter Try.func18, Try.ntmps18
    go_wp2
    go_loopg [5] xs.length (fun k v5 wr => SameLoop w xs ys k v5 wr)
    case atStart => exact ⟨0, by omega, rfl, by simp, Below.refl _ _⟩
    case round =>
      obtain ⟨i, hk, rfl, hd, hB⟩ := hrel
      by_cases hil : i < xs.length
      · obtain ⟨x, hx⟩ : ∃ x, xs[i]? = some x := ⟨_, List.getElem?_eq_getElem hil⟩
        obtain ⟨y, hy⟩ : ∃ y, ys[i]? = some y := ⟨_, List.getElem?_eq_getElem (by rw [← HN.out]; exact hil)⟩
        obtain ⟨ad, rfl, hcx⟩ := H1.out i x hx
        obtain ⟨ad2, rfl, hcy⟩ := H2.out i y hy
        have c1 := hcx wr hB
        have c2' := hcy wr hB
        have hgk := Lib.hid (show gk - 1 < gk by omega)
        have j1 : (i : Int) < (xs.length : Int) := by omega
        have j2 : (0 : Int) ≤ (i : Int) := by omega
        by_cases hxy : x = y
        · subst hxy
          have HF : Hid (∀ q, SameLoop w xs ys (gk - 1) (.int .i64 ((i + 1 : Nat) : Int)) (wr.drewN q)) := fun q => ⟨i + 1, by omega, rfl, by rw [take_nextB xs hx, take_nextB ys hy, hd], hB.trans (L5.below_drewN (Below.refl _ _) _)⟩
          clear hk hd hx hy hB hcx hcy
          go_wp2
          refine region_stillC (by kernel_rfl) (by kernel_rfl) ?_
          repeat
            (refine Quietly.step (fun K hK => ?_)
             go_simp
             refine hK _ ?_
             clear hK K)
          refine Quietly.none ?_
          rintro w2 ⟨nq, rfl⟩
          go_wp2
          go_roundg (gk - 1)
          case measure => exact hgk.out
          case rel => exact HF.out _
        · have hrf : r = false := by
            rw [← HR.out]
            refine decide_eq_false (fun h => hxy ?_)
            rw [h, hy] at hx
            exact (Option.some.inj hx).symm
          subst hrf
          have HF : Hid (∀ q, Below w.heap.size w (wr.drewN q)) := fun q => hB.trans (L5.below_drewN (Below.refl _ _) _)
          have hne := str_ne hxy
          clear hk hd hx hy hB hcx hcy
          go_wp2
          refine region_stillC (by kernel_rfl) (by kernel_rfl) ?_
          repeat
            (refine Quietly.step (fun K hK => ?_)
             go_simp
             refine hK _ ?_
             clear hK K)
          refine Quietly.none ?_
          rintro w2 ⟨nq, rfl⟩
          go_wp2
          go_ret
          exact ⟨rfl, HF.out _⟩
      · have hrt : r = true := by
          rw [← HR.out]
          refine decide_eq_true ?_
          have hi : i = xs.length := by omega
          rw [hi, List.take_length, HN.out, List.take_length] at hd
          exact hd
        subst hrt
        have HB := Lib.hid hB
        have j1 : ¬ ((i : Int) < (xs.length : Int)) := by omega
        clear hk hd hB
        go_wp2
        go_ret
        exact ⟨rfl, HB.out⟩
  · have e : decide (xs = ys) = false := decide_eq_false (fun h => hn (by rw [h]))
    have hn2 : ¬ (xs.length : Int) = (ys.length : Int) := by omega
    rw [e]
    clear e
    generalize xs.length = n at *
    generalize ys.length = m at *
    go_enter Try.func18, Try.ntmps18
    go_wp2
    go_ret
    exact ⟨rfl, Below.refl _ _⟩

theorem info_str : (Try.prog.info? 9).map (fun i => (i.zero, i.size, i.bytes)) = some (some (.string ⟨#[]⟩), 1, 16) := by kernel_rfl
def TextsGo (w : World) (xs : List Bytes) (k : Nat) (v3 vi : Value) (wr : World) : Prop :=
  ∃ i : Nat, k + i = xs.length ∧ vi = .int .i64 i ∧ wr.ownsRow w.heap.size 9 1 v3 i (txt (xs.take i)) ∧ Below w.heap.size w wr
/-- A row of texts in memory of the call's own. -/
def TextsOut (w : World) (l : List Bytes) (e : Ending) (w' : World) : Prop :=
  ∃ x : It, e = .returned x.v ∧ x.l = l ∧ ItAt w' x ∧ w'.ownsRow w.heap.size 9 1 x.v l.length (txt l) ∧ Below w.heap.size w w'
set_option maxRecDepth 100000 in
set_option maxHeartbeats 2000000 in
theorem texts_calls (x : It) (w : World) (hx : ItAt w x) (hl : x.l.length ≤ 4000000000) : Calls Try.prog 28 #[x.v] w (TextsOut w x.l) := by
  obtain ⟨i0, hi, hz0, hz1, hz2⟩ := info_parts info_str
  have H1 := Lib.hid (it_read hx)
  have HS := Lib.hid hx.short
  obtain ⟨A, c, xs⟩ := x
  simp only [It.v] at *
  clear hx
  go_enter Try.func28, Try.ntmps28
  go_wp2
  go_loopg [3, 4] xs.length (fun k v3 v4 wr => TextsGo w xs k v3 v4 wr)
  case atStart => exact ⟨0, by omega, rfl, World.ownsRow_nil _ _ _ _, Below.refl _ _⟩
  case round =>
    obtain ⟨i, hk, rfl, hrow, hB⟩ := hrel
    by_cases hil : i < xs.length
    · obtain ⟨x, hx⟩ : ∃ x, xs[i]? = some x := ⟨_, List.getElem?_eq_getElem hil⟩
      obtain ⟨ad, rfl, hcx⟩ := H1.out i x hx
      have c1 := hcx wr hB
      have hgk := Lib.hid (show gk - 1 < gk by omega)
      have j1 : (i : Int) < (xs.length : Int) := by omega
      have j2 : (0 : Int) ≤ (i : Int) := by omega
      obtain ⟨A3, c3, rfl⟩ := L5.own_slice hrow
      have hbs := hB.size
      have HF : Hid (∀ v' w1, w1.ownsRow w.heap.size 9 1 v' (i + 1) (txt (xs.take i) ++ [.string ⟨x.toArray⟩]) → (wr.alloc (.cells #[.string ⟨x.toArray⟩] 9)).grownBy w1 (Value.slice A3 i c3).ownBlock → TextsGo w xs (gk - 1) v' (.int .i64 ((i + 1 : Nat) : Int)) w1) := fun v' w1 h1 h2 => by
        refine ⟨i + 1, by omega, rfl, by rw [take_nextB xs hx, txt_append]; exact h1, (hB.alloc hbs _).grown h2 (by simp; omega) (fun q e => (hrow.lt q e).1)⟩
      have HR := Lib.hid (hrow.alloc (.cells #[.string ⟨x.toArray⟩] 9))
      clear hk hrow hB hx hcx
      go_wp2_with (at_builtin; refine wpList_append_own _ rfl _ _ 24 rfl w.heap.size 9 i0 (.string ⟨#[]⟩) 1 16 Try.underlying24 hi hz0 hz1 hz2 rfl (by decide) _ _ _ rfl HR.out ⟨wr.heap.size, 0, none⟩ 1 1 [.string ⟨x.toArray⟩] rfl rfl (cell_one_new _ _ _) (by simp [Value.oneCell']) (by unfold maxLen; omega) (by omega) (by simp; omega) ?_; intro v' w1 hown' hgrow _; have HJ := Lib.hid (HF.out v' w1 hown' hgrow); clear hown' hgrow)
      go_roundg (gk - 1)
      case measure => exact hgk.out
      case rel => exact HJ.out
    · obtain rfl : i = xs.length := by omega
      have j1 : ¬ ((xs.length : Int) < (xs.length : Int)) := by omega
      rw [List.take_length] at hrow
      obtain ⟨x, e1, e2, e3⟩ := ItAt.of_own hrow HS.out (by unfold maxLen; omega)
      have HF : Hid (TextsOut w xs (.returned u3) wr) := ⟨x, by rw [e1], e2, e3, by rw [← e1]; exact hrow, hB⟩
      clear hk hrow hB e1 e2 e3
      go_wp2
      go_ret
      exact HF.out
end Go.Proofs.Ytkalmfhebffklaa.L11
