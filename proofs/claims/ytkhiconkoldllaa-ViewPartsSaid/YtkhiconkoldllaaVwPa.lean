/- The law ViewParts: a row is what it has in common with another one and what it has besides; unlike views are unlike terms. The statement ViewParts: for every input the law returns true, and its arguments read as they did. -/
import Derived.Test.YtkhiconkoldllaaVwA
import Derived.Test.YtkhiconkoldllaaTop
section
namespace Go.Proofs.Ytkhiconkoldllaa.L10
open Go.ChangeShapes Go.WideShapes Go.ChangeAt Go.RowKit Go.Shelf Go.Deep

/-- Two views that were boxed. -/
structure TwoV (W0 : World) (B : Nat) (e1 c1 : Int) (v1 : Value) (e2 c2 : Int) (v2 : Value) (V : World) : Prop where
  a0 : V.cell? ⟨B, 0, none⟩ = some (.int .i64 e1)
  a1 : V.cell? ⟨B, 1, none⟩ = some (.int .i64 c1)
  a2 : V.cell? ⟨B, 2, none⟩ = some v1
  b0 : V.cell? ⟨B + 1, 0, none⟩ = some (.int .i64 e2)
  b1 : V.cell? ⟨B + 1, 1, none⟩ = some (.int .i64 c2)
  b2 : V.cell? ⟨B + 1, 2, none⟩ = some v2
theorem twoV_of {w V : World} {e1 c1 e2 c2 : Int} {v1 v2 : Value} {W0 : World} (hW : (w.alloc (.cells #[.int .i64 e1, .int .i64 c1, v1] 26)).alloc (.cells #[.int .i64 e2, .int .i64 c2, v2] 26) = W0) (hV : Below W0.heap.size W0 V) : TwoV W0 w.heap.size e1 c1 v1 e2 c2 v2 V := by
  have s1 : (w.alloc (.cells #[.int .i64 e1, .int .i64 c1, v1] 26)).heap.size = w.heap.size + 1 := by simp
  have h0 : W0.heap[w.heap.size]? = some (.cells #[.int .i64 e1, .int .i64 c1, v1] 26 (0, 0)) := by
    rw [← hW]
    exact (Below.heap_alloc _ _ _ (by simp)).trans (World.alloc_heap_new w _)
  have h1 : W0.heap[w.heap.size + 1]? = some (.cells #[.int .i64 e2, .int .i64 c2, v2] 26 (0, 0)) := by
    rw [← hW]
    have := World.alloc_heap_new (w.alloc (.cells #[.int .i64 e1, .int .i64 c1, v1] 26)) (.cells #[.int .i64 e2, .int .i64 c2, v2] 26)
    rwa [s1] at this
  exact ⟨cells_at h0 hV 0, cells_at h0 hV 1, cells_at h0 hV 2, cells_at h1 hV 0, cells_at h1 hV 1, cells_at h1 hV 2⟩
theorem filter_at {xs : List Int} {q : Int → Bool} {n : Nat} {x : Int} (hx : xs[n]? = some x) (hq : q x = true) : (xs.filter q)[((xs.take n).filter q).length]? = some x := by
  have hn : n < xs.length := (List.getElem?_eq_some_iff.1 hx).1
  have e : xs = xs.take n ++ x :: xs.drop (n + 1) := by
    have := List.take_append_drop n xs
    rw [List.drop_eq_getElem_cons hn, (List.getElem?_eq_some_iff.1 hx).2] at this
    exact this.symm
  have e2 : xs.filter q = (xs.take n).filter q ++ x :: (xs.drop (n + 1)).filter q := by
    conv => lhs; rw [e]
    rw [List.filter_append, List.filter_cons, if_pos hq]
  rw [e2, List.getElem?_append_right (Nat.le_refl _)]
  simp
theorem filter_step {xs : List Int} {n : Nat} {x : Int} (hx : xs[n]? = some x) (q : Int → Bool) : ((xs.take (n + 1)).filter q).length = ((xs.take n).filter q).length + (if q x = true then 1 else 0) := by
  rw [take_next xs hx, List.filter_append, List.length_append]
  by_cases h : q x = true <;> simp [h]
theorem row_at {V : World} {B g cap : Nat} {ys : List Int} {n : Nat} (h : V.ownsRow B 3 1 (.slice (some ⟨g, 0, none⟩) n cap) ys.length (ys.map (Value.int .i64))) {j : Nat} {y : Int} (hj : ys[j]? = some y) : V.cell? ⟨g, j, none⟩ = some (.int .i64 y) := by
  have hl : j < ys.length := (List.getElem?_eq_some_iff.1 hj).1
  obtain ⟨A, c, e⟩ := own_slice h
  have hn : n = ys.length := by cases e; rfl
  subst hn
  rw [h.cellAt j (by omega), List.getElem?_map, hj]
  rfl
theorem row_slice {V : World} {B : Nat} {v : Value} {ys : List Int} (h : V.ownsRow B 3 1 v ys.length (ys.map (Value.int .i64))) {j : Nat} (hj : j < ys.length) : ∃ g cap, v = .slice (some ⟨g, 0, none⟩) ys.length cap := by
  rcases h.2 with ⟨_, h0⟩ | ⟨g, cap, _, rfl, _⟩
  · omega
  · exact ⟨g, cap, rfl⟩
def PartGo (V0 : World) (m : Nat) (nb no : Nat → Nat) (k : Nat) (v8 v9 v10 : Value) (wr : World) : Prop :=
  ∃ n : Nat, k + n = m ∧ v10 = .int .i64 n ∧ v8 = .int .i64 (nb n) ∧ v9 = .int .i64 (no n) ∧ Below V0.heap.size V0 wr
/-- What is in both, and what is not: how many of the first n, and where each one lies. -/
structure Parted (xs : List Int) (q : Int → Bool) (bs os : List Int) (nb no : Nat → Nat) : Prop where
  hit : ∀ n x, xs[n]? = some x → q x = true → bs[nb n]? = some x ∧ nb (n + 1) = nb n + 1 ∧ no (n + 1) = no n
  miss : ∀ n x, xs[n]? = some x → q x = false → os[no n]? = some x ∧ nb (n + 1) = nb n ∧ no (n + 1) = no n + 1
  inB : ∀ (j : Nat) z, bs[j]? = some z → q z = true
  b0 : nb 0 = 0
  o0 : no 0 = 0
  bAll : nb xs.length = bs.length
  oAll : no xs.length = os.length
theorem parted (xs : List Int) (q : Int → Bool) : Parted xs q (xs.filter q) (xs.filter (fun p => !q p)) (fun n => ((xs.take n).filter q).length) (fun n => ((xs.take n).filter (fun p => !q p)).length) := by
  refine ⟨fun n x hx hq => ⟨filter_at hx hq, ?_, ?_⟩, fun n x hx hq => ⟨filter_at hx (by simp [hq]), ?_, ?_⟩, fun j z hz => (List.mem_filter.1 (List.mem_of_getElem? hz)).2, by simp, by simp, by simp, by simp⟩
  · show ((xs.take (n + 1)).filter q).length = _
    rw [filter_step hx, if_pos hq]
  · show ((xs.take (n + 1)).filter (fun p => !q p)).length = _
    rw [filter_step hx, if_neg (by simp [hq]), Nat.add_zero]
  · show ((xs.take (n + 1)).filter q).length = _
    rw [filter_step hx, if_neg (by simp [hq]), Nat.add_zero]
  · show ((xs.take (n + 1)).filter (fun p => !q p)).length = _
    rw [filter_step hx, if_pos (by simp [hq])]

set_option maxRecDepth 100000 in
set_option maxHeartbeats 8000000 in
theorem parts_law (e1 c1 : Int) (v1 : Value) (xs : List Int) (e2 c2 : Int) (v2 : Value) (ys : List Int) (w : World) (hI : IntsA w v1 xs) (hU : IntsA w v2 ys) : Calls Try.prog 5 #[viewV e1 c1 v1, viewV e2 c2 v2] w (One w (.bool true)) := by
  obtain ⟨A1, p1, rfl, _⟩ := id hI.reads
  obtain ⟨A2, p2, rfl, _⟩ := id hU.reads
  have f1 := hI.few
  have f2 := hU.few
  unfold maxLen at f1 f2
  unfold viewV
  obtain ⟨W0, hW0⟩ : ∃ W0, (w.alloc (.cells #[.int .i64 e1, .int .i64 c1, .slice A1 xs.length p1] 26)).alloc (.cells #[.int .i64 e2, .int .i64 c2, .slice A2 ys.length p2] 26) = W0 := ⟨_, rfl⟩
  have hB0 : Below w.heap.size w W0 := by rw [← hW0]; exact below_two w _ _
  have HT : Hid (∀ V, Below W0.heap.size W0 V → TwoV W0 w.heap.size e1 c1 (.slice A1 xs.length p1) e2 c2 (.slice A2 ys.length p2) V) := fun V hV => twoV_of hW0 hV
  have HW : Hid (∀ V, Below W0.heap.size W0 V → Below w.heap.size w V) := fun V hV => hB0.trans (hV.mono hB0.size)
  have HI := Lib.hid (fun V hV => hI.below (HW.out V hV))
  have HU := Lib.hid (fun V hV => hU.below (HW.out V hV))
  have HX := Lib.hid (ints_read hI)
  have HS := Lib.hid (shown_calls W0)
  have HF : Hid (Fits xs) := hI.fit
  clear hI hU hB0
  by_cases hbad : 50 < xs.length ∨ 50 < ys.length
  · by_cases n1 : (50 : Int) < (xs.length : Int)
    · clear hbad
      obtain ⟨x0, x1, x2, y0, y1, y2⟩ := HT.out W0 (Below.refl _ _)
      go_enter Try.func5, Try.ntmps5
      go_wp2_with fail
      clear hW0 x0 x1 x2 y0 y1 y2
      refine HS.out.mono ?_
      rintro e' V1 ⟨rfl, b1⟩
      have HB1 := Lib.hid (HW.out V1 b1)
      obtain ⟨x0, x1, x2, y0, y1, y2⟩ := HT.out V1 b1
      clear b1
      go_wp2
      go_ret
      exact ⟨rfl, HB1.out⟩
    · have n2 : (50 : Int) < (ys.length : Int) := by omega
      clear hbad
      obtain ⟨x0, x1, x2, y0, y1, y2⟩ := HT.out W0 (Below.refl _ _)
      go_enter Try.func5, Try.ntmps5
      go_wp2_with fail
      clear hW0 x0 x1 x2 y0 y1 y2
      refine HS.out.mono ?_
      rintro e' V1 ⟨rfl, b1⟩
      have HB1 := Lib.hid (HW.out V1 b1)
      obtain ⟨x0, x1, x2, y0, y1, y2⟩ := HT.out V1 b1
      clear b1
      go_wp2
      go_ret
      exact ⟨rfl, HB1.out⟩
  have n1 : ¬ (50 : Int) < (xs.length : Int) := by omega
  have n2 : ¬ (50 : Int) < (ys.length : Int) := by omega
  have HN : Hid (xs.length ≤ 50 ∧ ys.length ≤ 50) := by constructor <;> omega
  clear hbad
  go_enter Try.func5, Try.ntmps5
  go_wp2_with fail
  clear hW0
  refine HS.out.mono ?_
  rintro e' V1 ⟨rfl, b1⟩
  have HB1 := Lib.hid b1
  obtain ⟨x0, x1, x2, y0, y1, y2⟩ := HT.out V1 b1
  have hBo := Lib.hid (both_calls _ _ xs ys V1 (HI.out V1 b1) (HU.out V1 b1) (by have := HN.out; omega) (by have := HN.out; omega))
  clear b1
  go_wp2_with fail
  clear x0 x1 x2 y0 y1 y2 n1 n2
  refine hBo.out.mono ?_
  rintro e' V2 ⟨vx, rfl, hx2, b2⟩
  have hbb2 := HB1.out.trans (b2.mono HB1.out.size)
  have HB2 := Lib.hid hbb2
  obtain ⟨x0, x1, x2, y0, y1, y2⟩ := HT.out V2 hbb2
  have hWi := Lib.hid (without_calls _ _ xs ys V2 (HI.out V2 hbb2) (HU.out V2 hbb2) (by have := HN.out; omega) (by have := HN.out; omega))
  have HX2 := Lib.hid hx2
  clear b2 hbb2 hx2 hBo
  go_wp2_with fail
  clear x0 x1 x2 y0 y1 y2
  refine hWi.out.mono ?_
  rintro e' V3 ⟨vy, rfl, hy3, b3⟩
  have HX3 := Lib.hid (own_below HX2.out b3)
  have HY3 := Lib.hid hy3
  have hbb3 := HB2.out.trans (b3.mono HB2.out.size)
  have HB3 := Lib.hid hbb3
  obtain ⟨x0, x1, x2, y0, y1, y2⟩ := HT.out V3 hbb3
  obtain ⟨Ax, cx, rfl⟩ := own_slice HX3.out
  obtain ⟨Ay, cy, rfl⟩ := own_slice HY3.out
  obtain ⟨q, hq⟩ : ∃ q : Int → Bool, (fun p => ys.contains p) = q := ⟨_, rfl⟩
  have HQ : Hid (∀ p, ys.contains p = q p) := fun p => congrFun hq p
  have HQn : Hid ((fun p => !ys.contains p) = (fun p => !q p)) := by rw [← hq]; rfl
  rw [HQn.out] at HY3
  rw [hq] at HX3
  rw [HQn.out, hq]
  clear b3 hbb3 hy3 hWi HX2 hq
  have hP := parted xs q
  have hlb : (xs.filter q).length ≤ xs.length := List.length_filter_le _ _
  have hlo : (xs.filter (fun p => !q p)).length ≤ xs.length := List.length_filter_le _ _
  generalize xs.filter q = bs at *
  generalize xs.filter (fun p => !q p) = os at *
  generalize (fun n => ((xs.take n).filter q).length) = nb at *
  generalize (fun n => ((xs.take n).filter (fun p => !q p)).length) = no at *
  have HP := Lib.hid hP
  have HLl := Lib.hid (And.intro hlb hlo)
  clear hP hlb hlo
  have hSt : PartGo V3 xs.length nb no xs.length (.int .i64 0) (.int .i64 0) (.int .i64 0) V3 := ⟨0, rfl, rfl, by rw [HP.out.b0]; rfl, by rw [HP.out.o0]; rfl, Below.refl _ _⟩
  have HH : Hid (∀ V p, Below V3.heap.size V3 V → Calls Try.prog 18 #[.slice A2 ys.length p2, .int .i64 p] V (fun e' V' => e' = .returned (.bool (q p)) ∧ Below V3.heap.size V3 V')) := fun V p hV => by
    have := has_calls _ ys p V (HU.out V (HB3.out.trans (hV.mono HB3.out.size))) (by have := HN.out; omega)
    rw [HQ.out p] at this
    refine this.mono ?_
    rintro e' V' ⟨rfl, hb⟩
    exact ⟨rfl, hV.trans (hb.mono hV.size)⟩
  go_wp2
  clear x0 x1 x2 y0 y1 y2
  go_loopg [8, 9, 10] xs.length (fun k v8 v9 v10 V => PartGo V3 xs.length nb no k v8 v9 v10 V)
  case atStart => exact hSt
  case round =>
    clear hSt
    obtain ⟨n, hk, rfl, rfl, rfl, hB⟩ := hrel
    have HB := Lib.hid hB
    have hWV := HB3.out.trans (hB.mono HB3.out.size)
    obtain ⟨x0, x1, x2, y0, y1, y2⟩ := HT.out wr hWV
    by_cases hlt : n < xs.length
    · obtain ⟨x, hx⟩ : ∃ x, xs[n]? = some x := ⟨_, List.getElem?_eq_getElem hlt⟩
      obtain ⟨ad, rfl, hcx⟩ := HX.out n x hx
      have cx1 := hcx wr (HW.out wr hWV)
      have j1 : (n : Int) < (xs.length : Int) := by omega
      have j2 : (0 : Int) ≤ (n : Int) := by omega
      have HG := Lib.hid (show gk - 1 < gk by omega)
      have hc := HH.out wr x hB
      cases hqx : q x with
      | true =>
        obtain ⟨k1, k2, k3⟩ := HP.out.hit n x hx hqx
        have hnb : nb n < bs.length := (List.getElem?_eq_some_iff.1 k1).1
        obtain ⟨g, cap, e⟩ := row_slice HX3.out hnb
        cases e
        have cb := row_at (own_below HX3.out hB) k1
        rw [hqx] at hc
        have hRel : Hid (∀ V, Below V3.heap.size V3 V → PartGo V3 xs.length nb no (gk - 1) (.int .i64 ((nb n : Int) + 1)) (.int .i64 (no n)) (.int .i64 ((n + 1 : Nat) : Int)) V) := fun V hV => ⟨n + 1, by omega, rfl, by rw [k2]; simp, by rw [k3], hV⟩
        have j3 : ((nb n : Nat) : Int) < (bs.length : Int) := by omega
        have j4 : (0 : Int) ≤ ((nb n : Nat) : Int) := by omega
        have hb51 : (bs.length : Int) ≤ 50 := by have := HLl.out.1; have := HN.out.1; omega
        clear hk hx hqx hB hWV k1 k2 k3 hcx hlt hnb
        go_wp2_with (go_at_call 18; refine hc.mono ?_; rintro e' V5 ⟨rfl, b5⟩)
        go_roundg (gk - 1)
        case measure => exact HG.out
        case rel => simpa using hRel.out _ b5
      | false =>
        obtain ⟨k1, k2, k3⟩ := HP.out.miss n x hx hqx
        have hno : no n < os.length := (List.getElem?_eq_some_iff.1 k1).1
        obtain ⟨g, cap, e⟩ := row_slice HY3.out hno
        cases e
        have cb := row_at (own_below HY3.out hB) k1
        rw [hqx] at hc
        have hRel : Hid (∀ V, Below V3.heap.size V3 V → PartGo V3 xs.length nb no (gk - 1) (.int .i64 (nb n)) (.int .i64 ((no n : Int) + 1)) (.int .i64 ((n + 1 : Nat) : Int)) V) := fun V hV => ⟨n + 1, by omega, rfl, by rw [k2], by rw [k3]; simp, hV⟩
        have j3 : ((no n : Nat) : Int) < (os.length : Int) := by omega
        have j4 : (0 : Int) ≤ ((no n : Nat) : Int) := by omega
        have ho51 : (os.length : Int) ≤ 50 := by have := HLl.out.2; have := HN.out.1; omega
        by_cases hnb : nb n < bs.length
        · obtain ⟨z, hz⟩ : ∃ z, bs[nb n]? = some z := ⟨_, List.getElem?_eq_getElem hnb⟩
          have hzx : ¬ z = x := fun h => by have := HP.out.inB _ _ hz; rw [h, hqx] at this; cases this
          obtain ⟨g2, cap2, e⟩ := row_slice HX3.out hnb
          cases e
          have cz := row_at (own_below HX3.out hB) hz
          have i3 : ((nb n : Nat) : Int) < (bs.length : Int) := by omega
          have i4 : (0 : Int) ≤ ((nb n : Nat) : Int) := by omega
          clear hk hx hqx hB hWV k1 k2 k3 hcx hlt hno hz hnb
          go_wp2_with (go_at_call 18; refine hc.mono ?_; rintro e' V5 ⟨rfl, b5⟩)
          go_roundg (gk - 1)
          case measure => exact HG.out
          case rel => simpa using hRel.out _ b5
        · have i3 : ¬ ((nb n : Nat) : Int) < (bs.length : Int) := by omega
          clear hk hx hqx hB hWV k1 k2 k3 hcx hlt hno hnb
          go_wp2_with (go_at_call 18; refine hc.mono ?_; rintro e' V5 ⟨rfl, b5⟩)
          go_roundg (gk - 1)
          case measure => exact HG.out
          case rel => simpa using hRel.out _ b5
    · have hn : n = xs.length := by omega
      subst hn
      have eb : ((nb xs.length : Nat) : Int) = (bs.length : Int) := by rw [HP.out.bAll]
      have eo : ((no xs.length : Nat) : Int) = (os.length : Int) := by rw [HP.out.oAll]
      rw [eb, eo]
      have hTa := Lib.hid (term_calls e1 c1 _ xs wr (HI.out wr hWV) (by have := HN.out; omega))
      clear hk hlt eb eo
      unfold viewV at hTa
      go_wp2_with fail
      clear x0 x1 x2 y0 y1 y2
      refine hTa.out.mono ?_
      rintro e' V4 ⟨rfl, b4⟩
      have hW4 := hWV.trans (b4.mono hWV.size)
      have HB4 := Lib.hid hW4
      obtain ⟨x0, x1, x2, y0, y1, y2⟩ := HT.out V4 hW4
      have hTb := Lib.hid (term_calls e2 c2 _ ys V4 (HU.out V4 hW4) (by have := HN.out; omega))
      unfold viewV at hTb
      clear hB hWV b4 hW4 hTa
      go_wp2_with fail
      clear x0 x1 x2 y0 y1 y2
      refine hTb.out.mono ?_
      rintro e' V5 ⟨rfl, b5⟩
      have hW5 := HB4.out.trans (b5.mono HB4.out.size)
      have HB5 := Lib.hid hW5
      obtain ⟨x0, x1, x2, y0, y1, y2⟩ := HT.out V5 hW5
      have hRa := right_calls e1 c1 _ xs V5 (HI.out V5 hW5) (by have := HN.out; omega)
      unfold viewV at hRa
      clear b5 hW5 hTb
      rcases term_cases e1 c1 xs with ⟨ra, s, ta, pa, rs, ls⟩ | ⟨ra, ta⟩
      · rw [ta]
        rw [ra] at hRa
        have HRa := Lib.hid hRa
        clear ra ta hRa
        go_wp2_with fail
        clear x0 x1 x2 y0 y1 y2
        refine HRa.out.mono ?_
        rintro e' V6 ⟨rfl, b6⟩
        have hW6 := HB5.out.trans (b6.mono HB5.out.size)
        have HB6 := Lib.hid hW6
        obtain ⟨x0, x1, x2, y0, y1, y2⟩ := HT.out V6 hW6
        rcases term_cases e2 c2 ys with ⟨rb, t, tb, pb, rt, lt⟩ | ⟨rb, tb⟩
        · rw [tb]
          have HInj := Lib.hid (term_inj pa pb)
          have HRt : Hid (∀ V, Calls Try.prog 26 #[.string ⟨s.toArray⟩] V (fun e' V' => e' = .returned (.bool true) ∧ Below V.heap.size V V')) := fun V => by
            have := Right_calls ⟨s.toArray⟩ (by show s.toArray.size ≤ maxLen; unfold maxLen; simp; omega) V
            rw [show Tm.right (⟨s.toArray⟩ : ByteArray).data.toList = true from rs] at this
            exact this
          have HSm := same_calls _ _ xs ys V6 (HI.out V6 hW6) (HU.out V6 hW6)
          clear rb tb pa pb b6 hW6 rs ls rt lt
          by_cases hst : s = t
          · subst hst
            obtain ⟨⟨rfl, rfl⟩, rfl⟩ := HInj.out.1 rfl
            rw [decide_eq_true rfl] at HSm
            go_wp2_with (first
              | (go_at_call 20; refine HSm.mono ?_; rintro e' V7 ⟨rfl, b7⟩; have HB7 := Lib.hid (HB6.out.trans (b7.mono HB6.out.size)); clear b7)
              | (go_at_call 26; refine (HRt.out _).mono ?_; rintro e' V8 ⟨rfl, b8⟩))
            go_ret
            exact ⟨rfl, HW.out _ (HB7.out.trans (b8.mono HB7.out.size))⟩
          · have hne2 : (s == t) = false := by rw [beq_eq_false_iff_ne]; exact hst
            have HNe := Lib.hid hst
            by_cases h1 : e1 = e2
            · subst h1
              by_cases h2 : c1 = c2
              · subst h2
                have hxy : ¬ xs = ys := fun h => HNe.out (HInj.out.2 ⟨⟨rfl, rfl⟩, h⟩)
                rw [decide_eq_false hxy] at HSm
                clear hst hxy
                go_wp2_with (first
                  | (go_at_call 20; refine HSm.mono ?_; rintro e' V7 ⟨rfl, b7⟩; have HB7 := Lib.hid (HB6.out.trans (b7.mono HB6.out.size)); clear b7)
                  | (go_at_call 26; refine (HRt.out _).mono ?_; rintro e' V8 ⟨rfl, b8⟩))
                go_ret
                exact ⟨rfl, HW.out _ (HB7.out.trans (b8.mono HB7.out.size))⟩
              · clear hst HSm
                go_wp2_with (go_at_call 26; refine (HRt.out _).mono ?_; rintro e' V8 ⟨rfl, b8⟩)
                go_ret
                exact ⟨rfl, HW.out _ (HB6.out.trans (b8.mono HB6.out.size))⟩
            · clear hst HSm
              go_wp2_with (go_at_call 26; refine (HRt.out _).mono ?_; rintro e' V8 ⟨rfl, b8⟩)
              go_ret
              exact ⟨rfl, HW.out _ (HB6.out.trans (b8.mono HB6.out.size))⟩
        · rw [tb]
          clear rb tb b6 hW6
          go_wp2
          go_ret
          exact ⟨rfl, HW.out _ HB6.out⟩
      · rw [ta]
        rw [ra] at hRa
        have HRa := Lib.hid hRa
        clear ra ta hRa
        go_wp2_with fail
        clear x0 x1 x2 y0 y1 y2
        refine HRa.out.mono ?_
        rintro e' V6 ⟨rfl, b6⟩
        have hW6 := HB5.out.trans (b6.mono HB5.out.size)
        have HB6 := Lib.hid hW6
        clear b6 hW6
        go_wp2
        go_ret
        exact ⟨rfl, HW.out _ HB6.out⟩
end Go.Proofs.Ytkhiconkoldllaa.L10
end

section
namespace Go.Proofs.Ytkhiconkoldllaa
open Go.ChangeShapes Go.WideShapes Go.ChangeAt Go.RowKit

set_option maxRecDepth 100000 in
theorem vparts_lifted (os : Os) (started : os.Started) (H : Type) (enc : TypeId × Value → H) :
    ReturnsInHanded {} Try.checked os 5 .any (Rows.viewPartsSpec.pre6 enc Try.prog Try.f5 Rows.viewPartsRow.domain false) (Rows.viewPartsSpec.post enc Try.prog Try.f5 false true false false) := by
  refine returnsInHanded_of_change (C := Try.checked) L5.own started (by kernel_rfl) Try.func5
    (ChangeSpec.witness6 (enc := enc) (C := Try.checked) false ⟨#[], #[.agg #[.int .i64 0, .int .i64 0, .slice none 0 0], .agg #[.int .i64 0, .int .i64 0, .slice none 0 0]], []⟩ 8 (by kernel_rfl) (by kernel_rfl) (by kernel_rfl) (by kernel_rfl)) ?_
  intro W base args ds gs before hval0 hW hcnd _
  have hval : ∀ (j : Nat) t v, Try.f5.params[j]? = some t → args[j]? = some v → Value.okWide Try.prog W .any base t v := hval0
  have hW' := hW
  obtain ⟨p, q, hA0, hV, rfl, hfz, hnd⟩ := hW
  have hA : DataW.TrodAll enc Try.prog W 0 (fun _ => true) true Try.f5.params.toList args.toList ds p := hA0
  rw [Try.params5] at hA hval
  obtain ⟨v0, vs0, d0, ds0, p0, q0, hargs, rfl, rfl, h0, r0⟩ := trodAll_cons hA
  obtain ⟨v1, vs1, d1, ds1, p1, q1, rfl, rfl, rfl, h1, r1⟩ := trodAll_cons r0
  obtain ⟨rfl, rfl, rfl⟩ := trodAll_nil r1
  obtain rfl : args = #[v0, v1] := by cases args; simp_all
  obtain ⟨rfl, rfl⟩ := trodVars_none hV
  have h0k := h0
  obtain ⟨e0, c0, vm0, xs0, rfl, hM0, hn0⟩ := L10.open_view (hval 0 26 v0 rfl rfl) h0
  have h1k := h1
  obtain ⟨e1, c1, vm1, xs1, rfl, hM1, hn1⟩ := L10.open_view (hval 1 26 v1 rfl rfl) h1
  clear hA0 hval0
  simp only [List.append_nil] at hW'
  have hlt0 : ∀ x ∈ p0, x.block < W.heap.size := fun x hx => by simpa using hW'.lt x (by simp [hx])
  have hlt1 : ∀ x ∈ p1, x.block < W.heap.size := fun x hx => by simpa using hW'.lt x (by simp [hx])
  refine (L10.parts_law e0 c0 vm0 xs0 e1 c1 vm1 xs1 W hM0 hM1).mono fun e W' ⟨he, hg⟩ => ?_
  subst he
  exact ⟨_, rfl, L5.post_law_at (pv := []) hW' (trodAll_cons_mk (shut_bool Try.underlying4 _) trodAll_mk0) (trodAll_cons_mk (Below.trod L5.laid_out (by kernel_rfl) (of_decide_eq_true (by kernel_rfl)) h0k hg hlt0) (trodAll_cons_mk (Below.trod L5.laid_out (by kernel_rfl) (of_decide_eq_true (by kernel_rfl)) h1k hg hlt1) trodAll_mk0)) rfl (by simp) hg⟩

theorem vparts_over : Rows.viewPartsRow.holds Try.pinned (OpenSpec.ofChange Rows.viewPartsSpec) :=
  OpenClaim.holds_of_wide 5 Try.f5 rfl rfl rfl rfl rfl rfl rfl ⟨rfl, rfl, rfl, rfl, rfl⟩ rfl rfl rfl rfl rfl (by kernel_rfl) Try.func5 (by kernel_rfl)
    (of_decide_eq_true (by kernel_rfl)) (by unfold Func.isWrapper; first | (rw [if_pos (by decide +kernel)]; kernel_rfl) | (rw [if_neg (by decide +kernel)]; exact ⟨rfl, rfl⟩))
    (fun os started H enc _ => vparts_lifted os started H enc)

theorem vparts_proved : Rows.ViewPartsSaid := vparts_over

end Go.Proofs.Ytkhiconkoldllaa
end
