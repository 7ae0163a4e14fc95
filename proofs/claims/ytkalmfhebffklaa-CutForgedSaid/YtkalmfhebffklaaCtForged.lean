/- The law CutForged: for all ints it returns true. -/
import Derived.Test.YtkalmfhebffklaaCtRows
import Derived.Deep.RegionHeld3
namespace Go.Proofs.Ytkalmfhebffklaa.L11
open Go.ChangeShapes Go.WideShapes Go.ChangeAt Go.RowKit Go.Deep

def nameT (n : Nat) : Bytes := 110 :: Tm.be8 n
theorem nameT_short (n : Nat) : (nameT n).length ≤ maxLen := by simp [nameT, Tm.be8, maxLen]
def numsF (n : Nat) : List Bytes := (List.range n).map numT
def namesF (n : Nat) : List Bytes := (List.range n).map nameT
theorem numsF_len (n : Nat) : (numsF n).length = n := by simp [numsF]
theorem namesF_len (n : Nat) : (namesF n).length = n := by simp [namesF]
theorem numsF_succ (n : Nat) : numsF (n + 1) = numsF n ++ [numT n] := by simp [numsF, List.range_succ]
theorem namesF_succ (n : Nat) : namesF (n + 1) = namesF n ++ [nameT n] := by simp [namesF, List.range_succ]
theorem numsF_short (n : Nat) : ∀ z ∈ numsF n, z.length ≤ maxLen := fun z hz => by
  obtain ⟨i, _, rfl⟩ := List.mem_map.1 hz
  exact numT_short _
theorem namesF_short (n : Nat) : ∀ z ∈ namesF n, z.length ≤ maxLen := fun z hz => by
  obtain ⟨i, _, rfl⟩ := List.mem_map.1 hz
  exact nameT_short _
theorem forged_no {n m : Nat} (hn : 1 ≤ n) (hm : n ≤ m) : beginsL (numsF n) (namesF m) = false := by
  obtain ⟨n, rfl⟩ : ∃ k, n = k + 1 := ⟨n - 1, by omega⟩
  obtain ⟨m, rfl⟩ : ∃ k, m = k + 1 := ⟨m - 1, by omega⟩
  unfold beginsL
  rw [numsF_len, namesF_len]
  have : ¬ numsF (n + 1) = (namesF (m + 1)).take (n + 1) := fun e => by
    have h0 := congrArg (fun l => l[0]?) e
    simp only [List.getElem?_take] at h0
    rw [if_pos (by omega)] at h0
    simp [numsF, namesF, numT, nameT] at h0
  simp [this]
theorem forged_yes {n m : Nat} (hm : n ≤ m) : beginsL ((namesF m).take n) (namesF m) = true := by
  have : ((namesF m).take n).length = n := by rw [List.length_take, namesF_len]; omega
  unfold beginsL
  rw [this, namesF_len]
  simp [hm]
/-- Two rows of texts of the call's own, apart. -/
structure Pair (w W : World) (v8 : Value) (l8 : List Bytes) (v9 : Value) (l9 : List Bytes) : Prop where
  one : W.ownsRow w.heap.size 31 1 v8 l8.length (txt l8)
  two : W.ownsRow w.heap.size 31 1 v9 l9.length (txt l9)
  apart : ∀ q, v8.ownBlock = some q → v9.ownBlock ≠ some q
  below : Below w.heap.size w W
theorem Pair.symm {w W : World} {v8 v9 : Value} {l8 l9 : List Bytes} (h : Pair w W v8 l8 v9 l9) : Pair w W v9 l9 v8 l8 := ⟨h.two, h.one, fun q e e' => h.apart q e' e, h.below⟩
theorem Pair.above {w W V : World} {v8 v9 : Value} {l8 l9 : List Bytes} (h : Pair w W v8 l8 v9 l9) (hV : Below W.heap.size W V) : Pair w V v8 l8 v9 l9 :=
  ⟨L5.own_below h.one hV, L5.own_below h.two hV, h.apart, h.below.trans (hV.mono h.below.size)⟩
theorem Pair.right {w V w6 : World} {v8 v9 v' : Value} {l8 l9 : List Bytes} {x : Bytes} {o : Obj} (h : Pair w V v8 l8 v9 l9) (k1 : w6.ownsRow w.heap.size 31 1 v' (l9.length + 1) (txt l9 ++ [.string ⟨x.toArray⟩]))
    (k2 : (V.alloc o).grownBy w6 v9.ownBlock) (k3 : v'.ownBlock = v9.ownBlock ∨ v'.ownBlock = some (V.alloc o).heap.size) : Pair w w6 v8 l8 v' (l9 ++ [x]) := by
  have k4 := (World.grownBy_alloc V o v9.ownBlock).trans k2
  refine ⟨L5.own_same h.one (fun q e => k4.block q (h.one.lt q e).2 (fun e' => h.apart q e e'.symm)), by rw [List.length_append, txt_append]; exact k1, fun q e e' => ?_, h.below.grown k4 h.below.size (fun q e => (h.two.lt q e).1)⟩
  rcases k3 with k3 | k3
  · rw [k3] at e'; exact h.apart q e e'
  · rw [k3] at e'
    cases e'
    have := (h.one.lt _ e).2
    simp at this
    omega
/-- While both rows are made. -/
def ForgeGo (w : World) (n m k : Nat) (v8 v9 vi : Value) (wr : World) : Prop :=
  ∃ i : Nat, k + i = m ∧ vi = .int .i64 i ∧ Pair w wr v8 (numsF (min i n)) v9 (namesF i)
set_option maxRecDepth 100000 in
set_option maxHeartbeats 8000000 in
theorem forged_calls {a b : Int} (ha : isInt a) (hb : isInt b) (w : World) : Calls Try.prog 9 #[.int .i64 a, .int .i64 b] w (One w (.bool true)) := by
  obtain ⟨j0, hj, hy0, hy1, hy2⟩ := info_parts info_term
  have HS := Lib.hid (shown_calls w)
  have HPa := Lib.hid (fun V => pick_is ha (n := 6) (by omega) (by omega) V)
  have HPb := Lib.hid (fun V => pick_is hb (n := 6) (by omega) (by omega) V)
  have hla := pickN_lt a (n := 6) (by omega)
  have hlb := pickN_lt b (n := 6) (by omega)
  generalize pickN a 6 = pa at *
  generalize pickN b 6 = pb at *
  obtain ⟨n, e1⟩ : ∃ n : Nat, 1 + (pa : Int) = (n : Int) := ⟨1 + pa, by omega⟩
  obtain ⟨m, e2⟩ : ∃ m : Nat, (n : Int) + 1 + (pb : Int) = (m : Int) := ⟨n + 1 + pb, by omega⟩
  have hn1 : 1 ≤ n := by omega
  have hn6 : n ≤ 6 := by omega
  have hnm : n < m := by omega
  have hm12 : m ≤ 12 := by omega
  clear ha hb
  go_enter Try.func9, Try.ntmps9
  go_wp2_with fail
  refine HS.out.mono ?_
  rintro e w1 ⟨rfl, b1⟩
  have HB1 := Lib.hid b1
  have hw1 := b1.size
  clear b1 HS
  go_wp2_with fail
  refine (HPa.out _).mono ?_
  rintro e w2 ⟨rfl, rfl⟩
  go_wp2_with fail
  refine (HPb.out _).mono ?_
  rintro e w2 ⟨rfl, rfl⟩
  clear HPa HPb
  go_wp2
  clear hla hlb e1 e2
  go_loopg [8, 9, 10] m (fun k v8 v9 v10 wr => ForgeGo w n m k v8 v9 v10 wr)
  case atStart => exact ⟨0, by omega, rfl, ⟨by rw [Nat.zero_min]; exact World.ownsRow_nil _ _ _ _, World.ownsRow_nil _ _ _ _, (fun q e => by cases e), HB1.out⟩⟩
  case round =>
    obtain ⟨i, hk, rfl, hP⟩ := hrel
    by_cases him : i < m
    · have j1 : (i : Int) < (m : Int) := by omega
      have j2 : (0 : Int) ≤ (i : Int) := by omega
      have hgk := Lib.hid (show gk - 1 < gk by omega)
      have hgm := Lib.hid (show gk - 1 + (i + 1) = m by omega)
      have HNum : Hid (∀ V, Calls Try.prog 35 #[.int .u64 (i : Int)] V (One V (.string ⟨(numT i).toArray⟩))) := fun V => Number_calls i (by omega) V
      have HNam : Hid (∀ V, Calls Try.prog 36 #[.int .u64 (i : Int)] V (One V (.string ⟨(nameT i).toArray⟩))) := fun V => Name_calls i (by omega) V
      have q8 := hP.one
      have q9 := hP.two
      rw [numsF_len] at q8
      rw [namesF_len] at q9
      obtain ⟨A8, c8, rfl⟩ := L5.own_slice q8
      obtain ⟨A9, c9, rfl⟩ := L5.own_slice q9
      clear q8 q9
      have HP := Lib.hid hP
      by_cases hin : i < n
      · have m1 : (i : Int) < (n : Int) := by omega
        have e8 : numsF (min i n) = numsF i := by rw [Nat.min_eq_left (by omega)]
        have e9 : numsF (min (i + 1) n) = numsF i ++ [numT i] := by rw [Nat.min_eq_left (by omega), numsF_succ]
        have e10 := namesF_succ i
        rw [e8, Nat.min_eq_left (by omega)] at HP
        rw [Nat.min_eq_left (by omega)]
        clear hP hk him
        generalize numT i = tx at *
        generalize nameT i = ty at *
        go_wp2_with fail
        refine (HNum.out _).mono ?_
        rintro e w6 ⟨rfl, b6⟩
        have hP6 := HP.out.above b6
        have h8 := hP6.one
        rw [numsF_len] at h8
        have hb6 := hP6.below.size
        have HP6 := Lib.hid hP6
        clear hP6 b6 HP
        go_wp2_with (at_builtin; refine wpList_append_own_at _ rfl _ _ 30 rfl w.heap.size 31 j0 (.string ⟨#[]⟩) 1 16 Try.underlying30 hj hy0 hy1 hy2 rfl (by decide) _ _ _ rfl (h8.alloc _) ⟨w6.heap.size, 0, none⟩ 1 1 [.string ⟨tx.toArray⟩] rfl rfl (cell_one_new _ _ _) (by simp [Value.oneCell']) (by unfold maxLen; omega) (by omega) (by simp; omega) ?_; intro v8' w7 k1 k2 _ k3; have HP7 := Lib.hid ((HP6.out.symm.right (by rw [numsF_len]; exact k1) k2 k3).symm); clear k1 k2 k3)
        refine (HNam.out _).mono ?_
        rintro e w8 ⟨rfl, b8⟩
        have hP8 := HP7.out.above b8
        have h9 := hP8.two
        rw [namesF_len] at h9
        have hb8 := hP8.below.size
        have HP8 := Lib.hid hP8
        clear hP8 b8 HP7 h8 hb6 HP6
        go_wp2_with (at_builtin; refine wpList_append_own_at _ rfl _ _ 30 rfl w.heap.size 31 j0 (.string ⟨#[]⟩) 1 16 Try.underlying30 hj hy0 hy1 hy2 rfl (by decide) _ _ _ rfl (h9.alloc _) ⟨w8.heap.size, 0, none⟩ 1 1 [.string ⟨ty.toArray⟩] rfl rfl (cell_one_new _ _ _) (by simp [Value.oneCell']) (by unfold maxLen; omega) (by omega) (by simp; omega) ?_; intro v9' w9 k1 k2 _ k3; have HP9 := Lib.hid (HP8.out.right (by rw [namesF_len]; exact k1) k2 k3); clear k1 k2 k3)
        have HF : Hid (ForgeGo w n m (gk - 1) v8' v9' (.int .i64 ((i + 1 : Nat) : Int)) w9) := ⟨i + 1, hgm.out, rfl, by rw [e9, e10]; exact HP9.out⟩
        clear HP9 HP8 h9 hb8
        go_wp2
        go_roundg (gk - 1)
        case measure => exact hgk.out
        case rel => exact HF.out
      · have m1 : ¬ (i : Int) < (n : Int) := by omega
        have e9 : numsF (min (i + 1) n) = numsF (min i n) := by rw [Nat.min_eq_right (by omega), Nat.min_eq_right (by omega)]
        have e10 := namesF_succ i
        clear hP hk him HNum
        generalize nameT i = ty at *
        generalize numsF (min i n) = l8 at *
        go_wp2_with fail
        refine (HNam.out _).mono ?_
        rintro e w8 ⟨rfl, b8⟩
        have hP8 := HP.out.above b8
        have h9 := hP8.two
        rw [namesF_len] at h9
        have hb8 := hP8.below.size
        have HP8 := Lib.hid hP8
        clear hP8 b8 HP
        go_wp2_with (at_builtin; refine wpList_append_own_at _ rfl _ _ 30 rfl w.heap.size 31 j0 (.string ⟨#[]⟩) 1 16 Try.underlying30 hj hy0 hy1 hy2 rfl (by decide) _ _ _ rfl (h9.alloc _) ⟨w8.heap.size, 0, none⟩ 1 1 [.string ⟨ty.toArray⟩] rfl rfl (cell_one_new _ _ _) (by simp [Value.oneCell']) (by unfold maxLen; omega) (by omega) (by simp; omega) ?_; intro v9' w9 k1 k2 _ k3; have HP9 := Lib.hid (HP8.out.right (by rw [namesF_len]; exact k1) k2 k3); clear k1 k2 k3)
        have HF : Hid (ForgeGo w n m (gk - 1) (.slice A8 (min i n) c8) v9' (.int .i64 ((i + 1 : Nat) : Int)) w9) := ⟨i + 1, hgm.out, rfl, by rw [e9, e10]; exact HP9.out⟩
        clear HP9 HP8 h9 hb8
        go_wp2
        go_roundg (gk - 1)
        case measure => exact hgk.out
        case rel => exact HF.out
    · obtain rfl : i = m := by omega
      have j1 : ¬ (i : Int) < (i : Int) := by omega
      rw [Nat.min_eq_right (by omega)] at hP
      have q8 := hP.one
      have q9 := hP.two
      have hBw := hP.below
      rw [numsF_len] at q8
      rw [namesF_len] at q9
      obtain ⟨A8, c8, rfl⟩ := L5.own_slice q8
      obtain ⟨A9, c9, rfl⟩ := L5.own_slice q9
      obtain ⟨x8, e8, l8, h8⟩ := ItAt.of_own (zs := numsF n) (by rw [numsF_len]; exact q8) (numsF_short n) (by rw [numsF_len]; unfold maxLen; omega)
      obtain ⟨x9, e9, l9, h9⟩ := ItAt.of_own (zs := namesF i) (by rw [namesF_len]; exact q9) (namesF_short i) (by rw [namesF_len]; unfold maxLen; omega)
      obtain ⟨a8, k8, y8⟩ := x8
      obtain ⟨a9, k9, y9⟩ := x9
      simp only [It.v] at e8 e9 l8 l9
      subst l8 l9
      rw [numsF_len] at e8
      rw [namesF_len] at e9
      obtain ⟨rfl, _, rfl⟩ := e8
      obtain ⟨rfl, _, rfl⟩ := e9
      clear q8 q9 hP hk him
      have hne8 : numsF n ≠ [] := fun e => by have := congrArg List.length e; rw [numsF_len] at this; simp at this; omega
      have hne9 : namesF i ≠ [] := fun e => by have := congrArg List.length e; rw [namesF_len] at this; simp at this; omega
      obtain ⟨W1, hW1⟩ : ∃ W1, wr.alloc (.cells #[.int .i64 1, .slice A8 n c8] 76) = W1 := ⟨_, rfl⟩
      obtain ⟨p1, b1, s1⟩ := box_new hW1
      obtain ⟨W2, hW2⟩ : ∃ W2, W1.alloc (.cells #[.int .i64 1, .slice A9 i c9] 76) = W2 := ⟨_, rfl⟩
      obtain ⟨p2, b2, s2⟩ := box_new hW2
      obtain ⟨W3, hW3⟩ : ∃ W3, W2.alloc (.cells #[.int .i64 1, .int .i64 0, .int .i64 0, .slice (some ⟨wr.heap.size, 0, none⟩) 1 1, .int .i64 3, .int .i64 0, .int .i64 0, .slice (some ⟨W1.heap.size, 0, none⟩) 1 1] 73) = W3 := ⟨_, rfl⟩
      obtain ⟨p3, b3, s3⟩ := box_new hW3
      have hl1 : LogsA W1 (.slice (some ⟨wr.heap.size, 0, none⟩) 1 1) [⟨1, ⟨A8, c8, numsF n⟩⟩] := lg_cells1 (l := ⟨1, ⟨A8, c8, numsF n⟩⟩) (by simp only [It.v, numsF_len]; exact p1) (h8.below b1) (isInt_small 1 (by omega))
      have hl2 : LogsA W2 (.slice (some ⟨W1.heap.size, 0, none⟩) 1 1) [⟨1, ⟨A9, c9, namesF i⟩⟩] := lg_cells1 (l := ⟨1, ⟨A9, c9, namesF i⟩⟩) (by simp only [It.v, namesF_len]; exact p2) ((h9.below b1).below b2) (isInt_small 1 (by omega))
      have z0 : isInt 0 := isInt_small 0 (by omega)
      have hR : RepsA W3 (.slice (some ⟨W2.heap.size, 0, none⟩) 2 2) [⟨1, 0, 0, .slice (some ⟨wr.heap.size, 0, none⟩) 1 1, [⟨1, ⟨A8, c8, numsF n⟩⟩]⟩, ⟨3, 0, 0, .slice (some ⟨W1.heap.size, 0, none⟩) 1 1, [⟨1, ⟨A9, c9, namesF i⟩⟩]⟩] := by
        refine RepsA.of_block [_, _] p3 rfl (by simp [maxLen]) (fun r hr => ?_)
        simp only [List.mem_cons, List.not_mem_nil, or_false] at hr
        rcases hr with rfl | rfl
        · exact ⟨(hl1.below b2).below b3, z0, z0⟩
        · exact ⟨hl2.below b3, z0, z0⟩
      have hcut := cut_calls W3 hR (by simp [ptsOf]) (fun p hp => by
        rcases fold_mem hp with hp | ⟨hp, _⟩
        · simp at hp
        · simp [ptsOf] at hp
          rcases hp with rfl | rfl
          · simp [numsF_len]; omega
          · simp [namesF_len]; omega)
      have hcp : (cutP [⟨1, 0, 0, .slice (some ⟨wr.heap.size, 0, none⟩) 1 1, [⟨1, ⟨A8, c8, numsF n⟩⟩]⟩, ⟨3, 0, 0, .slice (some ⟨W1.heap.size, 0, none⟩) 1 1, [⟨1, ⟨A9, c9, namesF i⟩⟩]⟩]).map Pt.core = [(0, 0, 1, namesF i)] := by
        simp [cutP, ptsOf, stepP, insP, keyP, Pt.core, hne8, hne9, numsF_len, namesF_len, hnm]
      rw [hcp] at hcut
      have HCut := Lib.hid hcut
      have b13 : Below wr.heap.size wr W3 := b1.trans ((b2.mono b1.size).trans (b3.mono (Nat.le_trans b1.size b2.size)))
      have HB3 : Hid (Below w.heap.size w W3) := hBw.trans (b13.mono hBw.size)
      have H8 : Hid (ItAt W3 ⟨A8, c8, numsF n⟩) := h8.below b13
      have H9 : Hid (ItAt W3 ⟨A9, c9, namesF i⟩) := h9.below b13
      have HNe := Lib.hid hne8
      clear hcp hcut hR hl1 hl2 p1 p2 p3 b1 b2 b3 s1 s2 s3 b13 hBw h8 h9 hne8 hne9 HB1
      go_wp2_with fail
      refine HCut.out.mono ?_
      rintro e w4 ⟨v, qs, rfl, hq, hP, b4⟩
      obtain ⟨q, rfl, hq1⟩ := core_one hq
      simp only [Pt.core, Prod.mk.injEq] at hq1
      obtain ⟨W5, hW5⟩ : ∃ W5, w4.alloc (.cells #[.int .i64 1, .slice A8 n c8] 76) = W5 := ⟨_, rfl⟩
      obtain ⟨p5, b5, s5⟩ := box_new hW5
      have hl5 : LogsA W5 (.slice (some ⟨w4.heap.size, 0, none⟩) 1 1) [⟨1, ⟨A8, c8, numsF n⟩⟩] := lg_cells1 (l := ⟨1, ⟨A8, c8, numsF n⟩⟩) (by simp only [It.v, numsF_len]; exact p5) ((H8.out.below b4).below b5) (isInt_small 1 (by omega))
      have hits : ∀ p ∈ [q], p.it.l.length ≤ 4000000000 := fun p hp => by simp at hp; subst hp; rw [hq1.2.2.2, namesF_len]; omega
      have HM1 := miss_calls (ep := 0) (co := 0) W5 (hP.below b5) hl5 (by simp) (by simp) hits
      have hmc : missC ([q].map Pt.core) 0 0 ([(⟨1, ⟨A8, c8, numsF n⟩⟩ : Lg)].map Lg.core) = [] := by
        simp only [List.map_cons, List.map_nil, Pt.core, hq1.1, hq1.2.1, hq1.2.2.1, hq1.2.2.2]
        simp [missC, missOne, ownC, Lg.core, forged_no hn1 (Nat.le_of_lt hnm)]
      rw [hmc] at HM1
      have HM1 := Lib.hid HM1
      have HP := Lib.hid (hP.below b5)
      have b45 : Below W3.heap.size W3 W5 := b4.trans (b5.mono b4.size)
      have HB5 : Hid (Below w.heap.size w W5) := HB3.out.trans (b45.mono HB3.out.size)
      have H8 : Hid (ItAt W5 ⟨A8, c8, numsF n⟩) := H8.out.below b45
      have H9 : Hid (ItAt W5 ⟨A9, c9, namesF i⟩) := H9.out.below b45
      obtain ⟨ad, c, rfl, _, _⟩ := hP.one
      clear hP b4 b5 p5 s5 hl5 hmc hq HCut b45 HB3
      go_wp2_with fail
      refine HM1.out.mono ?_
      rintro e w6 ⟨v2, ls, rfl, hl, hL, b6⟩
      obtain rfl : ls = [] := by simpa using hl
      obtain ⟨A2, c2, rfl, _, _⟩ := hL.get
      obtain ⟨W7, hW7⟩ : ∃ W7, w6.alloc (.cells #[.int .i64 1, .slice A9 n c9] 76) = W7 := ⟨_, rfl⟩
      obtain ⟨p7, b7, s7⟩ := box_new hW7
      have htl : ((namesF i).take n).length = n := by rw [List.length_take, namesF_len]; omega
      have H9t : Hid (ItAt W5 ⟨A9, c9, (namesF i).take n⟩) := H9.out.take (by rw [namesF_len]; omega)
      have hc9 := H9.out.le
      simp only [namesF_len] at hc9
      have hc9m := H9.out.few
      simp only at hc9m
      unfold maxLen at hc9m
      have b57 : Below W5.heap.size W5 W7 := b6.trans (b7.mono b6.size)
      have hl7 : LogsA W7 (.slice (some ⟨w6.heap.size, 0, none⟩) 1 1) [⟨1, ⟨A9, c9, (namesF i).take n⟩⟩] := lg_cells1 (l := ⟨1, ⟨A9, c9, (namesF i).take n⟩⟩) (by simp only [It.v, htl]; exact p7) (H9t.out.below b57) (isInt_small 1 (by omega))
      have HM2 := miss_calls (ep := 0) (co := 0) W7 (HP.out.below b57) hl7 (by simp) (by simp) hits
      have hmc : missC ([q].map Pt.core) 0 0 ([(⟨1, ⟨A9, c9, (namesF i).take n⟩⟩ : Lg)].map Lg.core) = [(1, (namesF i).drop n)] := by
        simp only [List.map_cons, List.map_nil, Pt.core, hq1.1, hq1.2.1, hq1.2.2.1, hq1.2.2.2]
        simp [missC, missOne, ownC, Lg.core, forged_yes (Nat.le_of_lt hnm), htl, namesF_len, hnm]
      rw [hmc] at HM2
      have HM2 := Lib.hid HM2
      have HB7 : Hid (Below w.heap.size w W7) := HB5.out.trans (b57.mono HB5.out.size)
      have HX : Hid (∀ V, Below W7.heap.size W7 V → ItAt V ⟨A8, c8, numsF n⟩ ∧ ItAt V ⟨A9, c9, namesF i⟩ ∧ ItAt V ⟨A9, c9, (namesF i).take n⟩ ∧ PartsA V (.slice (some ad) [q].length c) [q] ∧ Below w.heap.size w V) := fun V hV => by
        have b5V := b57.trans (hV.mono b57.size)
        exact ⟨H8.out.below b5V, H9.out.below b5V, H9t.out.below b5V, HP.out.below b5V, HB7.out.trans (hV.mono HB7.out.size)⟩
      have m1 : (0 : Int) ≤ (n : Int) := by omega
      have m2 : (n : Int) ≤ (c9 : Int) := by omega
      have m3 : (n : Int) ≤ (i : Int) := by omega
      clear hL b6 b7 p7 s7 hl7 hmc hl HM1 H8 H9 H9t HP b57 HB5 HB7
      go_wp2_with fail
      refine HM2.out.mono ?_
      rintro e w8 ⟨v3, ms, rfl, hm, hL, b8⟩
      obtain ⟨l, rfl, hm1⟩ := lcore_one hm
      simp only [Lg.core, Prod.mk.injEq] at hm1
      obtain ⟨ad2, c3, rfl, hli, hlc⟩ := hL.one
      obtain ⟨ad9, hA9, hdr⟩ := ((HX.out W7 (Below.refl _ _)).2.1).drop (n := n) (by rw [namesF_len]; exact hnm)
      subst hA9
      obtain ⟨qe, qc, qs, ⟨qa, qk, ql⟩⟩ := q
      obtain ⟨ls, ⟨la, lk, ll⟩⟩ := l
      simp only [It.v] at hq1 hm1 hli hlc
      obtain ⟨rfl, rfl, rfl, rfl⟩ := hq1
      obtain ⟨rfl, rfl⟩ := hm1
      have hdl : ((namesF i).drop n).length = i - n := by rw [List.length_drop, namesF_len]
      rw [hdl] at hlc
      have HS : Hid (∀ V, Below w8.heap.size w8 V → ItAt V ⟨A8, c8, numsF n⟩ ∧ ItAt V ⟨some ad9, c9, namesF i⟩ ∧ ItAt V ⟨some ad9, c9, (namesF i).take n⟩ ∧ ItAt V ⟨some (ad9.add n), c9 - n, (namesF i).drop n⟩ ∧ ItAt V ⟨qa, qk, namesF i⟩ ∧ ItAt V ⟨la, lk, (namesF i).drop n⟩ ∧ Below w.heap.size w V ∧
          V.cell? ⟨ad.block, ad.off + 3, none⟩ = some (.slice qa i qk) ∧ V.cell? ⟨ad2.block, ad2.off + 1, none⟩ = some (.slice la (i - n) lk) ∧ Below w8.heap.size w8 V) := fun V hV => by
        have b7V := b8.trans (hV.mono b8.size)
        obtain ⟨x1, x2, x3, x4, x5⟩ := HX.out V b7V
        obtain ⟨ad', c', e', y1, y2⟩ := x4.one
        cases e'
        obtain ⟨_, _, _, y3⟩ := y2 V (Below.refl _ _)
        simp only [It.v, namesF_len] at y3
        exact ⟨x1, x2, x3, hdr.below b7V, y1, hli.below hV, x5, y3, (hlc V hV).2, hV⟩
      have hcne : ¬ c9 = n := by omega
      have hD : Below w8.heap.size w8 w8.drew := (Below.refl _ _).drew
      have K1 : Hid (∀ V, Below w8.heap.size w8 V → Calls Try.prog 28 #[.slice (some ad9) i c9] V fun e V' => ∃ A c, e = .returned (.slice A i c) ∧ ItAt V' ⟨A, c, namesF i⟩ ∧ V'.cell? ⟨ad.block, ad.off + 3, none⟩ = some (.slice qa i qk) ∧ V'.cell? ⟨ad2.block, ad2.off + 1, none⟩ = some (.slice la (i - n) lk) ∧ Below w8.heap.size w8 V') := fun V hV => by
        have := texts_calls ⟨some ad9, c9, namesF i⟩ V (HS.out V hV).2.1 (by simp only [namesF_len]; omega)
        simp only [It.v, namesF_len] at this
        refine this.mono ?_
        rintro e V' ⟨⟨A, c, l⟩, rfl, rfl, h3, _, h5⟩
        exact ⟨A, c, by simp only [It.v, namesF_len], h3, (HS.out V' (hV.trans (h5.mono hV.size))).2.2.2.2.2.2.2⟩
      have K2 : Hid (∀ V A c, Below w8.heap.size w8 V → ItAt V ⟨A, c, namesF i⟩ → Calls Try.prog 18 #[.slice qa i qk, .slice A i c] V fun e V' => e = .returned (.bool true) ∧ V'.cell? ⟨ad.block, ad.off + 3, none⟩ = some (.slice qa i qk) ∧ V'.cell? ⟨ad2.block, ad2.off + 1, none⟩ = some (.slice la (i - n) lk) ∧ Below w8.heap.size w8 V') := fun V A c hV hi => by
        have := same_calls ⟨qa, qk, namesF i⟩ ⟨A, c, namesF i⟩ V (HS.out V hV).2.2.2.2.1 hi
        simp only [It.v, namesF_len, decide_true] at this
        refine this.mono ?_
        rintro e V' ⟨rfl, h5⟩
        exact ⟨rfl, (HS.out V' (hV.trans (h5.mono hV.size))).2.2.2.2.2.2.2⟩
      have K3 : Hid (∀ V, Below w8.heap.size w8 V → Calls Try.prog 28 #[.slice (some (ad9.add n)) (i - n) (c9 - n)] V fun e V' => ∃ A c, e = .returned (.slice A (i - n) c) ∧ ItAt V' ⟨A, c, (namesF i).drop n⟩ ∧ V'.cell? ⟨ad.block, ad.off + 3, none⟩ = some (.slice qa i qk) ∧ V'.cell? ⟨ad2.block, ad2.off + 1, none⟩ = some (.slice la (i - n) lk) ∧ Below w8.heap.size w8 V') := fun V hV => by
        have := texts_calls ⟨some (ad9.add n), c9 - n, (namesF i).drop n⟩ V (HS.out V hV).2.2.2.1 (by simp only [hdl]; omega)
        simp only [It.v, hdl] at this
        refine this.mono ?_
        rintro e V' ⟨⟨A, c, l⟩, rfl, rfl, h3, _, h5⟩
        exact ⟨A, c, by simp only [It.v, hdl], h3, (HS.out V' (hV.trans (h5.mono hV.size))).2.2.2.2.2.2.2⟩
      have K4 : Hid (∀ V A c, Below w8.heap.size w8 V → ItAt V ⟨A, c, (namesF i).drop n⟩ → Calls Try.prog 18 #[.slice la (i - n) lk, .slice A (i - n) c] V fun e V' => e = .returned (.bool true) ∧ V'.cell? ⟨ad.block, ad.off + 3, none⟩ = some (.slice qa i qk) ∧ V'.cell? ⟨ad2.block, ad2.off + 1, none⟩ = some (.slice la (i - n) lk) ∧ Below w8.heap.size w8 V') := fun V A c hV hi => by
        have := same_calls ⟨la, lk, (namesF i).drop n⟩ ⟨A, c, (namesF i).drop n⟩ V (HS.out V hV).2.2.2.2.2.1 hi
        simp only [It.v, hdl, decide_true] at this
        refine this.mono ?_
        rintro e V' ⟨rfl, h5⟩
        exact ⟨rfl, (HS.out V' (hV.trans (h5.mono hV.size))).2.2.2.2.2.2.2⟩
      have K5 : Hid (∀ V, Below w8.heap.size w8 V → Calls Try.prog 26 #[.slice (some ad9) n c9, .slice (some ad9) i c9] V fun e V' => e = .returned (.bool true) ∧ V'.cell? ⟨ad.block, ad.off + 3, none⟩ = some (.slice qa i qk) ∧ V'.cell? ⟨ad2.block, ad2.off + 1, none⟩ = some (.slice la (i - n) lk) ∧ Below w8.heap.size w8 V') := fun V hV => by
        have := begins_calls ⟨some ad9, c9, (namesF i).take n⟩ ⟨some ad9, c9, namesF i⟩ V (HS.out V hV).2.2.1 (HS.out V hV).2.1
        simp only [It.v, htl, namesF_len, forged_yes (Nat.le_of_lt hnm)] at this
        refine this.mono ?_
        rintro e V' ⟨rfl, h5⟩
        exact ⟨rfl, (HS.out V' (hV.trans (h5.mono hV.size))).2.2.2.2.2.2.2⟩
      have K6 : Hid (∀ V, Below w8.heap.size w8 V → Calls Try.prog 26 #[.slice A8 n c8, .slice (some ad9) i c9] V fun e V' => e = .returned (.bool false) ∧ Below w.heap.size w V' ∧ V'.cell? ⟨ad.block, ad.off + 3, none⟩ = some (.slice qa i qk) ∧ V'.cell? ⟨ad2.block, ad2.off + 1, none⟩ = some (.slice la (i - n) lk) ∧ Below w8.heap.size w8 V') := fun V hV => by
        have := begins_calls ⟨A8, c8, numsF n⟩ ⟨some ad9, c9, namesF i⟩ V (HS.out V hV).1 (HS.out V hV).2.1
        simp only [It.v, numsF_len, namesF_len, forged_no hn1 (Nat.le_of_lt hnm)] at this
        refine this.mono ?_
        rintro e V' ⟨rfl, h5⟩
        have h6 := HS.out V' (hV.trans (h5.mono hV.size))
        exact ⟨rfl, h6.2.2.2.2.2.2.1, h6.2.2.2.2.2.2.2⟩
      obtain ⟨c1, c2', _⟩ := (HS.out w8 (Below.refl _ _)).2.2.2.2.2.2.2
      clear hL hli hlc hm b8 hdr HM2 HX htl hits HNe
      go_wp2_with fail
      go_region_held3 (fun V => V.cell? ⟨ad.block, ad.off + 3, none⟩ = some (.slice qa i qk) ∧ V.cell? ⟨ad2.block, ad2.off + 1, none⟩ = some (.slice la (i - n) lk) ∧ Below w8.heap.size w8 V)
        (first | exact ⟨c1, c2', hD⟩ | (go_split_ands; refine ⟨?_, ?_, ?_⟩ <;> assumption)) (first
          | (go_at_call 26; refine (K6.out _ d5).mono ?_; rintro e' w6 ⟨rfl, f6, q0, q1, d6⟩)
          | (go_at_call 26; refine (K5.out _ d4).mono ?_; rintro e' w5 ⟨rfl, q0, q1, d5⟩)
          | (go_at_call 18; refine (K4.out _ _ _ d3 i3).mono ?_; rintro e' w4 ⟨rfl, q0, q1, d4⟩)
          | (go_at_call 28; refine (K3.out _ d2).mono ?_; rintro e' w3 ⟨a3, k3, rfl, i3, q0, q1, d3⟩)
          | (go_at_call 18; refine (K2.out _ _ _ d1 i1).mono ?_; rintro e' w2 ⟨rfl, q0, q1, d2⟩)
          | (go_at_call 28; refine (K1.out _ hD).mono ?_; rintro e' w1 ⟨a1, k1, rfl, i1, q0, q1, d1⟩))
      have HF := Lib.hid f6
      clear f6 q0 q1 d1 d2 d3 d4 d5 d6 i1 i3 K1 K2 K3 K4 K5 K6 HS
      go_wp2
      go_ret
      exact ⟨rfl, HF.out⟩
end Go.Proofs.Ytkalmfhebffklaa.L11
