/- LinkTurned: bodies that come in any order are taken in the order in which they were sent. -/
import Derived.Test.YthhiapdmibiolaaLkRows
import Derived.Deep.Cut
namespace Go.Proofs.Ythhiapdmibiolaa.L7
open Go.ChangeShapes Go.WideShapes Go.ChangeAt Go.RowKit L6

def bodiesR (j : Nat) : List Bytes := (List.range j).map fun (i : Nat) => bodyL (i : Int)
theorem bodiesR_len (j : Nat) : (bodiesR j).length = j := by simp [bodiesR]
theorem bodiesR_succ (j : Nat) : bodiesR (j + 1) = bodiesR j ++ [bodyL (j : Int)] := by simp [bodiesR, List.range_succ]
def frOf (i : Nat) : Bytes := dataF 1 2 (i + 1) (bodyL (i : Int))
/-- What lies about (rem), what was taken (T), what the end is then. -/
structure Tn (n T : Nat) (rem : List Nat) (t : St) : Prop where
  me : t.me = 2
  peer : t.peer = 1
  taken : t.taken = T
  low : ∀ k ∈ rem, T ≤ k ∧ k < n
  nodup : rem.Nodup
  wait : ∀ k, t.wait (k + 1) = if T ≤ k ∧ k < n ∧ k ∉ rem then some (bodyL (k : Int)) else none
  next : T < n → T ∈ rem
  le : T ≤ n
/-- One more comes: it is let in; what is taken then. -/
theorem Tn.come {n T : Nat} {rem : List Nat} {t : St} (h : Tn n T rem t) (hn : n ≤ 32) {at_ r : Nat} (hr : rem[at_]? = some r) :
    ∃ T', T ≤ T' ∧ (dataL t (r + 1) (bodyL (r : Int))).1.2.2 = 0 ∧ T' ≤ n ∧ bodiesR T ++ (dataL t (r + 1) (bodyL (r : Int))).1.1 = bodiesR T' ∧ Tn n T' (rem.take at_ ++ rem.drop (at_ + 1)) (dataL t (r + 1) (bodyL (r : Int))).2 := by
  have hmem : r ∈ rem := List.mem_of_getElem? hr
  obtain ⟨l1, l2⟩ := h.low r hmem
  have hrem : rem.take at_ ++ rem.drop (at_ + 1) = rem.erase r := by
    have hlt := (List.getElem?_eq_some_iff.1 hr).1
    have e0 : rem = rem.take at_ ++ r :: rem.drop (at_ + 1) := by
      have := List.take_append_drop at_ rem
      rw [List.drop_eq_getElem_cons hlt] at this
      rw [List.getElem?_eq_getElem hlt] at hr
      cases hr
      exact this.symm
    have hnd := h.nodup
    rw [e0] at hnd
    have hno : r ∉ rem.take at_ := fun hx => by
      have := (List.nodup_append.1 hnd).2.2 r hx r (by simp)
      exact this rfl
    conv => rhs; rw [e0]
    rw [List.erase_append_right _ hno, List.erase_cons_head]
  have hw0 : t.wait (r + 1) = none := by rw [h.wait, if_neg (fun hh => hh.2.2 hmem)]
  have e1 : waitL t (r + 1) (bodyL (r : Int)) = (0, { t with wait := putW t.wait (r + 1) (bodyL (r : Int)) }) := by
    unfold waitL
    rw [h.taken, if_neg (by omega), if_neg (by omega), if_neg (by rw [hw0]; simp)]
  have hw1 : ∀ k, putW t.wait (r + 1) (bodyL (r : Int)) (k + 1) = if T ≤ k ∧ k < n ∧ k ∉ rem.erase r then some (bodyL (k : Int)) else none := by
    intro k
    unfold putW
    by_cases hk : k = r
    · subst hk
      rw [if_pos rfl, if_pos ⟨l1, l2, fun hh => (List.Nodup.mem_erase_iff h.nodup).1 hh |>.1 rfl⟩]
    · rw [if_neg (by omega), h.wait]
      have : k ∈ rem.erase r ↔ k ∈ rem := by rw [List.Nodup.mem_erase_iff h.nodup]; exact ⟨fun hh => hh.2, fun hh => ⟨hk, hh⟩⟩
      simp only [this]
  have hfew : (drain 33 T (putW t.wait (r + 1) (bodyL (r : Int)))).length < 33 := by
    refine drain_few (t := T) (t0 := T) (fun m b hb => ?_) (Nat.le_refl _)
    cases m with
    | zero => omega
    | succ m =>
      rw [hw1] at hb
      split at hb
      · omega
      · cases hb
  obtain ⟨ds, hds⟩ : ∃ ds, drain 33 T (putW t.wait (r + 1) (bodyL (r : Int))) = ds := ⟨_, rfl⟩
  rw [hds] at hfew
  have hget : ∀ i, i < ds.length → ds[i]? = some (bodyL ((T + i : Nat) : Int)) ∧ T + i < n ∧ T + i ∉ rem.erase r := by
    intro i hi
    have h1 := drain_get 33 T _ i (by rw [hds]; exact hi)
    rw [hds, show T + 1 + i = (T + i) + 1 by omega, hw1] at h1
    rw [List.getElem?_eq_getElem hi] at h1 ⊢
    split at h1
    · rename_i hc
      exact ⟨h1.symm, hc.2.1, hc.2.2⟩
    · cases h1
  have hend : T + ds.length < n → T + ds.length ∈ rem.erase r := by
    intro hlt
    have h1 := drain_end 33 T _ (by rw [hds]; exact hfew)
    rw [hds, show T + 1 + ds.length = (T + ds.length) + 1 by omega, hw1] at h1
    split at h1
    · cases h1
    · rename_i hc
      exact Classical.byContradiction fun hh => hc ⟨by omega, hlt, hh⟩
  have hTle : T + ds.length ≤ n := by
    by_cases c : ds.length = 0
    · have := h.le; omega
    · have := (hget (ds.length - 1) (by omega)).2.1; omega
  have ed : dataL t (r + 1) (bodyL (r : Int)) = ((ds, replyL (drainL { t with wait := putW t.wait (r + 1) (bodyL (r : Int)) }).2, 0), (drainL { t with wait := putW t.wait (r + 1) (bodyL (r : Int)) }).2) := by
    unfold dataL
    rw [e1, if_pos rfl]
    have : (drainL { t with wait := putW t.wait (r + 1) (bodyL (r : Int)) }).1 = ds := by
      show drain 33 t.taken _ = ds
      rw [h.taken]
      exact hds
    rw [this]
  have eS : (drainL { t with wait := putW t.wait (r + 1) (bodyL (r : Int)) }).2 = { t with taken := T + ds.length, wait := fun m => if m ≤ T + ds.length then none else putW t.wait (r + 1) (bodyL (r : Int)) m } := by
    unfold drainL
    dsimp only
    rw [h.taken, hds]
  refine ⟨T + ds.length, by omega, by rw [ed], hTle, ?_, ?_⟩
  · rw [ed]
    show bodiesR T ++ ds = bodiesR (T + ds.length)
    apply List.ext_getElem?
    intro i
    by_cases hi : i < T
    · rw [List.getElem?_append_left (by rw [bodiesR_len]; exact hi)]
      unfold bodiesR
      rw [List.getElem?_map, List.getElem?_map, List.getElem?_range hi, List.getElem?_range (by omega)]
    · rw [List.getElem?_append_right (by rw [bodiesR_len]; omega), bodiesR_len]
      by_cases hi2 : i - T < ds.length
      · rw [(hget _ hi2).1]
        unfold bodiesR
        rw [List.getElem?_map, List.getElem?_range (by omega), show T + (i - T) = i by omega]
        rfl
      · rw [List.getElem?_eq_none (by omega), List.getElem?_eq_none (by rw [bodiesR_len]; omega)]
  · rw [ed, hrem]
    show Tn n (T + ds.length) (rem.erase r) (drainL { t with wait := putW t.wait (r + 1) (bodyL (r : Int)) }).2
    rw [eS]
    refine ⟨h.me, h.peer, rfl, ?_, h.nodup.erase r, ?_, hend, hTle⟩
    · intro k hk
      have hk2 := List.mem_of_mem_erase hk
      obtain ⟨q1, q2⟩ := h.low k hk2
      refine ⟨?_, q2⟩
      apply Classical.byContradiction
      intro hlt
      have := (hget (k - T) (by omega)).2.2
      rw [show T + (k - T) = k by omega] at this
      exact this hk
    · intro k
      show (if k + 1 ≤ T + ds.length then none else putW t.wait (r + 1) (bodyL (r : Int)) (k + 1)) = _
      by_cases hk : k + 1 ≤ T + ds.length
      · rw [if_pos hk, if_neg (by omega)]
      · rw [if_neg hk, hw1]
        by_cases c : k < n ∧ k ∉ rem.erase r
        · rw [if_pos ⟨by omega, c.1, c.2⟩, if_pos ⟨by omega, c.1, c.2⟩]
        · rw [if_neg (fun hh => c hh.2), if_neg (fun hh => c hh.2)]
theorem Tn.start (n : Nat) : Tn n 0 (List.range n) (sB 0) :=
  ⟨rfl, rfl, rfl, fun k hk => ⟨Nat.zero_le _, List.mem_range.1 hk⟩, List.nodup_range, fun k => by
    show none = _
    rw [if_neg (fun hh => hh.2.2 (List.mem_range.2 hh.2.1))], fun h => List.mem_range.2 h, Nat.zero_le _⟩
theorem Tn.done {n T : Nat} {t : St} (h : Tn n T [] t) : T = n := by
  have := h.le
  by_cases c : T < n
  · have := h.next c; simp at this
  · omega

theorem send_frOf {j : Nat} (h : j < 64) : sendL (sA j) (bodyL (j : Int)) = ((frOf j, 0), sA (j + 1)) := send_sA h
def T1 (w : World) (x y : Blk) (n k : Nat) (v11 v12 v13 : Value) (wr : World) : Prop :=
  ∃ i : Nat, k + i = n ∧ v13 = .int .i64 i ∧ wr.ownsRow w.heap.size 30 1 v11 i (strs (framesR i)) ∧ wr.ownsRow w.heap.size 9 1 v12 i (strs (bodiesR i)) ∧ Two7 wr x y 0 0 (sA i) (sB 0) ∧ Below w.heap.size w wr
def T2 (w : World) (x y : Blk) (n : Nat) (v12 : Value) (k : Nat) (v11 v16 v17 : Value) (wr : World) : Prop :=
  ∃ (rem : List Nat) (T : Nat) (t : St), rem.length = k ∧ rem.length ≤ n ∧ v17 = .int .i64 ((n - rem.length : Nat) : Int) ∧ wr.ownsRow w.heap.size 30 1 v11 rem.length (strs (rem.map frOf)) ∧ wr.ownsRow w.heap.size 30 1 v16 T (strs (bodiesR T)) ∧ (∀ q, v16.ownBlock = some q → v11.ownBlock ≠ some q) ∧ wr.ownsRow w.heap.size 9 1 v12 n (strs (bodiesR n)) ∧
    Two7 wr x y 0 (n - rem.length) (sA n) t ∧ Tn n T rem t ∧ Below w.heap.size w wr
theorem frOf_len (i : Nat) : (frOf i).length ≤ 20000 := dataF_len _ _ _ _
theorem framesR_frOf (n : Nat) : framesR n = (List.range n).map frOf := rfl
/-- The round's end: what is asked of the next round, from what the two appends left. -/
theorem turn_next {w w7 V1 w8 w9 : World} {x y : Blk} {n T' : Nat} {rem : List Nat} {at_ : Nat} {t' : St} {v12 v7 v8 v9 : Value} {m : Nat}
    (hat : at_ < rem.length) (hle : rem.length ≤ n) (hm : m = n - rem.length)
    (hn : Tn n T' (rem.take at_ ++ rem.drop (at_ + 1)) t')
    (hB7 : Below w.heap.size w w7) (hT7 : Two7 w7 x y 0 (m + 1) (sA n) t')
    (hgot : w7.ownsRow w.heap.size 30 1 v7 T' (strs (bodiesR T'))) (hsent : w7.ownsRow w.heap.size 9 1 v12 n (strs (bodiesR n)))
    (hV1 : Below w7.heap.size w7 V1) (hz1 : w7.heap.size < V1.heap.size)
    (h8 : w8.ownsRow w7.heap.size 30 1 v8 at_ ((strs (rem.map frOf)).take at_) ∧ V1.grownBy w8 (some w7.heap.size))
    (h9 : w9.ownsRow w7.heap.size 30 1 v9 (at_ + (rem.length - (at_ + 1))) ((strs (rem.map frOf)).take at_ ++ (strs (rem.map frOf)).drop (at_ + 1)) ∧ w8.grownBy w9 v8.ownBlock) :
    T2 w x y n v12 (rem.length - 1) v9 v7 (.int .i64 (((n - rem.length : Nat) : Int) + 1)) w9 := by
  have b8 : Below w7.heap.size w7 w8 := hV1.grown h8.2 (by omega) (fun k e => by cases e; omega)
  have b9 : Below w7.heap.size w7 w9 := b8.grown h9.2 b8.size (fun k e => (h8.1.lt k e).1)
  have hl : (rem.take at_ ++ rem.drop (at_ + 1)).length = rem.length - 1 := by simp; omega
  refine ⟨rem.take at_ ++ rem.drop (at_ + 1), T', t', hl, by omega, ?_, ?_, L5.own_below hgot b9, ?_, L5.own_below hsent b9, ?_, hn, hB7.trans (b9.mono hB7.size)⟩
  · rw [hl]
    congr 1
    omega
  · rw [hl]
    have e1 : at_ + (rem.length - (at_ + 1)) = rem.length - 1 := by omega
    have e2 : strs ((rem.take at_ ++ rem.drop (at_ + 1)).map frOf) = (strs (rem.map frOf)).take at_ ++ (strs (rem.map frOf)).drop (at_ + 1) := by simp [strs, List.map_take, List.map_drop]
    rw [e2]
    have := h9.1
    rw [e1] at this
    exact row_down this hB7.size
  · intro q hq e
    have h1 := (hgot.lt q hq).2
    have h2 := (h9.1.lt q e).1
    omega
  · rw [hl]
    have e : n - (rem.length - 1) = m + 1 := by omega
    rw [e]
    exact hT7.below b9

set_option maxRecDepth 100000 in
set_option maxHeartbeats 8000000 in
theorem turned_calls {many : Int} (hm : isInt many) {A0 : Option Addr} {n0 c0 : Nat} (w : World) (hI : IRow w A0 n0) (hn0 : n0 ≤ maxLen) : Calls Try.prog 6 #[.int .i64 many, .slice A0 n0 c0] w (One w (.bool true)) := by
  obtain ⟨i0, hi, hz0, hz1, hz2⟩ := info_parts info_term
  obtain ⟨i1, hj, hy0, hy1, hy2⟩ := info_parts info_string
  have HSh := Lib.hid (shown_calls w)
  have HN1 := Lib.hid (fun V => new_calls 1 2 (by omega) (by omega) (by omega) (by omega) (by omega) V)
  have HN2 := Lib.hid (fun V => new_calls 2 1 (by omega) (by omega) (by omega) (by omega) (by omega) V)
  have HP := Lib.hid (fun V => pick_is hm (n := 32) (by omega) (by omega) V)
  have HI := Lib.hid hI
  have hlt := pickN_lt many (n := 32) (by omega)
  unfold maxLen at hn0
  clear hI
  go_enter Try.func6, Try.ntmps6
  go_wp2_with fail
  refine HSh.out.mono ?_
  rintro e w1 ⟨rfl, b1⟩
  have HB1 := Lib.hid b1
  have HN1 := Lib.hid (HN1.out w1)
  clear b1 HSh
  go_wp2_with fail
  refine HN1.out.mono ?_
  rintro e w2 ⟨x, rfl, x2, b2, a2⟩
  have HB2 := Lib.hid (HB1.out.trans (b2.mono HB1.out.size))
  have HX := Lib.hid (And.intro x2 a2)
  have HN2 := Lib.hid (HN2.out w2)
  clear b2 x2 a2 HN1
  go_wp2_with fail
  refine HN2.out.mono ?_
  rintro e w3 ⟨y, rfl, y3, b3, a3⟩
  have HT := Lib.hid (two_new HX.out.1 b3 y3 a3)
  have HB3 := Lib.hid (HB2.out.trans (b3.mono HB2.out.size))
  have HAb : Hid (∀ q, In2 x y q → w.heap.size ≤ q) := fun q hq => by
    have h1 := HX.out.2
    have h2 := HB1.out.size
    have h3 := HB2.out.size
    simp only [Blk.Above] at h1 a3
    rcases hq with (e | e | e) | (e | e | e) <;> omega
  have HP := Lib.hid (HP.out w3)
  clear b3 y3 a3 HN2 HX
  by_cases h100 : 100 < n0
  · have h100i : (100 : Int) < (n0 : Int) := by omega
    clear HP
    go_wp2
    go_ret
    exact ⟨rfl, HB3.out⟩
  have h100i : ¬ (100 : Int) < (n0 : Int) := by omega
  go_wp2_with fail
  refine HP.out.mono ?_
  rintro e w4 ⟨rfl, rfl⟩
  obtain ⟨n, hn⟩ : ∃ n, pickN many 32 + 1 = n := ⟨_, rfl⟩
  have hni : 1 + ((pickN many 32 : Nat) : Int) = (n : Int) := by omega
  have hn32 : n ≤ 32 := by omega
  have H0 : Hid (T1 w x y n n (.slice none 0 0) (.slice none 0 0) (.int .i64 0) w3) := ⟨0, by omega, rfl, row_nil _ _, ⟨rfl, .inl ⟨rfl, rfl⟩⟩, HT.out, HB3.out⟩
  generalize pickN many 32 = pn at *
  clear hn HP HT
  go_wp2

  clear hni
  go_loopg [11, 12, 13] n (fun k v11 v12 v13 wr => T1 w x y n k v11 v12 v13 wr)
  case atStart => exact H0.out
  case round =>
    obtain ⟨i, hk, rfl, hrow, hsrow, hT, hB⟩ := hrel
    obtain ⟨A, c, rfl⟩ := L5.own_slice hrow
    obtain ⟨As, cs, rfl⟩ := L5.own_slice hsrow
    by_cases hin : i < n
    · have j1 : (i : Int) < (n : Int) := by omega
      have hi31 : i < 32 := by omega
      have HBd := Lib.hid (fun V => body_calls (c := (i : Int)) (by unfold isInt; omega) V)
      have HBd0 := Lib.hid (HBd.out wr)
      have HRow := Lib.hid hrow
      have HSr := Lib.hid hsrow
      have HTw := Lib.hid hT
      have HB := Lib.hid hB
      have hmeas := Lib.hid (show n - (i + 1) < gk by omega)
      have hmeq := Lib.hid (show n - (i + 1) + (i + 1) = n by omega)
      clear hrow hsrow hT hB hk hlt
      go_wp2_with fail
      refine HBd0.out.mono ?_
      rintro e w5 ⟨rfl, b5⟩
      have hT5 := HTw.out.below b5
      have HSn := send_calls hT5.one (bodyL (i : Int)) (by have := (small_body (i : Int)).2; unfold maxLen; omega)
      unfold SendOut at HSn
      rw [send_frOf (by omega)] at HSn
      have HSn := Lib.hid HSn
      have HT5 := Lib.hid hT5
      have HR5 := Lib.hid (L5.own_below HRow.out b5)
      have HS5 := Lib.hid (L5.own_below HSr.out b5)
      have HB5 := Lib.hid (HB.out.trans (b5.mono HB.out.size))
      clear hT5 b5 HBd0
      go_wp2_with fail
      refine HSn.out.mono ?_
      rintro e w6 ⟨rfl, e6, o6⟩
      have HT6 := Lib.hid (HT5.out.left e6 o6)
      have HR6 := Lib.hid (HT5.out.one.row_only HR5.out term_end.1 term_end.2 o6)
      have HS6 := Lib.hid (HT5.out.one.row_only HS5.out string_end.1 string_end.2 o6)
      have HB6 : Hid (Below w.heap.size w w6) := Only.below HB5.out o6 HB5.out.size (fun q hq => HAb.out q (.inl hq))
      have hw6 : w.heap.size ≤ w6.heap.size := HB6.out.size
      have HNext : Hid (∀ v7 w7, w7.ownsRow w.heap.size 30 1 v7 (i + 1) (strs (framesR i) ++ [.string ⟨(frOf i).toArray⟩]) → (w6.alloc (.cells #[.string ⟨(frOf i).toArray⟩] 30)).grownBy w7 (Value.slice A i c).ownBlock →
          Two7 w7 x y 0 0 (sA (i + 1)) (sB 0) ∧ w7.ownsRow w.heap.size 30 1 v7 (i + 1) (strs (framesR (i + 1))) ∧ w7.ownsRow w.heap.size 9 1 (.slice As i cs) i (strs (bodiesR i)) ∧ Below w.heap.size w w7) := fun v7 w7 k1 k2 => by
        have k3 := L5.grow_trans (World.grownBy_alloc w6 (.cells #[.string ⟨(frOf i).toArray⟩] 30) _) k2
        have er : strs (framesR (i + 1)) = strs (framesR i) ++ [.string ⟨(frOf i).toArray⟩] := by rw [framesR_succ]; simp [strs, frOf]
        exact ⟨⟨HT6.out.one.row_grown HR6.out term_end.1 term_end.2 k3, HT6.out.two.row_grown HR6.out term_end.1 term_end.2 k3, HT6.out.g, HT6.out.c, HT6.out.b⟩, by rw [er]; exact k1, own_grown HS6.out k3 (fun q hq e => own_apart HR6.out HS6.out term_string q e hq), HB6.out.grown k3 hw6 (fun k e => (HR6.out.lt k e).1)⟩
      clear e6 o6 HT5 HR5 HS5 HB5 HSn HTw HRow HSr
      go_wp2_with (at_builtin; refine wpList_append_own_at _ rfl _ _ 36 rfl (w.heap.size) 30 i0 _ 1 16 Try.underlying36 hi hz0 hz1 hz2 rfl (by decide) _ _ _ rfl (HR6.out.alloc _) ⟨w6.heap.size, 0, none⟩ 1 1 [.string ⟨(frOf i).toArray⟩] rfl rfl (cell_one_new _ _ _) (by simp [Value.oneCell']) (by unfold maxLen; omega) (by omega) (by simp; omega) ?_; intro v7 w7 hown' hgrow hnil hat; have HX7 := Lib.hid (HNext.out v7 w7 hown' hgrow); clear hown' hgrow hnil hat)
      have HBd7 := Lib.hid (HBd.out w7)
      clear HNext HT6 HR6 HS6 HB6
      refine HBd7.out.mono ?_
      rintro e w8 ⟨rfl, b8⟩
      obtain ⟨hT7, hr7, hs7, hB7⟩ := HX7.out
      have HS8 := Lib.hid (L5.own_below hs7 b8)
      have hw8 : w.heap.size ≤ w8.heap.size := Nat.le_trans hB7.size b8.size
      have HNext : Hid (∀ v9 w9, w9.ownsRow w.heap.size 9 1 v9 (i + 1) (strs (bodiesR i) ++ [.string ⟨(bodyL (i : Int)).toArray⟩]) → (w8.alloc (.cells #[.string ⟨(bodyL (i : Int)).toArray⟩] 9)).grownBy w9 (Value.slice As i cs).ownBlock → T1 w x y n (n - (i + 1)) v7 v9 (.int .i64 ((i : Int) + 1)) w9) := fun v9 w9 k1 k2 => by
        have k3 := L5.grow_trans (World.grownBy_alloc w8 (.cells #[.string ⟨(bodyL (i : Int)).toArray⟩] 9) _) k2
        have er : strs (bodiesR (i + 1)) = strs (bodiesR i) ++ [.string ⟨(bodyL (i : Int)).toArray⟩] := by rw [bodiesR_succ]; simp [strs]
        have hT8 := hT7.below b8
        have hr8 := L5.own_below hr7 b8
        refine ⟨i + 1, hmeq.out, rfl, own_grown hr8 k3 (fun q hq e => own_apart hr8 HS8.out term_string q hq e), by rw [er]; exact k1, ⟨hT8.one.row_grown HS8.out string_end.1 string_end.2 k3, hT8.two.row_grown HS8.out string_end.1 string_end.2 k3, hT8.g, hT8.c, hT8.b⟩, (hB7.trans (b8.mono hB7.size)).grown k3 hw8 (fun k e => (HS8.out.lt k e).1)⟩
      clear hT7 hr7 hs7 hB7 b8 HX7 HBd7
      go_wp2_with (at_builtin; refine wpList_append_own_at _ rfl _ _ 38 rfl (w.heap.size) 9 i1 _ 1 16 Try.underlying38 hj hy0 hy1 hy2 rfl (by decide) _ _ _ rfl (HS8.out.alloc _) ⟨w8.heap.size, 0, none⟩ 1 1 [.string ⟨(bodyL (i : Int)).toArray⟩] rfl rfl (cell_one_new _ _ _) (by simp [Value.oneCell']) (by unfold maxLen; omega) (by omega) (by simp; omega) ?_; intro v9 w9 hown' hgrow hnil hat; have HF := Lib.hid (HNext.out v9 w9 hown' hgrow); clear hown' hgrow hnil hat)
      go_roundg (n - (i + 1))
      case measure => exact hmeas.out
      case rel => exact HF.out
    · have j1 : ¬ (i : Int) < (n : Int) := by omega
      obtain rfl : n = i := by omega
      have H2 : Hid (T2 w x y n (.slice As n cs) n (.slice A n c) (.slice none 0 0) (.int .i64 0) wr) := by
        refine ⟨List.range n, 0, sB 0, by simp, by simp, by simp, by simpa [framesR_frOf] using hrow, row_nil _ _, fun q hq => by simp [Value.ownBlock] at hq, hsrow, by simpa using hT, Tn.start n, hB⟩
      clear hrow hsrow hT hB hk hlt H0
      go_wp2
      go_loopg [11, 16, 17] n (fun k v11 v16 v17 wr' => T2 w x y n (.slice As n cs) k v11 v16 v17 wr')
      case atStart => exact H2.out
      case round =>
        obtain ⟨rem, T, t, rfl, hlen, rfl, hf, hg, hdis, hs, hT, hTn, hB⟩ := hrel
        obtain ⟨Af, cf, rfl⟩ := L5.own_slice hf
        by_cases hne : 0 < rem.length
        · obtain ⟨g, cap, hv, hgl, hcap, hgb, _⟩ := row_shape hf hne
          simp only [Value.slice.injEq, true_and] at hv
          obtain ⟨rfl, rfl⟩ := hv
          have j1 : (0 : Int) < (rem.length : Int) := by omega
          have hT32 : T ≤ 32 := by have := hTn.le; omega
          have HTn := Lib.hid hTn
          have HDis := Lib.hid hdis
          have hmeas := Lib.hid (show rem.length - 1 < rem.length by omega)
          obtain ⟨Ag, cg, rfl⟩ := L5.own_slice hg
          have HF1 := Lib.hid hf
          have HG1 := Lib.hid hg
          have HS1 := Lib.hid hs
          have HT1 := Lib.hid hT
          have HB1' := Lib.hid hB
          have hr32 : rem.length ≤ 32 := by omega
          obtain ⟨mi, hmi⟩ : ∃ mi, n - rem.length = mi := ⟨_, rfl⟩
          have hmi32 : mi ≤ 32 := by omega
          rw [hmi] at HT1 ⊢
          have HMi := Lib.hid hmi
          by_cases hz : 0 < n0
          · have j2 : (0 : Int) < (n0 : Int) := by omega
            obtain ⟨q, hq⟩ : ∃ q, mi % n0 = q := ⟨_, rfl⟩
            have hqlt : q < n0 := by rw [← hq]; exact Nat.mod_lt _ hz
            have hmod : Int.tmod (mi : Int) (n0 : Int) = (q : Int) := by rw [Int.tmod_eq_emod_of_nonneg (by omega), ← hq]; rfl
            obtain ⟨ad, xv, rfl, hadb, hadc, hxv⟩ := HI.out q hqlt
            have hcx : wr.cell? (ad.add q) = some (.int .i64 xv) := (hB.cell (p := ad.add q) (by rw [L6.addr_block]; exact hadb)).trans hadc
            have HPk := Lib.hid (pick_is hxv (n := rem.length) hne (by omega) wr)
            obtain ⟨at_, hat', hat⟩ : ∃ at_, pickN xv rem.length = at_ ∧ at_ < rem.length := ⟨_, rfl, pickN_lt _ hne⟩
            rw [hat'] at HPk
            have q1 : (0 : Int) ≤ (q : Int) := by omega
            have q2 : (q : Int) < (n0 : Int) := by omega
            have z1 : ((n0 : Int) == 0) = false := by rw [beq_eq_false_iff_ne]; omega
            have z2 : ¬ (n0 : Int) = 0 := by omega
            clear hf hg hs hT hB hq hadb hadc hxv hat' hmi HI
            go_wp2_with fail
            refine HPk.out.mono ?_
            rintro e w5 ⟨rfl, rfl⟩
            clear HPk hcx hmod
            obtain ⟨r, hr⟩ : ∃ r, rem[at_]? = some r := ⟨_, List.getElem?_eq_getElem hat⟩
            have hcell : wr.cell? ⟨g, at_, none⟩ = some (.string ⟨(frOf r).toArray⟩) := row_cells HF1.out at_ _ (by simp [strs, hr])
            have hrlow := HTn.out.low r (List.mem_of_getElem? hr)
            have hfr := data_frame (p := 1) (q := 2) (n := r + 1) (b := bodyL (r : Int)) (by omega) (by omega) (by omega) (by omega) (by omega) (by omega) (small_body _)
            obtain ⟨T', hTT, herr, hT'n, hgotT, hTn'⟩ := HTn.out.come hn32 hr
            have HTk := take_data HT1.out.two (f := frOf r) (frOf_len _) (by unfold maxLen; omega) (num := r + 1) (b := bodyL (r : Int)) (by rw [HTn.out.me, HTn.out.peer]; exact hfr.2.2)
            unfold TookOut at HTk
            rw [herr] at HTk
            obtain ⟨D, hD⟩ : ∃ D, dataL t (r + 1) (bodyL (r : Int)) = D := ⟨_, rfl⟩
            rw [hD] at HTk hgotT hTn'
            have HTk := Lib.hid HTk
            have HGT := Lib.hid (And.intro hgotT hTn')
            have a1 : (0 : Int) ≤ (at_ : Int) := by omega
            have a2 : (at_ : Int) < (rem.length : Int) := by omega
            have hT'32 : T' ≤ 32 := by omega
            have hlen' := hlen
            have hDl : T + D.1.1.length = T' := by
              have := congrArg List.length hgotT
              rw [List.length_append, bodiesR_len, bodiesR_len] at this
              exact this
            clear hrlow hfr herr hT'n hgotT hTn' hD hTT hr
            go_wp2_with fail
            refine HTk.out.mono ?_
            rintro e w6 ⟨v, rfl, r6, e6, o6⟩
            have HT6 := Lib.hid (HT1.out.right e6 o6)
            have HF6 := Lib.hid (HT1.out.two.row_only HF1.out term_end.1 term_end.2 o6)
            have HG6 := Lib.hid (HT1.out.two.row_only HG1.out term_end.1 term_end.2 o6)
            have HS6 := Lib.hid (HT1.out.two.row_only HS1.out string_end.1 string_end.2 o6)
            have HB6 : Hid (Below w.heap.size w w6) := Only.below HB1'.out o6 HB1'.out.size (fun q hq => HAb.out q (.inr hq))
            have HSrc := Lib.hid (sin_row r6)
            have hw6 : w.heap.size ≤ w6.heap.size := HB6.out.size
            have hbal : (ba D.1.1).length = D.1.1.length := ba_length _
            have HNx : Hid (∀ v7 w7, w7.ownsRow w.heap.size 30 1 v7 (T + (ba D.1.1).length) (strs (bodiesR T) ++ strV (ba D.1.1)) → w6.grownBy w7 (Value.slice Ag T cg).ownBlock → (v7.ownBlock = (Value.slice Ag T cg).ownBlock ∨ v7.ownBlock = some w6.heap.size) →
                w7.ownsRow w.heap.size 30 1 v7 T' (strs (bodiesR T')) ∧ w7.ownsRow w.heap.size 30 1 (.slice (some ⟨g, 0, none⟩) rem.length cf) rem.length (strs (rem.map frOf)) ∧ w7.ownsRow w.heap.size 9 1 (.slice As n cs) n (strs (bodiesR n)) ∧ Two7 w7 x y 0 (mi + 1) (sA n) D.2 ∧ Below w.heap.size w w7) := fun v7 w7 k1 k2 k3 => by
              rw [hbal, hDl, strV_ba] at k1
              have e : strs (bodiesR T) ++ strs D.1.1 = strs (bodiesR T') := by rw [← HGT.out.1]; simp [strs]
              rw [e] at k1
              refine ⟨k1, own_grown HF6.out k2 (fun q hq e => HDis.out q e hq), own_grown HS6.out k2 (fun q hq e => own_apart HG6.out HS6.out term_string q e hq), ⟨HT6.out.one.row_grown HG6.out term_end.1 term_end.2 k2, HT6.out.two.row_grown HG6.out term_end.1 term_end.2 k2, HT6.out.g, HT6.out.c, HT6.out.b⟩, HB6.out.grown k2 hw6 (fun k e => (HG6.out.lt k e).1)⟩
            clear r6 e6 o6 HTk HT1
            go_wp2_with (at_builtin; refine wpList_append_texts_at (by rfl) _ _ 36 rfl (w.heap.size) 30 i0 _ 16 Try.underlying36 hi hz0 hz1 hz2 rfl _ T (strs (bodiesR T)) (by rfl) HG6.out _ (ba D.1.1) (by rfl) HSrc.out (by rw [hbal, hDl]; unfold maxLen; omega) (by rw [hbal, hDl]; omega) (by omega) ?_; intro v7 w7 hown' hgrow hat'; have HX7 := Lib.hid (HNx.out v7 w7 hown' hgrow hat'); clear hown' hgrow hat')
            have hV1 : Below w7.heap.size w7 (w7.drew.alloc (.cells #[] 30)) := (Below.refl _ w7).drew.alloc (Nat.le_refl _) _
            have hz1' : w7.heap.size < (w7.drew.alloc (.cells #[] 30)).heap.size := by rw [World.size_alloc]; show w7.heap.size < w7.heap.size + 1; omega
            have HLit : Hid ((w7.drew.alloc (.cells #[] 30)).ownsRow w7.heap.size 30 1 (.slice (some ⟨w7.heap.size, 0, none⟩) 0 0) 0 []) := World.ownsRow_lit (e := 30) (base := w7.heap.size) (size := 1) w7.drew #[] 0 (Nat.le_refl _) (by unfold maxLen; omega) rfl
            have hcut := cut_facts (at_ := at_) HX7.out.2.1 hV1
            have HN1' := Lib.hid hcut.1
            have HFar := Lib.hid hcut.2
            have hvl : (strs (rem.map frOf)).length = rem.length := by simp [strs]
            have hL1 : Hid (((strs (rem.map frOf)).take at_).length = at_ * 1) := by show _ = _; rw [List.length_take, hvl]; omega
            have hL2 : Hid (((strs (rem.map frOf)).drop (at_ + 1)).length = (rem.length - (at_ + 1)) * 1) := by show _ = _; rw [List.length_drop, hvl]; omega
            have HOne : Hid ((∀ u ∈ (strs (rem.map frOf)).take at_, u.oneCell' = true) ∧ (∀ u ∈ (strs (rem.map frOf)).drop (at_ + 1), u.oneCell' = true)) := by
              have k : ∀ u ∈ strs (rem.map frOf), u.oneCell' = true := by
                intro u hu
                simp only [strs, List.mem_map] at hu
                obtain ⟨z, _, rfl⟩ := hu
                rfl
              exact ⟨fun u hu => k u (List.mem_of_mem_take hu), fun u hu => k u (List.mem_of_mem_drop hu)⟩
            have m1 : Hid (0 + at_ ≤ maxLen ∧ (0 + at_) * 16 ≤ 140737488355328 ∧ at_ + (rem.length - (at_ + 1)) ≤ maxLen ∧ (at_ + (rem.length - (at_ + 1))) * 16 ≤ 140737488355328) := ⟨by unfold maxLen; omega, by omega, by unfold maxLen; omega, by omega⟩
            have m2 : Hid (w7.heap.size ≤ (w7.drew.alloc (.cells #[] 30)).heap.size) := Nat.le_of_lt hz1'
            have HEnd : Hid (∀ v8 v9 w8 w9, w8.ownsRow w7.heap.size 30 1 v8 at_ ((strs (rem.map frOf)).take at_) ∧ (w7.drew.alloc (.cells #[] 30)).grownBy w8 (some w7.heap.size) → w9.ownsRow w7.heap.size 30 1 v9 (at_ + (rem.length - (at_ + 1))) ((strs (rem.map frOf)).take at_ ++ (strs (rem.map frOf)).drop (at_ + 1)) ∧ w8.grownBy w9 v8.ownBlock → T2 w x y n (.slice As n cs) (rem.length - 1) v9 v7 (.int .i64 ((mi : Int) + 1)) w9) := fun v8 v9 w8 w9 k8 k9 => by
              obtain ⟨g1, _, g3, g4, g5⟩ := HX7.out
              have := turn_next (m := mi) hat hlen HMi.out.symm HGT.out.2 g5 g4 g1 g3 hV1 hz1' k8 k9
              rw [HMi.out] at this
              exact this
            have z3 : (at_ : Int) ≤ (rem.length : Int) := by omega
            have z4 : (at_ : Int) ≤ (cf : Int) := by omega
            have z5 : (at_ : Int) + 1 ≤ (rem.length : Int) := by omega
            have z6 : (rem.length : Int) ≤ (cf : Int) := by omega
            have z8 : (0 : Int) ≤ (at_ : Int) + 1 := by omega
            have hwr : IntKind.i64.wrap ((at_ : Int) + 1) = (at_ : Int) + 1 := by rw [IntKind.wrap_i64]; omega
            have htn : ((at_ : Int) + 1).toNat = at_ + 1 := by omega
            have hV1s := hV1.size
            have hHN : Hid (cf = at_ + 1 → (strs (rem.map frOf)).drop (at_ + 1) = []) := fun e => List.drop_of_length_le (by rw [hvl]; omega)
            clear hcut hV1 hz1' hvl HX7 HNx
            by_cases hcap' : cf = at_ + 1
            · have HNil := Lib.hid (hHN.out hcap')
              subst hcap'
              have z9 : (at_ : Int) ≤ (at_ : Int) + 1 := by omega
              clear hHN
              go_wp2
              go_region_law (first
                | (refine step_append_owned rfl (.tmp 116) (.tmp 120) 36 rfl w7.heap.size 30 i0 (.string ⟨#[]⟩) 1 16 Try.underlying36 hi hz0 hz1 hz2 rfl (by decide) v8 at_ ((strs (rem.map frOf)).take at_) (by simp [Act.eval]) X8.out.1 ⟨g, 0, none⟩ (rem.length - (at_ + 1)) 0 ((strs (rem.map frOf)).drop (at_ + 1)) (by first | (simp [Act.eval]; done) | (simp [Act.eval]; omega)) hL2.out (fun j u hu => by rw [HNil.out] at hu; simp at hu) (HOne.out.2) m1.out.2.2.1 m1.out.2.2.2 (Nat.le_trans m2.out X8.out.2.size) ?_
                   intro v9 w9 hown5 hgrow5
                   have X9 : Hid (w9.ownsRow w7.heap.size 30 1 v9 (at_ + (rem.length - (at_ + 1))) ((strs (rem.map frOf)).take at_ ++ (strs (rem.map frOf)).drop (at_ + 1)) ∧ w8.grownBy w9 v8.ownBlock) := ⟨hown5, hgrow5⟩
                   clear hown5 hgrow5)
                | (refine step_append_owned rfl (.tmp 112) (.tmp 115) 36 rfl w7.heap.size 30 i0 (.string ⟨#[]⟩) 1 16 Try.underlying36 hi hz0 hz1 hz2 rfl (by decide) (.slice (some ⟨w7.heap.size, 0, none⟩) 0 0) 0 [] (by simp [Act.eval]) HLit.out ⟨g, 0, none⟩ at_ (at_ + 1) ((strs (rem.map frOf)).take at_) (by simp [Act.eval]) hL1.out HN1'.out (HOne.out.1) m1.out.1 m1.out.2.1 m2.out ?_
                   intro v8 w8 hown4 hgrow4
                   have X8 : Hid (w8.ownsRow w7.heap.size 30 1 v8 at_ ((strs (rem.map frOf)).take at_) ∧ (w7.drew.alloc (.cells #[] 30)).grownBy w8 (some w7.heap.size)) := ⟨by rw [Nat.zero_add] at hown4; exact hown4, hgrow4⟩
                   clear hown4 hgrow4))
              go_wp2
              go_roundg (rem.length - 1)
              case measure => exact hmeas.out
              case rel => exact HEnd.out _ _ _ _ X8.out X9.out
            · clear hHN
              go_wp2
              go_region_law (first
                | (refine step_append_owned rfl (.tmp 116) (.tmp 120) 36 rfl w7.heap.size 30 i0 (.string ⟨#[]⟩) 1 16 Try.underlying36 hi hz0 hz1 hz2 rfl (by decide) v8 at_ ((strs (rem.map frOf)).take at_) (by simp [Act.eval]) X8.out.1 ⟨g, at_ + 1, none⟩ (rem.length - (at_ + 1)) (cf - (at_ + 1)) ((strs (rem.map frOf)).drop (at_ + 1)) (by first | (simp [Act.eval]; done) | (simp [Act.eval]; omega)) hL2.out (HFar.out _ X8.out.2) (HOne.out.2) m1.out.2.2.1 m1.out.2.2.2 (Nat.le_trans m2.out X8.out.2.size) ?_
                   intro v9 w9 hown5 hgrow5
                   have X9 : Hid (w9.ownsRow w7.heap.size 30 1 v9 (at_ + (rem.length - (at_ + 1))) ((strs (rem.map frOf)).take at_ ++ (strs (rem.map frOf)).drop (at_ + 1)) ∧ w8.grownBy w9 v8.ownBlock) := ⟨hown5, hgrow5⟩
                   clear hown5 hgrow5)
                | (refine step_append_owned rfl (.tmp 112) (.tmp 115) 36 rfl w7.heap.size 30 i0 (.string ⟨#[]⟩) 1 16 Try.underlying36 hi hz0 hz1 hz2 rfl (by decide) (.slice (some ⟨w7.heap.size, 0, none⟩) 0 0) 0 [] (by simp [Act.eval]) HLit.out ⟨g, 0, none⟩ at_ cf ((strs (rem.map frOf)).take at_) (by simp [Act.eval]) hL1.out HN1'.out (HOne.out.1) m1.out.1 m1.out.2.1 m2.out ?_
                   intro v8 w8 hown4 hgrow4
                   have X8 : Hid (w8.ownsRow w7.heap.size 30 1 v8 at_ ((strs (rem.map frOf)).take at_) ∧ (w7.drew.alloc (.cells #[] 30)).grownBy w8 (some w7.heap.size)) := ⟨by rw [Nat.zero_add] at hown4; exact hown4, hgrow4⟩
                   clear hown4 hgrow4))
              go_wp2
              go_roundg (rem.length - 1)
              case measure => exact hmeas.out
              case rel => exact HEnd.out _ _ _ _ X8.out X9.out
          · have j2 : ¬ (0 : Int) < (n0 : Int) := by omega
            obtain ⟨at_, hat, hat0⟩ : ∃ at_ : Nat, at_ < rem.length ∧ ((at_ : Int) = 0) := ⟨0, hne, rfl⟩
            have HAt0 := Lib.hid hat0
            clear hf hg hs hT hB hmi HI hat0
            go_upto_region 22 with (fail)
            rw [← HAt0.out]
            obtain ⟨r, hr⟩ : ∃ r, rem[at_]? = some r := ⟨_, List.getElem?_eq_getElem hat⟩
            have hcell : wr.cell? ⟨g, at_, none⟩ = some (.string ⟨(frOf r).toArray⟩) := row_cells HF1.out at_ _ (by simp [strs, hr])
            have hrlow := HTn.out.low r (List.mem_of_getElem? hr)
            have hfr := data_frame (p := 1) (q := 2) (n := r + 1) (b := bodyL (r : Int)) (by omega) (by omega) (by omega) (by omega) (by omega) (by omega) (small_body _)
            obtain ⟨T', hTT, herr, hT'n, hgotT, hTn'⟩ := HTn.out.come hn32 hr
            have HTk := take_data HT1.out.two (f := frOf r) (frOf_len _) (by unfold maxLen; omega) (num := r + 1) (b := bodyL (r : Int)) (by rw [HTn.out.me, HTn.out.peer]; exact hfr.2.2)
            unfold TookOut at HTk
            rw [herr] at HTk
            obtain ⟨D, hD⟩ : ∃ D, dataL t (r + 1) (bodyL (r : Int)) = D := ⟨_, rfl⟩
            rw [hD] at HTk hgotT hTn'
            have HTk := Lib.hid HTk
            have HGT := Lib.hid (And.intro hgotT hTn')
            have a1 : (0 : Int) ≤ (at_ : Int) := by omega
            have a2 : (at_ : Int) < (rem.length : Int) := by omega
            have hT'32 : T' ≤ 32 := by omega
            have hlen' := hlen
            have hDl : T + D.1.1.length = T' := by
              have := congrArg List.length hgotT
              rw [List.length_append, bodiesR_len, bodiesR_len] at this
              exact this
            clear hrlow hfr herr hT'n hgotT hTn' hD hTT hr
            go_wp2_with fail
            refine HTk.out.mono ?_
            rintro e w6 ⟨v, rfl, r6, e6, o6⟩
            have HT6 := Lib.hid (HT1.out.right e6 o6)
            have HF6 := Lib.hid (HT1.out.two.row_only HF1.out term_end.1 term_end.2 o6)
            have HG6 := Lib.hid (HT1.out.two.row_only HG1.out term_end.1 term_end.2 o6)
            have HS6 := Lib.hid (HT1.out.two.row_only HS1.out string_end.1 string_end.2 o6)
            have HB6 : Hid (Below w.heap.size w w6) := Only.below HB1'.out o6 HB1'.out.size (fun q hq => HAb.out q (.inr hq))
            have HSrc := Lib.hid (sin_row r6)
            have hw6 : w.heap.size ≤ w6.heap.size := HB6.out.size
            have hbal : (ba D.1.1).length = D.1.1.length := ba_length _
            have HNx : Hid (∀ v7 w7, w7.ownsRow w.heap.size 30 1 v7 (T + (ba D.1.1).length) (strs (bodiesR T) ++ strV (ba D.1.1)) → w6.grownBy w7 (Value.slice Ag T cg).ownBlock → (v7.ownBlock = (Value.slice Ag T cg).ownBlock ∨ v7.ownBlock = some w6.heap.size) →
                w7.ownsRow w.heap.size 30 1 v7 T' (strs (bodiesR T')) ∧ w7.ownsRow w.heap.size 30 1 (.slice (some ⟨g, 0, none⟩) rem.length cf) rem.length (strs (rem.map frOf)) ∧ w7.ownsRow w.heap.size 9 1 (.slice As n cs) n (strs (bodiesR n)) ∧ Two7 w7 x y 0 (mi + 1) (sA n) D.2 ∧ Below w.heap.size w w7) := fun v7 w7 k1 k2 k3 => by
              rw [hbal, hDl, strV_ba] at k1
              have e : strs (bodiesR T) ++ strs D.1.1 = strs (bodiesR T') := by rw [← HGT.out.1]; simp [strs]
              rw [e] at k1
              refine ⟨k1, own_grown HF6.out k2 (fun q hq e => HDis.out q e hq), own_grown HS6.out k2 (fun q hq e => own_apart HG6.out HS6.out term_string q e hq), ⟨HT6.out.one.row_grown HG6.out term_end.1 term_end.2 k2, HT6.out.two.row_grown HG6.out term_end.1 term_end.2 k2, HT6.out.g, HT6.out.c, HT6.out.b⟩, HB6.out.grown k2 hw6 (fun k e => (HG6.out.lt k e).1)⟩
            clear r6 e6 o6 HTk HT1
            go_wp2_with (at_builtin; refine wpList_append_texts_at (by rfl) _ _ 36 rfl (w.heap.size) 30 i0 _ 16 Try.underlying36 hi hz0 hz1 hz2 rfl _ T (strs (bodiesR T)) (by rfl) HG6.out _ (ba D.1.1) (by rfl) HSrc.out (by rw [hbal, hDl]; unfold maxLen; omega) (by rw [hbal, hDl]; omega) (by omega) ?_; intro v7 w7 hown' hgrow hat'; have HX7 := Lib.hid (HNx.out v7 w7 hown' hgrow hat'); clear hown' hgrow hat')
            have hV1 : Below w7.heap.size w7 (w7.drew.alloc (.cells #[] 30)) := (Below.refl _ w7).drew.alloc (Nat.le_refl _) _
            have hz1' : w7.heap.size < (w7.drew.alloc (.cells #[] 30)).heap.size := by rw [World.size_alloc]; show w7.heap.size < w7.heap.size + 1; omega
            have HLit : Hid ((w7.drew.alloc (.cells #[] 30)).ownsRow w7.heap.size 30 1 (.slice (some ⟨w7.heap.size, 0, none⟩) 0 0) 0 []) := World.ownsRow_lit (e := 30) (base := w7.heap.size) (size := 1) w7.drew #[] 0 (Nat.le_refl _) (by unfold maxLen; omega) rfl
            have hcut := cut_facts (at_ := at_) HX7.out.2.1 hV1
            have HN1' := Lib.hid hcut.1
            have HFar := Lib.hid hcut.2
            have hvl : (strs (rem.map frOf)).length = rem.length := by simp [strs]
            have hL1 : Hid (((strs (rem.map frOf)).take at_).length = at_ * 1) := by show _ = _; rw [List.length_take, hvl]; omega
            have hL2 : Hid (((strs (rem.map frOf)).drop (at_ + 1)).length = (rem.length - (at_ + 1)) * 1) := by show _ = _; rw [List.length_drop, hvl]; omega
            have HOne : Hid ((∀ u ∈ (strs (rem.map frOf)).take at_, u.oneCell' = true) ∧ (∀ u ∈ (strs (rem.map frOf)).drop (at_ + 1), u.oneCell' = true)) := by
              have k : ∀ u ∈ strs (rem.map frOf), u.oneCell' = true := by
                intro u hu
                simp only [strs, List.mem_map] at hu
                obtain ⟨z, _, rfl⟩ := hu
                rfl
              exact ⟨fun u hu => k u (List.mem_of_mem_take hu), fun u hu => k u (List.mem_of_mem_drop hu)⟩
            have m1 : Hid (0 + at_ ≤ maxLen ∧ (0 + at_) * 16 ≤ 140737488355328 ∧ at_ + (rem.length - (at_ + 1)) ≤ maxLen ∧ (at_ + (rem.length - (at_ + 1))) * 16 ≤ 140737488355328) := ⟨by unfold maxLen; omega, by omega, by unfold maxLen; omega, by omega⟩
            have m2 : Hid (w7.heap.size ≤ (w7.drew.alloc (.cells #[] 30)).heap.size) := Nat.le_of_lt hz1'
            have HEnd : Hid (∀ v8 v9 w8 w9, w8.ownsRow w7.heap.size 30 1 v8 at_ ((strs (rem.map frOf)).take at_) ∧ (w7.drew.alloc (.cells #[] 30)).grownBy w8 (some w7.heap.size) → w9.ownsRow w7.heap.size 30 1 v9 (at_ + (rem.length - (at_ + 1))) ((strs (rem.map frOf)).take at_ ++ (strs (rem.map frOf)).drop (at_ + 1)) ∧ w8.grownBy w9 v8.ownBlock → T2 w x y n (.slice As n cs) (rem.length - 1) v9 v7 (.int .i64 ((mi : Int) + 1)) w9) := fun v8 v9 w8 w9 k8 k9 => by
              obtain ⟨g1, _, g3, g4, g5⟩ := HX7.out
              have := turn_next (m := mi) hat hlen HMi.out.symm HGT.out.2 g5 g4 g1 g3 hV1 hz1' k8 k9
              rw [HMi.out] at this
              exact this
            have z3 : (at_ : Int) ≤ (rem.length : Int) := by omega
            have z4 : (at_ : Int) ≤ (cf : Int) := by omega
            have z5 : (at_ : Int) + 1 ≤ (rem.length : Int) := by omega
            have z6 : (rem.length : Int) ≤ (cf : Int) := by omega
            have z8 : (0 : Int) ≤ (at_ : Int) + 1 := by omega
            have hwr : IntKind.i64.wrap ((at_ : Int) + 1) = (at_ : Int) + 1 := by rw [IntKind.wrap_i64]; omega
            have htn : ((at_ : Int) + 1).toNat = at_ + 1 := by omega
            have hV1s := hV1.size
            have hHN : Hid (cf = at_ + 1 → (strs (rem.map frOf)).drop (at_ + 1) = []) := fun e => List.drop_of_length_le (by rw [hvl]; omega)
            clear hcut hV1 hz1' hvl HX7 HNx
            by_cases hcap' : cf = at_ + 1
            · have HNil := Lib.hid (hHN.out hcap')
              subst hcap'
              have z9 : (at_ : Int) ≤ (at_ : Int) + 1 := by omega
              clear hHN
              go_wp2
              go_region_law (first
                | (refine step_append_owned rfl (.tmp 116) (.tmp 120) 36 rfl w7.heap.size 30 i0 (.string ⟨#[]⟩) 1 16 Try.underlying36 hi hz0 hz1 hz2 rfl (by decide) v8 at_ ((strs (rem.map frOf)).take at_) (by simp [Act.eval]) X8.out.1 ⟨g, 0, none⟩ (rem.length - (at_ + 1)) 0 ((strs (rem.map frOf)).drop (at_ + 1)) (by first | (simp [Act.eval]; done) | (simp [Act.eval]; omega)) hL2.out (fun j u hu => by rw [HNil.out] at hu; simp at hu) (HOne.out.2) m1.out.2.2.1 m1.out.2.2.2 (Nat.le_trans m2.out X8.out.2.size) ?_
                   intro v9 w9 hown5 hgrow5
                   have X9 : Hid (w9.ownsRow w7.heap.size 30 1 v9 (at_ + (rem.length - (at_ + 1))) ((strs (rem.map frOf)).take at_ ++ (strs (rem.map frOf)).drop (at_ + 1)) ∧ w8.grownBy w9 v8.ownBlock) := ⟨hown5, hgrow5⟩
                   clear hown5 hgrow5)
                | (refine step_append_owned rfl (.tmp 112) (.tmp 115) 36 rfl w7.heap.size 30 i0 (.string ⟨#[]⟩) 1 16 Try.underlying36 hi hz0 hz1 hz2 rfl (by decide) (.slice (some ⟨w7.heap.size, 0, none⟩) 0 0) 0 [] (by simp [Act.eval]) HLit.out ⟨g, 0, none⟩ at_ (at_ + 1) ((strs (rem.map frOf)).take at_) (by simp [Act.eval]) hL1.out HN1'.out (HOne.out.1) m1.out.1 m1.out.2.1 m2.out ?_
                   intro v8 w8 hown4 hgrow4
                   have X8 : Hid (w8.ownsRow w7.heap.size 30 1 v8 at_ ((strs (rem.map frOf)).take at_) ∧ (w7.drew.alloc (.cells #[] 30)).grownBy w8 (some w7.heap.size)) := ⟨by rw [Nat.zero_add] at hown4; exact hown4, hgrow4⟩
                   clear hown4 hgrow4))
              go_wp2
              rw [HAt0.out]
              go_roundg (rem.length - 1)
              case measure => exact hmeas.out
              case rel => exact HEnd.out _ _ _ _ X8.out X9.out
            · clear hHN
              go_wp2
              go_region_law (first
                | (refine step_append_owned rfl (.tmp 116) (.tmp 120) 36 rfl w7.heap.size 30 i0 (.string ⟨#[]⟩) 1 16 Try.underlying36 hi hz0 hz1 hz2 rfl (by decide) v8 at_ ((strs (rem.map frOf)).take at_) (by simp [Act.eval]) X8.out.1 ⟨g, at_ + 1, none⟩ (rem.length - (at_ + 1)) (cf - (at_ + 1)) ((strs (rem.map frOf)).drop (at_ + 1)) (by first | (simp [Act.eval]; done) | (simp [Act.eval]; omega)) hL2.out (HFar.out _ X8.out.2) (HOne.out.2) m1.out.2.2.1 m1.out.2.2.2 (Nat.le_trans m2.out X8.out.2.size) ?_
                   intro v9 w9 hown5 hgrow5
                   have X9 : Hid (w9.ownsRow w7.heap.size 30 1 v9 (at_ + (rem.length - (at_ + 1))) ((strs (rem.map frOf)).take at_ ++ (strs (rem.map frOf)).drop (at_ + 1)) ∧ w8.grownBy w9 v8.ownBlock) := ⟨hown5, hgrow5⟩
                   clear hown5 hgrow5)
                | (refine step_append_owned rfl (.tmp 112) (.tmp 115) 36 rfl w7.heap.size 30 i0 (.string ⟨#[]⟩) 1 16 Try.underlying36 hi hz0 hz1 hz2 rfl (by decide) (.slice (some ⟨w7.heap.size, 0, none⟩) 0 0) 0 [] (by simp [Act.eval]) HLit.out ⟨g, 0, none⟩ at_ cf ((strs (rem.map frOf)).take at_) (by simp [Act.eval]) hL1.out HN1'.out (HOne.out.1) m1.out.1 m1.out.2.1 m2.out ?_
                   intro v8 w8 hown4 hgrow4
                   have X8 : Hid (w8.ownsRow w7.heap.size 30 1 v8 at_ ((strs (rem.map frOf)).take at_) ∧ (w7.drew.alloc (.cells #[] 30)).grownBy w8 (some w7.heap.size)) := ⟨by rw [Nat.zero_add] at hown4; exact hown4, hgrow4⟩
                   clear hown4 hgrow4))
              go_wp2
              rw [HAt0.out]
              go_roundg (rem.length - 1)
              case measure => exact hmeas.out
              case rel => exact HEnd.out _ _ _ _ X8.out X9.out
        · have hr0 : rem = [] := List.length_eq_zero_iff.1 (by omega)
          subst hr0
          obtain rfl : T = n := hTn.done
          have j1 : ¬ (0 : Int) < (([] : List Nat).length : Int) := by simp
          have HSm := Lib.hid (same_calls (ba (bodiesR T)) _ (.slice As T cs) wr (srow_row (by rw [bodiesR_len]; exact hg)) (srow_row (by rw [bodiesR_len]; exact hs)) (by rw [ba_length, bodiesR_len]; omega))
          have HB := Lib.hid hB
          clear hf hg hs hT hB hTn hdis H2
          go_wp2_with fail
          refine HSm.out.mono ?_
          rintro e w5 ⟨rfl, q, rfl⟩
          have HF : Hid (Below w.heap.size w (wr.drewN q)) := L5.below_drewN HB.out q
          go_wp2
          go_ret
          exact ⟨rfl, HF.out⟩
end Go.Proofs.Ythhiapdmibiolaa.L7
