/- rows: of each of three senders a row, cut to some length. -/
import Derived.Test.YtkalmfhebffklaaCtShown
import Derived.Test.YtkalmfhebffklaaWord
namespace Go.Proofs.Ytkalmfhebffklaa.L11
open Go.ChangeShapes Go.WideShapes Go.ChangeAt Go.RowKit Go.Deep

/-- A row of ints that came in. -/
structure IntsI (w : World) (v : Value) (xs : List Int) : Prop where
  reads : ∃ A c, v = .slice A xs.length c ∧ ∀ j x, xs[j]? = some x → ∃ ad : Addr, A = some ad ∧ ad.block < w.heap.size ∧ w.cell? (ad.add j) = some (.int .i64 x) ∧ isInt x
  few : xs.length ≤ maxLen
theorem IntsI.below {w W : World} {v : Value} {xs : List Int} (h : IntsI w v xs) (hb : Below w.heap.size w W) : IntsI W v xs := by
  obtain ⟨A, c, e, hr⟩ := h.reads
  refine ⟨⟨A, c, e, fun j x hx => ?_⟩, h.few⟩
  obtain ⟨ad, e2, h1, h2, h3⟩ := hr j x hx
  exact ⟨ad, e2, Nat.lt_of_lt_of_le h1 hb.size, (hb.cell (p := ad.add j) (by rw [addr_blockC]; exact h1)).trans h2, h3⟩
def numT (n : Nat) : Bytes := 117 :: Tm.be8 n
theorem numT_short (n : Nat) : (numT n).length ≤ maxLen := by simp [numT, Tm.be8, maxLen]
def numsL (s n : Nat) : List Bytes := (List.range n).map fun i => numT (100 * s + i)
theorem numsL_len (s n : Nat) : (numsL s n).length = n := by simp [numsL]
theorem numsL_succ (s n : Nat) : numsL s (n + 1) = numsL s n ++ [numT (100 * s + n)] := by simp [numsL, List.range_succ]
def nOf (xs : List Int) (s : Nat) : Nat := if s ≤ xs.length then pickN (xs.getD (s - 1) 0) 6 else 0
def rowOne (f : Nat → Nat) (s : Nat) : List LCore := if f s = 0 then [] else [((s : Int), numsL s (f s))]
def rowsC (f : Nat → Nat) (t : Nat) : List LCore := (List.range t).flatMap fun j => rowOne f (j + 1)
theorem rowsC_succ (f : Nat → Nat) (t : Nat) : rowsC f (t + 1) = rowsC f t ++ rowOne f (t + 1) := by simp [rowsC, List.range_succ]
def RowsGo (w : World) (xs : List Int) (k : Nat) (v3 v4 : Value) (wr : World) : Prop :=
  ∃ (s : Nat) (ls : List Lg), k + s = 4 ∧ 1 ≤ s ∧ v4 = .int .i64 s ∧ ls.map Lg.core = rowsC (nOf xs) (s - 1) ∧ ls.length ≤ s ∧ (∀ l ∈ ls, OwnIt wr w.heap.size l.it ∧ isInt l.se) ∧
    wr.ownsRow w.heap.size 76 2 v3 ls.length (flatG ls) ∧ Below w.heap.size w wr
def RowI (W1 : World) (s n k : Nat) (v6 v7 : Value) (wr : World) : Prop :=
  ∃ i : Nat, k + i = n ∧ v7 = .int .i64 i ∧ wr.ownsRow W1.heap.size 31 1 v6 i (txt (numsL s i)) ∧ Below W1.heap.size W1 wr
set_option maxRecDepth 100000 in
set_option maxHeartbeats 8000000 in
theorem rows_calls {v : Value} {xs : List Int} (w : World) (h : IntsI w v xs) : Calls Try.prog 33 #[v] w (LogsOut w (rowsC (nOf xs) 3)) := by
  obtain ⟨i0, hi, hz0, hz1, hz2⟩ := info_partsC info_log
  obtain ⟨j0, hj, hy0, hy1, hy2⟩ := info_parts info_term
  obtain ⟨⟨A, c, rfl, hr⟩, hf⟩ := h
  have HR := Lib.hid hr
  unfold maxLen at hf
  clear hr
  go_enter Try.func33, Try.ntmps33
  go_wp2
  go_loopg [3, 4] 3 (fun k v3 v4 wr => RowsGo w xs k v3 v4 wr)
  case atStart => exact ⟨1, [], rfl, by omega, rfl, rfl, by simp, by simp, World.ownsRow_nil _ _ _ _, Below.refl _ _⟩
  case round =>
    obtain ⟨s, ls, hk, hs1, rfl, hco, hll, hit, hrow, hB⟩ := hrel
    by_cases hs3 : s ≤ 3
    · have j1 : (s : Int) ≤ 3 := by omega
      have j0' : (1 : Int) ≤ (s : Int) := by omega
      have hgk := Lib.hid (show gk - 1 < gk by omega)
      obtain ⟨g0, hg0⟩ : ∃ g0, gk - 1 = g0 := ⟨_, rfl⟩
      rw [hg0] at hgk
      have hgs : g0 + (s + 1) = 4 := by omega
      have hbs := hB.size
      obtain ⟨A9, c9, rfl⟩ := L5.own_slice hrow
      have HNo : Hid (nOf xs s = 0 → ∀ V, Below wr.heap.size wr V → RowsGo w xs g0 (.slice A9 ls.length c9) (.int .i64 ((s + 1 : Nat) : Int)) V) := fun h0 V hV => by
        refine ⟨s + 1, ls, hgs, by omega, rfl, ?_, by omega, fun l hl => ⟨⟨L5.own_below (hit l hl).1.own hV, (hit l hl).1.short⟩, (hit l hl).2⟩, L5.own_below hrow hV, hB.trans (hV.mono hbs)⟩
        rw [show s + 1 - 1 = (s - 1) + 1 by omega, rowsC_succ, hco, rowOne, show s - 1 + 1 = s by omega, if_pos h0, List.append_nil]
      have HYes : Hid (∀ n V (v6 : Value), n = nOf xs s → n ≠ 0 → Below wr.heap.size wr V → V.ownsRow wr.heap.size 31 1 v6 n (txt (numsL s n)) → ∃ (A : Option Addr) (c : Nat), v6 = .slice A n c ∧
          (V.alloc (.cells #[.int .i64 s, .slice A n c] 76)).ownsRow w.heap.size 76 2 (.slice A9 ls.length c9) ls.length (flatG ls) ∧
          (∀ (j : Nat) (u : Value), [Value.int .i64 s, .slice A n c][j]? = some u → (V.alloc (.cells #[.int .i64 s, .slice A n c] 76)).cell? ((⟨V.heap.size, 0, none⟩ : Addr).add j) = some u) ∧ ls.length ≤ 10 ∧ w.heap.size ≤ V.heap.size ∧
          ∀ v' W', W'.ownsRow w.heap.size 76 2 v' (ls.length + 1) (flatG ls ++ [.int .i64 s, .slice A n c]) → (V.alloc (.cells #[.int .i64 s, .slice A n c] 76)).grownBy W' (Value.slice A9 ls.length c9).ownBlock → RowsGo w xs g0 v' (.int .i64 ((s + 1 : Nat) : Int)) W') := by
        intro n V v6 hn hn0 hV h6
        have h6' : V.ownsRow w.heap.size 31 1 v6 (numsL s n).length (txt (numsL s n)) := by rw [numsL_len]; exact h6.mono hbs
        have hsh : ∀ z ∈ numsL s n, z.length ≤ maxLen := fun z hz => by
          obtain ⟨i, _, rfl⟩ := List.mem_map.1 hz
          exact numT_short _
        obtain ⟨A, c, rfl⟩ := L5.own_slice h6
        have hO : OwnIt V w.heap.size ⟨A, c, numsL s n⟩ := ⟨by simp only [It.v]; rw [numsL_len] at h6' ⊢; exact h6', hsh⟩
        have hr := L5.own_below hrow hV
        refine ⟨A, c, rfl, hr.alloc _, fun j u hu => ?_, by omega, Nat.le_trans hbs hV.size, fun v' W' k1 k2 => ?_⟩
        · rw [add_zeroC]
          simp only [World.cell?]
          rw [World.alloc_heap_new V _]
          simpa using hu
        · have k3 := (World.grownBy_alloc V (.cells #[.int .i64 s, .slice A n c] 76) (Value.slice A9 ls.length c9).ownBlock).trans k2
          refine ⟨s + 1, ls ++ [⟨s, ⟨A, c, numsL s n⟩⟩], hgs, by omega, rfl, ?_, by simp; omega, fun l hl => ?_, ?_, (hB.trans (hV.mono hbs)).grown k3 (Nat.le_trans hbs hV.size) (fun q e => (hr.lt q e).1)⟩
          · rw [show s + 1 - 1 = (s - 1) + 1 by omega, rowsC_succ, List.map_append, hco, rowOne, show s - 1 + 1 = s by omega, ← hn, if_neg hn0]
            rfl
          · rcases List.mem_append.1 hl with hl | hl
            · exact ⟨(OwnIt.mk (L5.own_below (hit l hl).1.own hV) (hit l hl).1.short).grown hr (of_decide_eq_true (by kernel_rfl)) k3, (hit l hl).2⟩
            · simp at hl
              subst hl
              exact ⟨hO.grown hr (of_decide_eq_true (by kernel_rfl)) k3, isInt_small s (by omega)⟩
          · rw [flatG_snoc, List.length_append]
            simp only [Lg.cells, It.v, numsL_len]
            exact k1
      have hns : nOf xs s < 6 := by
        unfold nOf
        split
        · exact pickN_lt _ (by omega)
        · omega
      by_cases hsx : s ≤ xs.length
      · obtain ⟨x, hx⟩ : ∃ x, xs[s - 1]? = some x := ⟨_, List.getElem?_eq_getElem (by omega)⟩
        obtain ⟨ad, rfl, hadb, hcx, hxi⟩ := HR.out (s - 1) x hx
        have c1 : wr.cell? (ad.add (s - 1)) = some (.int .i64 x) := (hB.cell (p := ad.add (s - 1)) (by rw [addr_blockC]; exact hadb)).trans hcx
        have hn : nOf xs s = pickN x 6 := by
          unfold nOf
          rw [if_pos hsx, List.getD, hx]
          rfl
        have HP := Lib.hid (pick_is hxi (n := 6) (by omega) (by omega) wr)
        obtain ⟨s1, hs1'⟩ : ∃ s1, s = s1 + 1 := ⟨s - 1, by omega⟩
        subst hs1'
        rw [show s1 + 1 - 1 = s1 by omega] at c1
        have k1 : ((s1 + 1 : Nat) : Int) ≤ (xs.length : Int) := by omega
        have k2 : ((s1 + 1 : Nat) : Int) - 1 = (s1 : Int) := by omega
        have k3 : (0 : Int) ≤ (s1 : Int) := by omega
        have k4 : (s1 : Int) < (xs.length : Int) := by omega
        rw [hn] at HNo HYes hns
        obtain ⟨n, hnn⟩ : ∃ n, pickN x 6 = n := ⟨_, rfl⟩
        rw [hnn] at HNo HYes HP hns
        have HN := Lib.hid hnn
        clear hn hk hco hll hit hrow hB hx hadb hcx hnn hg0 hsx
        go_wp2_with fail
        refine HP.out.mono ?_
        rintro e w5 ⟨rfl, rfl⟩
        go_wp2
        have HSt : Hid (RowI wr (s1 + 1) n n (.slice none 0 0) (.int .i64 0) wr) := ⟨0, by omega, rfl, World.ownsRow_nil _ _ _ _, Below.refl _ _⟩
        clear HP c1 k1 k2 k3 k4 HR
        obtain ⟨W0, hW0⟩ : ∃ W0, W0 = wr := ⟨_, rfl⟩
        obtain ⟨B0, hB0⟩ : ∃ B0, W0.heap.size = B0 := ⟨_, rfl⟩
        rw [← hW0] at HSt HNo HYes
        rw [hB0] at HNo HYes
        go_loopg [6, 7] n (fun k v6 v7 w2 => RowI W0 (s1 + 1) n k v6 v7 w2)
        case atStart => rw [← hW0]; exact HSt.out
        clear HSt hW0
        case round =>
          obtain ⟨i, hk, rfl, hrow, hB⟩ := hrel
          by_cases hin : i < n
          · have m1 : (i : Int) < (n : Int) := by omega
            have m2 : (0 : Int) ≤ (i : Int) := by omega
            have hgk2 := Lib.hid (show gk - 1 < gk by omega)
            have HNum : Hid (∀ V, Calls Try.prog 35 #[.int .u64 (100 * ((s1 : Int) + 1) + (i : Int))] V (One V (.string ⟨(numT (100 * (s1 + 1) + i)).toArray⟩))) := fun V => by
              rw [show (100 * ((s1 : Int) + 1) + (i : Int)) = ((100 * (s1 + 1) + i : Nat) : Int) by omega]
              exact Number_calls (100 * (s1 + 1) + i) (by omega) V
            obtain ⟨A6, c6, rfl⟩ := L5.own_slice hrow
            have HRw : Hid (∀ V, Below wr.heap.size wr V → (V.alloc (.cells #[.string ⟨(numT (100 * (s1 + 1) + i)).toArray⟩] 31)).ownsRow B0 31 1 (.slice A6 i c6) i (txt (numsL (s1 + 1) i)) ∧ B0 ≤ V.heap.size ∧
                ∀ v' w1, w1.ownsRow B0 31 1 v' (i + 1) (txt (numsL (s1 + 1) i) ++ [.string ⟨(numT (100 * (s1 + 1) + i)).toArray⟩]) → (V.alloc (.cells #[.string ⟨(numT (100 * (s1 + 1) + i)).toArray⟩] 31)).grownBy w1 (Value.slice A6 i c6).ownBlock → RowI W0 (s1 + 1) n (gk - 1) v' (.int .i64 ((i + 1 : Nat) : Int)) w1) := fun V hV => by
              have hr := L5.own_below hrow hV
              have hb := hB.trans (hV.mono hB.size)
              have hbz := hb.size
              rw [hB0] at hr hb hbz
              refine ⟨hr.alloc _, hbz, fun v' w1 k1 k2 => ⟨i + 1, by omega, rfl, ?_, ?_⟩⟩
              · rw [numsL_succ, txt_append, hB0]; exact k1
              · rw [hB0]; exact (hb.alloc hbz _).grown k2 (Nat.le_trans hbz (by simp)) (fun q e => (hr.lt q e).1)
            clear hk hrow hB
            go_wp2_with fail
            refine (HNum.out _).mono ?_
            rintro e w6 ⟨rfl, b6⟩
            obtain ⟨r1, r2, r3⟩ := HRw.out w6 b6
            have HR1 := Lib.hid r1
            have HR3 := Lib.hid r3
            clear r1 r3 b6 HRw HNum
            generalize numT (100 * (s1 + 1) + i) = tx at *
            go_wp2_with (at_builtin; refine wpList_append_own _ rfl _ _ 30 rfl B0 31 j0 (.string ⟨#[]⟩) 1 16 Try.underlying30 hj hy0 hy1 hy2 rfl (by decide) _ _ _ rfl HR1.out ⟨w6.heap.size, 0, none⟩ 1 1 [.string ⟨tx.toArray⟩] rfl rfl (cell_one_new _ _ _) (by simp [Value.oneCell']) (by unfold maxLen; omega) (by omega) (by simp; omega) ?_; intro v' w1 hown' hgrow _; have HJ := Lib.hid (HR3.out v' w1 hown' hgrow); clear hown' hgrow)
            go_roundg (gk - 1)
            case measure => exact hgk2.out
            case rel => exact HJ.out
          · obtain rfl : i = n := by omega
            have m1 : ¬ (i : Int) < (i : Int) := by omega
            rw [hB0] at hrow hB
            by_cases hn0 : i = 0
            · subst hn0
              have HF := Lib.hid (HNo.out rfl wr hB)
              clear hk hrow hB HYes HNo
              go_wp2
              go_roundg g0
              case measure => exact hgk.out
              case rel => exact HF.out
            · obtain ⟨A6, c6, rfl, q1, q2, q3, q4, q5⟩ := HYes.out i wr u6 rfl hn0 hB hrow
              have m3 : (0 : Int) < (i : Int) := by omega
              have e1 : ((s1 + 1 : Nat) : Int) = (s1 : Int) + 1 := by omega
              rw [e1] at q1 q2 q5
              have HQ1 := Lib.hid q1
              have HQ2 := Lib.hid q2
              have HQ5 := Lib.hid q5
              clear hk hrow hB HYes HNo q1 q2 q5 hn0
              go_wp2_with (at_builtin; refine wpList_append_own _ rfl _ _ 22 rfl w.heap.size 76 i0 zeroLg 2 32 Try.underlying22 hi hz0 hz1 hz2 rfl (by decide) _ _ _ rfl HQ1.out ⟨wr.heap.size, 0, none⟩ 1 1 [.int .i64 ((s1 : Int) + 1), .slice A6 i c6] rfl rfl HQ2.out (by simp [Value.oneCell']) (by unfold maxLen; omega) (by omega) (by simp; omega) ?_; intro v' w1 hown' hgrow _; have HJ := Lib.hid (HQ5.out v' w1 hown' hgrow); clear hown' hgrow)
              go_roundg g0
              case measure => exact hgk.out
              case rel => exact HJ.out
      · have j2 : ¬ (s : Int) ≤ (xs.length : Int) := by omega
        have hn : nOf xs s = 0 := by unfold nOf; rw [if_neg hsx]
        have HF := Lib.hid (HNo.out hn)
        obtain ⟨W0, hW0⟩ : ∃ W0, W0 = wr := ⟨_, rfl⟩
        rw [← hW0] at HF
        clear hk hco hll hit hrow hB HYes HNo hg0 hns hn hsx hbs HR
        go_wp2
        go_loopg [6, 7] 0 (fun _ v6 v7 w2 => v6 = .slice none 0 0 ∧ v7 = .int .i64 0 ∧ w2 = W0)
        case atStart => exact ⟨rfl, rfl, hW0.symm⟩
        clear hW0
        case round =>
          obtain ⟨rfl, rfl, rfl⟩ := hrel
          have HJ := Lib.hid (HF.out _ (Below.refl _ _))
          clear HF
          go_wp2
          go_roundg g0
          case measure => exact hgk.out
          case rel => exact HJ.out
    · obtain rfl : s = 4 := by omega
      have HF : Hid (∀ v, v = u3 → LogsOut w (rowsC (nOf xs) 3) (.returned v) wr) := fun v e => by
        subst e
        exact ⟨_, ls, rfl, hco, LogsA.of_own hrow (by unfold maxLen; omega) (fun l hl => ⟨(hit l hl).1.at, (hit l hl).2⟩), hB⟩
      clear hk hco hit hrow hB hll
      go_wp2
      go_ret
      exact HF.out _ rfl
end Go.Proofs.Ytkalmfhebffklaa.L11
