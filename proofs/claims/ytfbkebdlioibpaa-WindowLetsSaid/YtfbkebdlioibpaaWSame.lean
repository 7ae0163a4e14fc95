/- Contracts of the statements' own same, shown and pick. -/
import Derived.Test.YtfbkebdlioibpaaWAll
namespace Go.Proofs.Ytfbkebdlioibpaa.L5
open Go.ChangeShapes Go.WideShapes Go.ChangeAt Go.RowKit

def SameGo (w : World) (a b : List Nat) (k : Nat) (v5 : Value) (wr : World) : Prop := ∃ i : Nat, k + i = a.length ∧ v5 = .int .i64 i ∧ a.take i = b.take i ∧ Below w.heap.size w wr

set_option maxRecDepth 100000 in
set_option maxHeartbeats 2000000 in
theorem same_calls (a b : List Nat) (va vb : Value) (w : World) (ha : URow w va a) (hb : URow w vb b) (hl : a.length ≤ 1000) : Calls Try.prog 44 #[va, vb] w (One w (.bool (decide (a = b)))) := by
  obtain ⟨⟨A, c, rfl, hka⟩, hsa⟩ := ha
  obtain ⟨⟨B, d, rfl, hkb⟩, hsb⟩ := hb
  by_cases hlen : a.length = b.length
  · have HA : Hid (∀ j x : Nat, a[j]? = some x → ∃ ad : Addr, A = some ad ∧ ad.block < w.heap.size ∧ w.cell? (ad.add j) = some (.int .u64 x)) := hka
    have HB : Hid (∀ j x : Nat, b[j]? = some x → ∃ ad : Addr, B = some ad ∧ ad.block < w.heap.size ∧ w.cell? (ad.add j) = some (.int .u64 x)) := hkb
    have HLen := Lib.hid hlen
    rw [← hlen]
    clear hka hkb hsa hsb hlen
    go_enter Try.func44, Try.ntmps44
    go_wp2
    go_loopg [5] a.length (fun k v5 wr => SameGo w a b k v5 wr)
    case atStart => exact ⟨0, rfl, rfl, rfl, Below.refl _ _⟩
    case round =>
      obtain ⟨i, hk, rfl, htk, hBl⟩ := hrel
      by_cases hlt : i < a.length
      · obtain ⟨x, hx⟩ : ∃ x, a[i]? = some x := ⟨_, List.getElem?_eq_getElem hlt⟩
        obtain ⟨y, hy⟩ : ∃ y, b[i]? = some y := ⟨_, List.getElem?_eq_getElem (by have := HLen.out; omega)⟩
        obtain ⟨ad, rfl, ha1, ha2⟩ := HA.out i x hx
        obtain ⟨bd, rfl, hb1, hb2⟩ := HB.out i y hy
        have j1 : (i : Int) < (a.length : Int) := by omega
        have j2 : (0 : Int) ≤ (i : Int) := by omega
        have c1 : wr.cell? (ad.add i) = some (.int .u64 x) := (hBl.cell (p := ad.add i) (by rw [addr_block]; exact ha1)).trans ha2
        have c2 : wr.cell? (bd.add i) = some (.int .u64 y) := (hBl.cell (p := bd.add i) (by rw [addr_block]; exact hb1)).trans hb2
        have hd : Hid (Below w.heap.size w wr.drew) := below_drewN hBl 1
        by_cases hxy : x = y
        · subst hxy
          have hfin : Hid (SameGo w a b (a.length - (i + 1)) (.int .i64 ((i + 1 : Nat) : Int)) wr.drew) := ⟨i + 1, by omega, rfl, by rw [List.take_add_one, List.take_add_one, hx, hy, htk], hd.out⟩
          have hm := Lib.hid (show a.length - (i + 1) < gk by omega)
          clear ha1 ha2 hb1 hb2 hx hy htk hBl hk
          go_wp2
          go_region_held3 (fun w' => w'.cell? (ad.add i) = some (.int .u64 x) ∧ w'.cell? (bd.add i) = some (.int .u64 x)) (go_keep) (fail)
          go_wp2
          go_roundg (a.length - (i + 1))
          case measure => exact hm.out
          case rel => simpa using hfin.out
        · have e1 : ((x : Int) == (y : Int)) = false := by rw [beq_eq_false_iff_ne]; omega
          have e2 : ¬ (x : Int) = (y : Int) := by omega
          have hne : Hid (decide (a = b) = false) := by
            show decide (a = b) = false
            rw [decide_eq_false_iff_not]
            rintro rfl
            rw [hx] at hy
            cases hy
            exact hxy rfl
          clear ha1 ha2 hb1 hb2 hx hy htk hBl hk hxy
          go_wp2
          go_region_held3 (fun w' => w'.cell? (ad.add i) = some (.int .u64 x) ∧ w'.cell? (bd.add i) = some (.int .u64 y)) (go_keep) (fail)
          go_wp2
          go_ret
          exact ⟨by rw [hne.out]; rfl, hd.out⟩
      · have j1 : ¬ ((i : Int) < (a.length : Int)) := by omega
        have hfin : Hid (decide (a = b) = true) := by
          show decide (a = b) = true
          rw [decide_eq_true_iff]
          have h1 := HLen.out
          rwa [List.take_of_length_le (by omega), List.take_of_length_le (by omega)] at htk
        have HBl := Lib.hid hBl
        clear hk htk hBl
        go_wp2
        go_ret
        exact ⟨by rw [hfin.out]; rfl, HBl.out⟩
  · have e1 : ((a.length : Int) == (b.length : Int)) = false := by rw [beq_eq_false_iff_ne]; omega
    have e2 : ¬ (a.length : Int) = (b.length : Int) := by omega
    have hne : Hid (decide (a = b) = false) := by
      show decide (a = b) = false
      rw [decide_eq_false_iff_not]
      rintro rfl
      exact hlen rfl
    clear hka hkb hsa hsb hlen
    go_enter Try.func44, Try.ntmps44
    go_wp2
    go_ret
    exact ⟨by rw [hne.out]; rfl, Below.refl _ _⟩

theorem new_row (w : World) (zs : List Nat) (hs : ∀ x ∈ zs, x < 18446744073709551616) (t : TypeId) (c : Nat) : URow (w.alloc (.cells (nums zs).toArray t)) (.slice (some ⟨w.heap.size, 0, none⟩) zs.length c) zs := by
  refine ⟨⟨_, c, rfl, fun j x hx => ⟨_, rfl, by simp, ?_⟩⟩, hs⟩
  have e2 : ((⟨w.heap.size, 0, none⟩ : Addr).add j) = ⟨w.heap.size, j, none⟩ := by
    simp [Addr.add]
    omega
  rw [e2]
  simp only [World.cell?]
  rw [heap_alloc_new]
  simp [nums, hx]

theorem shown_all : allS [1, 3, 2, 3, 70, 5, 69] = [1, 3, 2, 70, 69] := by decide

set_option maxRecDepth 100000 in
set_option maxHeartbeats 2000000 in
theorem shown_calls (w : World) : Calls Try.prog 37 #[] w (One w (.bool true)) := by
  have h1 : URow (w.alloc (.cells #[.int .u64 1, .int .u64 3, .int .u64 2, .int .u64 3, .int .u64 70, .int .u64 5, .int .u64 69] 30)) (.slice (some ⟨w.heap.size, 0, none⟩) 7 7) [1, 3, 2, 3, 70, 5, 69] := new_row w [1, 3, 2, 3, 70, 5, 69] (by decide) _ _
  have hB : Below w.heap.size w (w.alloc (.cells #[.int .u64 1, .int .u64 3, .int .u64 2, .int .u64 3, .int .u64 70, .int .u64 5, .int .u64 69] 30)) := (Below.refl _ w).alloc (Nat.le_refl _) _
  obtain ⟨w0, hw0⟩ : ∃ w0, w.alloc (.cells #[.int .u64 1, .int .u64 3, .int .u64 2, .int .u64 3, .int .u64 70, .int .u64 5, .int .u64 69] 30) = w0 := ⟨_, rfl⟩
  rw [hw0] at h1 hB
  have HA := Lib.hid (All_calls _ _ _ h1 (by simp))
  have HB := Lib.hid hB
  clear h1 hB
  go_enter Try.func37, Try.ntmps37
  go_wp2_with fail
  refine HA.out.mono ?_
  rintro e w1 ⟨v, rfl, hrow, b1⟩
  rw [shown_all] at hrow
  have hBa : Below w1.heap.size w1 (w1.alloc (.cells #[.int .u64 1, .int .u64 3, .int .u64 2, .int .u64 70, .int .u64 69] 30)) := (Below.refl _ w1).alloc (Nat.le_refl _) _
  have h2 : URow (w1.alloc (.cells #[.int .u64 1, .int .u64 3, .int .u64 2, .int .u64 70, .int .u64 69] 30)) (.slice (some ⟨w1.heap.size, 0, none⟩) 5 5) [1, 3, 2, 70, 69] := new_row w1 [1, 3, 2, 70, 69] (by decide) _ _
  obtain ⟨w2, hw2⟩ : ∃ w2, w1.alloc (.cells #[.int .u64 1, .int .u64 3, .int .u64 2, .int .u64 70, .int .u64 69] 30) = w2 := ⟨_, rfl⟩
  rw [hw2] at h2 hBa
  have h3 := (URow.of_own hrow (by decide)).below hBa
  have HS := Lib.hid (same_calls _ _ _ _ _ h3 h2 (by simp))
  have HB2 := Lib.hid (HB.out.trans ((b1.trans (hBa.mono b1.size)).mono HB.out.size))
  clear h2 h3 hBa hrow b1
  go_wp2_with fail
  refine HS.out.mono ?_
  rintro e w3 ⟨rfl, b3⟩
  have HB3 := Lib.hid (HB2.out.trans (b3.mono HB2.out.size))
  clear b3
  go_wp2
  go_ret
  exact ⟨rfl, HB3.out⟩

def pickN (c : Int) (n : Nat) : Nat := (if c < 0 then -(c + 1) else c).toNat % n
theorem pickN_lt (c : Int) (n : Nat) (h : 0 < n) : pickN c n < n := Nat.mod_lt _ h
set_option maxHeartbeats 400000 in
theorem pick_calls (c : Int) (n : Nat) (h1 : -9223372036854775808 ≤ c) (h2 : c ≤ 9223372036854775807) (hn : 0 < n) (hn2 : n ≤ 1000) (w : World) :
    Calls Try.prog 46 #[.int .i64 c, .int .i64 n] w fun e w' => e = .returned (.int .i64 (pickN c n)) ∧ w = w' := by
  have hz : ((n : Int) == 0) = false := by simp; omega
  have hz2 : ¬ (n : Int) = 0 := by omega
  by_cases hc : c < 0
  · obtain ⟨m, hm⟩ : ∃ m : Nat, -(c + 1) = m := ⟨(-(c + 1)).toNat, by omega⟩
    have hp : pickN c n = m % n := by unfold pickN; rw [if_pos hc, hm]; rfl
    rw [hp]
    have k1 : (0 : Int) ≤ (m : Int) := by omega
    have k2 : (m : Int) ≤ 9223372036854775807 := by omega
    have hcc : c = -(m : Int) - 1 := by omega
    have HM := Lib.hid hm
    clear hm hp
    subst hcc
    go_enter Try.func46, Try.ntmps46
    go_wp2
    all_goals first | omega | (go_ret; exact ⟨by simp, rfl⟩)
  · obtain ⟨m, rfl⟩ : ∃ m : Nat, c = m := ⟨c.toNat, by omega⟩
    have hp : pickN (m : Int) n = m % n := by unfold pickN; rw [if_neg hc]; rfl
    rw [hp]
    clear hp
    go_enter Try.func46, Try.ntmps46
    go_wp2
    all_goals first | omega | (go_ret; exact ⟨by simp, rfl⟩)

end Go.Proofs.Ytfbkebdlioibpaa.L5
