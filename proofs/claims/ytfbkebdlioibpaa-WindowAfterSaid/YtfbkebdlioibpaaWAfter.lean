/- The law WindowAfter: for all numbers it returns true. -/
import Derived.Test.YtfbkebdlioibpaaWHeld
namespace Go.Proofs.Ytfbkebdlioibpaa.L5
open Go.ChangeShapes Go.WideShapes Go.ChangeAt Go.RowKit

def AftGo (w : World) (g : Nat) (l : List Nat) (k : Nat) (v7 : Value) (wr : World) : Prop :=
  ∃ (i t b : Nat), k + i = l.length ∧ v7 = .int .i64 i ∧ Inv t b (allS (l.take i)) ∧ WinAt wr g t b ∧ Below g w wr
def AftIn (w : World) (g t b i : Nat) (k : Nat) (v10 : Value) (wr : World) : Prop :=
  ∃ (j : Nat), k + j = i ∧ v10 = .int .i64 j ∧ WinAt wr g t b ∧ Below g w wr

set_option maxRecDepth 100000 in
set_option maxHeartbeats 4000000 in
theorem after_all (l : List Nat) (v : Value) (n : Nat) (w : World) (h : URow w v l) (hn : n < 18446744073709551616) : Calls Try.prog 10 #[v, .int .u64 n] w (One w (.bool true)) := by
  obtain ⟨⟨A, c, rfl, hk⟩, hs⟩ := h
  have HL : Hid (∀ j x : Nat, l[j]? = some x → x < 18446744073709551616 ∧ ∃ ad : Addr, A = some ad ∧ ad.block < w.heap.size ∧ w.cell? (ad.add j) = some (.int .u64 x)) := fun j x hx => ⟨hs x (List.mem_of_getElem? hx), hk j x hx⟩
  have HS := Lib.hid shown_calls
  clear hk hs
  by_cases hlen : 100 < l.length
  · have j1 : (100 : Int) < (l.length : Int) := by omega
    go_enter Try.func10, Try.ntmps10
    go_wp2_with fail
    refine (HS.out _).mono ?_
    rintro e w1 ⟨rfl, b1⟩
    have HB := Lib.hid b1
    clear b1
    go_wp2
    go_ret
    exact ⟨rfl, HB.out⟩
  have j1 : ¬ (100 : Int) < (l.length : Int) := by omega
  go_enter Try.func10, Try.ntmps10
  go_wp2_with fail
  refine (HS.out _).mono ?_
  rintro e w1 ⟨rfl, b1⟩
  have hsz := b1.size
  have HB1 := Lib.hid b1
  clear b1
  go_wp2
  have hN := WinAt.new w1 0 0
  obtain ⟨w2, hw2⟩ : ∃ w2, w1.alloc (.cells #[.int .u64 ((0 : Nat) : Int), .int .u64 ((0 : Nat) : Int)] 68) = w2 := ⟨_, rfl⟩
  have hw2' : w1.alloc (.cells #[.int .u64 0, .int .u64 0] 68) = w2 := hw2
  have hB2 : Below w1.heap.size w1 w2 := by rw [← hw2]; exact (Below.refl _ w1).alloc (Nat.le_refl _) _
  rw [hw2] at hN
  have H0 := Lib.hid (And.intro hN hB2)
  rw [hw2']
  clear hN hB2 hw2 hw2'
  go_loopg [7] l.length (fun k v7 wr => AftGo w1 w1.heap.size l k v7 wr)
  case atStart => exact ⟨0, 0, 0, rfl, rfl, Inv.nil, H0.out.1, H0.out.2⟩
  case round =>
    obtain ⟨i, t, b, hk, rfl, hInv, hwin, hB⟩ := hrel
    by_cases hlt : i < l.length
    · obtain ⟨n1, hn1⟩ : ∃ n1, l[i]? = some n1 := ⟨_, List.getElem?_eq_getElem hlt⟩
      obtain ⟨hn64, ad, rfl, hadb, hcell⟩ := HL.out i n1 hn1
      have j1 : (i : Int) < (l.length : Int) := by omega
      have j2 : (0 : Int) ≤ (i : Int) := by omega
      have hc1 : wr.cell? (ad.add i) = some (.int .u64 n1) := (hB.cell (p := ad.add i) (by rw [addr_block]; omega)).trans ((HB1.out.cell (p := ad.add i) (by rw [addr_block]; exact hadb)).trans hcell)
      obtain ⟨x0, x1, _, _⟩ := hwin.cells
      have hlg := hwin.lt
      have ne0 := World.new_ne wr ⟨w1.heap.size, 0, none⟩ x0
      have ne2 := World.new_ne wr (ad.add i) hc1
      have HGK := Lib.hid hk
      obtain ⟨gkO, rfl⟩ : ∃ x, x = gk := ⟨gk, rfl⟩
      have HIn : Hid (∀ Y : World, Below w1.heap.size w1 Y → ∀ j, j < l.length → ∃ n2, l[j]? = some n2 ∧ n2 < 18446744073709551616 ∧ Y.cell? (ad.add j) = some (.int .u64 n2)) := fun Y hY j hj => by
        obtain ⟨n2, hn2⟩ : ∃ n2, l[j]? = some n2 := ⟨_, List.getElem?_eq_getElem hj⟩
        obtain ⟨q1, ad', e, q2, q3⟩ := HL.out j n2 hn2
        cases e
        exact ⟨n2, hn2, q1, (hY.cell (p := ad.add j) (by rw [addr_block]; omega)).trans ((HB1.out.cell (p := ad.add j) (by rw [addr_block]; exact q2)).trans q3)⟩
      have HSeenAll : Hid (∀ j n2, j < i + 1 → l[j]? = some n2 → seenS (allS (l.take (i + 1))) n2 = true) := fun j n2 hj hn2 => seenS_all hj hn2 (by omega)
      have HN1 := Lib.hid hn1
      have HLt := Lib.hid hlt
      cases hs : seenS (allS (l.take i)) n1 with
      | true =>
        have HC := Lib.hid (fun V => let_old hInv hn64 hs w1.heap.size wr.heap.size (ad.add i) V)
        have hfin : Hid (∀ X, Below wr.heap.size wr X → ∃ t2 b2, Inv t2 b2 (allS (l.take (i + 1))) ∧ WinAt X w1.heap.size t2 b2 ∧ Below w1.heap.size w1 X) := fun X hX => ⟨t, b, by rw [allS_take hn1]; unfold stepS; rw [if_pos hs]; exact hInv, hwin.below hX hlg, hB.trans (hX.mono hB.size)⟩
        clear hs hInv hwin hB hk hn1 hlg hcell hadb hlt
        go_wp2
        go_region_held3 (fun w' => w'.cell? ⟨w1.heap.size, 0, none⟩ = some (.int .u64 t) ∧ w'.cell? ⟨w1.heap.size, 1, none⟩ = some (.int .u64 b) ∧ w'.cell? (ad.add i) = some (.int .u64 n1)) (go_keep) (first
          | (go_at_call 40; refine (HC.out _ (by simp [*]) (by simp [*]) (by simp [*])).mono ?_; rintro e' w2 ⟨rfl, hq0, hq1, hq2, hq3, hq4, HO⟩))
        all_goals
          clear hq0 hq1 hq2 hq3 hq4 HC ne0 ne2 x0 x1 hc1
          first
          | (obtain ⟨X, hX, _, hBX, _⟩ := way_a 0 0 HO.out
             rw [hX]
             clear hX
             generalize w2.heap.size = p)
          | (obtain ⟨X, hX, _, hBX, _⟩ := way_b 0 0 HO.out
             rw [hX]
             clear hX
             obtain ⟨p, hpp⟩ : ∃ p, wr.heap.size = p := ⟨_, rfl⟩
             rw [hpp]
             clear hpp)
          obtain ⟨t2, b2, hInv2, hwin2, hB2⟩ := hfin.out X hBX
          clear hfin hBX HO
          obtain ⟨n1', hn1', hn64', hc1⟩ := HIn.out X hB2 i HLt.out
          have hs2 := HSeenAll.out i n1' (by omega) hn1'
          rw [HN1.out] at hn1'
          cases hn1'
          have HC := Lib.hid (fun V => seen_held hInv2 hn64 hs2 w1.heap.size (ad.add i) V)
          obtain ⟨x0, x1, _, _⟩ := hwin2.cells
          have HW2 := Lib.hid (And.intro hInv2 (And.intro hwin2 hB2))
          clear hInv2 hwin2 hB2 hs2 hn64'
          go_wp2
          go_region_held3 (fun w' => w'.cell? ⟨w1.heap.size, 0, none⟩ = some (.int .u64 t2) ∧ w'.cell? ⟨w1.heap.size, 1, none⟩ = some (.int .u64 b2) ∧ w'.cell? (ad.add i) = some (.int .u64 n1)) (go_keep) (first
            | (go_at_call 38; refine (HC.out _ (by simp [*]) (by simp [*]) (by simp [*])).mono ?_; rintro e' w3 ⟨rfl, hq0, hq1, hq2, HO⟩))
          have hB3 : Below X.heap.size X w3 := Below.trans (below_drewN (Below.refl X.heap.size X) 1) HO.out
          have HW3 := Lib.hid (And.intro (HW2.out.2.1.below hB3 HW2.out.2.1.lt) (HW2.out.2.2.trans (hB3.mono HW2.out.2.2.size)))
          clear HC x0 x1 hc1 hq0 hq1 hq2 HO hB3
          go_wp2
          go_loopg [10] i (fun k v10 wr => AftIn w1 w1.heap.size t2 b2 i k v10 wr)
          case atStart => exact ⟨0, by omega, rfl, HW3.out.1, HW3.out.2⟩
          case round =>
            obtain ⟨j, hk2, rfl, hwin4, hB4⟩ := hrel
            by_cases hji : j < i
            · obtain ⟨n2, hn2, hn264, hc2⟩ := HIn.out _ hB4 j (by have := HLt.out; omega)
              have HC := Lib.hid (fun V => seen_held HW2.out.1 hn264 (HSeenAll.out j n2 (by omega) hn2) w1.heap.size (ad.add j) V)
              obtain ⟨x0, x1, _, _⟩ := hwin4.cells
              have hfin : Hid (∀ X2, Below wr.heap.size wr X2 → AftIn w1 w1.heap.size t2 b2 i (gk - 1) (.int .i64 ((j + 1 : Nat) : Int)) X2) := fun X2 hX2 => ⟨j + 1, by omega, rfl, hwin4.below hX2 hwin4.lt, hB4.trans (hX2.mono hB4.size)⟩
              have hm := Lib.hid (show gk - 1 < gk by omega)
              have r1 : (j : Int) < (i : Int) := by omega
              have r2 : (0 : Int) ≤ (j : Int) := by omega
              have r3 : (j : Int) < (l.length : Int) := by have := HLt.out; omega
              clear hwin4 hB4 hk2 hn2
              go_wp2
              go_region_held3 (fun w' => w'.cell? ⟨w1.heap.size, 0, none⟩ = some (.int .u64 t2) ∧ w'.cell? ⟨w1.heap.size, 1, none⟩ = some (.int .u64 b2) ∧ w'.cell? (ad.add j) = some (.int .u64 n2)) (go_keep) (first
                | (go_at_call 38; refine (HC.out _ (by simp [*]) (by simp [*]) (by simp [*])).mono ?_; rintro e' w4 ⟨rfl, hq0, hq1, hq2, HO⟩))
              have HX4 := Lib.hid (hfin.out w4 (Below.trans (below_drewN (Below.refl wr.heap.size wr) 1) HO.out))
              clear hq0 hq1 hq2 HO HC x0 x1 hc2 hfin
              go_wp2
              go_roundg (gk - 1)
              case measure => exact hm.out
              case rel => simpa using HX4.out
            · have r1 : ¬ ((j : Int) < (i : Int)) := by omega
              have HX4 : Hid (AftGo w1 w1.heap.size l (gkO - 1) (.int .i64 ((i + 1 : Nat) : Int)) wr) := ⟨i + 1, t2, b2, by have := HGK.out; have := HLt.out; omega, rfl, HW2.out.1, hwin4, hB4⟩
              clear hwin4 hB4 hk2
              go_wp2
              go_roundg (gkO - 1)
              case measure => have := HGK.out; have := HLt.out; omega
              case rel => simpa using HX4.out
      | false =>
        have HC := Lib.hid (fun V => let_new hInv hn64 hs w1.heap.size wr.heap.size (ad.add i) V)
        have hfin : Hid (∀ X t' b', Below wr.heap.size wr X → Inv t' b' (allS (l.take i) ++ [n1]) → ∃ s1 s2, X.cell? ⟨w1.heap.size, 0, none⟩ = some (.int .u64 t) ∧ X.frozen? ⟨w1.heap.size, 0, none⟩ = false ∧ X.setCell ⟨w1.heap.size, 0, none⟩ (.int .u64 t') = s1 ∧ s1.cell? ⟨w1.heap.size, 1, none⟩ = some (.int .u64 b) ∧ s1.frozen? ⟨w1.heap.size, 1, none⟩ = false ∧ s1.setCell ⟨w1.heap.size, 1, none⟩ (.int .u64 b') = s2 ∧ ∃ t2 b2, Inv t2 b2 (allS (l.take (i + 1))) ∧ WinAt s2 w1.heap.size t2 b2 ∧ Below w1.heap.size w1 s2) := fun X t' b' hX hI => by
          have hw := hwin.below hX hlg
          obtain ⟨s1, s2, e1, d1, g1, e2, hA2, hs2, hBs, hq2⟩ := hw.store t' b'
          exact ⟨s1, s2, hw.cells.1, hw.cells.2.2.1, e1, d1, g1, e2, t', b', by rw [allS_take hn1]; unfold stepS; rw [if_neg (by rw [hs]; decide)]; exact hI, hA2, (hB.trans (hX.mono hB.size)).trans (hBs _ (Nat.le_refl _))⟩
        clear hs hInv hwin hB hk hn1 hlg hcell hadb hlt
        go_wp2
        go_region_held3 (fun w' => w'.cell? ⟨w1.heap.size, 0, none⟩ = some (.int .u64 t) ∧ w'.cell? ⟨w1.heap.size, 1, none⟩ = some (.int .u64 b) ∧ w'.cell? (ad.add i) = some (.int .u64 n1)) (go_keep) (first
          | (go_at_call 40; refine (HC.out _ (by simp [*]) (by simp [*]) (by simp [*])).mono ?_; rintro e' w2 ⟨t', b', rfl, hq0, hq1, hq2, hq3, hq4, HO⟩))
        all_goals
          clear hq0 hq1 hq2 hq3 hq4 HC ne0 ne2 x0 x1 hc1
          first
          | (obtain ⟨X0, hX, hp, hBX, _⟩ := way_a t' b' HO.out.1
             rw [hX]
             clear hX
             generalize w2.heap.size = p at hp ⊢)
          | (obtain ⟨X0, hX, hp, hBX, _⟩ := way_b t' b' HO.out.1
             rw [hX]
             clear hX
             obtain ⟨p, hpp⟩ : ∃ p, wr.heap.size = p := ⟨_, rfl⟩
             rw [hpp] at hp ⊢
             clear hpp)
          have hN : WinAt X0 p t' b' := hp
          obtain ⟨y0, y1, _, _⟩ := hN.cells
          obtain ⟨s1, X, z0, z1, e1, z2, z3, e2, hX2⟩ := hfin.out X0 t' b' hBX HO.out.2
          clear hfin hBX HO hp hN
          obtain ⟨t2, b2, hInv2, hwin2, hB2⟩ := hX2
          obtain ⟨n1', hn1', hn64', hc1⟩ := HIn.out X hB2 i HLt.out
          have hs2 := HSeenAll.out i n1' (by omega) hn1'
          rw [HN1.out] at hn1'
          cases hn1'
          have HC := Lib.hid (fun V => seen_held hInv2 hn64 hs2 w1.heap.size (ad.add i) V)
          obtain ⟨x0, x1, _, _⟩ := hwin2.cells
          have HW2 := Lib.hid (And.intro hInv2 (And.intro hwin2 hB2))
          clear hInv2 hwin2 hB2 hs2 hn64'
          go_wp2
          go_region_held3 (fun w' => w'.cell? ⟨w1.heap.size, 0, none⟩ = some (.int .u64 t2) ∧ w'.cell? ⟨w1.heap.size, 1, none⟩ = some (.int .u64 b2) ∧ w'.cell? (ad.add i) = some (.int .u64 n1)) (go_keep) (first
            | (go_at_call 38; refine (HC.out _ (by simp [*]) (by simp [*]) (by simp [*])).mono ?_; rintro e' w3 ⟨rfl, hq0, hq1, hq2, HO⟩))
          have hB3 : Below X.heap.size X w3 := Below.trans (below_drewN (Below.refl X.heap.size X) 1) HO.out
          have HW3 := Lib.hid (And.intro (HW2.out.2.1.below hB3 HW2.out.2.1.lt) (HW2.out.2.2.trans (hB3.mono HW2.out.2.2.size)))
          clear HC x0 x1 hc1 hq0 hq1 hq2 HO hB3
          go_wp2
          go_loopg [10] i (fun k v10 wr => AftIn w1 w1.heap.size t2 b2 i k v10 wr)
          case atStart => exact ⟨0, by omega, rfl, HW3.out.1, HW3.out.2⟩
          case round =>
            obtain ⟨j, hk2, rfl, hwin4, hB4⟩ := hrel
            by_cases hji : j < i
            · obtain ⟨n2, hn2, hn264, hc2⟩ := HIn.out _ hB4 j (by have := HLt.out; omega)
              have HC := Lib.hid (fun V => seen_held HW2.out.1 hn264 (HSeenAll.out j n2 (by omega) hn2) w1.heap.size (ad.add j) V)
              obtain ⟨x0, x1, _, _⟩ := hwin4.cells
              have hfin : Hid (∀ X2, Below wr.heap.size wr X2 → AftIn w1 w1.heap.size t2 b2 i (gk - 1) (.int .i64 ((j + 1 : Nat) : Int)) X2) := fun X2 hX2 => ⟨j + 1, by omega, rfl, hwin4.below hX2 hwin4.lt, hB4.trans (hX2.mono hB4.size)⟩
              have hm := Lib.hid (show gk - 1 < gk by omega)
              have r1 : (j : Int) < (i : Int) := by omega
              have r2 : (0 : Int) ≤ (j : Int) := by omega
              have r3 : (j : Int) < (l.length : Int) := by have := HLt.out; omega
              clear hwin4 hB4 hk2 hn2
              go_wp2
              go_region_held3 (fun w' => w'.cell? ⟨w1.heap.size, 0, none⟩ = some (.int .u64 t2) ∧ w'.cell? ⟨w1.heap.size, 1, none⟩ = some (.int .u64 b2) ∧ w'.cell? (ad.add j) = some (.int .u64 n2)) (go_keep) (first
                | (go_at_call 38; refine (HC.out _ (by simp [*]) (by simp [*]) (by simp [*])).mono ?_; rintro e' w4 ⟨rfl, hq0, hq1, hq2, HO⟩))
              have HX4 := Lib.hid (hfin.out w4 (Below.trans (below_drewN (Below.refl wr.heap.size wr) 1) HO.out))
              clear hq0 hq1 hq2 HO HC x0 x1 hc2 hfin
              go_wp2
              go_roundg (gk - 1)
              case measure => exact hm.out
              case rel => simpa using HX4.out
            · have r1 : ¬ ((j : Int) < (i : Int)) := by omega
              have HX4 : Hid (AftGo w1 w1.heap.size l (gkO - 1) (.int .i64 ((i + 1 : Nat) : Int)) wr) := ⟨i + 1, t2, b2, by have := HGK.out; have := HLt.out; omega, rfl, HW2.out.1, hwin4, hB4⟩
              clear hwin4 hB4 hk2
              go_wp2
              go_roundg (gkO - 1)
              case measure => have := HGK.out; have := HLt.out; omega
              case rel => simpa using HX4.out
    · have j1 : ¬ ((i : Int) < (l.length : Int)) := by omega
      have HLet := Lib.hid (fun V => Let_calls hInv n hn V)
      have HSeen := Lib.hid (fun V => Seen_calls hInv n hn V)
      obtain ⟨x0, x1, _, _⟩ := hwin.cells
      have HB := Lib.hid (HB1.out.trans (hB.mono HB1.out.size))
      have hlg := hwin.lt
      clear hInv hwin hB hk
      go_wp2_with fail
      refine (HLet.out _).mono ?_
      rintro e w2 ⟨b2, ⟨hs, rfl⟩ | ⟨hs, t', b', _, rfl⟩⟩
      · have c0 := (b2.cell (p := ⟨w1.heap.size, 0, none⟩) hlg).trans x0
        have c1 := (b2.cell (p := ⟨w1.heap.size, 1, none⟩) hlg).trans x1
        have HB2 := Lib.hid (HB.out.trans (b2.mono HB.out.size))
        rw [hs] at HSeen
        have hl2 : w1.heap.size < w2.heap.size := Nat.lt_of_lt_of_le hlg b2.size
        have ne := World.new_ne w2 ⟨w1.heap.size, 0, none⟩ c0
        clear b2 x0 x1 hs
        go_wp2_with fail
        refine (HSeen.out _).mono ?_
        rintro e w3 ⟨rfl, b3⟩
        have HB3 := Lib.hid ((HB2.out.alloc HB2.out.size _).trans (b3.mono (by have := HB2.out.size; simp; omega)))
        clear b3
        go_wp2
        go_ret
        exact ⟨rfl, HB3.out⟩
      · have c0 := (b2.cell (p := ⟨w1.heap.size, 0, none⟩) hlg).trans x0
        have c1 := (b2.cell (p := ⟨w1.heap.size, 1, none⟩) hlg).trans x1
        have HB2 := Lib.hid (HB.out.trans (b2.mono HB.out.size))
        rw [hs] at HSeen
        have hl2 : w1.heap.size < w2.heap.size := Nat.lt_of_lt_of_le hlg b2.size
        have ne := World.new_ne w2 ⟨w1.heap.size, 0, none⟩ c0
        clear b2 x0 x1 hs
        go_wp2_with fail
        refine (HSeen.out _).mono ?_
        rintro e w3 ⟨rfl, b3⟩
        have HB3 := Lib.hid ((HB2.out.alloc HB2.out.size _).trans (b3.mono (by have := HB2.out.size; simp; omega)))
        clear b3
        go_wp2
        go_ret
        exact ⟨rfl, HB3.out⟩

end Go.Proofs.Ytfbkebdlioibpaa.L5
