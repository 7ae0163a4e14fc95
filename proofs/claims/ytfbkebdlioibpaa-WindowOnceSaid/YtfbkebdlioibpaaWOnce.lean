/- The law WindowOnce: for all numbers it returns true. -/
import Derived.Test.YtfbkebdlioibpaaWHeld
namespace Go.Proofs.Ytfbkebdlioibpaa.L5
open Go.ChangeShapes Go.WideShapes Go.ChangeAt Go.RowKit

theorem stepS_nodup {L : List Nat} (h : L.Nodup) (n : Nat) : (stepS L n).Nodup := by
  unfold stepS
  split
  · exact h
  · rename_i hs
    rw [List.nodup_append]
    refine ⟨h, by simp, fun a ha b hb => ?_⟩
    simp at hb
    rintro rfl
    apply hs
    unfold seenS
    rw [decide_eq_true_iff]
    exact .inr (.inl (hb ▸ ha))
theorem foldl_nodup (l : List Nat) : ∀ L : List Nat, L.Nodup → (l.foldl stepS L).Nodup := by
  induction l with
  | nil => intro L h; exact h
  | cons a l ih => intro L h; exact ih _ (stepS_nodup h a)
theorem allS_nodup (l : List Nat) : (allS l).Nodup := foldl_nodup l [] (by simp)
theorem foldl_more (l : List Nat) : ∀ L : List Nat, ∃ r, l.foldl stepS L = L ++ r := by
  induction l with
  | nil => intro L; exact ⟨[], by simp⟩
  | cons a l ih =>
    intro L
    obtain ⟨r, hr⟩ := ih (stepS L a)
    rw [List.foldl_cons, hr]
    unfold stepS
    split
    · exact ⟨r, rfl⟩
    · exact ⟨a :: r, by simp⟩
theorem allS_more (l : List Nat) (i : Nat) : ∃ r, allS l = allS (l.take i) ++ r := by
  obtain ⟨r, hr⟩ := foldl_more (l.drop i) (allS (l.take i))
  refine ⟨r, ?_⟩
  rw [← hr]
  unfold allS
  rw [← List.foldl_append, List.take_append_drop]
theorem allS_next {l : List Nat} {i n : Nat} (h : l[i]? = some n) (hs : seenS (allS (l.take i)) n = false) : (allS l)[(allS (l.take i)).length]? = some n := by
  obtain ⟨r, hr⟩ := allS_more l (i + 1)
  rw [hr, allS_take h]
  unfold stepS
  rw [if_neg (by rw [hs]; decide)]
  simp
theorem seenS_le {t b : Nat} {L : List Nat} (h : Inv t b L) {n : Nat} (hs : seenS L n = true) : n ≤ t := by
  unfold seenS at hs
  rw [decide_eq_true_iff, ← h.top] at hs
  rcases hs with h1 | h1 | h1
  · omega
  · exact (h.mem h1).2
  · omega
theorem allS_small {l : List Nat} (h : ∀ x ∈ l, x < 18446744073709551616) : ∀ x ∈ allS l, x < 18446744073709551616 := by
  suffices ∀ (l : List Nat), (∀ x ∈ l, x < 18446744073709551616) → ∀ L : List Nat, (∀ x ∈ L, x < 18446744073709551616) → ∀ x ∈ l.foldl stepS L, x < 18446744073709551616 from this l h [] (by simp)
  intro l
  induction l with
  | nil => intro _ L hL; exact hL
  | cons a l ih =>
    intro hl L hL
    refine ih (fun x hx => hl x (List.mem_cons_of_mem _ hx)) _ (fun x hx => ?_)
    unfold stepS at hx
    split at hx
    · exact hL x hx
    · rcases List.mem_append.1 hx with hx | hx
      · exact hL x hx
      · simp at hx
        rw [hx]
        exact hl a (by simp)

theorem seen_held2 {t b : Nat} {L : List Nat} (h : Inv t b L) {n : Nat} (hn : n < 18446744073709551616) {r : Bool} (hs : seenS L n = r) (g : Nat) (a a' : Addr) (u' : Value) (V : World) (k0 : V.cell? ⟨g, 0, none⟩ = some (.int .u64 t)) (k1 : V.cell? ⟨g, 1, none⟩ = some (.int .u64 b)) (k2 : V.cell? a = some (.int .u64 n)) (k3 : V.cell? a' = some u') :
    Calls Try.prog 38 #[.agg #[.int .u64 t, .int .u64 b], .int .u64 n] V fun e w2 => e = .returned (.bool r) ∧ w2.cell? ⟨g, 0, none⟩ = some (.int .u64 t) ∧ w2.cell? ⟨g, 1, none⟩ = some (.int .u64 b) ∧ w2.cell? a = some (.int .u64 n) ∧ w2.cell? a' = some u' ∧ Hid (Below V.heap.size V w2) := by
  refine (Seen_calls h n hn V).mono ?_
  rintro e w2 ⟨rfl, b2⟩
  exact ⟨by rw [hs], (b2.cell (World.block_lt_of_cell? V _ k0)).trans k0, (b2.cell (World.block_lt_of_cell? V _ k1)).trans k1, (b2.cell (World.block_lt_of_cell? V _ k2)).trans k2, (b2.cell (World.block_lt_of_cell? V _ k3)).trans k3, b2⟩

def OnceO (w : World) (m k : Nat) (v5 : Value) (wr : World) : Prop := ∃ i : Nat, k + i = m ∧ v5 = .int .i64 i ∧ Below w.heap.size w wr
def OnceGo (w : World) (g : Nat) (l : List Nat) (k : Nat) (v8 v9 v10 : Value) (wr : World) : Prop :=
  ∃ (i t b : Nat), k + i = l.length ∧ v10 = .int .i64 i ∧ v8 = .int .u64 t ∧ v9 = .int .i64 (allS (l.take i)).length ∧ Inv t b (allS (l.take i)) ∧ WinAt wr g t b ∧ Below g w wr

set_option maxRecDepth 100000 in
set_option maxHeartbeats 8000000 in
theorem once_all (l : List Nat) (v : Value) (w : World) (h : URow w v l) : Calls Try.prog 7 #[v] w (One w (.bool true)) := by
  have hU := h
  obtain ⟨⟨A, c, rfl, hk⟩, hs⟩ := h
  have HL : Hid (∀ j x : Nat, l[j]? = some x → x < 18446744073709551616 ∧ ∃ ad : Addr, A = some ad ∧ ad.block < w.heap.size ∧ w.cell? (ad.add j) = some (.int .u64 x)) := fun j x hx => ⟨hs x (List.mem_of_getElem? hx), hk j x hx⟩
  have HS := Lib.hid shown_calls
  have HSm := Lib.hid (allS_small hs)
  clear hk hs
  by_cases hlen : 150 < l.length
  · have j1 : (150 : Int) < (l.length : Int) := by omega
    clear hU
    go_enter Try.func7, Try.ntmps7
    go_wp2_with fail
    refine (HS.out _).mono ?_
    rintro e w1 ⟨rfl, b1⟩
    have HB := Lib.hid b1
    clear b1
    go_wp2
    go_ret
    exact ⟨rfl, HB.out⟩
  have j1 : ¬ (150 : Int) < (l.length : Int) := by omega
  have HAll := Lib.hid (fun (V : World) (hV : Below w.heap.size w V) => All_calls l _ V (hU.below hV) (by omega))
  clear hU
  go_enter Try.func7, Try.ntmps7
  go_wp2_with fail
  refine (HS.out _).mono ?_
  rintro e w1 ⟨rfl, b1⟩
  have HB1 := Lib.hid b1
  clear b1
  go_wp2_with fail
  refine (HAll.out _ HB1.out).mono ?_
  rintro e w2 ⟨v4, rfl, hrow4, b2⟩
  have hU4 := URow.of_own hrow4 HSm.out
  obtain ⟨⟨A4, c4, rfl, hk4⟩, _⟩ := hU4
  have H4 : Hid (∀ j x : Nat, (allS l)[j]? = some x → ∃ ad : Addr, A4 = some ad ∧ ad.block < w2.heap.size ∧ w2.cell? (ad.add j) = some (.int .u64 x)) := hk4
  have HB2 := Lib.hid (HB1.out.trans (b2.mono HB1.out.size))
  have HND := Lib.hid (allS_nodup l)
  have hal := allS_len l
  have hsz2 := HB2.out.size
  clear hk4 hrow4 b2 HAll HB1 HS
  go_wp2
  go_loopg [5] (allS l).length (fun k v5 wr => OnceO w2 (allS l).length k v5 wr)
  case atStart => exact ⟨0, by omega, rfl, Below.refl _ _⟩
  case round =>
    obtain ⟨i, hk, rfl, hB⟩ := hrel
    by_cases hlt : i < (allS l).length
    · have r1 : (i : Int) < ((allS l).length : Int) := by omega
      have r2 : (0 : Int) ≤ (i : Int) := by omega
      obtain ⟨x, hx⟩ : ∃ x, (allS l)[i]? = some x := ⟨_, List.getElem?_eq_getElem hlt⟩
      obtain ⟨ad4, rfl, q1, q2⟩ := H4.out i x hx
      have HG := Lib.hid (show gk + i = (allS l).length from hk)
      obtain ⟨gkO, rfl⟩ : ∃ z, z = gk := ⟨gk, rfl⟩
      have HBO := Lib.hid hB
      have HQ := Lib.hid (And.intro hx (And.intro q1 q2))
      clear hk hB hx q1 q2
      go_wp2
      go_loopg [6] i (fun k v6 wr => OnceO w2 i k v6 wr)
      case atStart => exact ⟨0, by omega, rfl, HBO.out⟩
      case round =>
        obtain ⟨j, hk, rfl, hB⟩ := hrel
        by_cases hji : j < i
        · obtain ⟨y, hy⟩ : ∃ y, (allS l)[j]? = some y := ⟨_, List.getElem?_eq_getElem (by omega)⟩
          obtain ⟨ad', e4, p1, p2⟩ := H4.out j y hy
          cases e4
          obtain ⟨hx, q1, q2⟩ := HQ.out
          have c1 : wr.cell? (ad4.add i) = some (.int .u64 x) := (hB.cell (p := ad4.add i) (by rw [addr_block]; exact q1)).trans q2
          have c2 : wr.cell? (ad4.add j) = some (.int .u64 y) := (hB.cell (p := ad4.add j) (by rw [addr_block]; exact p1)).trans p2
          have hne : y ≠ x := fun e => by
            subst e
            have h1 := (List.getElem?_inj (by omega) HND.out).1 (hy.trans hx.symm)
            omega
          have e1 : ((y : Int) == (x : Int)) = false := by rw [beq_eq_false_iff_ne]; omega
          have e2 : ¬ (y : Int) = (x : Int) := by omega
          have hfin : Hid (OnceO w2 i (gk - 1) (.int .i64 ((j + 1 : Nat) : Int)) wr.drew) := ⟨j + 1, by omega, rfl, below_drewN hB 1⟩
          have hm := Lib.hid (show gk - 1 < gk by omega)
          have s1 : (j : Int) < (i : Int) := by omega
          have s2 : (0 : Int) ≤ (j : Int) := by omega
          have s3 : (j : Int) < ((allS l).length : Int) := by omega
          clear hB hk hx q1 q2 hy p1 p2 hne
          go_wp2
          go_region_held3 (fun w' => w'.cell? (ad4.add j) = some (.int .u64 y) ∧ w'.cell? (ad4.add i) = some (.int .u64 x)) (go_keep) (fail)
          go_wp2
          go_roundg (gk - 1)
          case measure => exact hm.out
          case rel => simpa using hfin.out
        · have s1 : ¬ ((j : Int) < (i : Int)) := by omega
          have hfin : Hid (OnceO w2 (allS l).length (gkO - 1) (.int .i64 ((i + 1 : Nat) : Int)) wr) := ⟨i + 1, by have := HG.out; omega, rfl, hB⟩
          have hm := Lib.hid (show gkO - 1 < gkO by have := HG.out; omega)
          clear hB hk
          go_wp2
          go_roundg (gkO - 1)
          case measure => exact hm.out
          case rel => simpa using hfin.out
    · have r1 : ¬ ((i : Int) < ((allS l).length : Int)) := by omega
      obtain ⟨w3, rfl⟩ : ∃ z, z = wr := ⟨wr, rfl⟩
      have HB3 := Lib.hid hB
      have hsz3 := hB.size
      clear hB hk
      go_wp2
      have hN := WinAt.new w3 0 0
      obtain ⟨w4, hw4⟩ : ∃ w4, w3.alloc (.cells #[.int .u64 ((0 : Nat) : Int), .int .u64 ((0 : Nat) : Int)] 68) = w4 := ⟨_, rfl⟩
      have hw4' : w3.alloc (.cells #[.int .u64 0, .int .u64 0] 68) = w4 := hw4
      have hB4 : Below w3.heap.size w3 w4 := by rw [← hw4]; exact (Below.refl _ w3).alloc (Nat.le_refl _) _
      rw [hw4] at hN
      have H0 := Lib.hid (And.intro hN hB4)
      rw [hw4']
      clear hN hB4 hw4 hw4'
      go_loopg [8, 9, 10] l.length (fun k v8 v9 v10 wr => OnceGo w3 w3.heap.size l k v8 v9 v10 wr)
      case atStart => exact ⟨0, 0, 0, rfl, rfl, rfl, rfl, Inv.nil, H0.out.1, H0.out.2⟩
      case round =>
        obtain ⟨i, t, b, hk, rfl, rfl, rfl, hInv, hwin, hB⟩ := hrel
        by_cases hlt : i < l.length
        · obtain ⟨n1, hn1⟩ : ∃ n1, l[i]? = some n1 := ⟨_, List.getElem?_eq_getElem hlt⟩
          obtain ⟨hn64, ad, rfl, hadb, hcell⟩ := HL.out i n1 hn1
          have s1 : (i : Int) < (l.length : Int) := by omega
          have s2 : (0 : Int) ≤ (i : Int) := by omega
          have HC3 : Hid (∀ (Y : World) (a : Addr) (u : Value), Below w3.heap.size w3 Y → a.block < w2.heap.size → w2.cell? a = some u → Y.cell? a = some u) := fun Y a u hY ha hu => (hY.cell (p := a) (by omega)).trans ((HB3.out.cell (p := a) ha).trans hu)
          have hcell2 : w2.cell? (ad.add i) = some (.int .u64 n1) := (HB2.out.cell (p := ad.add i) (by rw [addr_block]; exact hadb)).trans hcell
          have hadb2 : (ad.add i).block < w2.heap.size := by rw [addr_block]; omega
          have hc1 : wr.cell? (ad.add i) = some (.int .u64 n1) := HC3.out wr _ _ hB hadb2 hcell2
          obtain ⟨x0, x1, _, _⟩ := hwin.cells
          have hlg := hwin.lt
          have ne0 := World.new_ne wr ⟨w3.heap.size, 0, none⟩ x0
          have ne2 := World.new_ne wr (ad.add i) hc1
          have hm := Lib.hid (show gk - 1 < gk by omega)
          cases hs : seenS (allS (l.take i)) n1 with
          | true =>
            have hle := seenS_le hInv hs
            have t1 : ¬ ((t : Int) < (n1 : Int)) := by omega
            have HC := Lib.hid (fun V => let_old hInv hn64 hs w3.heap.size wr.heap.size (ad.add i) V)
            have hfin : Hid (∀ X, Below wr.heap.size wr X → OnceGo w3 w3.heap.size l (gk - 1) (.int .u64 t) (.int .i64 (allS (l.take i)).length) (.int .i64 ((i + 1 : Nat) : Int)) X ∧ X.cell? (ad.add i) = some (.int .u64 n1)) := fun X hX => by
              have hst : allS (l.take (i + 1)) = allS (l.take i) := by rw [allS_take hn1]; unfold stepS; rw [if_pos hs]
              exact ⟨⟨i + 1, t, b, by omega, rfl, rfl, by rw [hst], by rw [hst]; exact hInv, hwin.below hX hlg, hB.trans (hX.mono hB.size)⟩, (hX.cell (World.block_lt_of_cell? wr _ hc1)).trans hc1⟩
            clear hs hInv hwin hB hk hn1 hlg hcell hadb hlt hle hcell2 hadb2 HC3
            go_wp2
            go_region_held3 (fun w' => w'.cell? ⟨w3.heap.size, 0, none⟩ = some (.int .u64 t) ∧ w'.cell? ⟨w3.heap.size, 1, none⟩ = some (.int .u64 b) ∧ w'.cell? (ad.add i) = some (.int .u64 n1)) (go_keep) (first
              | (go_at_call 40; refine (HC.out _ (by simp [*]) (by simp [*]) (by simp [*])).mono ?_; rintro e' w5 ⟨rfl, hq0, hq1, hq2, hq3, hq4, HO⟩))
            all_goals
              clear hq0 hq1 hq2 hq3 hq4 HC ne0 ne2 x0 x1 hc1
              first
              | (obtain ⟨X, hX, _, hBX, _⟩ := way_a 0 0 HO.out
                 rw [hX]
                 clear hX
                 generalize w5.heap.size = p)
              | (obtain ⟨X, hX, _, hBX, _⟩ := way_b 0 0 HO.out
                 rw [hX]
                 clear hX
                 obtain ⟨p, hpp⟩ : ∃ p, wr.heap.size = p := ⟨_, rfl⟩
                 rw [hpp]
                 clear hpp)
              obtain ⟨hf1, hc1⟩ := hfin.out X hBX
              have HX := Lib.hid hf1
              clear hfin hBX HO hf1
              go_wp2
              go_roundg (gk - 1)
              case measure => exact hm.out
              case rel => simpa using HX.out
          | false =>
            have hnx := allS_next hn1 hs
            obtain ⟨ad4, rfl, q1, q2⟩ := H4.out _ n1 hnx
            have hmet : (allS (l.take i)).length < (allS l).length := (List.getElem?_eq_some_iff.1 hnx).1
            obtain ⟨m, hmm⟩ : ∃ m, (allS (l.take i)).length = m := ⟨_, rfl⟩
            rw [hmm] at hmet q2 hnx
            have s3 : (m : Int) < ((allS l).length : Int) := by omega
            have s4 : (0 : Int) ≤ (m : Int) := by omega
            have s5 : decide (((allS l).length : Int) ≤ (m : Int)) = false := by rw [decide_eq_false_iff_not]; omega
            have s6 : ¬ (allS l).length ≤ m := by omega
            have s7 : ¬ (((allS l).length : Int) ≤ (m : Int)) := by omega
            have hc4 : wr.cell? (ad4.add m) = some (.int .u64 n1) := HC3.out wr _ _ hB (by rw [addr_block]; exact q1) q2
            have HC := Lib.hid (fun V => let_new hInv hn64 hs w3.heap.size wr.heap.size (ad.add i) V)
            have HSelf : Hid (seenS (allS (l.take i) ++ [n1]) n1 = true) := by
              show seenS (allS (l.take i) ++ [n1]) n1 = true
              unfold seenS
              rw [decide_eq_true_iff]
              exact .inr (.inl (by simp))
            have hfin : Hid (∀ X t' b', Below wr.heap.size wr X → Inv t' b' (allS (l.take i) ++ [n1]) → X.cell? (ad.add i) = some (.int .u64 n1) ∧ X.cell? (ad4.add m) = some (.int .u64 n1) ∧ t' = max t n1 ∧ ∀ X2, Below X.heap.size X X2 → ∃ s1 s2, X2.cell? ⟨w3.heap.size, 0, none⟩ = some (.int .u64 t) ∧ X2.frozen? ⟨w3.heap.size, 0, none⟩ = false ∧ X2.setCell ⟨w3.heap.size, 0, none⟩ (.int .u64 t') = s1 ∧ s1.cell? ⟨w3.heap.size, 1, none⟩ = some (.int .u64 b) ∧ s1.frozen? ⟨w3.heap.size, 1, none⟩ = false ∧ s1.setCell ⟨w3.heap.size, 1, none⟩ (.int .u64 b') = s2 ∧ s2.cell? (ad.add i) = some (.int .u64 n1) ∧ Hid (OnceGo w3 w3.heap.size l (gk - 1) (.int .u64 t') (.int .i64 ((m + 1 : Nat) : Int)) (.int .i64 ((i + 1 : Nat) : Int)) s2)) := fun X t' b' hX hI => by
              have hst : allS (l.take (i + 1)) = allS (l.take i) ++ [n1] := by rw [allS_take hn1]; unfold stepS; rw [if_neg (by rw [hs]; decide)]
              refine ⟨(hX.cell (World.block_lt_of_cell? wr _ hc1)).trans hc1, (hX.cell (World.block_lt_of_cell? wr _ hc4)).trans hc4, by rw [hI.top, topL_snoc, ← hInv.top], fun X2 hX2 => ?_⟩
              have hX' : Below wr.heap.size wr X2 := hX.trans (hX2.mono hX.size)
              have hw := hwin.below hX' hlg
              obtain ⟨s1, s2, e1, d1, g1, e2, hA2, hs2, hBs, hq2⟩ := hw.store t' b'
              have hBf : Below w3.heap.size w3 s2 := (hB.trans (hX'.mono hB.size)).trans (hBs _ (Nat.le_refl _))
              exact ⟨s1, s2, hw.cells.1, hw.cells.2.2.1, e1, d1, g1, e2, HC3.out s2 _ _ hBf hadb2 hcell2, i + 1, t', b', by omega, rfl, rfl, by rw [hst, List.length_append, hmm]; rfl, by rw [hst]; exact hI, hA2, hBf⟩
            rw [hmm]
            have hcase : ((t : Int) < (n1 : Int)) ∨ ¬ ((t : Int) < (n1 : Int)) := by omega
            clear hs hInv hwin hB hk hn1 hlg hcell hadb hlt hcell2 hadb2 HC3 hmm hnx q1 q2 hmet
            rcases hcase with t1 | t1
            all_goals
              go_wp2
              go_region_held3 (fun w' => w'.cell? ⟨w3.heap.size, 0, none⟩ = some (.int .u64 t) ∧ w'.cell? ⟨w3.heap.size, 1, none⟩ = some (.int .u64 b) ∧ w'.cell? (ad.add i) = some (.int .u64 n1)) (go_keep) (first
                | (go_at_call 40; refine (HC.out _ (by simp [*]) (by simp [*]) (by simp [*])).mono ?_; rintro e' w5 ⟨t', b', rfl, hq0, hq1, hq2, hq3, hq4, HO⟩))
              all_goals
                clear hq0 hq1 hq2 hq3 hq4 HC ne0 ne2 x0 x1 hc1 hc4
                first
                | (obtain ⟨X0, hX, hp, hBX, _⟩ := way_a t' b' HO.out.1
                   rw [hX]
                   clear hX
                   generalize w5.heap.size = p at hp ⊢)
                | (obtain ⟨X0, hX, hp, hBX, _⟩ := way_b t' b' HO.out.1
                   rw [hX]
                   clear hX
                   obtain ⟨p, hpp⟩ : ∃ p, wr.heap.size = p := ⟨_, rfl⟩
                   rw [hpp] at hp ⊢
                   clear hpp)
                have hN : WinAt X0 p t' b' := hp
                obtain ⟨y0, y1, _, _⟩ := hN.cells
                obtain ⟨hc1, hc4, htt, hst⟩ := hfin.out X0 t' b' hBX HO.out.2
                have HT := Lib.hid htt
                have HSt := Lib.hid hst
                have HCS := Lib.hid (fun V => seen_held2 HO.out.2 hn64 HSelf.out p (ad.add i) (ad4.add m) (.int .u64 n1) V)
                clear hfin hBX HO hp htt hst
                go_wp2
                go_region_held3 (fun w' => w'.cell? ⟨p, 0, none⟩ = some (.int .u64 t') ∧ w'.cell? ⟨p, 1, none⟩ = some (.int .u64 b') ∧ w'.cell? (ad.add i) = some (.int .u64 n1) ∧ w'.cell? (ad4.add m) = some (.int .u64 n1)) (go_keep) (first
                  | (go_at_call 38; refine (HCS.out _ (by simp [*]) (by simp [*]) (by simp [*]) (by simp [*])).mono ?_; rintro e' w6 ⟨rfl, hq0, hq1, hq2, hq3, HO⟩))
                obtain ⟨s1, s2, z0, z1, e1, z2, z3, e2, z4, HX⟩ := HSt.out w6 (Below.trans (below_drewN (Below.refl X0.heap.size X0) 1) HO.out)
                clear HO HCS y0 y1 hc1 hc4 HSt
                go_wp2
                go_roundg (gk - 1)
                case measure => exact hm.out
                case rel =>
                  have h1 := HX.out
                  have h3 := HT.out
                  first
                  | (have h2 : t' = n1 := by omega
                     rw [h2] at h1
                     simpa using h1)
                  | (have h2 : t' = t := by omega
                     rw [h2] at h1
                     simpa using h1)
        · have s1 : ¬ ((i : Int) < (l.length : Int)) := by omega
          have e : l.take i = l := List.take_of_length_le (by omega)
          rw [e]
          have hz : seenS (allS (l.take i)) 0 = true := by unfold seenS; simp
          have HSeen := Lib.hid (fun V => Seen_calls hInv 0 (by decide) V)
          rw [hz] at HSeen
          have HSeen0 : Hid (∀ V : World, Calls Try.prog 38 #[.agg #[.int .u64 t, .int .u64 b], .int .u64 0] V (One V (.bool true))) := HSeen.out
          obtain ⟨x0, x1, _, _⟩ := hwin.cells
          have HB5 := Lib.hid ((HB2.out.trans (HB3.out.mono HB2.out.size)).trans (hB.mono (by omega)))
          clear hInv hwin hB hk e hz HSeen
          go_wp2_with fail
          refine (HSeen0.out _).mono ?_
          rintro e w3 ⟨rfl, b3⟩
          have HB6 := Lib.hid (HB5.out.trans (b3.mono HB5.out.size))
          clear b3
          go_wp2
          go_ret
          exact ⟨rfl, HB6.out⟩

end Go.Proofs.Ytfbkebdlioibpaa.L5
