/- The law WindowLets: for all numbers it returns true. -/
import Derived.Test.YtfbkebdlioibpaaWBits
namespace Go.Proofs.Ytfbkebdlioibpaa.L5
open Go.ChangeShapes Go.WideShapes Go.ChangeAt Go.RowKit

theorem seen_held3 {t b : Nat} {L : List Nat} (hI : Inv t b L) {n : Nat} (hn : n < 18446744073709551616) {r : Bool} (hs : seenS L n = r) (g h : Nat) (a : Addr) (u : Value) (V : World) (k0 : V.cell? ⟨g, 0, none⟩ = some (.int .u64 t)) (k1 : V.cell? ⟨g, 1, none⟩ = some (.int .u64 b)) (k2 : V.cell? a = some u) (k3 : SetAt V h L) :
    Calls Try.prog 38 #[.agg #[.int .u64 t, .int .u64 b], .int .u64 n] V fun e w2 => e = .returned (.bool r) ∧ w2.cell? ⟨g, 0, none⟩ = some (.int .u64 t) ∧ w2.cell? ⟨g, 1, none⟩ = some (.int .u64 b) ∧ w2.cell? a = some u ∧ SetAt w2 h L ∧ Hid (Below V.heap.size V w2) := by
  refine (Seen_calls hI n hn V).mono ?_
  rintro e w2 ⟨rfl, b2⟩
  exact ⟨by rw [hs], (b2.cell (World.block_lt_of_cell? V _ k0)).trans k0, (b2.cell (World.block_lt_of_cell? V _ k1)).trans k1, (b2.cell (World.block_lt_of_cell? V _ k2)).trans k2, k3.below b2, b2⟩
theorem rseen_held {L : List Nat} {n : Nat} (hn : n < 18446744073709551616) {r : Bool} (hs : seenS L n = r) (hl : L.length ≤ 1000) (h : Nat) (V : World) (k3 : SetAt V h L) :
    Calls Try.prog 39 #[.pointer (some ⟨h, 0, none⟩), .int .u64 n] V fun e w2 => e = .returned (.bool r) ∧ V = w2 := by
  have := RSeen_calls k3 hl n hn
  rwa [hs] at this
theorem SetAt.drew {W : World} {h : Nat} {L : List Nat} (k : SetAt W h L) : SetAt W.drew h L := k.below (below_drewN (Below.refl _ W) 1)

theorem SetAt.store {W W' : World} {g h : Nat} {L : List Nat} (k : SetAt W h L) (hg : g < h) (hq : ∀ q, q ≠ g → W'.heap[q]? = W.heap[q]?) : SetAt W' h L := by
  obtain ⟨⟨A, c, h1, h2⟩, hs⟩ := k
  exact ⟨⟨A, c, (hq h (by omega)).trans h1, own_same h2 (fun q e => hq q (by have := (h2.lt q e).1; omega))⟩, hs⟩
def LetsGo (w : World) (g h : Nat) (l : List Nat) (k : Nat) (v8 : Value) (wr : World) : Prop :=
  ∃ (i t b : Nat), k + i = l.length ∧ v8 = .int .i64 i ∧ Inv t b (allS (l.take i)) ∧ WinAt wr g t b ∧ SetAt wr h (allS (l.take i)) ∧ Below g w wr

set_option maxRecDepth 100000 in
set_option maxHeartbeats 8000000 in
theorem lets_all (l : List Nat) (v : Value) (ask : Nat) (w : World) (h : URow w v l) (hask : ask < 18446744073709551616) : Calls Try.prog 6 #[v, .int .u64 ask] w (One w (.bool true)) := by
  have hU := h
  obtain ⟨⟨A, c, rfl, hk⟩, hs⟩ := h
  have HL : Hid (∀ j x : Nat, l[j]? = some x → x < 18446744073709551616 ∧ ∃ ad : Addr, A = some ad ∧ ad.block < w.heap.size ∧ w.cell? (ad.add j) = some (.int .u64 x)) := fun j x hx => ⟨hs x (List.mem_of_getElem? hx), hk j x hx⟩
  have HS := Lib.hid shown_calls
  have HAsk := Lib.hid hask
  clear hk hs
  by_cases hlen : 150 < l.length
  · have j1 : (150 : Int) < (l.length : Int) := by omega
    clear hU
    go_enter Try.func6, Try.ntmps6
    go_wp2_with fail
    refine (HS.out _).mono ?_
    rintro e w1 ⟨rfl, b1⟩
    have HB := Lib.hid b1
    clear b1
    go_wp2
    go_ret
    exact ⟨rfl, HB.out⟩
  have j1 : ¬ (150 : Int) < (l.length : Int) := by omega
  have HU := Lib.hid hU
  clear hU hask
  go_enter Try.func6, Try.ntmps6
  go_wp2_with fail
  refine (HS.out _).mono ?_
  rintro e w1 ⟨rfl, b1⟩
  have HB1 := Lib.hid b1
  have hsz1 := b1.size
  clear b1
  go_wp2
  have hN := WinAt.new w1 0 0
  obtain ⟨w2, hw2⟩ : ∃ w2, w1.alloc (.cells #[.int .u64 ((0 : Nat) : Int), .int .u64 ((0 : Nat) : Int)] 68) = w2 := ⟨_, rfl⟩
  have hw2' : w1.alloc (.cells #[.int .u64 0, .int .u64 0] 68) = w2 := hw2
  have hB2 : Below w1.heap.size w1 w2 := by rw [← hw2]; exact (Below.refl _ w1).alloc (Nat.le_refl _) _
  have hs2 : w2.heap.size = w1.heap.size + 1 := by rw [← hw2]; simp
  rw [hw2] at hN
  rw [hw2']
  obtain ⟨w3, hw3⟩ : ∃ w3, w2.alloc (.cells #[.slice none 0 0] 71) = w3 := ⟨_, rfl⟩
  have hB3 : Below w2.heap.size w2 w3 := by rw [← hw3]; exact (Below.refl _ w2).alloc (Nat.le_refl _) _
  have hset : SetAt w3 w2.heap.size [] := by rw [← hw3]; exact ⟨⟨none, 0, heap_alloc_new _ _, World.ownsRow_nil _ _ _ _⟩, by simp⟩
  rw [hw3]
  rw [hs2] at hset
  have hset0 := Lib.hid hset
  have HW0 : Hid (WinAt w3 w1.heap.size 0 0 ∧ Below w1.heap.size w1 w3) := ⟨hN.below hB3 (by omega), hB2.trans (hB3.mono (by omega))⟩
  clear hw2 hw2' hw3 hN hB2 hB3 hset hs2
  obtain ⟨hh, hhh⟩ : ∃ hh, w1.heap.size + 1 = hh := ⟨_, rfl⟩
  rw [hhh] at hset0 ⊢
  have HHH := Lib.hid hhh
  clear hhh
  go_loopg [8] l.length (fun k v8 wr => LetsGo w1 w1.heap.size hh l k v8 wr)
  case atStart => exact ⟨0, 0, 0, rfl, rfl, Inv.nil, HW0.out.1, hset0.out, HW0.out.2⟩
  case round =>
    obtain ⟨i, t, b, hk, rfl, hInv, hwin, hset, hB⟩ := hrel
    have hal := allS_len (l.take i)
    have hal2 : (allS (l.take i)).length ≤ 150 := by rw [List.length_take] at hal; omega
    by_cases hlt : i < l.length
    · obtain ⟨n1, hn1⟩ : ∃ n1, l[i]? = some n1 := ⟨_, List.getElem?_eq_getElem hlt⟩
      obtain ⟨hn64, ad, rfl, hadb, hcell⟩ := HL.out i n1 hn1
      have s1 : (i : Int) < (l.length : Int) := by omega
      have s2 : (0 : Int) ≤ (i : Int) := by omega
      have HC3 : Hid (∀ Y : World, Below w1.heap.size w1 Y → Y.cell? (ad.add i) = some (.int .u64 n1)) := fun Y hY => (hY.cell (p := ad.add i) (by rw [addr_block]; omega)).trans ((HB1.out.cell (p := ad.add i) (by rw [addr_block]; exact hadb)).trans hcell)
      have hc1 : wr.cell? (ad.add i) = some (.int .u64 n1) := HC3.out wr hB
      obtain ⟨x0, x1, _, _⟩ := hwin.cells
      have HMes := Lib.hid (show gk - 1 < gk ∧ gk - 1 + (i + 1) = l.length by omega)
      obtain ⟨r1, hr1⟩ : ∃ r, seenS (allS (l.take i)) n1 = r := ⟨_, rfl⟩
      obtain ⟨r2, hr2⟩ : ∃ r, seenS (allS (l.take i)) ask = r := ⟨_, rfl⟩
      have HC1 := Lib.hid (fun V => seen_held3 hInv hn64 hr1 w1.heap.size hh (ad.add i) (.int .u64 n1) V)
      have HC2 := Lib.hid (fun V => seen_held3 hInv HAsk.out hr2 w1.heap.size hh (ad.add i) (.int .u64 n1) V)
      have HD1 := Lib.hid (fun V => rseen_held hn64 hr1 (by omega) hh V)
      have HD2 := Lib.hid (fun V => rseen_held HAsk.out hr2 (by omega) hh V)
      have hsd := hset.drew
      have HA := Lib.hid (And.intro hInv (And.intro hwin (And.intro hset (And.intro hB (And.intro hn1 hal2)))))
      have HR1 := Lib.hid hr1
      clear hInv hwin hset hB hn1 hk hcell hadb hlt hal hal2 hr1 hr2
      generalize hLL : allS (l.take i) = L at *
      have HLL := Lib.hid hLL
      clear hLL
      cases r1
      case true =>
       cases r2
       all_goals
        go_wp2
        go_region_held3 (fun w' => w'.cell? ⟨w1.heap.size, 0, none⟩ = some (.int .u64 t) ∧ w'.cell? ⟨w1.heap.size, 1, none⟩ = some (.int .u64 b) ∧ w'.cell? (ad.add i) = some (.int .u64 n1) ∧ SetAt w' hh L) (go_keep) (first
          | (go_at_call_of 38 (Value.int .u64 (n1 : Int)); refine (HC1.out _ (by simp [*]) (by simp [*]) (by simp [*]) (by assumption)).mono ?_; rintro e' w5 ⟨rfl, hp0, hp1, hp2, hp3, HO5⟩)
          | (go_at_call_of 39 (Value.int .u64 (n1 : Int)); refine (HD1.out _ (by assumption)).mono ?_; rintro e' w6 ⟨rfl, rfl⟩)
          | (go_at_call_of 38 (Value.int .u64 (ask : Int)); refine (HC2.out _ (by simp [*]) (by simp [*]) (by simp [*]) (by assumption)).mono ?_; rintro e' w7 ⟨rfl, hq0, hq1, hq2, hq3, HO7⟩)
          | (go_at_call_of 39 (Value.int .u64 (ask : Int)); refine (HD2.out _ (by assumption)).mono ?_; rintro e' w8 ⟨rfl, rfl⟩))
        have h5 : Below wr.heap.size wr w5 := Below.trans (below_drewN (Below.refl wr.heap.size wr) 1) HO5.out
        have hB7 : Below wr.heap.size wr w7 := h5.trans (HO7.out.mono h5.size)
        obtain ⟨a1, a2, a3, a4, a5, a6⟩ := HA.out
        have win7 := a2.below hB7 a2.lt
        have set7 := a3.below hB7
        have bel7 : Below w1.heap.size w1 w7 := a4.trans (hB7.mono a4.size)
        have H7 := Lib.hid (And.intro win7 (And.intro set7 (And.intro bel7 (And.intro a1 (And.intro a5 a6)))))
        clear HO5 HO7 h5 hB7 hp0 hp1 hp2 hp3 hq3 a1 a2 a3 a4 a5 a6 win7 set7 bel7 HA hc1 x0 x1 hsd HC1 HC2 HD1 HD2
        have ne0 := World.new_ne w7 ⟨w1.heap.size, 0, none⟩ hq0
        have ne2 := World.new_ne w7 (ad.add i) hq2
        have HC := Lib.hid (fun V => let_old H7.out.2.2.2.1 hn64 HR1.out w1.heap.size w7.heap.size (ad.add i) V)
        go_wp2
        go_region_held3 (fun w' => w'.cell? ⟨w1.heap.size, 0, none⟩ = some (.int .u64 t) ∧ w'.cell? ⟨w1.heap.size, 1, none⟩ = some (.int .u64 b) ∧ w'.cell? (ad.add i) = some (.int .u64 n1)) (go_keep) (first
          | (go_at_call 40; refine (HC.out _ (by simp [*]) (by simp [*]) (by simp [*])).mono ?_; rintro e' wL ⟨rfl, hm0, hm1, hm2, hm3, hm4, HOB⟩))
        all_goals
          clear hm0 hm1 hm2 hm3 hm4 HC ne0 ne2 hq0 hq1 hq2
          first
          | (obtain ⟨X, hX, hp, hBX, _⟩ := way_a 0 0 HOB.out
             rw [hX]
             clear hX
             generalize wL.heap.size = p at hp ⊢)
          | (obtain ⟨X, hX, hp, hBX, _⟩ := way_b 0 0 HOB.out
             rw [hX]
             clear hX
             obtain ⟨p, hpp⟩ : ∃ p, w7.heap.size = p := ⟨_, rfl⟩
             rw [hpp] at hp ⊢
             clear hpp)
          obtain ⟨b1, b2, b3, b4, b5, b6⟩ := H7.out
          have winX := b1.below hBX b1.lt
          have setX := b2.below hBX
          have belX : Below w1.heap.size w1 X := b3.trans (hBX.mono b3.size)
          have hpz : WinAt X p 0 0 := hp
          obtain ⟨y0, y1, _, _⟩ := hpz.cells
          have y0' : X.cell? ⟨p, 0, none⟩ = some (.int .u64 0) := y0
          have y1' : X.cell? ⟨p, 1, none⟩ = some (.int .u64 0) := y1
          obtain ⟨x0, x1, _, _⟩ := winX.cells
          have hc1 := HC3.out X belX
          have HRL := Lib.hid (RLet_calls setX (by omega) n1 hn64)
          have HT := Lib.hid (Top_calls setX.drew (by omega))
          have HBi := Lib.hid (Bits_calls setX.drew (by omega) b4)
          rw [← b4.top] at HT
          have hfin : Hid (LetsGo w1 w1.heap.size hh l (gk - 1) (.int .i64 ((i + 1 : Nat) : Int)) X.drew) := by
            have hst : allS (l.take (i + 1)) = L := by rw [allS_take b5, HLL.out]; unfold stepS; rw [if_pos HR1.out]
            exact ⟨i + 1, t, b, HMes.out.2, rfl, by rw [hst]; exact b4, winX, by rw [hst]; exact setX.drew, below_drewN belX 1⟩
          clear b1 b2 b3 b4 b5 b6 winX setX belX hpz hp hBX HOB y0 y1 H7
          go_wp2_with fail
          refine HRL.out.mono ?_
          rintro e w9 (⟨_, rfl, rfl⟩ | ⟨hno, _⟩)
          case inr => rw [HR1.out] at hno; cases hno
          clear HRL
          go_wp2
          go_region_held3 (fun w' => w'.cell? ⟨w1.heap.size, 0, none⟩ = some (.int .u64 t) ∧ w'.cell? ⟨w1.heap.size, 1, none⟩ = some (.int .u64 b)) (go_keep) (first
            | (go_at_call 42; refine HT.out.mono ?_; rintro e' wA ⟨rfl, rfl⟩)
            | (go_at_call 43; refine HBi.out.mono ?_; rintro e' wB ⟨rfl, rfl⟩))
          go_wp2
          go_roundg (gk - 1)
          case measure => exact HMes.out.1
          case rel => simpa using hfin.out
      case false =>
       cases r2
       all_goals
        go_wp2
        go_region_held3 (fun w' => w'.cell? ⟨w1.heap.size, 0, none⟩ = some (.int .u64 t) ∧ w'.cell? ⟨w1.heap.size, 1, none⟩ = some (.int .u64 b) ∧ w'.cell? (ad.add i) = some (.int .u64 n1) ∧ SetAt w' hh L) (go_keep) (first
          | (go_at_call_of 38 (Value.int .u64 (n1 : Int)); refine (HC1.out _ (by simp [*]) (by simp [*]) (by simp [*]) (by assumption)).mono ?_; rintro e' w5 ⟨rfl, hp0, hp1, hp2, hp3, HO5⟩)
          | (go_at_call_of 39 (Value.int .u64 (n1 : Int)); refine (HD1.out _ (by assumption)).mono ?_; rintro e' w6 ⟨rfl, rfl⟩)
          | (go_at_call_of 38 (Value.int .u64 (ask : Int)); refine (HC2.out _ (by simp [*]) (by simp [*]) (by simp [*]) (by assumption)).mono ?_; rintro e' w7 ⟨rfl, hq0, hq1, hq2, hq3, HO7⟩)
          | (go_at_call_of 39 (Value.int .u64 (ask : Int)); refine (HD2.out _ (by assumption)).mono ?_; rintro e' w8 ⟨rfl, rfl⟩))
        have h5 : Below wr.heap.size wr w5 := Below.trans (below_drewN (Below.refl wr.heap.size wr) 1) HO5.out
        have hB7 : Below wr.heap.size wr w7 := h5.trans (HO7.out.mono h5.size)
        obtain ⟨a1, a2, a3, a4, a5, a6⟩ := HA.out
        have win7 := a2.below hB7 a2.lt
        have set7 := a3.below hB7
        have bel7 : Below w1.heap.size w1 w7 := a4.trans (hB7.mono a4.size)
        have H7 := Lib.hid (And.intro win7 (And.intro set7 (And.intro bel7 (And.intro a1 (And.intro a5 a6)))))
        clear HO5 HO7 h5 hB7 hp0 hp1 hp2 hp3 hq3 a1 a2 a3 a4 a5 a6 win7 set7 bel7 HA hc1 x0 x1 hsd HC1 HC2 HD1 HD2
        have ne0 := World.new_ne w7 ⟨w1.heap.size, 0, none⟩ hq0
        have ne2 := World.new_ne w7 (ad.add i) hq2
        have HC := Lib.hid (fun V => let_new H7.out.2.2.2.1 hn64 HR1.out w1.heap.size w7.heap.size (ad.add i) V)
        go_wp2
        go_region_held3 (fun w' => w'.cell? ⟨w1.heap.size, 0, none⟩ = some (.int .u64 t) ∧ w'.cell? ⟨w1.heap.size, 1, none⟩ = some (.int .u64 b) ∧ w'.cell? (ad.add i) = some (.int .u64 n1)) (go_keep) (first
          | (go_at_call 40; refine (HC.out _ (by simp [*]) (by simp [*]) (by simp [*])).mono ?_; rintro e' wL ⟨t', b', rfl, hm0, hm1, hm2, hm3, hm4, HO⟩))
        all_goals
          have HInv := Lib.hid HO.out.2
          have HOB := Lib.hid HO.out.1
          clear hm0 hm1 hm2 hm3 hm4 HC ne0 ne2 hq0 hq1 hq2 HO
          first
          | (obtain ⟨X, hX, hp, hBX, _⟩ := way_a t' b' HOB.out
             rw [hX]
             clear hX
             generalize wL.heap.size = p at hp ⊢)
          | (obtain ⟨X, hX, hp, hBX, _⟩ := way_b t' b' HOB.out
             rw [hX]
             clear hX
             obtain ⟨p, hpp⟩ : ∃ p, w7.heap.size = p := ⟨_, rfl⟩
             rw [hpp] at hp ⊢
             clear hpp)
          obtain ⟨b1, b2, b3, b4, b5, b6⟩ := H7.out
          have winX := b1.below hBX b1.lt
          have setX := b2.below hBX
          have belX : Below w1.heap.size w1 X := b3.trans (hBX.mono b3.size)
          have hpz : WinAt X p t' b' := hp
          have hc1 := HC3.out X belX
          have HRL := Lib.hid (RLet_calls setX (by omega) n1 hn64)
          have HX := Lib.hid (And.intro winX (And.intro belX (And.intro hpz (And.intro b5 b6))))
          clear b1 b2 b3 b4 b5 b6 winX setX belX hpz hp hBX HOB H7
          go_wp2_with fail
          refine HRL.out.mono ?_
          rintro e w9 (⟨hno, _⟩ | ⟨_, rfl, set9, bel9, win9⟩)
          case inl => rw [HR1.out] at hno; cases hno
          obtain ⟨winX, belX, hpz, b5, b6⟩ := HX.out
          have hhg := HHH.out
          have wg9 := win9 _ _ _ winX
          have wp9 := win9 _ _ _ hpz
          have bl9 : Below w1.heap.size w1 w9 := belX.trans (bel9.mono (by omega))
          obtain ⟨y0, y1, _, _⟩ := wp9.cells
          obtain ⟨x0, x1, f0, f1⟩ := wg9.cells
          obtain ⟨s1', Y, e1, d1, g1, e2, hA2, hs2, hBs, hqY⟩ := wg9.store t' b'
          have setY : SetAt Y hh (L ++ [n1]) := set9.store (by omega) hqY
          have belY : Below w1.heap.size w1 Y := bl9.trans (hBs _ (Nat.le_refl _))
          obtain ⟨z0, z1, _, _⟩ := hA2.cells
          have HT := Lib.hid (Top_calls setY.drew (by simp; omega))
          have HBi := Lib.hid (Bits_calls setY.drew (by simp; omega) HInv.out)
          rw [← HInv.out.top] at HT
          have hfin : Hid (LetsGo w1 w1.heap.size hh l (gk - 1) (.int .i64 ((i + 1 : Nat) : Int)) Y.drew) := by
            have hst : allS (l.take (i + 1)) = L ++ [n1] := by rw [allS_take b5, HLL.out]; unfold stepS; rw [if_neg (by rw [HR1.out]; decide)]
            exact ⟨i + 1, t', b', HMes.out.2, rfl, by rw [hst]; exact HInv.out, hA2, by rw [hst]; exact setY.drew, below_drewN belY 1⟩
          clear winX belX hpz b5 b6 wg9 wp9 bl9 hA2 hs2 hBs hqY setY belY set9 bel9 win9 HX HRL hhg
          go_wp2
          go_region_held3 (fun w' => w'.cell? ⟨w1.heap.size, 0, none⟩ = some (.int .u64 t') ∧ w'.cell? ⟨w1.heap.size, 1, none⟩ = some (.int .u64 b')) (go_keep) (first
            | (go_at_call 42; refine HT.out.mono ?_; rintro e' wA ⟨rfl, rfl⟩)
            | (go_at_call 43; refine HBi.out.mono ?_; rintro e' wB ⟨rfl, rfl⟩))
          go_wp2
          go_roundg (gk - 1)
          case measure => exact HMes.out.1
          case rel => simpa using hfin.out
    · have s1 : ¬ ((i : Int) < (l.length : Int)) := by omega
      have e : l.take i = l := List.take_of_length_le (by omega)
      rw [e] at hInv hset hal2
      generalize hLL : allS l = L at *
      obtain ⟨A3, c3, c0, f0, hk3⟩ := hset.reads
      have HUS : Hid (∀ V, Below wr.heap.size wr V → URow V (.slice A3 L.length c3) L) := fun V hV => by
        have hsv := hset.below hV
        obtain ⟨⟨A', c', h1, h2⟩, hs⟩ := hsv
        have h3 := (hV.cell (p := ⟨hh, 0, none⟩) hset.lt).trans c0
        have h4 : V.cell? ⟨hh, 0, none⟩ = some (.slice A' L.length c') := by simp only [World.cell?]; rw [h1]; rfl
        rw [h4] at h3
        cases h3
        exact URow.of_own h2 hs
      have hsm := hset.small
      have HBw := Lib.hid (HB1.out.trans (hB.mono HB1.out.size))
      have hd : Below wr.heap.size wr wr.drew := below_drewN (Below.refl wr.heap.size wr) 1
      have HAll : Hid (Calls Try.prog 45 #[.slice A l.length c] wr.drew fun e w' => ∃ v, e = .returned v ∧ w'.cell? ⟨hh, 0, none⟩ = some (.slice A3 L.length c3) ∧ Hid (Below w.heap.size w w') ∧ Hid (Calls Try.prog 44 #[v, .slice A3 L.length c3] w' fun e w2 => e = .returned (.bool true) ∧ w2.cell? ⟨hh, 0, none⟩ = some (.slice A3 L.length c3) ∧ Hid (Below w'.heap.size w' w2))) := by
        refine (All_calls l _ wr.drew (HU.out.below (HBw.out.trans (hd.mono HBw.out.size))) (by omega)).mono ?_
        rintro e w' ⟨v, rfl, h1, h2⟩
        rw [hLL] at h1
        have h2' : Below wr.heap.size wr w' := hd.trans h2
        have hc := (h2'.cell (p := ⟨hh, 0, none⟩) hset.lt).trans c0
        refine ⟨v, rfl, hc, HBw.out.trans (h2'.mono HBw.out.size), ?_⟩
        have h3 := same_calls L L v _ w' (URow.of_own h1 hsm) (HUS.out w' h2') (by omega)
        refine Calls.mono h3 ?_
        rintro e w2 ⟨rfl, h4⟩
        exact ⟨by simp, (h4.cell (World.block_lt_of_cell? w' _ hc)).trans hc, h4⟩
      clear hInv hwin hset hB hk e hal hal2 hlt HUS hsm hk3 f0 hd hLL
      go_wp2
      go_region_held3 (fun w' => w'.cell? ⟨hh, 0, none⟩ = some (.slice A3 L.length c3)) (go_keep) (first
        | (go_at_call 45; refine HAll.out.mono ?_; rintro e' w5 ⟨v5, rfl, hq0, HO5, HS5⟩)
        | (go_at_call 44; refine HS5.out.mono ?_; rintro e' w6 ⟨rfl, hq1, HO6⟩))
      go_wp2
      go_ret
      exact ⟨rfl, HO5.out.trans (HO6.out.mono HO5.out.size)⟩

end Go.Proofs.Ytfbkebdlioibpaa.L5
