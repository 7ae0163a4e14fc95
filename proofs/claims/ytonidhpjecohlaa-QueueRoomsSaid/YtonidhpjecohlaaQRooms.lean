/- The law QueueRooms: for all rooms and pops it returns true. -/
import Derived.Test.YtonidhpjecohlaaQWord
import Derived.Test.YtonidhpjecohlaaQActs
namespace Go.Proofs.Ytonidhpjecohlaa.L6
open Go.ChangeShapes Go.WideShapes Go.ChangeAt Go.RowKit L5

structure FillGo (w : World) (g c n k : Nat) (v9 : Value) (wr : World) : Prop where
  ex : ∃ i : Nat, k + i = n ∧ v9 = .int .i64 i ∧ QAt wr g c n (nums 0 i) ∧ Below w.heap.size w wr
structure TurnGo (w : World) (g c n m k : Nat) (v11 : Value) (wr : World) : Prop where
  ex : ∃ i : Nat, k + i = m ∧ v11 = .int .i64 i ∧ QAt wr g c n (nums i n) ∧ Below w.heap.size w wr
structure LookGo (w : World) (g c n m : Nat) (v14 : Value) (B k : Nat) (v15 : Value) (wr : World) : Prop where
  ex : ∃ i : Nat, k + i = n ∧ v15 = .int .i64 i ∧ QAt wr g c n (nums m n) ∧ wr.ownsRow B 35 1 v14 n (strV (nums m n)) ∧ Below w.heap.size w wr

set_option maxRecDepth 100000 in
set_option maxHeartbeats 8000000 in
theorem rooms_all (room pops : Int) (w : World) (hr : isInt room) (hp : isInt pops) : Calls Try.prog 6 #[.int .i64 room, .int .i64 pops] w (One w (.bool true)) := by
  have HS := Lib.hid shown_calls
  have HN := Lib.hid Number_num
  have HP1 := Lib.hid (fun V => pick_is hr (n := 30) (by omega) (by omega) V)
  have hlt := pickN_lt room (n := 30) (by omega)
  generalize pickN room 30 = r at *
  obtain ⟨n, hn⟩ : ∃ n, 1 + r = n := ⟨_, rfl⟩
  have hnI : (1 : Int) + (r : Int) = (n : Int) := by omega
  have hnb1 : (1 : Int) ≤ (n : Int) := by omega
  have hnb2 : (n : Int) ≤ 30 := by omega
  have HNb := Lib.hid (show 1 ≤ n ∧ n ≤ 30 by omega)
  have hrb : (r : Int) ≤ 29 := by omega
  have HP2 := Lib.hid (fun V => pick_is hp (n := n + 1) (by omega) (by omega) V)
  have hlt2 := pickN_lt pops (n := n + 1) (by omega)
  generalize pickN pops (n + 1) = m at *
  have HM := Lib.hid (Nat.le_of_lt_succ hlt2)
  have HNew := Lib.hid (fun V => (New_calls n V).mono (fun e w' h => h.2 n rfl HNb.out.1 (by have := HNb.out.2; omega)))
  obtain ⟨n1, hn1⟩ : ∃ n1, n1 = n + 1 := ⟨_, rfl⟩
  have hn1I : (n : Int) + 1 = (n1 : Int) := by omega
  rw [← hn1] at HP2
  clear hr hp hlt hn hlt2 hn1
  go_enter Try.func6, Try.ntmps6
  go_wp2_with fail
  refine (HS.out _).mono ?_
  rintro e w1 ⟨rfl, b1⟩
  have HB := Lib.hid b1
  clear b1
  go_wp2_with fail
  refine (HP1.out _).mono ?_
  rintro e w2 ⟨rfl, rfl⟩
  go_wp2_with fail
  refine (HNew.out _).mono ?_
  rintro e w2 ⟨rfl, hq, hb, hs⟩
  have H2 : Hid (FillGo w (w1.heap.size + 1) w1.heap.size n n (.int .i64 0) w2 ∧ w.heap.size ≤ w1.heap.size) :=
    ⟨⟨0, rfl, rfl, hq, HB.out.trans (hb.mono HB.out.size)⟩, HB.out.size⟩
  clear hq hb hs HP1 hnI hrb
  go_wp2
  generalize w1.heap.size = c at *
  go_loopg [9] n (fun k v9 wr => FillGo w (c + 1) c n k v9 wr)
  case atStart => exact H2.out.1
  case round =>
    obtain ⟨i, hk, rfl, hq, hB⟩ := hrel.ex
    clear hrel
    by_cases hlt : i < n
    · have s1 : (i : Int) < (n : Int) := by omega
      have s2 : (0 : Int) ≤ (i : Int) := by omega
      have hnn := HNb.out
      have hw : IntKind.u64.wrap (i : Int) = (i : Int) := by rw [IntKind.wrap_u64]; omega
      have HNum := Lib.hid (HN.out i (by omega) wr)
      have hfin : Hid (∀ w3, Below wr.heap.size wr w3 → QAt w3 (c + 1) c n (nums 0 i) ∧ ∀ w4, QAt w4 (c + 1) c n (nums 0 i ++ [num i]) → w3.grownBy w4 (some c) → FillGo w (c + 1) c n (gk - 1) (.int .i64 ((i + 1 : Nat) : Int)) w4) := fun w3 b3 => by
        refine ⟨hq.below b3, fun w4 q4 g4 => ⟨i + 1, by omega, rfl, ?_, below_turn (hB.trans (b3.mono hB.size)) g4 (hq.below b3).lt.2 H2.out.2⟩⟩
        rw [nums_next, Nat.zero_add]
        exact q4
      have hmm := Lib.hid (show gk - 1 < gk by omega)
      have hl : (nums 0 i).length < n := by rw [nums_length]; exact hlt
      have HL := Lib.hid hl
      clear hq hB hk hlt hnn hl
      go_wp2_with fail
      refine HNum.out.mono ?_
      rintro e w3 ⟨rfl, b3⟩
      obtain ⟨k3, k4⟩ := hfin.out w3 b3
      have HPu := Lib.hid (Push_room k3 HL.out (num i))
      have HK4 := Lib.hid k4
      clear b3 k3 k4 hfin HNum
      go_wp2_with fail
      refine HPu.out.mono ?_
      rintro e w4 ⟨rfl, q4, g4⟩
      have HF := Lib.hid (HK4.out w4 q4 g4)
      clear q4 g4 HK4 HPu
      go_wp2
      go_roundg (gk - 1)
      case measure => exact hmm.out
      case rel => simpa using HF.out
    · have s1 : ¬ (i : Int) < (n : Int) := by omega
      obtain rfl : i = n := by omega
      have hlen : (nums 0 i).length = i := nums_length 0 i
      have HPu := Lib.hid (Push_full hq (by rw [hlen]; exact Nat.le_refl _) ⟨#[103]⟩)
      have HLn := Lib.hid (Len_calls hq)
      rw [hlen] at HLn
      have H3 : Hid (TurnGo w (c + 1) c i m m (.int .i64 0) wr) := ⟨0, rfl, rfl, hq, hB⟩
      have HC := Lib.hid H2.out.2
      clear hq hB hk hlt hlen H2
      go_wp2_with fail
      refine HPu.out.mono ?_
      rintro e w3 ⟨rfl, rfl⟩
      go_wp2_with fail
      refine HLn.out.mono ?_
      rintro e w3 ⟨rfl, rfl⟩
      go_wp2_with fail
      refine (HP2.out _).mono ?_
      rintro e w3 ⟨rfl, rfl⟩
      go_wp2
      clear HPu HLn HP2 hn1I s1
      go_loopg [11] m (fun k v11 wr => TurnGo w (c + 1) c i m k v11 wr)
      case atStart => exact H3.out
      clear H3
      case round =>
        obtain ⟨j, hk, rfl, hq, hB⟩ := hrel.ex
        clear hrel
        have hmi := HM.out
        have hib := HNb.out
        by_cases hlt : j < m
        · have s1 : (j : Int) < (m : Int) := by omega
          have s2 : (0 : Int) ≤ (j : Int) := by omega
          obtain ⟨i', hi'⟩ : ∃ i', i = i' + 1 := ⟨i - 1, by omega⟩
          have hq' := hq
          rw [hi', nums_first, ← hi'] at hq'
          have HPo := Lib.hid (Pop_some hq')
          have hw : IntKind.u64.wrap (j : Int) = (j : Int) := by rw [IntKind.wrap_u64]; omega
          obtain ⟨s, hs⟩ : ∃ s, i + j = s := ⟨_, rfl⟩
          have hsI : (i : Int) + (j : Int) = (s : Int) := by omega
          have hsb : (s : Int) ≤ 60 := by omega
          have hsb2 : (0 : Int) ≤ (s : Int) := by omega
          have hw2 : IntKind.u64.wrap (s : Int) = (s : Int) := by rw [IntKind.wrap_u64]; omega
          have hmm := Lib.hid (show gk - 1 < gk by omega)
          have hfin : Hid (∀ w3, QAt w3 (c + 1) c i (nums (j + 1) i') → wr.grownBy w3 (some c) → ∀ w4, Below w3.heap.size w3 w4 → ∀ w5, Below w4.heap.size w4 w5 → QAt w5 (c + 1) c i (nums (j + 1) i') ∧ ∀ w6, QAt w6 (c + 1) c i (nums (j + 1) i' ++ [num s]) → w5.grownBy w6 (some c) → TurnGo w (c + 1) c i m (gk - 1) (.int .i64 ((j + 1 : Nat) : Int)) w6) := fun w3 q3 g3 w4 b4 w5 b5 => by
            have q5 := (q3.below b4).below b5
            have hB3 := below_turn hB g3 hq.lt.2 HC.out
            have hB5 := (hB3.trans (b4.mono hB3.size)).trans (b5.mono (hB3.trans (b4.mono hB3.size)).size)
            refine ⟨q5, fun w6 q6 g6 => ⟨j + 1, by omega, rfl, ?_, below_turn hB5 g6 q5.lt.2 HC.out⟩⟩
            rw [hi', nums_next, show j + 1 + i' = s by omega, ← hi']
            exact q6
          have hl : Hid ((nums (j + 1) i').length < i) := by show _ < _; rw [nums_length]; omega
          have HNj := Lib.hid (HN.out j (by omega))
          have HNs := Lib.hid (HN.out s (by omega))
          generalize num j = zj at *
          generalize num s = zs at *
          clear hq hq' hB hk hlt hmi hib hs hi'
          go_wp2_with fail
          refine HPo.out.mono ?_
          rintro e w3 ⟨rfl, q3, g3⟩
          have HF3 := Lib.hid (hfin.out w3 q3 g3)
          clear q3 g3 hfin
          go_wp2_with fail
          refine (HNj.out _).mono ?_
          rintro e w4 ⟨rfl, b4⟩
          have HF4 := Lib.hid (HF3.out w4 b4)
          clear b4 HF3
          go_wp2_with fail
          refine (HNs.out _).mono ?_
          rintro e w5 ⟨rfl, b5⟩
          obtain ⟨q5, hn5⟩ := HF4.out w5 b5
          have HPu := Lib.hid (Push_room q5 hl.out zs)
          have HN5 := Lib.hid hn5
          clear b5 HF4 q5 hn5
          go_wp2_with fail
          refine HPu.out.mono ?_
          rintro e w6 ⟨rfl, q6, g6⟩
          have HF := Lib.hid (HN5.out w6 q6 g6)
          clear q6 g6 HN5 HPu
          go_wp2
          go_roundg (gk - 1)
          case measure => exact hmm.out
          case rel => simpa using HF.out
        · have s1 : ¬ (j : Int) < (m : Int) := by omega
          obtain rfl : j = m := by omega
          have hlen : (nums j i).length = i := nums_length j i
          have HR := Lib.hid (Rest_calls hq (by rw [hlen]; exact Nat.le_refl _) (by omega))
          have hfin : Hid (∀ w3 v3, w3.ownsRow wr.heap.size 35 1 v3 i (strV (nums j i)) → QAt w3 (c + 1) c i (nums j i) → wr.grownBy w3 (some c) → LookGo w (c + 1) c i j v3 wr.heap.size i (.int .i64 0) w3) := fun w3 v3 r3 q3 g3 => ⟨0, rfl, rfl, q3, r3, below_turn hB g3 hq.lt.2 HC.out⟩
          clear hq hB hk hlt hlen
          go_wp2_with fail
          refine HR.out.mono ?_
          rintro e w3 ⟨v3, rfl, r3, q3, g3⟩
          rw [nums_length] at r3
          have H3 := Lib.hid (hfin.out w3 v3 r3 q3 g3)
          obtain ⟨A3, c3, rfl⟩ := own_slice r3
          clear r3 q3 g3 hfin HR
          go_wp2
          clear s1
          obtain ⟨B, hBe⟩ : ∃ B, wr.heap.size = B := ⟨_, rfl⟩
          rw [hBe] at H3
          clear hBe
          go_loopg [15] i (fun k v15 wr => LookGo w (c + 1) c i j (.slice A3 i c3) B k v15 wr)
          case atStart => exact H3.out
          clear H3
          case round =>
            obtain ⟨t, hk, rfl, hq, hR, hB⟩ := hrel.ex
            clear hrel
            by_cases hlt : t < i
            · have s1 : (t : Int) < (i : Int) := by omega
              have s2 : (0 : Int) ≤ (t : Int) := by omega
              have hib := HNb.out
              have hji := HM.out
              obtain ⟨g, rfl⟩ : ∃ g, A3 = some ⟨g, 0, none⟩ := by
                rcases hR.2 with ⟨_, h0⟩ | ⟨g, cap, cur, e, _⟩
                · omega
                · cases e; exact ⟨g, rfl⟩
              have hcell : wr.cell? ⟨g, t, none⟩ = some (.string (num (j + t))) := by
                rw [hR.cellAt t (by omega)]
                simp only [strV, List.getElem?_map, nums_at j i t hlt]
                rfl
              obtain ⟨s, hs⟩ : ∃ s, j + t = s := ⟨_, rfl⟩
              have hsI : (j : Int) + (t : Int) = (s : Int) := by omega
              have hsb : (s : Int) ≤ 60 := by omega
              have hsb2 : (0 : Int) ≤ (s : Int) := by omega
              have hw1 : IntKind.i64.wrap (s : Int) = (s : Int) := by rw [IntKind.wrap_i64]; omega
              have hw2 : IntKind.u64.wrap (s : Int) = (s : Int) := by rw [IntKind.wrap_u64]; omega
              rw [hs] at hcell
              have HC1 : Hid (∀ V : World, V.cell? ⟨g, t, none⟩ = some (.string (num s)) → Calls Try.prog 20 #[.int .u64 s] V fun e w' => e = .returned (.string (num s)) ∧ w'.cell? ⟨g, t, none⟩ = some (.string (num s)) ∧ Below V.heap.size V w') := fun V hV => by
                refine (HN.out s (by omega) V).mono ?_
                rintro e w' ⟨rfl, b⟩
                exact ⟨rfl, (b.cell (p := ⟨g, t, none⟩) (World.block_lt_of_cell? V _ hV)).trans hV, b⟩
              have hmm := Lib.hid (show gk - 1 < gk by omega)
              have hfin : Hid (∀ w', Below wr.heap.size wr w' → LookGo w (c + 1) c i j (.slice (some ⟨g, 0, none⟩) i c3) B (gk - 1) (.int .i64 ((t + 1 : Nat) : Int)) w') := fun w' b => ⟨t + 1, by omega, rfl, hq.below b, own_below hR b, hB.trans (b.mono hB.size)⟩
              generalize num s = zs at *
              clear hq hR hB hk hlt hib hji hs
              go_wp2
              go_region_held3 (fun w' => w'.cell? ⟨g, t, none⟩ = some (.string zs)) (go_keep) ((go_at_call 20; refine (HC1.out _ (by simp [*])).mono ?_; rintro e' w2 ⟨rfl, hq0, hq1⟩))
              all_goals
                have HF : Hid (LookGo w (c + 1) c i j (.slice (some ⟨g, 0, none⟩) i c3) B (gk - 1) (.int .i64 ((t + 1 : Nat) : Int)) w2) := hfin.out w2 ⟨hq1.os, hq1.tape, hq1.output, hq1.size, hq1.block⟩
                clear hq0 hq1 hfin HC1
                go_wp2
                go_roundg (gk - 1)
                case measure => exact hmm.out
                case rel => simpa using HF.out
            · have s1 : ¬ (t : Int) < (i : Int) := by omega
              have hlen : (nums j i).length = i := nums_length j i
              have HPu := Lib.hid (Push_full hq (by rw [hlen]; exact Nat.le_refl _) ⟨#[103]⟩)
              have HBf := Lib.hid hB
              clear hq hR hB hk hlt hlen
              go_wp2_with fail
              refine HPu.out.mono ?_
              rintro e w4 ⟨rfl, rfl⟩
              go_wp2
              go_ret
              exact ⟨rfl, HBf.out⟩
end Go.Proofs.Ytonidhpjecohlaa.L6
