/- The law QueueOrder: for all rooms and acts it returns true. -/
import Derived.Test.YtonidhpjecohlaaQActs
namespace Go.Proofs.Ytonidhpjecohlaa.L6
open Go.ChangeShapes Go.WideShapes Go.ChangeAt Go.RowKit L5

structure OrdGo (w : World) (B g c room n k : Nat) (v8 v9 v10 : Value) (wr : World) : Prop where
  ex : ∃ (i : Nat) (outs q : List ByteArray), k + i = n ∧ v10 = .int .i64 i ∧ QAt wr g c room q ∧ q.length ≤ room ∧ (outs ++ q).length ≤ i ∧ wr.ownsRow B 9 1 v8 (outs ++ q).length (strV (outs ++ q)) ∧ wr.ownsRow B 35 1 v9 outs.length (strV outs) ∧ Below w.heap.size w wr ∧ B ≤ wr.heap.size

/-- Another row grew: the queue is as it was. -/
theorem QAt.rowed {W W' : World} {g c room B : Nat} {q : List ByteArray} {e : TypeId} {v : Value} {n : Nat} {xs : List Value} {o : Obj} (h : QAt W g c room q) (hr : W.ownsRow B e 1 v n xs) (hg : g < B) (hc : c < B) (gr : (W.alloc o).grownBy W' v.ownBlock) : QAt W' g c room q := by
  have g5 := grow_trans (World.grownBy_alloc W o _) gr
  exact h.same (g5.block _ h.lt.1 (fun e => by have := (hr.lt g e.symm).1; omega)) (g5.block _ h.lt.2 (fun e => by have := (hr.lt c e.symm).1; omega))
theorem own_turned {W W' : World} {c B : Nat} {e : TypeId} {v : Value} {n : Nat} {xs : List Value} (hr : W.ownsRow B e 1 v n xs) (gr : W.grownBy W' (some c)) (hc : c < B) : W'.ownsRow B e 1 v n xs :=
  own_same hr (fun q e => gr.block q (hr.lt q e).2 (fun e2 => by have := (hr.lt q e).1; cases e2; omega))

theorem hundred : (⟨#[103]⟩ : ByteArray).size = 1 := rfl

set_option maxRecDepth 100000 in
set_option maxHeartbeats 8000000 in
theorem order_all (room : Int) (A : Option Addr) (n c0 : Nat) (w : World) (hA : Acts w A n) (hn : n ≤ maxLen) : Calls Try.prog 4 #[.int .i64 room, .slice A n c0] w (One w (.bool true)) := by
  obtain ⟨i0, hi, hz0, hz1, hz2⟩ := info_parts info_term
  obtain ⟨is, hsi, hs0, hs1, hs2⟩ := info_parts info_string
  have HS := Lib.hid shown_calls
  have HA := Lib.hid hA
  unfold maxLen at hn
  clear hA
  by_cases hro : 1 ≤ room ∧ room ≤ 1000
  rotate_left
  · have HN := Lib.hid (fun V => (New_calls room V).mono (fun e w' h => h.1 hro))
    by_cases h1 : room < 1
    · clear hro
      go_enter Try.func4, Try.ntmps4
      go_wp2_with fail
      refine (HS.out _).mono ?_
      rintro e w1 ⟨rfl, b1⟩
      have HB := Lib.hid b1
      clear b1
      go_wp2_with fail
      refine (HN.out _).mono ?_
      rintro e w2 ⟨rfl, rfl⟩
      go_wp2
      go_ret
      exact ⟨rfl, HB.out⟩
    · have h2 : 1000 < room := by omega
      clear hro
      go_enter Try.func4, Try.ntmps4
      go_wp2_with fail
      refine (HS.out _).mono ?_
      rintro e w1 ⟨rfl, b1⟩
      have HB := Lib.hid b1
      clear b1
      go_wp2_with fail
      refine (HN.out _).mono ?_
      rintro e w2 ⟨rfl, rfl⟩
      go_wp2
      go_ret
      exact ⟨rfl, HB.out⟩
  obtain ⟨rm, rfl⟩ : ∃ rm : Nat, room = rm := ⟨room.toNat, by omega⟩
  have HR := Lib.hid (show 1 ≤ rm ∧ rm ≤ 1000 by omega)
  have k1 : ¬ (rm : Int) < 1 := by omega
  have k2 : ¬ (1000 : Int) < (rm : Int) := by omega
  have k3 : decide ((rm : Int) < 1) = false := by simp; omega
  have k4 : decide ((1000 : Int) < (rm : Int)) = false := by simp; omega
  clear hro
  have HN := Lib.hid (fun V => (New_calls rm V).mono (fun e w' h => h.2 rm rfl HR.out.1 HR.out.2))
  by_cases hlen : 80 < n
  · have j1 : (80 : Int) < (n : Int) := by omega
    go_enter Try.func4, Try.ntmps4
    go_wp2_with fail
    refine (HS.out _).mono ?_
    rintro e w1 ⟨rfl, b1⟩
    have HB := Lib.hid b1
    clear b1
    go_wp2_with fail
    refine (HN.out _).mono ?_
    rintro e w2 ⟨rfl, hq, hb, hs⟩
    have HB2 := Lib.hid (HB.out.trans (hb.mono HB.out.size))
    clear hq hb hs
    go_wp2
    go_ret
    exact ⟨rfl, HB2.out⟩
  have j1 : ¬ (80 : Int) < (n : Int) := by omega
  have HLe := Lib.hid (Nat.le_of_not_lt hlen)
  clear hlen
  go_enter Try.func4, Try.ntmps4
  go_wp2_with fail
  refine (HS.out _).mono ?_
  rintro e w1 ⟨rfl, b1⟩
  have HB := Lib.hid b1
  clear b1
  go_wp2_with fail
  refine (HN.out _).mono ?_
  rintro e w2 ⟨rfl, hq, hb, hs⟩
  have H2 : Hid (∃ B, B = w2.heap.size ∧ OrdGo w B (w1.heap.size + 1) w1.heap.size rm n n (.slice none 0 0) (.slice none 0 0) (.int .i64 0) w2 ∧ w1.heap.size + 1 < B ∧ w.heap.size ≤ w1.heap.size) :=
    ⟨_, rfl, ⟨0, [], [], rfl, rfl, hq, by simp, by simp, World.ownsRow_nil _ _ _ _, World.ownsRow_nil _ _ _ _, HB.out.trans (hb.mono HB.out.size), Nat.le_refl _⟩, by omega, HB.out.size⟩
  clear hq hb hs
  go_wp2
  obtain ⟨B, _, h2, hgB, hwc⟩ := H2.out
  have H2' := Lib.hid h2
  have HG := Lib.hid (And.intro hgB hwc)
  clear H2 h2 hgB hwc
  generalize w1.heap.size = c at *
  go_loopg [8, 9, 10] n (fun k v8 v9 v10 wr => OrdGo w B (c + 1) c rm n k v8 v9 v10 wr)
  case atStart => exact H2'.out
  clear H2'
  case round =>
    obtain ⟨i, outs, q, hk, rfl, hq, hql, hoi, h8, h9, hB, hsz⟩ := hrel.ex
    clear hrel
    obtain ⟨N, hN⟩ : ∃ N, (outs ++ q).length = N := ⟨_, rfl⟩
    obtain ⟨M, hM⟩ : ∃ M, outs.length = M := ⟨_, rfl⟩
    have hNM : N = M + q.length := by rw [← hN, ← hM]; simp
    rw [hN] at h8 hoi
    rw [hM] at h9
    obtain ⟨A8, c8, rfl⟩ := own_slice h8
    obtain ⟨A9, c9, rfl⟩ := own_slice h9
    have hNb : (N : Int) ≤ 80 := by have := HLe.out; omega
    have hMb : (M : Int) ≤ 80 := by have := HLe.out; omega
    by_cases hlt : i < n
    · obtain ⟨ad, o, x, rfl, hadb, ho, d1, d2⟩ := HA.out i hlt
      have HCell : Hid (∀ V, Below w.heap.size w V → V.cell? (ad.add (i * 2)) = some (.int .i64 o) ∧ V.cell? ⟨(ad.add (i * 2)).block, (ad.add (i * 2)).off + 1, none⟩ = some (.string x)) := fun V hV =>
        ⟨(hV.cell (p := ad.add (i * 2)) (by rw [addr_block]; exact hadb)).trans d1, (hV.cell (p := ⟨(ad.add (i * 2)).block, (ad.add (i * 2)).off + 1, none⟩) (by show (ad.add (i * 2)).block < _; rw [addr_block]; exact hadb)).trans d2⟩
      obtain ⟨c1, c2⟩ := HCell.out wr hB
      have s1 : (i : Int) < (n : Int) := by omega
      have s2 : (0 : Int) ≤ (i : Int) := by omega
      have HP := Lib.hid (pick_is ho (n := 2) (by omega) (by omega) wr)
      have hp2 := pickN_lt o (n := 2) (by omega)
      have hmm := Lib.hid (show gk - 1 < gk by omega)
      have hkk := Lib.hid (show (gk - 1) + (i + 1) = n by omega)
      have hgB := HG.out
      clear d1 d2 hadb hk
      rcases (by omega : pickN o 2 = 0 ∨ pickN o 2 = 1) with hp | hp
      · rw [hp] at HP
        clear hp hp2 ho
        by_cases hroom : q.length < rm
        · have HPu := Lib.hid (Push_room hq hroom x)
          have s3 : (N : Int) - (M : Int) < (rm : Int) := by omega
          have hfin : Hid (∀ w4, QAt w4 (c + 1) c rm (q ++ [x]) → wr.grownBy w4 (some c) → Below w.heap.size w w4 ∧ (w4.alloc (.cells #[.string x] 9)).ownsRow B 9 1 (.slice A8 N c8) N (strV (outs ++ q)) ∧ B ≤ (w4.alloc (.cells #[.string x] 9)).heap.size ∧
              ∀ v5 w5, w5.ownsRow B 9 1 v5 (N + 1) (strV (outs ++ q) ++ [.string x]) → (w4.alloc (.cells #[.string x] 9)).grownBy w5 (Value.slice A8 N c8).ownBlock → OrdGo w B (c + 1) c rm n (gk - 1) v5 (.slice A9 M c9) (.int .i64 ((i + 1 : Nat) : Int)) w5) := fun w4 q4 g4 => by
            have b4 := below_turn hB g4 hq.lt.2 hgB.2
            have h8' := own_turned h8 g4 (by omega)
            have h9' := own_turned h9 g4 (by omega)
            have sz4 := g4.size
            refine ⟨b4, h8'.alloc _, by simp; omega, fun v5 w5 r5 g5 => ⟨i + 1, outs, q ++ [x], hkk.out, rfl, q4.rowed h8' hgB.1 (by omega) g5, by simp; omega, by rw [← List.append_assoc, List.length_append, hN]; simp; omega, ?_, ?_, b4.grown (grow_trans (World.grownBy_alloc w4 _ _) g5) b4.size (fun k e => by have := (h8'.lt k e).1; omega), by have := g5.size; simp at this; omega⟩⟩
            · rw [← List.append_assoc, List.length_append, hN]
              simpa [strV] using r5
            · rw [hM]
              exact own_other h9' h8' (by decide) g5
          clear h8 h9 hB hsz hq hql hoi hN hM hNM hroom hlt hgB
          go_wp2_with fail
          refine HP.out.mono ?_
          rintro e w3 ⟨rfl, rfl⟩
          go_wp2_with fail
          refine HPu.out.mono ?_
          rintro e w4 ⟨rfl, q4, g4⟩
          obtain ⟨b4, r4, z4, hn4⟩ := hfin.out w4 q4 g4
          obtain ⟨c3, c4⟩ := HCell.out w4 b4
          have HR4 := Lib.hid r4
          have HZ4 := Lib.hid z4
          have HN4 := Lib.hid hn4
          clear b4 r4 z4 hn4 q4 g4 hfin HPu HP c1 c2
          go_wp2_with (at_builtin; refine wpList_append_own_at _ rfl _ _ 46 rfl B 9 is _ 1 16 Try.underlying46 hsi hs0 hs1 hs2 rfl (by decide) _ _ _ rfl HR4.out ⟨w4.heap.size, 0, none⟩ 1 1 [.string x] rfl rfl (cell_one_new _ _ _) (by simp [Value.oneCell']) (by unfold maxLen; omega) (by omega) HZ4.out ?_; intro v5 w5 hown5 hgrow5 hnil5 hat5; have HF := Lib.hid (HN4.out v5 w5 hown5 hgrow5); clear hown5 hgrow5 hnil5 hat5)
          go_roundg (gk - 1)
          case measure => exact hmm.out
          case rel => simpa using HF.out
        · have HPu := Lib.hid (Push_full hq (by omega) x)
          have s3 : ¬ (N : Int) - (M : Int) < (rm : Int) := by omega
          have hfin : Hid (OrdGo w B (c + 1) c rm n (gk - 1) (.slice A8 N c8) (.slice A9 M c9) (.int .i64 ((i + 1 : Nat) : Int)) wr) :=
            ⟨i + 1, outs, q, hkk.out, rfl, hq, hql, by rw [hN]; omega, by rw [hN]; exact h8, by rw [hM]; exact h9, hB, hsz⟩
          clear h8 h9 hB hsz hq hql hoi hN hM hNM hroom hlt hgB
          go_wp2_with fail
          refine HP.out.mono ?_
          rintro e w3 ⟨rfl, rfl⟩
          go_wp2_with fail
          refine HPu.out.mono ?_
          rintro e w4 ⟨rfl, rfl⟩
          go_wp2
          go_roundg (gk - 1)
          case measure => exact hmm.out
          case rel => simpa using hfin.out
      · rw [hp] at HP
        clear hp hp2 ho
        cases q with
        | nil =>
          have HPo := Lib.hid (Pop_none hq)
          have s3 : ¬ (M : Int) < (N : Int) := by simp at hNM; omega
          have hfin : Hid (OrdGo w B (c + 1) c rm n (gk - 1) (.slice A8 N c8) (.slice A9 M c9) (.int .i64 ((i + 1 : Nat) : Int)) wr) :=
            ⟨i + 1, outs, [], hkk.out, rfl, hq, hql, by rw [hN]; omega, by rw [hN]; exact h8, by rw [hM]; exact h9, hB, hsz⟩
          clear h8 h9 hB hsz hq hql hoi hN hM hNM hlt hgB
          go_wp2_with fail
          refine HP.out.mono ?_
          rintro e w3 ⟨rfl, rfl⟩
          go_wp2_with fail
          refine HPo.out.mono ?_
          rintro e w4 ⟨rfl, rfl⟩
          go_wp2
          go_roundg (gk - 1)
          case measure => exact hmm.out
          case rel => simpa using hfin.out
        | cons y q =>
          have HPo := Lib.hid (Pop_some hq)
          have s3 : (M : Int) < (N : Int) := by simp at hNM; omega
          have e3 : outs ++ y :: q = (outs ++ [y]) ++ q := by simp
          rw [e3] at h8
          have hN' : ((outs ++ [y]) ++ q).length = N := by rw [← e3]; exact hN
          have hfin : Hid (∀ w4, QAt w4 (c + 1) c rm q → wr.grownBy w4 (some c) → (w4.alloc (.cells #[.string y] 35)).ownsRow B 35 1 (.slice A9 M c9) M (strV outs) ∧ B ≤ (w4.alloc (.cells #[.string y] 35)).heap.size ∧
              ∀ v5 w5, w5.ownsRow B 35 1 v5 (M + 1) (strV outs ++ [.string y]) → (w4.alloc (.cells #[.string y] 35)).grownBy w5 (Value.slice A9 M c9).ownBlock → OrdGo w B (c + 1) c rm n (gk - 1) (.slice A8 N c8) v5 (.int .i64 ((i + 1 : Nat) : Int)) w5) := fun w4 q4 g4 => by
            have b4 := below_turn hB g4 hq.lt.2 hgB.2
            have h8' := own_turned h8 g4 (by omega)
            have h9' := own_turned h9 g4 (by omega)
            have sz4 := g4.size
            refine ⟨h9'.alloc _, by simp; omega, fun v5 w5 r5 g5 => ⟨i + 1, outs ++ [y], q, hkk.out, rfl, q4.rowed h9' hgB.1 (by omega) g5, by simp at hql; omega, by rw [hN']; omega, ?_, ?_, b4.grown (grow_trans (World.grownBy_alloc w4 _ _) g5) b4.size (fun k e => by have := (h9'.lt k e).1; omega), by have := g5.size; simp at this; omega⟩⟩
            · rw [hN']
              exact own_other h8' h9' (by decide) g5
            · rw [List.length_append, hM]
              simpa [strV] using r5
          clear h8 h9 hB hsz hq hql hoi hN hM hNM hlt hgB e3 hN'
          go_wp2_with fail
          refine HP.out.mono ?_
          rintro e w3 ⟨rfl, rfl⟩
          go_wp2_with fail
          refine HPo.out.mono ?_
          rintro e w4 ⟨rfl, q4, g4⟩
          obtain ⟨r4, z4, hn4⟩ := hfin.out w4 q4 g4
          have HR4 := Lib.hid r4
          have HZ4 := Lib.hid z4
          have HN4 := Lib.hid hn4
          clear r4 z4 hn4 q4 g4 hfin HPo HP
          go_wp2_with (at_builtin; refine wpList_append_own_at _ rfl _ _ 50 rfl B 35 i0 _ 1 16 Try.underlying50 hi hz0 hz1 hz2 rfl (by decide) _ _ _ rfl HR4.out ⟨w4.heap.size, 0, none⟩ 1 1 [.string y] rfl rfl (cell_one_new _ _ _) (by simp [Value.oneCell']) (by unfold maxLen; omega) (by omega) HZ4.out ?_; intro v5 w5 hown5 hgrow5 hnil5 hat5; have HF := Lib.hid (HN4.out v5 w5 hown5 hgrow5); clear hown5 hgrow5 hnil5 hat5)
          go_roundg (gk - 1)
          case measure => exact hmm.out
          case rel => simpa using HF.out
    · have s1 : ¬ (i : Int) < (n : Int) := by omega
      have hR := HR.out
      have hgB := HG.out
      have HRe := Lib.hid (Rest_calls hq hql hR.2)
      obtain ⟨K, hK⟩ : ∃ K, q.length = K := ⟨_, rfl⟩
      have hfin : Hid (∀ w4 v4, w4.ownsRow wr.heap.size 35 1 v4 q.length (strV q) → QAt w4 (c + 1) c rm q → wr.grownBy w4 (some c) → SIn w4 v4 q ∧ w4.ownsRow B 35 1 (.slice A9 M c9) M (strV outs) ∧ B ≤ w4.heap.size ∧
          ∀ v5 w5, w5.ownsRow B 35 1 v5 (M + q.length) (strV outs ++ strV q) → w4.grownBy w5 (Value.slice A9 M c9).ownBlock →
            Calls Try.prog 18 #[v5, .slice A8 N c8] w5 fun e w' => e = .returned (.bool true) ∧ ∃ _ : True, Hid (QAt w' (c + 1) c rm q ∧ Below w.heap.size w w')) := fun w4 v4 r4 q4 g4 => by
        have b4 := below_turn hB g4 hq.lt.2 hgB.2
        have h8' := own_turned h8 g4 (by omega)
        have h9' := own_turned h9 g4 (by omega)
        have sz4 := g4.size
        refine ⟨SIn.of_own r4, h9', by omega, fun v5 w5 r5 g5 => ?_⟩
        have h8'' : w5.ownsRow B 9 1 (.slice A8 N c8) N (strV (outs ++ q)) := own_same h8' (fun k hk => g5.block k (h8'.lt k hk).2 (fun e => own_apart h8' h9' (by decide) k hk e.symm))
        have q5 : QAt w5 (c + 1) c rm q := q4.same (g5.block _ q4.lt.1 (fun e => by have := (h9'.lt _ e.symm).1; omega)) (g5.block _ q4.lt.2 (fun e => by have := (h9'.lt _ e.symm).1; omega))
        have b5 : Below w.heap.size w w5 := b4.grown g5 b4.size (fun k e => by have := (h9'.lt k e).1; omega)
        rw [← hN] at h8'' ⊢
        have hlq : M + q.length = (outs ++ q).length := by rw [hN]; omega
        rw [hlq] at r5
        refine (same_calls (outs ++ q) v5 _ w5 (SRow.of_own (by simpa [strV] using r5)) (SRow.of_own h8'') (by rw [hN]; omega)).mono ?_
        rintro e w' ⟨rfl, m, rfl⟩
        exact ⟨rfl, trivial, q5.same rfl rfl, below_drewN b5 m⟩
      have hE : (N : Int) - (M : Int) = (K : Int) := by omega
      have HK := Lib.hid hK
      have m1 : Hid (M + q.length ≤ maxLen ∧ (M + q.length) * 16 ≤ 140737488355328) := ⟨by unfold maxLen; omega, by omega⟩
      clear h8 h9 hB hsz hq hql hoi hN hM hNM hlt hgB hR hk hK
      go_wp2_with fail
      refine HRe.out.mono ?_
      rintro e w4 ⟨v4, rfl, r4, q4, g4⟩
      obtain ⟨k1, k2, k3, k4⟩ := hfin.out w4 v4 r4 q4 g4
      have HK1 := Lib.hid k1
      have HK2 := Lib.hid k2
      have HK3 := Lib.hid k3
      have HK4 := Lib.hid k4
      clear k1 k2 k3 k4 r4 q4 g4 hfin HRe
      go_wp2_with (at_builtin; refine wpList_append_texts (by rfl) (.tmp 107) (.tmp 109) 50 rfl B 35 i0 (.string ⟨#[]⟩) 16 Try.underlying50 hi hz0 hz1 hz2 rfl (.slice A9 M c9) M (strV outs) (by simp [Act.eval]) HK2.out v4 q (by simp [Act.eval]) HK1.out m1.out.1 m1.out.2 HK3.out ?_; intro v5 w5 hown5 hgrow5; have X6 := Lib.hid (HK4.out v5 w5 hown5 hgrow5); clear hown5 hgrow5)
      refine X6.out.mono ?_
      rintro e w7 ⟨rfl, _, H7⟩
      have HL1 := Lib.hid (Len_calls H7.out.1)
      rw [HK.out] at HL1
      have HB7 := Lib.hid H7.out.2
      go_wp2_with fail
      refine HL1.out.mono ?_
      rintro e w8 ⟨rfl, rfl⟩
      go_wp2
      go_ret
      exact ⟨rfl, HB7.out⟩
end Go.Proofs.Ytonidhpjecohlaa.L6
