/- The law QueueEither: for all texts it returns true. -/
import Derived.Test.YtonidhpjecohlaaQRow
namespace Go.Proofs.Ytonidhpjecohlaa.L6
open Go.ChangeShapes Go.WideShapes Go.ChangeAt Go.RowKit L5

structure PushGo (w : World) (B ga ca gb cb n : Nat) (f : Nat → List ByteArray × List ByteArray) (k : Nat) (v : Value) (wr : World) : Prop where
  ex : ∃ i : Nat, k + i = n ∧ v = .int .i64 i ∧ Two wr ga ca 60 gb cb 60 (f i).1 (f i).2 ∧ Below w.heap.size w wr ∧ B ≤ wr.heap.size
structure OutGo (w : World) (B ga ca gb cb : Nat) (l k : List ByteArray) (m : Nat) (v12 v13 : Value) (wr : World) : Prop where
  ex : ∃ i : Nat, m + i = l.length + k.length ∧ v13 = .int .i64 i ∧ Two wr ga ca 60 gb cb 60 (l.drop i) (k.drop (i - l.length)) ∧ wr.ownsRow B 35 1 v12 i (strV ((l ++ k).take i)) ∧ Below w.heap.size w wr ∧ B ≤ wr.heap.size

theorem take_next {l : List ByteArray} {i : Nat} {x : ByteArray} (h : l[i]? = some x) : l.take (i + 1) = l.take i ++ [x] := by
  rw [List.take_add_one, h]
  rfl
theorem drop_next {l : List ByteArray} {i : Nat} {x : ByteArray} (h : l[i]? = some x) : l.drop i = x :: l.drop (i + 1) := by
  obtain ⟨hlt, e⟩ := List.getElem?_eq_some_iff.1 h
  rw [List.drop_eq_getElem_cons hlt, e]

set_option maxRecDepth 100000 in
set_option maxHeartbeats 4000000 in
theorem either_all (l k : List ByteArray) (vl vk : Value) (w : World) (hl : SIn w vl l) (hk : SIn w vk k) : Calls Try.prog 5 #[vl, vk] w (One w (.bool true)) := by
  obtain ⟨i0, hi, hz0, hz1, hz2⟩ := info_parts info_term
  obtain ⟨is, hsi, hs0, hs1, hs2⟩ := info_parts info_string
  have HS := Lib.hid shown_calls
  have HVl := Lib.hid hl
  have HVk := Lib.hid hk
  obtain ⟨A0, c0, rfl, hc0⟩ := hl.row
  obtain ⟨A1, c1, rfl, hc1⟩ := hk.row
  have HL := Lib.hid hc0
  have HK := Lib.hid hc1
  clear hl hk hc0 hc1
  by_cases h0 : 50 < l.length
  · have j1 : (50 : Int) < (l.length : Int) := by omega
    go_enter Try.func5, Try.ntmps5
    go_wp2_with fail
    refine (HS.out _).mono ?_
    rintro e w1 ⟨rfl, b1⟩
    have HB := Lib.hid b1
    clear b1
    go_wp2
    go_ret
    exact ⟨rfl, HB.out⟩
  have j1 : ¬ (50 : Int) < (l.length : Int) := by omega
  by_cases h1 : 50 < k.length
  · have j2 : (50 : Int) < (k.length : Int) := by omega
    go_enter Try.func5, Try.ntmps5
    go_wp2_with fail
    refine (HS.out _).mono ?_
    rintro e w1 ⟨rfl, b1⟩
    have HB := Lib.hid b1
    clear b1
    go_wp2
    go_ret
    exact ⟨rfl, HB.out⟩
  have j2 : ¬ (50 : Int) < (k.length : Int) := by omega
  have HLe := Lib.hid (And.intro (Nat.le_of_not_lt h0) (Nat.le_of_not_lt h1))
  clear h0 h1
  go_enter Try.func5, Try.ntmps5
  go_wp2_with fail
  refine (HS.out _).mono ?_
  rintro e w1 ⟨rfl, b1⟩
  have HB1 := Lib.hid b1
  have HN1 := Lib.hid (New_calls 60 w1)
  clear b1
  go_wp2_with fail
  refine HN1.out.mono ?_
  rintro e w2 ⟨_, hok⟩
  obtain ⟨rfl, hq, hb, hs⟩ := hok 60 rfl (by omega) (by omega)
  have HQ := Lib.hid (And.intro hq (And.intro hb hs))
  have HN2 := Lib.hid (New_calls 60 w2)
  clear hok hq hb hs HN1
  go_wp2_with fail
  refine HN2.out.mono ?_
  rintro e w3 ⟨_, hok⟩
  obtain ⟨rfl, hq2, hb2, hs2⟩ := hok 60 rfl (by omega) (by omega)
  have HT : Hid (Two w3 (w1.heap.size + 1) w1.heap.size 60 (w2.heap.size + 1) w2.heap.size 60 [] [] ∧ Below w.heap.size w w3 ∧ w.heap.size ≤ w1.heap.size ∧ w1.heap.size + 2 ≤ w2.heap.size ∧ w3.heap.size = w2.heap.size + 2) := by
    obtain ⟨q, b, s⟩ := HQ.out
    exact ⟨⟨q.below hb2, hq2, by omega⟩, HB1.out.trans ((b.mono HB1.out.size).trans (hb2.mono (by have := HB1.out.size; omega))), HB1.out.size, by omega, hs2⟩
  clear hok hq2 hb2 hs2 HN2 HQ
  go_wp2
  generalize w1.heap.size = ca at *
  generalize w2.heap.size = cb at *
  have HB3 : Hid (∃ B3, B3 = w3.heap.size) := ⟨_, rfl⟩
  obtain ⟨B3, hB3⟩ := HB3.out
  have HT3 : Hid (Two w3 (ca + 1) ca 60 (cb + 1) cb 60 [] [] ∧ Below w.heap.size w w3 ∧ w.heap.size ≤ ca ∧ ca + 2 ≤ cb ∧ B3 = cb + 2 ∧ w3.heap.size = B3) := by
    obtain ⟨q1, q2, q3, q4, q5⟩ := HT.out
    exact ⟨q1, q2, q3, q4, by omega, hB3.symm⟩
  clear HT HB3 hB3
  go_loopg [10] l.length (fun m v10 wr => PushGo w B3 (ca + 1) ca (cb + 1) cb l.length (fun i => (l.take i, [])) m v10 wr)
  case atStart => exact ⟨0, rfl, rfl, HT3.out.1, HT3.out.2.1, Nat.le_of_eq HT3.out.2.2.2.2.2.symm⟩
  case round =>
    obtain ⟨i, hm, rfl, hT, hB, hsz⟩ := hrel.ex
    clear hrel
    by_cases hlt : i < l.length
    · obtain ⟨x, hx⟩ : ∃ x, l[i]? = some x := ⟨_, List.getElem?_eq_getElem hlt⟩
      obtain ⟨ad, rfl, hadb, hcell⟩ := HL.out i x hx
      have s1 : (i : Int) < (l.length : Int) := by omega
      have s2 : (0 : Int) ≤ (i : Int) := by omega
      have hc1 : wr.cell? (ad.add i) = some (.string x) := (hB.cell (p := ad.add i) (by rw [addr_block]; exact hadb)).trans hcell
      have HP := Lib.hid (Push_room hT.one (by have := HLe.out.1; simp; omega) x)
      have hfin : Hid (∀ w', QAt w' (ca + 1) ca 60 (l.take i ++ [x]) → wr.grownBy w' (some ca) → PushGo w B3 (ca + 1) ca (cb + 1) cb l.length (fun i => (l.take i, [])) (gk - 1) (.int .i64 ((i + 1 : Nat) : Int)) w') := fun w' q gr =>
        ⟨i + 1, by omega, rfl, ⟨by show QAt w' (ca + 1) ca 60 (l.take (i + 1)); rw [take_next hx]; exact q, hT.two.other hT.one (Ne.symm hT.apart) gr, hT.apart⟩, below_turn hB gr hT.one.lt.2 HT3.out.2.2.1, Nat.le_trans hsz gr.size⟩
      have hmm := Lib.hid (show gk - 1 < gk by omega)
      clear hT hB hsz hm hx hcell hadb hlt
      go_wp2_with fail
      refine HP.out.mono ?_
      rintro e w4 ⟨rfl, q4, g4⟩
      have HF := Lib.hid (hfin.out w4 q4 g4)
      clear q4 g4 hfin HP hc1
      go_wp2
      go_roundg (gk - 1)
      case measure => exact hmm.out
      case rel => simpa using HF.out
    · have s1 : ¬ (i : Int) < (l.length : Int) := by omega
      have HT4 : Hid (Two wr (ca + 1) ca 60 (cb + 1) cb 60 l [] ∧ Below w.heap.size w wr ∧ B3 ≤ wr.heap.size) := by
        obtain rfl : i = l.length := by omega
        simp only [List.take_length] at hT
        exact ⟨hT, hB, hsz⟩
      clear hT hB hsz hm hlt
      go_wp2
      clear s1
      go_loopg [11] k.length (fun m v11 wr => PushGo w B3 (ca + 1) ca (cb + 1) cb k.length (fun i => (l, k.take i)) m v11 wr)
      case atStart => exact ⟨0, rfl, rfl, HT4.out.1, HT4.out.2.1, HT4.out.2.2⟩
      clear HT4
      case round =>

        obtain ⟨j, hm, rfl, hT, hB, hsz⟩ := hrel.ex
        clear hrel
        by_cases hlt : j < k.length
        · obtain ⟨x, hx⟩ : ∃ x, k[j]? = some x := ⟨_, List.getElem?_eq_getElem hlt⟩
          obtain ⟨ad, rfl, hadb, hcell⟩ := HK.out j x hx
          have s1 : (j : Int) < (k.length : Int) := by omega
          have s2 : (0 : Int) ≤ (j : Int) := by omega
          have hc1 : wr.cell? (ad.add j) = some (.string x) := (hB.cell (p := ad.add j) (by rw [addr_block]; exact hadb)).trans hcell
          have HP := Lib.hid (Push_room hT.two (by have := HLe.out.2; simp; omega) x)
          have hfin : Hid (∀ w', QAt w' (cb + 1) cb 60 (k.take j ++ [x]) → wr.grownBy w' (some cb) → PushGo w B3 (ca + 1) ca (cb + 1) cb k.length (fun i => (l, k.take i)) (gk - 1) (.int .i64 ((j + 1 : Nat) : Int)) w') := fun w' q gr =>
            ⟨j + 1, by omega, rfl, ⟨hT.one.other hT.two hT.apart gr, by show QAt w' (cb + 1) cb 60 (k.take (j + 1)); rw [take_next hx]; exact q, hT.apart⟩, below_turn hB gr hT.two.lt.2 (by have := HT3.out.2.2; omega), Nat.le_trans hsz gr.size⟩
          have hmm := Lib.hid (show gk - 1 < gk by omega)
          clear hT hB hsz hm hx hcell hadb hlt
          go_wp2_with fail
          refine HP.out.mono ?_
          rintro e w4 ⟨rfl, q4, g4⟩
          have HF := Lib.hid (hfin.out w4 q4 g4)
          clear q4 g4 hfin HP hc1
          go_wp2
          go_roundg (gk - 1)
          case measure => exact hmm.out
          case rel => simpa using HF.out
        · have s1 : ¬ (j : Int) < (k.length : Int) := by omega
          have HT4 : Hid (OutGo w B3 (ca + 1) ca (cb + 1) cb l k (l.length + k.length) (.slice none 0 0) (.int .i64 0) wr) := by
            obtain rfl : j = k.length := by omega
            simp only [List.take_length] at hT
            exact ⟨0, rfl, rfl, by simpa using hT, World.ownsRow_nil _ _ _ _, hB, hsz⟩
          clear hT hB hsz hm hlt
          go_wp2
          clear s1
          go_loopg [12, 13] (l.length + k.length) (fun m v12 v13 wr => OutGo w B3 (ca + 1) ca (cb + 1) cb l k m v12 v13 wr)
          case atStart => exact HT4.out
          clear HT4
          case round =>
            obtain ⟨n, hm, rfl, hT, hR, hB, hsz⟩ := hrel.ex
            clear hrel
            obtain ⟨A12, c12, rfl⟩ := own_slice hR
            have hlen := HLe.out
            have hca := HT3.out.2.2
            by_cases hlt : n < l.length + k.length
            · have s3 : (n : Int) < (l.length : Int) + (k.length : Int) := by omega
              obtain ⟨x, hx⟩ : ∃ x, (l ++ k)[n]? = some x := ⟨_, List.getElem?_eq_getElem (by simpa using hlt)⟩
              have hfin : Hid (∀ w4 a b v, EitherGot wr w.heap.size (ca + 1) ca 60 (cb + 1) cb 60 a b v (.returned v) w4 → a = l.drop (n + 1) → b = k.drop (n + 1 - l.length) →
                  (w4.alloc (.cells #[.string x] 35)).ownsRow B3 35 1 (.slice A12 n c12) n (strV ((l ++ k).take n)) ∧ B3 ≤ (w4.alloc (.cells #[.string x] 35)).heap.size ∧
                  ∀ v5 w5, w5.ownsRow B3 35 1 v5 (n + 1) (strV ((l ++ k).take n) ++ [.string x]) → (w4.alloc (.cells #[.string x] 35)).grownBy w5 (Value.slice A12 n c12).ownBlock →
                    OutGo w B3 (ca + 1) ca (cb + 1) cb l k (gk - 1) v5 (.int .i64 ((n + 1 : Nat) : Int)) w5) := fun w4 a b v hg ea eb => by
                subst ea eb
                obtain ⟨_, ht, hbel, hsz4, hoth⟩ := hg
                have hR4 : w4.ownsRow B3 35 1 (.slice A12 n c12) n (strV ((l ++ k).take n)) := own_same hR (fun q e => hoth q (hR.lt q e).2 (by have := (hR.lt q e).1; omega) (by have := (hR.lt q e).1; omega))
                refine ⟨hR4.alloc _, by simp; omega, fun v5 w5 h5 g5 => ?_⟩
                have g5' := grow_trans (World.grownBy_alloc w4 (.cells #[.string x] 35) _) g5
                have hrw : ∀ q, (Value.slice A12 n c12).ownBlock = some q → B3 ≤ q := fun q e => (hR.lt q e).1
                refine ⟨n + 1, by omega, rfl, ⟨ht.one.same (g5'.block _ ht.one.lt.1 (fun e => by have := hrw _ e.symm; omega)) (g5'.block _ ht.one.lt.2 (fun e => by have := hrw _ e.symm; omega)), ht.two.same (g5'.block _ ht.two.lt.1 (fun e => by have := hrw _ e.symm; omega)) (g5'.block _ ht.two.lt.2 (fun e => by have := hrw _ e.symm; omega)), ht.apart⟩, ?_, (hbel _ hB).grown g5' (by have := hB.size; omega) (fun q e => by have := hrw q e; have := hB.size; omega), Nat.le_trans (Nat.le_trans hsz hsz4) g5'.size⟩
                rw [take_next hx]
                simpa [strV] using h5
              have hmm := Lib.hid (show gk - 1 < gk by omega)
              by_cases hnl : n < l.length
              · have hxl : l[n]? = some x := by rwa [List.getElem?_append_left hnl] at hx
                rw [drop_next hxl] at hT
                have HE := Lib.hid ((Either_one hT (B := w.heap.size) (by omega) (by omega)).mono (R' := fun e w4 => e = .returned (.tuple #[.string x, .int .i64 1]) ∧ ∃ _ : True, (w4.alloc (.cells #[.string x] 35)).ownsRow B3 35 1 (.slice A12 n c12) n (strV ((l ++ k).take n)) ∧ B3 ≤ (w4.alloc (.cells #[.string x] 35)).heap.size ∧
                  ∀ v5 w5, w5.ownsRow B3 35 1 v5 (n + 1) (strV ((l ++ k).take n) ++ [.string x]) → (w4.alloc (.cells #[.string x] 35)).grownBy w5 (Value.slice A12 n c12).ownBlock →
                    OutGo w B3 (ca + 1) ca (cb + 1) cb l k (gk - 1) v5 (.int .i64 ((n + 1 : Nat) : Int)) w5) fun e w4 h => ⟨h.1, trivial, hfin.out w4 _ _ (.bool true) ⟨rfl, h.2⟩ rfl (by congr 1; omega)⟩)
                have s4 : (n : Int) < (l.length : Int) := by omega
                have s5 : (0 : Int) ≤ (n : Int) := by omega
                have s6 : (n : Int) ≤ 100 := by omega
                have HNn := Lib.hid (show n ≤ 100 by omega)
                clear hfin hT hR hB hsz hx hxl hm hlt hnl hlen hca
                go_wp2_with fail
                refine HE.out.mono ?_
                rintro e w4 ⟨rfl, _, hr4, hs4, hn4⟩
                have HR4 := Lib.hid hr4
                have HS4 := Lib.hid hs4
                have HN4 := Lib.hid hn4
                clear hr4 hs4 hn4 HE
                go_wp2_with (at_builtin; refine wpList_append_own_at _ rfl _ _ 50 rfl B3 35 i0 _ 1 16 Try.underlying50 hi hz0 hz1 hz2 rfl (by decide) _ _ _ rfl HR4.out ⟨w4.heap.size, 0, none⟩ 1 1 [.string x] rfl rfl (cell_one_new _ _ _) (by simp [Value.oneCell']) (by have := HNn.out; unfold maxLen; omega) (by have := HNn.out; omega) HS4.out ?_; intro v5 w5 hown5 hgrow5 hnil5 hat5; have HF := Lib.hid (HN4.out v5 w5 hown5 hgrow5); clear hown5 hgrow5 hnil5 hat5)
                go_roundg (gk - 1)
                case measure => exact hmm.out
                case rel => simpa using HF.out
              · have hxl : k[n - l.length]? = some x := by rwa [List.getElem?_append_right (by omega)] at hx
                have hnil : l.drop n = [] := List.drop_of_length_le (by omega)
                rw [hnil, drop_next hxl] at hT
                have HE := Lib.hid ((Either_two hT (B := w.heap.size) (by omega) (by omega)).mono (R' := fun e w4 => e = .returned (.tuple #[.string x, .int .i64 2]) ∧ ∃ _ : True, (w4.alloc (.cells #[.string x] 35)).ownsRow B3 35 1 (.slice A12 n c12) n (strV ((l ++ k).take n)) ∧ B3 ≤ (w4.alloc (.cells #[.string x] 35)).heap.size ∧
                  ∀ v5 w5, w5.ownsRow B3 35 1 v5 (n + 1) (strV ((l ++ k).take n) ++ [.string x]) → (w4.alloc (.cells #[.string x] 35)).grownBy w5 (Value.slice A12 n c12).ownBlock →
                    OutGo w B3 (ca + 1) ca (cb + 1) cb l k (gk - 1) v5 (.int .i64 ((n + 1 : Nat) : Int)) w5) fun e w4 h => ⟨h.1, trivial, hfin.out w4 _ _ (.bool true) ⟨rfl, h.2⟩ (List.drop_of_length_le (by omega)).symm (by congr 1; omega)⟩)
                have s4 : ¬ (n : Int) < (l.length : Int) := by omega
                have s5 : (0 : Int) ≤ (n : Int) := by omega
                have s6 : (n : Int) ≤ 100 := by omega
                have HNn := Lib.hid (show n ≤ 100 by omega)
                clear hfin hT hR hB hsz hx hxl hnil hm hlt hnl hlen hca
                go_wp2_with fail
                refine HE.out.mono ?_
                rintro e w4 ⟨rfl, _, hr4, hs4, hn4⟩
                have HR4 := Lib.hid hr4
                have HS4 := Lib.hid hs4
                have HN4 := Lib.hid hn4
                clear hr4 hs4 hn4 HE
                go_wp2_with (at_builtin; refine wpList_append_own_at _ rfl _ _ 50 rfl B3 35 i0 _ 1 16 Try.underlying50 hi hz0 hz1 hz2 rfl (by decide) _ _ _ rfl HR4.out ⟨w4.heap.size, 0, none⟩ 1 1 [.string x] rfl rfl (cell_one_new _ _ _) (by simp [Value.oneCell']) (by have := HNn.out; unfold maxLen; omega) (by have := HNn.out; omega) HS4.out ?_; intro v5 w5 hown5 hgrow5 hnil5 hat5; have HF := Lib.hid (HN4.out v5 w5 hown5 hgrow5); clear hown5 hgrow5 hnil5 hat5)
                go_roundg (gk - 1)
                case measure => exact hmm.out
                case rel => simpa using HF.out
            · obtain rfl : n = l.length + k.length := by omega
              have s3 : ¬ ((l.length + k.length : Nat) : Int) < (l.length : Int) + (k.length : Int) := by omega
              rw [List.drop_of_length_le (by omega), List.drop_of_length_le (by omega)] at hT
              have HE := Lib.hid ((Either_none hT (B := w.heap.size) (by omega) (by omega)).mono (R' := fun e w4 => e = .returned (.tuple #[.string ⟨#[]⟩, .int .i64 0]) ∧ ∃ _ : True, Hid (Two w4 (ca + 1) ca 60 (cb + 1) cb 60 [] [] ∧ w4.ownsRow B3 35 1 (.slice A12 (l.length + k.length) c12) (l.length + k.length) (strV (l ++ k)) ∧ Below w.heap.size w w4 ∧ B3 ≤ w4.heap.size)) fun e w4 h => by
                obtain ⟨e1, ht, hbel, hsz4, hoth⟩ := h
                have hR4 := own_same hR (fun q e => hoth q (hR.lt q e).2 (by have := (hR.lt q e).1; omega) (by have := (hR.lt q e).1; omega))
                rw [List.take_of_length_le (by simp)] at hR4
                exact ⟨e1, trivial, ht, hR4, hbel _ hB, Nat.le_trans hsz hsz4⟩)
              have HLn := Lib.hid hlen
              have HC := Lib.hid hca
              clear hT hR hB hsz hm hlt hlen hca
              go_wp2_with fail
              refine HE.out.mono ?_
              rintro e w4 ⟨rfl, _, H4⟩
              clear HE
              have hsz4 : w.heap.size ≤ w4.heap.size := H4.out.2.2.1.size
              have HLit : Hid ((w4.alloc (.cells #[] 9)).ownsRow w4.heap.size 9 1 (.slice (some ⟨w4.heap.size, 0, none⟩) 0 0) 0 []) := World.ownsRow_lit (e := 9) (base := w4.heap.size) (size := 1) w4 #[] 0 (Nat.le_refl _) (by unfold maxLen; omega) rfl
              have HB4 : Hid (Below w4.heap.size w4 (w4.alloc (.cells #[] 9))) := (Below.refl _ w4).alloc (Nat.le_refl _) _
              have HS1 : Hid (SIn (w4.alloc (.cells #[] 9)) (.slice A0 l.length c0) l) := HVl.out.below (H4.out.2.2.1.trans (HB4.out.mono hsz4))
              have HS2 : Hid (∀ w5, (w4.alloc (.cells #[] 9)).grownBy w5 (some w4.heap.size) → SIn w5 (.slice A1 k.length c1) k) := fun w5 g5 =>
                HVk.out.below (H4.out.2.2.1.trans ((HB4.out.grown g5 HB4.out.size (fun q e => by cases e; exact Nat.le_refl _)).mono hsz4))
              have m1 : Hid (0 + l.length ≤ maxLen ∧ (0 + l.length) * 16 ≤ 140737488355328 ∧ l.length + k.length ≤ maxLen ∧ (l.length + k.length) * 16 ≤ 140737488355328) := by
                have := HLn.out
                exact ⟨by unfold maxLen; omega, by omega, by unfold maxLen; omega, by omega⟩
              have m2 : Hid (w4.heap.size ≤ (w4.alloc (.cells #[] 9)).heap.size) := by show _ ≤ _; simp
              have HFin : Hid (∀ w5 w6 v5 v6, w5.ownsRow w4.heap.size 9 1 v5 l.length (strV l) → (w4.alloc (.cells #[] 9)).grownBy w5 (some w4.heap.size) → w6.ownsRow w4.heap.size 9 1 v6 (l.length + k.length) (strV l ++ strV k) → w5.grownBy w6 v5.ownBlock →
                  Calls Try.prog 18 #[.slice A12 (l.length + k.length) c12, v6] w6 fun e w' => e = .returned (.bool true) ∧ ∃ _ : True, Hid (QAt w' (ca + 1) ca 60 [] ∧ QAt w' (cb + 1) cb 60 [] ∧ Below w.heap.size w w')) := fun w5 w6 v5 v6 k1 k2 k3 k4 => by
                have b5 := HB4.out.grown k2 HB4.out.size (fun q e => by cases e; exact Nat.le_refl _)
                have b6 := b5.grown k4 b5.size (fun q e => (k1.lt q e).1)
                have hA : SRow w6 (.slice A12 (l ++ k).length c12) (l ++ k) := SRow.of_own (by simpa [strV] using own_below H4.out.2.1 b6)
                have hV : SRow w6 v6 (l ++ k) := SRow.of_own (by simpa [strV] using k3)
                have hc := same_calls _ _ _ _ hA hV (by have := HLn.out; simp; omega)
                rw [List.length_append] at hc
                refine hc.mono ?_
                rintro e w' ⟨rfl, m, rfl⟩
                exact ⟨rfl, trivial, (H4.out.1.one.below b6).same rfl rfl, (H4.out.1.two.below b6).same rfl rfl, below_drewN (H4.out.2.2.1.trans (b6.mono hsz4)) m⟩
              have hcast : Hid (((l.length + k.length : Nat) : Int) = (l.length : Int) + (k.length : Int)) := by show _ = _; omega
              go_wp2_with (at_builtin; first
                | (refine wpList_append_texts (by rfl) (.tmp 120) (.tmp 121) 46 rfl w4.heap.size 9 is (.string ⟨#[]⟩) 16 Try.underlying46 hsi hs0 hs1 hs2 rfl v5 l.length (strV l) (by simp [Act.eval]) X5.out.1 (.slice A1 k.length c1) k (by simp [Act.eval]) (HS2.out _ X5.out.2) m1.out.2.2.1 m1.out.2.2.2 (Nat.le_trans m2.out X5.out.2.size) ?_; intro v6 w6 hown6 hgrow6; have X6 := Lib.hid (HFin.out w5 w6 v5 v6 X5.out.1 X5.out.2 hown6 hgrow6); clear hown6 hgrow6)
                | (refine wpList_append_texts (by rfl) (.tmp 118) (.tmp 119) 46 rfl w4.heap.size 9 is (.string ⟨#[]⟩) 16 Try.underlying46 hsi hs0 hs1 hs2 rfl (.slice (some ⟨w4.heap.size, 0, none⟩) 0 0) 0 [] (by simp [Act.eval]) HLit.out (.slice A0 l.length c0) l (by simp [Act.eval]) HS1.out m1.out.1 m1.out.2.1 m2.out ?_; intro v5 w5 hown5 hgrow5; have X5 : Hid (w5.ownsRow w4.heap.size 9 1 v5 l.length (strV l) ∧ (w4.alloc (.cells #[] 9)).grownBy w5 (some w4.heap.size)) := ⟨by rw [Nat.zero_add] at hown5; simpa using hown5, hgrow5⟩; clear hown5 hgrow5))
              refine X6.out.mono ?_
              rintro e w7 ⟨rfl, _, H7⟩
              have HL1 := Lib.hid (Len_calls H7.out.1)
              have HL2 := Lib.hid (Len_calls H7.out.2.1)
              have HB7 := Lib.hid H7.out.2.2
              go_wp2_with fail
              refine HL1.out.mono ?_
              rintro e w8 ⟨rfl, rfl⟩
              go_wp2_with fail
              refine HL2.out.mono ?_
              rintro e w8 ⟨rfl, rfl⟩
              go_wp2
              go_ret
              exact ⟨rfl, HB7.out⟩
end Go.Proofs.Ytonidhpjecohlaa.L6
