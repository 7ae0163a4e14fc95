/- The law ListRows: for all texts it returns true. -/
import Derived.Test.YtekididpimgghaaLShown
import Derived.Test.YtekididpimgghaaR4Put
import Derived.Test.YtekididpimgghaaR4Take
import Derived.Deep.RegionHeld3
namespace Go.Proofs.Ytekididpimgghaa.L4
open Go.ChangeShapes Go.WideShapes Go.ChangeAt Go.RowKit

def RowsGo (w : World) (zs : List (List UInt8)) (K : Nat) (v6 v7 v8 : Value) (wr : World) : Prop :=
  ∃ (i : Nat) (m : Int), K + i = zs.length ∧ v8 = .int .i64 i ∧ v7 = .int .i64 m ∧ wr.ownsRow w.heap.size 28 1 v6 i (strs (zs.take i)) ∧ Below w.heap.size w wr
def SameGo (V : World) (n K : Nat) (v17 : Value) (wr : World) : Prop :=
  ∃ i : Nat, K + i = n ∧ v17 = .int .i64 i ∧ Below V.heap.size V wr

set_option maxRecDepth 100000 in
set_option maxHeartbeats 40000000 in
theorem rows_all (zs : List (List UInt8)) (v : Value) (s : ByteArray) (w : World) (h : RowA w v zs) (hs : s.size ≤ maxLen) :
    Calls Try.prog 6 #[v, .string s] w (One w (.bool true)) := by
  obtain ⟨i0, hi, hz0, hz1, hz2⟩ := info_parts info_term
  have HS := Lib.hid shown_calls
  have HRow := Lib.hid h
  have HSs := Lib.hid hs
  obtain ⟨A, c, ev⟩ : ∃ A c, v = .slice A zs.length c := by obtain ⟨⟨A, c, e, _⟩, _⟩ := h; exact ⟨A, c, e⟩
  subst ev
  have hfew := h.few
  unfold maxLen at hfew hs
  clear h
  by_cases hl : 200 < zs.length
  · have j1 : (200 : Int) < (zs.length : Int) := by omega
    go_enter Try.func6, Try.ntmps6
    go_wp2_with fail
    refine (HS.out _).mono ?_
    rintro e' w0 ⟨rfl, B0⟩
    go_wp2
    go_ret
    exact ⟨rfl, B0⟩
  · have j1 : ¬ ((200 : Int) < (zs.length : Int)) := by omega
    by_cases hsl : 3000 < s.size
    · have j2 : (3000 : Int) < (s.size : Int) := by omega
      go_enter Try.func6, Try.ntmps6
      go_wp2_with fail
      refine (HS.out _).mono ?_
      rintro e' w0 ⟨rfl, B0⟩
      go_wp2
      go_ret
      exact ⟨rfl, B0⟩
    · have j2 : ¬ ((3000 : Int) < (s.size : Int)) := by omega
      go_enter Try.func6, Try.ntmps6
      go_wp2_with fail
      refine (HS.out _).mono ?_
      rintro e' w0 ⟨rfl, B0⟩
      have HB0 := Lib.hid B0
      clear B0
      go_wp2
      go_loopg [6, 7, 8] zs.length (fun K v6 v7 v8 wr => RowsGo w zs K v6 v7 v8 wr)
      case atStart => exact ⟨0, 0, by omega, rfl, rfl, World.ownsRow_nil _ _ _ _, HB0.out⟩
      case round =>
        obtain ⟨i, m, hk, rfl, rfl, hrow, hB⟩ := hrel
        obtain ⟨A6, c6, rfl⟩ := own_slice hrow
        have hszB := hB.size
        have HOwn := Lib.hid hrow
        have HB := Lib.hid hB
        by_cases hil : i < zs.length
        · obtain ⟨z, hz⟩ : ∃ z, zs[i]? = some z := ⟨_, List.getElem?_eq_getElem hil⟩
          obtain ⟨A', c', e', hcs⟩ := HRow.out.reads
          cases e'
          obtain ⟨ad, rfl, a1, _, a3⟩ := hcs i z hz
          have hcell : wr.cell? (ad.add i) = some (.string ⟨z.toArray⟩) := (hB.cell (p := ad.add i) (by rw [addr_block]; exact a1)).trans a3
          have e := List.take_add_one (l := zs) (i := i)
          rw [hz, Option.toList_some] at e
          have hRel : Hid (∀ (m' : Int) (v2 : Value) (w4 : World), w4.ownsRow w.heap.size 28 1 v2 (i + 1) (strs (zs.take i) ++ [.string ⟨z.toArray⟩]) → (wr.alloc (.cells #[.string ⟨z.toArray⟩] 28)).grownBy w4 (Value.slice A6 i c6).ownBlock → RowsGo w zs (gk - 1) v2 (.int .i64 m') (.int .i64 ((i + 1 : Nat) : Int)) w4) := by
            intro m' v2 w4 k1 k2
            refine ⟨i + 1, m', by omega, rfl, rfl, ?_, ?_⟩
            · rw [e]; simpa [strs] using k1
            · have hg2 := grow_trans (World.grownBy_alloc wr (.cells #[.string ⟨z.toArray⟩] 28) _) k2
              exact HB.out.grown hg2 HB.out.size (fun q e => (HOwn.out.lt q e).1)
          have HAft : Hid (∀ w4 : World, (wr.alloc (.cells #[.string ⟨z.toArray⟩] 28)).grownBy w4 (Value.slice A6 i c6).ownBlock → w4.cell? (ad.add i) = some (.string ⟨z.toArray⟩)) := fun w4 k2 => by
            have hg2 := grow_trans (World.grownBy_alloc wr (.cells #[.string ⟨z.toArray⟩] 28) _) k2
            have h4 : Below w.heap.size w w4 := HB.out.grown hg2 HB.out.size (fun q e => (HOwn.out.lt q e).1)
            exact (h4.cell (p := ad.add i) (by rw [addr_block]; exact a1)).trans a3
          have hgk : gk - 1 < gk := by omega
          have q1 : (i : Int) < (zs.length : Int) := by omega
          have q2 : (0 : Int) ≤ (i : Int) := by omega
          clear hB hk hz a1 a3 e hcs HB0
          go_wp2_with (at_builtin; refine wpList_append_own_at _ rfl _ _ 25 rfl w.heap.size 28 i0 _ 1 16 Try.underlying25 hi hz0 hz1 hz2 rfl (by decide) _ _ _ rfl (hrow.alloc _) ⟨wr.heap.size, 0, none⟩ 1 1 [.string ⟨z.toArray⟩] rfl rfl (cell_one_new _ _ _) (by simp [Value.oneCell']) (by unfold maxLen; omega) (by omega) (by simp; omega) ?_; intro v2 w4 hown' hgrow hnil hat; have hc4 := HAft.out w4 hgrow)
          have hRl := Lib.hid (fun m' => hRel.out m' v2 w4 hown' hgrow)
          clear hown' hgrow hnil hat hrow
          go_wp2
          go_roundg (gk - 1)
          case measure => exact hgk
          case rel => exact hRl.out _
        · obtain rfl : i = zs.length := by omega
          have q1 : ¬ ((zs.length : Int) < (zs.length : Int)) := by omega
          rw [List.take_length] at hrow
          by_cases hm : 30000 < m
          · clear hrow hB hk HB0
            go_wp2
            go_ret
            exact ⟨rfl, HB.out⟩
          · have hRowK : RowA wr (.slice A6 zs.length c6) zs := rowA_own hrow HRow.out.short HRow.out.few
            have HPut := Lib.hid (lput_calls zs _ wr hRowK)
            obtain ⟨t, ht⟩ : ∃ t, s.data.toList = t := ⟨_, rfl⟩
            have cT := fun V => ltake_calls s HSs.out V
            rw [ht] at cT
            have HT1 := Lib.hid cT
            have est : (⟨t.toArray⟩ : ByteArray) = s := by rw [← ht]
            have cT2 := fun V => RTake4_calls t (by rw [← ht, len_bytes]; exact HSs.out) V
            rw [est] at cT2
            have HT2 := Lib.hid cT2
            have HRP := Lib.hid (fun (V : World) (b : Below w.heap.size w V) => RPut4_calls zs (.slice A zs.length c) V (HRow.out.below b) (by omega))
            obtain ⟨⟨p1, p2⟩, hpr⟩ : ∃ pr, Tm.putRow zs = pr := ⟨_, rfl⟩
            obtain ⟨⟨t1, t2⟩, htr⟩ : ∃ tr, Tm.takeRow t = tr := ⟨_, rfl⟩
            rw [hpr] at HPut HRP
            rw [htr] at HT1 HT2
            clear hrow hB hk HB0 hRowK ht cT est cT2 hpr htr
            go_wp2_with fail
            refine HPut.out.mono ?_
            rintro e w2 ⟨rfl, b2⟩
            have B2 := HB.out.trans (b2.mono hszB)
            have HRP2 := Lib.hid (HRP.out w2 B2)
            go_wp2_with fail
            refine HRP2.out.mono ?_
            rintro e w3 ⟨rfl, b3⟩
            have B3 := B2.trans (b3.mono B2.size)
            go_wp2_with fail
            refine (HT1.out _).mono ?_
            rintro e w4 ⟨vc, rfl, hrow4, _, b4⟩
            obtain ⟨A4, c4, rfl⟩ := own_slice hrow4
            have B4 := B3.trans (b4.mono B3.size)
            go_wp2_with fail
            refine (HT2.out _).mono ?_
            rintro e w5 ⟨vd, rfl, hrow5, b5⟩
            obtain ⟨A5, c5, rfl⟩ := own_slice hrow5
            have B5 := Lib.hid (B4.trans (b5.mono B4.size))
            have hrow45 := own_below hrow4 b5
            have HCell : Hid (∀ (j : Nat) (x : List UInt8) (V : World), t1[j]? = some x → Below w5.heap.size w5 V → ∃ g4 g5, A4 = some ⟨g4, 0, none⟩ ∧ A5 = some ⟨g5, 0, none⟩ ∧ V.cell? ⟨g4, j, none⟩ = some (.string ⟨x.toArray⟩) ∧ V.cell? ⟨g5, j, none⟩ = some (.string ⟨x.toArray⟩)) := fun j x V hx hb => by
              have hne : t1.length ≠ 0 := by have := (List.getElem?_eq_some_iff.1 hx).1; omega
              rcases hrow45.2 with ⟨_, h0⟩ | ⟨g4, cap4, cur4, e4, _⟩
              · exact absurd h0 hne
              · rcases hrow5.2 with ⟨_, h0⟩ | ⟨g5, cap5, cur5, e5, _⟩
                · exact absurd h0 hne
                · cases e4
                  cases e5
                  exact ⟨g4, g5, rfl, rfl, (hb.cell (p := ⟨g4, j, none⟩) (lt_of_row hrow45)).trans (texts_of_row hrow45 j x hx), (hb.cell (p := ⟨g5, j, none⟩) (lt_of_row hrow5)).trans (texts_of_row hrow5 j x hx)⟩
            have hlen1 : t1.length ≤ 9223372036854775807 := by
              rcases hrow5.2 with ⟨_, h0⟩ | ⟨g5, cap5, cur5, e5, _, _, k1, k2, _⟩
              · have h0' : t1.length = 0 := h0
                omega
              · have k1' : t1.length ≤ cap5 := k1
                unfold maxLen at k2
                omega
            clear hrow4 hrow5 hrow45 b2 b3 b4 b5 B2 B3 B4 HPut HRP HRP2 HT1 HT2
            go_wp2
            go_loopg [17] t1.length (fun K v17 wr => SameGo w5 t1.length K v17 wr)
            case atStart => exact ⟨0, by omega, rfl, Below.refl _ _⟩
            case round =>
              obtain ⟨j, hk, rfl, hB⟩ := hrel
              by_cases hjl : j < t1.length
              · obtain ⟨x, hx⟩ : ∃ x, t1[j]? = some x := ⟨_, List.getElem?_eq_getElem hjl⟩
                obtain ⟨g4, g5, rfl, rfl, k1, k2⟩ := HCell.out j x wr hx hB
                have hRel : Hid (SameGo w5 t1.length (gk - 1) (.int .i64 ((j + 1 : Nat) : Int)) wr.drew) := ⟨j + 1, by omega, rfl, ⟨hB.os, hB.tape, hB.output, hB.size, hB.block⟩⟩
                have hgk : gk - 1 < gk := by omega
                have r1 : (j : Int) < (t1.length : Int) := by omega
                have r2 : (0 : Int) ≤ (j : Int) := by omega
                clear hB hk hx HCell
                go_wp2
                go_region_held3 (fun w' => w'.cell? ⟨g4, j, none⟩ = some (.string ⟨x.toArray⟩) ∧ w'.cell? ⟨g5, j, none⟩ = some (.string ⟨x.toArray⟩)) (go_keep) (fail)
                all_goals
                  go_wp2
                  go_roundg (gk - 1)
                  case measure => exact hgk
                  case rel => exact hRel.out
              · have r1 : ¬ ((j : Int) < (t1.length : Int)) := by omega
                have hfin := Lib.hid (B5.out.trans (hB.mono B5.out.size))
                clear hB hk HCell
                go_wp2
                go_ret
                exact ⟨rfl, hfin.out⟩

end Go.Proofs.Ytekididpimgghaa.L4
