/- Contract of the document's own Put of rows (gemotref4): as the program's. Contract of the document's own Take of rows (gemotref4): as the program's. Contract of the document's own Value (gemotref2). The document's own: Less, ahead. The document's own unrow. Contract of the document's own Put of logs. Contract of the document's own Take of logs. Contract of the document's own Parts. Contract of the document's own Unpart. The program's logs and parts of terms, and the document's own: the same. -/
import Derived.Test.YtkalmfhebffklaaRef1
import Derived.Test.YtkalmfhebffklaaRefNum
import Derived.Test.YtkalmfhebffklaaMeasure
import Derived.Test.YtkalmfhebffklaaRowFacts
import Derived.Test.YtkalmfhebffklaaRef2b
import Derived.Test.YtkalmfhebffklaaRef2
import Derived.Test.YtkalmfhebffklaaReadsP
import Derived.Test.YtkalmfhebffklaaValue
import Derived.Test.YtkalmfhebffklaaCtHe
import Derived.Deep.RegionHeld3
import Derived.IntWalk
import Derived.Test.YtkalmfhebffklaaLater
section
namespace Go.Proofs.Ytkalmfhebffklaa
open Go.ChangeShapes Go.WideShapes Go.ChangeAt Go.RowKit

namespace Tm
def flatP (zs : List (List UInt8)) : List UInt8 := zs.flatMap (fun z => 112 :: z)
theorem flatP_snoc (zs : List (List UInt8)) (z : List UInt8) : flatP (zs ++ [z]) = flatP zs ++ 112 :: z := by simp [flatP]
theorem rowL_flat (zs : List (List UInt8)) : rowL zs = flatP zs ++ num0 := rfl
end Tm
theorem cat_lists (a b : List UInt8) : (⟨a.toArray⟩ ++ ⟨b.toArray⟩ : ByteArray) = ⟨(a ++ b).toArray⟩ := ByteArray.mk_append_mk a b
def RPutting (w : World) (zs : List (List UInt8)) (k : Nat) (v4 v5 : Value) (wr : World) : Prop :=
  ∃ i, k + i = zs.length ∧ v5 = .int .i64 i ∧ v4 = .string ⟨(Tm.flatP (zs.take i)).toArray⟩ ∧ Tm.wrongIn (zs.take i) = false ∧ (Tm.flatP (zs.take i)).length ≤ i * 20001 ∧ Below w.heap.size w wr

set_option maxRecDepth 100000 in
set_option maxHeartbeats 4000000 in
theorem RPut4_calls (zs : List (List UInt8)) (v : Value) (w : World) (h : RowA w v zs) (hl : zs.length ≤ 5000000) : Calls Try.prog 56 #[v] w (Pair2 w (Tm.putRow zs)) := by
  obtain ⟨⟨A, c, rfl, hcells⟩, hshort, _⟩ := h
  have HNum : Hid (∀ V : World, Calls Try.prog 55 #[.int .u64 0] V (One V (.string ⟨Tm.num0.toArray⟩))) := fun V => refNumber_calls 0 (by decide) V
  have HC := Lib.hid hcells
  have HSh := Lib.hid hshort
  obtain ⟨r, hr⟩ : ∃ r, Tm.putRow zs = r := ⟨_, rfl⟩
  rw [hr]
  have HR := Lib.hid hr
  clear hcells hshort hr
  go_enter Try.func56, Try.ntmps56
  go_wp2
  go_loopg [4, 5] zs.length (fun k v4 v5 wr => RPutting w zs k v4 v5 wr)
  case atStart => exact ⟨0, by omega, rfl, rfl, rfl, by simp [Tm.flatP], Below.refl _ _⟩
  case round =>
    obtain ⟨i, hk, rfl, rfl, hw, hb, hB⟩ := hrel
    have HB := Lib.hid hB
    have HW := Lib.hid hw
    have HK := Lib.hid hk
    by_cases hil : i < zs.length
    · obtain ⟨z, hz⟩ : ∃ z, zs[i]? = some z := ⟨_, List.getElem?_eq_getElem hil⟩
      obtain ⟨ad, rfl, a1, _, a3⟩ := HC.out i z hz
      have hcell : wr.cell? (ad.add i) = some (.string ⟨z.toArray⟩) := (hB.cell (p := ad.add i) (by rw [addr_block]; exact a1)).trans a3
      have hzl : Hid (z.length ≤ maxLen) := HSh.out z (List.mem_of_getElem? hz)
      have cR : ∀ V : World, Calls Try.prog 71 #[.string ⟨z.toArray⟩] V (Drew V (.bool (Tm.right z))) := fun V => RRight_calls ⟨z.toArray⟩ (by rw [size_list]; exact hzl.out) V
      have e := List.take_add_one (l := zs) (i := i)
      rw [hz, Option.toList_some] at e
      have HE := Lib.hid e
      have hgk : gk - 1 < gk := by omega
      have j2 : (i : Int) < (zs.length : Int) := by omega
      have j3 : (0 : Int) ≤ (i : Int) := by omega
      cases hrz : Tm.right z with
      | false =>
        rw [hrz] at cR
        have HRz := Lib.hid cR
        have hfin : Hid (∀ n, Pair2 w r (.returned (.tuple #[.string ⟨#[]⟩, .int .i64 1])) (wr.drewN n)) := fun n => by
          have hd : Tm.depthOf z = 0 := by
            have := hrz
            unfold Tm.right at this
            simpa using this
          have hwz : Tm.wrongIn zs = true := by
            have h1 : Tm.wrongIn (zs.take (i + 1)) = true := by rw [HE.out, Tm.wrongIn_snoc, hd]; simp
            unfold Tm.wrongIn at h1 ⊢
            rw [List.any_eq_true] at h1 ⊢
            obtain ⟨x, hx, hx2⟩ := h1
            exact ⟨x, List.mem_of_mem_take hx, hx2⟩
          have := HR.out
          unfold Tm.putRow Tm.measureL at this
          rw [if_pos (Or.inr hwz)] at this
          rw [← this]
          exact ⟨rfl, below_drewN HB.out n⟩
        clear hB hw hk hz a1 a3 e cR hrz
        go_wp2_with fail
        refine (HRz.out _).mono ?_
        rintro e' w3 ⟨rfl, md, rfl⟩
        have HF := Lib.hid (hfin.out md)
        go_wp2
        go_ret2
        exact HF.out
      | true =>
        rw [hrz] at cR
        have HRz := Lib.hid cR
        have hd0 : Tm.depthOf z ≠ 0 := (Tm.right_iff z).1 hrz
        have hz20 := Tm.depthOf_short hd0
        have HD := Lib.hid hd0
        obtain ⟨fl, hfl⟩ : ∃ fl, Tm.flatP (zs.take i) = fl := ⟨_, rfl⟩
        rw [hfl] at hb ⊢
        have HFl := Lib.hid hfl
        have hcat1 : (⟨fl.toArray⟩ ++ ⟨#[112]⟩ : ByteArray) = ⟨(fl ++ [112]).toArray⟩ := cat_lists fl [112]
        have hcat2 : (⟨(fl ++ [112]).toArray⟩ ++ ⟨z.toArray⟩ : ByteArray) = ⟨(fl ++ [112] ++ z).toArray⟩ := cat_lists (fl ++ [112]) z
        have hRel : Hid (∀ n, RPutting w zs (gk - 1) (.string ⟨(fl ++ 112 :: z).toArray⟩) (.int .i64 ((i + 1 : Nat) : Int)) (wr.drewN n)) := fun n => by
          refine ⟨i + 1, by have := HK.out; omega, rfl, ?_, ?_, ?_, below_drewN HB.out n⟩
          · rw [HE.out, Tm.flatP_snoc, HFl.out]
          · rw [HE.out, Tm.wrongIn_snoc, HW.out]; simp; exact HD.out
          · rw [HE.out, Tm.flatP_snoc, HFl.out, Nat.add_mul]; simp; omega
        clear hB hw hk hz a1 a3 e cR hrz hfl hd0
        go_wp2_with fail
        refine (HRz.out _).mono ?_
        rintro e' w3 ⟨rfl, md, rfl⟩
        have HRl := Lib.hid (hRel.out md)
        go_wp2
        go_roundg (gk - 1)
        case measure => exact hgk
        case rel => exact HRl.out
    · obtain rfl : i = zs.length := by omega
      have j2 : ¬ ((zs.length : Int) < (zs.length : Int)) := by omega
      rw [List.take_length] at hw hb ⊢
      have hrow := Tm.rowL_flat zs
      obtain ⟨fl, hfl⟩ : ∃ fl, Tm.flatP zs = fl := ⟨_, rfl⟩
      rw [hfl] at hb hrow ⊢
      have hcat : (⟨fl.toArray⟩ ++ ⟨Tm.num0.toArray⟩ : ByteArray) = ⟨(Tm.rowL zs).toArray⟩ := by rw [hrow]; exact cat_lists fl Tm.num0
      have hrl : (Tm.rowL zs).length = fl.length + 9 := by rw [hrow, List.length_append]; rfl
      have HRow := Lib.hid (And.intro hw hrl)
      clear hB hw hk hfl hrow
      by_cases h1 : 150 < zs.length
      · have j3 : (150 : Int) < (zs.length : Int) := by omega
        have hfin : Hid (Pair2 w r (.returned (.tuple #[.string ⟨#[]⟩, .int .i64 1])) wr) := by
          have := HR.out
          unfold Tm.putRow Tm.measureL at this
          rw [if_pos (Or.inl h1)] at this
          rw [← this]
          exact ⟨rfl, HB.out⟩
        clear hcat hrl
        go_wp2
        go_ret2
        exact hfin.out
      · have j3 : ¬ ((150 : Int) < (zs.length : Int)) := by omega
        have cR : (Tm.rowL zs).length ≤ 100000000 → ∀ V : World, Calls Try.prog 71 #[.string ⟨(Tm.rowL zs).toArray⟩] V (Drew V (.bool (Tm.right (Tm.rowL zs)))) := fun hh V => RRight_calls ⟨(Tm.rowL zs).toArray⟩ (by rw [size_list]; omega) V
        have hp : Hid (r = if 20000 < (Tm.rowL zs).length then ([], 3) else if Tm.right (Tm.rowL zs) = true then (Tm.rowL zs, 0) else ([], 4)) := by
          have := HR.out
          rw [← this]
          have hw := HRow.out.1
          have hn : ¬ (150 < zs.length ∨ Tm.wrongIn zs = true) := by rw [hw]; simp; omega
          by_cases h2 : 20000 < (Tm.rowL zs).length
          · have e : Tm.measureL zs = (0, 3) := by unfold Tm.measureL; rw [if_neg hn, if_pos h2]
            unfold Tm.putRow
            rw [if_pos h2, e]
            rfl
          · rw [if_neg h2]
            by_cases h3 : Tm.right (Tm.rowL zs) = true
            · rw [if_pos h3]
              exact Tm.putRow_mk (by omega) hw (by omega) ((Tm.right_row_iff zs hw (by omega)).1 h3)
            · rw [if_neg h3]
              have h4 : 400 < Tm.deepR zs := by
                have := mt (Tm.right_row_iff zs hw (by omega)).2 h3
                omega
              have e : Tm.measureL zs = (0, 4) := by unfold Tm.measureL; rw [if_neg hn, if_neg h2, if_pos h4]
              unfold Tm.putRow
              rw [e]
              rfl
        have HCr := Lib.hid (cR (by omega))
        have hrsz : (⟨(Tm.rowL zs).toArray⟩ : ByteArray).size = fl.length + 9 := by rw [size_list]; exact hrl
        rw [hrl] at hp
        have hn9 : Tm.num0.length = 9 := Tm.num0_len
        have hn9s : (⟨Tm.num0.toArray⟩ : ByteArray).size = 9 := rfl
        clear cR hrl
        generalize Tm.rowL zs = row at *
        go_wp2_with fail
        refine (HNum.out _).mono ?_
        rintro e' w3 ⟨rfl, b3⟩
        have HB3 := Lib.hid (HB.out.trans (b3.mono HB.out.size))
        clear b3
        have hp' := hp.out
        by_cases h2 : 20000 < fl.length + 9
        · rw [if_pos h2] at hp'
          subst hp'
          have j4 : (20000 : Int) < (fl.length : Int) + 9 := by omega
          go_wp2
          go_ret2
          exact ⟨rfl, HB3.out⟩
        · rw [if_neg h2] at hp'
          have j4 : ¬ ((20000 : Int) < (fl.length : Int) + 9) := by omega
          have HP := Lib.hid hp'
          clear hp hp'
          have hCr := HCr.out
          cases hq : Tm.right row with
          | true =>
            rw [hq] at hCr
            have HC2 := Lib.hid hCr
            have hr2 := HP.out
            rw [if_pos hq] at hr2
            subst hr2
            clear hCr HCr hq HP HR
            go_wp2_with fail
            refine (HC2.out _).mono ?_
            rintro e' w4 ⟨rfl, md, rfl⟩
            go_wp2
            go_ret2
            exact ⟨rfl, below_drewN HB3.out md⟩
          | false =>
            rw [hq] at hCr
            have HC2 := Lib.hid hCr
            have hr2 := HP.out
            rw [if_neg (by rw [hq]; simp)] at hr2
            subst hr2
            clear hCr HCr hq HP HR
            go_wp2_with fail
            refine (HC2.out _).mono ?_
            rintro e' w4 ⟨rfl, md, rfl⟩
            go_wp2
            go_ret2
            exact ⟨rfl, below_drewN HB3.out md⟩

end Go.Proofs.Ytkalmfhebffklaa
end

section
namespace Go.Proofs.Ytkalmfhebffklaa
open Go.ChangeShapes Go.WideShapes Go.ChangeAt Go.RowKit

def RTakeOut (w : World) (r : List (List UInt8) × Nat) (e : Ending) (w' : World) : Prop :=
  ∃ v, e = .returned (.tuple #[v, .int .i64 (r.2 : Nat)]) ∧ w'.ownsRow w.heap.size 9 1 v r.1.length (strs r.1) ∧ Below w.heap.size w w'
def unrowR (k : Nat) (t : List UInt8) : Option (List (List UInt8)) := if Tm.right t = true then Tm.unrow k t else none
theorem takeRow_R (t : List UInt8) : Tm.takeRow t = match unrowR 151 t with | some zs => (zs, 0) | none => ([], 2) := by
  unfold Tm.takeRow unrowR
  split <;> rfl
def RTaking (w : World) (t0 : List UInt8) (k : Nat) (v4 v5 : Value) (wr : World) : Prop :=
  ∃ t acc, k + acc.length = 151 ∧ acc.length ≤ 150 ∧ v5 = .string ⟨t.toArray⟩ ∧ t.length ≤ maxLen ∧ unrowR 151 t0 = (unrowR k t).map (acc ++ ·) ∧ wr.ownsRow w.heap.size 9 1 v4 acc.length (strs acc) ∧ Below w.heap.size w wr

set_option maxRecDepth 100000 in
set_option maxHeartbeats 8000000 in
theorem RTake4_calls (t : List UInt8) (hs : t.length ≤ maxLen) (w : World) : Calls Try.prog 61 #[.string ⟨t.toArray⟩] w (RTakeOut w (Tm.takeRow t)) := by
  obtain ⟨i0, hi, hz0, hz1, hz2⟩ := info_parts info_text
  have HNum : Hid (∀ V : World, Calls Try.prog 55 #[.int .u64 0] V (One V (.string ⟨Tm.num0.toArray⟩))) := fun V => refNumber_calls 0 (by decide) V
  obtain ⟨r, hrr⟩ : ∃ r, Tm.takeRow t = r := ⟨_, rfl⟩
  rw [hrr]
  rw [takeRow_R] at hrr
  have HRr := Lib.hid hrr
  have HS := Lib.hid hs
  clear hrr hs
  go_enter Try.func61, Try.ntmps61
  go_wp2
  go_loopg [4, 5] 151 (fun k v4 v5 wr => RTaking w t k v4 v5 wr)
  case atStart => exact ⟨t, [], rfl, by simp, rfl, HS.out, by simp, World.ownsRow_nil _ _ _ _, Below.refl _ _⟩
  case round =>
    obtain ⟨t1, acc, hk, hal, rfl, hl1, hun, hrow, hB⟩ := hrel
    obtain ⟨k, rfl⟩ : ∃ k, gk = k + 1 := ⟨gk - 1, by omega⟩
    have HRow := Lib.hid hrow
    have HB := Lib.hid hB
    have hszB := hB.size
    obtain ⟨A, c, rfl⟩ := own_slice hrow
    by_cases hz : t1 = Tm.num0
    · have hfin : Hid (∀ w3, Below wr.heap.size wr w3 → RTakeOut w r (.returned (.tuple #[.slice A acc.length c, .int .i64 0])) w3) := fun w3 b3 => by
        have hu : unrowR (k + 1) t1 = some [] := by
          unfold unrowR
          rw [hz, if_pos Tm.num0_right]
          show (if _ then _ else _) = _
          rw [if_neg (by rw [Tm.num0_kind]; decide), if_pos rfl]
        rw [hu] at hun
        have := HRr.out
        rw [hun] at this
        simp at this
        rw [← this]
        exact ⟨_, rfl, own_below HRow.out b3, HB.out.trans (b3.mono hszB)⟩
      have hbq : (t1 == Tm.num0) = true := by rw [hz]; exact beq_self_eq_true _
      clear hrow hB hun hl1 HRow hk hal hz
      go_wp2_with fail
      refine (HNum.out _).mono ?_
      rintro e w3 ⟨rfl, b3⟩
      have HF := Lib.hid (hfin.out w3 b3)
      clear b3
      go_wp2
      go_ret2
      exact HF.out
    · have hbq : (t1 == Tm.num0) = false := beq_eq_false_iff_ne.2 hz
      have HOf : Hid (∀ V : World, Calls Try.prog 75 #[.string ⟨t1.toArray⟩] V (ROfOut V (Tm.partsOfT t1))) := fun V => ROf_calls ⟨t1.toArray⟩ (by rw [size_list]; exact hl1) V
      have cK : ∀ V : World, Calls Try.prog 76 #[.string ⟨t1.toArray⟩] V (Drew V (.int .u8 (Tm.kindOf t1).toNat)) := fun V => RKind_calls ⟨t1.toArray⟩ (by rw [size_list]; exact hl1) V
      by_cases hp : Tm.kindOf t1 = 112
      · obtain ⟨hr1, hk1⟩ := Tm.kind_right hp (by decide)
        obtain ⟨x, y, hof, he, hgx, hry, hyl, hy2⟩ := Tm.pair_two hr1 hk1
        have hu : unrowR (k + 1) t1 = (unrowR k y).map (x :: ·) := by
          unfold unrowR
          rw [if_pos hr1, if_pos hry]
          show (if _ then _ else _) = _
          rw [if_pos hk1, hof]
        rw [hu] at hun
        have hpt : Tm.partsOfT t1 = [x, y] := by unfold Tm.partsOfT; rw [if_pos hr1, hof]
        rw [hpt] at HOf
        rw [hp] at cK
        have HK := Lib.hid cK
        have hxl : x.length ≤ 20000 := hgx.2.2
        by_cases hfull : acc.length = 150
        · obtain rfl : k = 0 := by omega
          have hfin : Hid (∀ w3, Below wr.heap.size wr w3 → RTakeOut w r (.returned (.tuple #[.slice none 0 0, .int .i64 2])) w3) := fun w3 b3 => by
            have h1 : unrowR 151 t = none := by
              rw [hun]
              unfold unrowR
              rw [if_pos hry]
              rfl
            have := HRr.out
            rw [h1] at this
            rw [← this]
            exact ⟨_, rfl, World.ownsRow_nil _ _ _ _, HB.out.trans (b3.mono hszB)⟩
          rw [hfull]
          clear hrow hB hun hl1 HRow hk hal hz hp hr1 hk1 hof he hgx hry hyl hy2 hu hpt cK hfull
          go_wp2_with fail
          refine (HNum.out _).mono ?_
          rintro e w3 ⟨rfl, b3⟩
          go_wp2_with fail
          refine (HOf.out _).mono ?_
          rintro e w4 ⟨v4, rfl, hrow4, b4⟩
          obtain ⟨A4, c4, rfl⟩ := own_slice hrow4
          have b34 := b3.trans (b4.mono b3.size)
          have HB34 := Lib.hid b34
          clear hrow4 b3 b4 b34
          go_wp2_with fail
          refine (HK.out _).mono ?_
          rintro e w5 ⟨rfl, md, rfl⟩
          have HF := Lib.hid (hfin.out _ (below_drewN HB34.out md))
          go_wp2
          go_ret2
          exact HF.out
        · have hneq : ((acc.length : Int) == 150) = false := by rw [beq_eq_false_iff_ne]; omega
          have hRel : Hid (∀ (w3 : World) (v2 : Value) (w4 : World), Below wr.heap.size wr w3 → w4.ownsRow w.heap.size 9 1 v2 (acc.length + 1) (strs acc ++ [.string ⟨x.toArray⟩]) → (w3.alloc (.cells #[.string ⟨x.toArray⟩] 9)).grownBy w4 (Value.slice A acc.length c).ownBlock → RTaking w t k v2 (.string ⟨y.toArray⟩) w4) := by
            intro w3 v2 w4 b3 k1 k2
            refine ⟨y, acc ++ [x], by simp; omega, by simp; omega, rfl, by unfold maxLen; omega, ?_, by simpa [strs] using k1, ?_⟩
            · rw [hun, Option.map_map]
              congr 1
              funext l
              simp
            · have b4 := HB.out.trans (b3.mono hszB)
              have hg2 := grow_trans (World.grownBy_alloc w3 (.cells #[.string ⟨x.toArray⟩] 9) _) k2
              exact b4.grown hg2 b4.size (fun q e => (HRow.out.lt q e).1)
          have hal2 : acc.length < 150 := by omega
          clear hrow hB hun hl1 hk hal hz hp hr1 hk1 hof he hgx hry hyl hy2 hu hpt cK hfull
          go_wp2_with fail
          refine (HNum.out _).mono ?_
          rintro e w3 ⟨rfl, b3⟩
          go_wp2_with fail
          refine (HOf.out _).mono ?_
          rintro e w4 ⟨v4, rfl, hrow4, b4⟩
          obtain ⟨g4, c4, ev4⟩ : ∃ g4 c4, v4 = .slice (some ⟨g4, 0, none⟩) 2 c4 := by
            rcases hrow4.2 with ⟨_, h0⟩ | ⟨g, cap, cur, rfl, _⟩
            · cases h0
            · exact ⟨g, cap, rfl⟩
          subst ev4
          have hT4 := texts_of_row hrow4
          have hg4 := lt_of_row hrow4
          have hg4lo : wr.heap.size ≤ g4 := Nat.le_trans b3.size (hrow4.lt g4 rfl).1
          have c0 := hT4 0 x rfl
          have c1 := hT4 1 y rfl
          have b34 := b3.trans (b4.mono b3.size)
          have HB34 := Lib.hid b34
          have hrow5 : Hid (∀ n, (w4.drewN n).ownsRow w.heap.size 9 1 (.slice A acc.length c) acc.length (strs acc)) := fun n => own_below HRow.out (below_drewN b34 n)
          have hsz4 := b34.size
          clear hrow4 b3 b4 b34 hT4
          go_wp2_with fail
          refine (HK.out _).mono ?_
          rintro e w5 ⟨rfl, md, rfl⟩
          have hr5 := hrow5.out md
          have d0 : (w4.drewN md).cell? ⟨g4, 0, none⟩ = some (.string ⟨x.toArray⟩) := c0
          have hzz : (w4.drewN md).heap.size = w4.heap.size := rfl
          have HB5 := Lib.hid (below_drewN HB34.out md)
          have HC1 : Hid (∀ w6 : World, ((w4.drewN md).alloc (.cells #[.string ⟨x.toArray⟩] 9)).grownBy w6 (Value.slice A acc.length c).ownBlock → w6.cell? ⟨g4, 1, none⟩ = some (.string ⟨y.toArray⟩)) := fun w6 hg => by
            have hb : w6.heap[g4]? = w4.heap[g4]? := by
              refine (hg.block g4 (by simp; omega) (fun e => ?_)).trans ((World.grownBy_alloc (w4.drewN md) (.cells #[.string ⟨x.toArray⟩] 9) none).block g4 (by omega) (by simp))
              have := (HRow.out.lt g4 e.symm).2
              omega
            exact (World.cell?_of_block (a := ⟨g4, 1, none⟩) hb).trans c1
          have hg4' : g4 < (w4.drewN md).heap.size := hg4
          have hsz5 : wr.heap.size ≤ (w4.drewN md).heap.size := hsz4
          clear c0 c1 hzz hrow5 HB34 hg4 hsz4
          generalize w4.drewN md = w5 at *
          go_wp2_with (at_builtin; refine wpList_append_own_at _ rfl _ _ 24 rfl w.heap.size 9 i0 _ 1 16 Try.underlying24 hi hz0 hz1 hz2 rfl (by decide) _ _ _ rfl (hr5.alloc _) ⟨w5.heap.size, 0, none⟩ 1 1 [.string ⟨x.toArray⟩] rfl rfl (cell_one_new _ _ _) (by simp [Value.oneCell']) (by unfold maxLen; omega) (by omega) (by simp; omega) ?_; intro v2 w6 hown' hgrow hnil hat; have hc1 := HC1.out w6 hgrow)
          have hRl := Lib.hid (hRel.out w5 v2 w6 HB5.out hown' hgrow)
          clear hown' hgrow hnil hat
          go_roundg k
          case measure => omega
          case rel => exact hRl.out
      · have hfin : Hid (∀ w3, Below wr.heap.size wr w3 → RTakeOut w r (.returned (.tuple #[.slice none 0 0, .int .i64 2])) w3) := fun w3 b3 => by
          have h1 : unrowR (k + 1) t1 = none := by
            unfold unrowR
            by_cases hr1 : Tm.right t1 = true
            · rw [if_pos hr1]
              show (if _ then _ else _) = _
              unfold Tm.kindOf at hp
              rw [if_pos hr1] at hp
              rw [if_neg hp, if_neg hz]
            · rw [if_neg hr1]
          rw [h1] at hun
          have := HRr.out
          rw [hun] at this
          simp at this
          rw [← this]
          exact ⟨_, rfl, World.ownsRow_nil _ _ _ _, HB.out.trans (b3.mono hszB)⟩
        have g1 : (((Tm.kindOf t1).toNat : Int) != 112) = true := kind_no (n := 112) (by omega) hp
        have HK := Lib.hid cK
        generalize Tm.kindOf t1 = kd at *
        clear hrow hB hun hl1 HRow hk hal hz hp cK
        go_wp2_with fail
        refine (HNum.out _).mono ?_
        rintro e w3 ⟨rfl, b3⟩
        go_wp2_with fail
        refine (HOf.out _).mono ?_
        rintro e w4 ⟨v4, rfl, hrow4, b4⟩
        obtain ⟨A4, c4, rfl⟩ := own_slice hrow4
        have b34 := b3.trans (b4.mono b3.size)
        have HB34 := Lib.hid b34
        clear hrow4 b3 b4 b34
        go_wp2_with fail
        refine (HK.out _).mono ?_
        rintro e w5 ⟨rfl, md, rfl⟩
        have HF := Lib.hid (hfin.out _ (below_drewN HB34.out md))
        go_wp2
        go_ret2
        exact HF.out

end Go.Proofs.Ytkalmfhebffklaa
end

section
namespace Go.Proofs.Ytkalmfhebffklaa
open Go.ChangeShapes Go.WideShapes Go.ChangeAt Go.RowKit

def RValuing (l : List UInt8) (w : World) (k : Nat) (v5 v6 : Value) (wr : World) : Prop :=
  ∃ i : Nat, k + i = 8 ∧ v6 = .int .i64 ((i + 1 : Nat) : Int) ∧ v5 = .int .u64 (Tm.beNum (l.take i)) ∧ ∃ m, wr = w.drewN m

set_option maxRecDepth 100000 in
set_option maxHeartbeats 2000000 in
theorem RValue_word (s : ByteArray) (hr : Tm.right s.data.toList = true) (hk : s.data.toList.getD 0 0 = 110 ∨ s.data.toList.getD 0 0 = 117) (w : World) :
    Calls Try.prog 62 #[.string s] w (Drew w (.tuple #[.int .u64 (Tm.beNum (s.data.toList.drop 1)), .bool true])) := by
  have h9 := Tm.word_long hr hk
  rw [len_bytes] at h9
  have cK := fun W => RKind_calls s (by omega) W
  have hkind : Tm.kindOf s.data.toList = s.data.toList.getD 0 0 := by unfold Tm.kindOf; rw [if_pos hr]
  rw [hkind] at cK
  generalize s.data.toList.getD 0 0 = c at *
  have HK := Lib.hid cK
  obtain ⟨l, hl⟩ : ∃ l, s.data.toList.drop 1 = l := ⟨_, rfl⟩
  have hl8 : l.length = 8 := by rw [← hl, List.length_drop, len_bytes]; omega
  have hget : ∀ i (h : i < 8), l[i]? = some (s[i + 1]'(by omega)) := by
    intro i h
    rw [← hl, List.getElem?_drop, Nat.add_comm 1 i, List.getElem?_eq_getElem (by rw [len_bytes]; omega)]
    congr 1
  rw [hl]
  have HGet := Lib.hid hget
  have gk1 : (((c.toNat : Int) != 110) = false) ∨ (((c.toNat : Int) != 110) = true ∧ ((c.toNat : Int) != 117) = false) := by
    rcases hk with rfl | rfl
    · exact .inl rfl
    · exact .inr ⟨rfl, rfl⟩
  have i9 : (s.size : Int) = 9 := by omega
  have H9 := Lib.hid h9
  clear cK hkind hl hk hr hget
  rcases gk1 with g1 | ⟨g1, g2⟩
  all_goals
    go_enter Try.func62, Try.ntmps62
    go_wp2_with fail
    refine (HK.out _).mono ?_
    rintro e' w' ⟨rfl, md, rfl⟩
    go_wp2
    go_loopg [5, 6] 8 (fun k v5 v6 wr => RValuing l w k v5 v6 wr)
    case atStart => exact ⟨0, by omega, rfl, rfl, _, rfl⟩
    case round =>
      obtain ⟨i, hk, rfl, rfl, md2, rfl⟩ := hrel
      by_cases hi : i < 8
      · have hb := HGet.out i hi
        have l1 : i + 1 < s.size := by have := H9.out; omega
        obtain ⟨b, hbb⟩ : ∃ b, s[i + 1] = b := ⟨_, rfl⟩
        have htk : l.take (i + 1) = l.take i ++ [b] := by rw [List.take_add_one, hb, hbb]; rfl
        have hbs := Tm.beNum_snoc (l.take i) b
        rw [← htk] at hbs
        have hlt := Tm.beNum_lt (l.take i)
        have hlt7 : Tm.beNum (l.take i) < 72057594037927936 := by
          refine Nat.lt_of_lt_of_le hlt ?_
          have : (l.take i).length ≤ 7 := by simp; omega
          calc 256 ^ (l.take i).length ≤ 256 ^ 7 := Nat.pow_le_pow_right (by omega) this
            _ = 72057594037927936 := by decide
        obtain ⟨m, hm⟩ : ∃ m, Tm.beNum (l.take i) = m := ⟨_, rfl⟩
        rw [hm] at hbs hlt7 ⊢
        have HBS := Lib.hid hbs
        have hbn := b.toNat_lt
        have j1 : (i : Int) + 1 < 9 := by omega
        have j2 : (0 : Int) ≤ (i : Int) + 1 := by omega
        have m1 : (0 : Int) ≤ (m : Int) := by omega
        have m2 : (m : Int) < 72057594037927936 := by omega
        have m3 : (b.toNat : Int) < 256 := by omega
        clear hbs htk hlt hm hb
        go_wp2
        go_roundg (gk - 1)
        case measure => omega
        case rel => exact ⟨i + 1, by omega, by simp, by rw [HBS.out]; simp only [Value.int.injEq, true_and]; omega, _, rfl⟩
      · obtain rfl : i = 8 := by omega
        have htk : l.take 8 = l := List.take_of_length_le (by omega)
        rw [htk]
        go_wp2
        go_ret2
        exact ⟨rfl, _, rfl⟩

set_option maxHeartbeats 400000 in
theorem RValue_other (s : ByteArray) (hs : s.size ≤ maxLen) (h1 : ¬ Tm.kindOf s.data.toList = 110) (h2 : ¬ Tm.kindOf s.data.toList = 117) (w : World) :
    Calls Try.prog 62 #[.string s] w (Drew w (.tuple #[.int .u64 0, .bool false])) := by
  have HK := Lib.hid (fun W => RKind_calls s hs W)
  have g1 : (((Tm.kindOf s.data.toList).toNat : Int) != 110) = true := kind_no (n := 110) (by omega) h1
  have g2 : (((Tm.kindOf s.data.toList).toNat : Int) != 117) = true := kind_no (n := 117) (by omega) h2
  generalize Tm.kindOf s.data.toList = c at *
  clear h1 h2
  go_enter Try.func62, Try.ntmps62
  go_wp2_with fail
  refine (HK.out _).mono ?_
  rintro e' w' ⟨rfl, md, rfl⟩
  go_wp2
  go_ret2
  exact ⟨rfl, _, rfl⟩

theorem RValue_calls (s : ByteArray) (hs : s.size ≤ maxLen) (w : World) :
    Calls Try.prog 62 #[.string s] w (Drew w (.tuple #[.int .u64 (Tm.valueT s.data.toList).1, .bool (Tm.valueT s.data.toList).2])) := by
  unfold Tm.valueT
  by_cases h1 : Tm.kindOf s.data.toList = 110
  · rw [if_pos (.inl h1)]
    obtain ⟨k1, k2⟩ := Tm.kind_right h1 (by decide)
    exact RValue_word s k1 (.inl k2) w
  by_cases h2 : Tm.kindOf s.data.toList = 117
  · rw [if_pos (.inr h2)]
    obtain ⟨k1, k2⟩ := Tm.kind_right h2 (by decide)
    exact RValue_word s k1 (.inr k2) w
  rw [if_neg (fun h => h.elim h1 h2)]
  exact RValue_other s hs h1 h2 w

end Go.Proofs.Ytkalmfhebffklaa
end

section
namespace Go.Proofs.Ytkalmfhebffklaa.L11
open Go.ChangeShapes Go.WideShapes Go.ChangeAt Go.RowKit Go.Deep Go.Sort

set_option maxHeartbeats 1000000 in
theorem rless_calls (a b c d : Int) (w : World) : Calls Try.prog 58 #[.agg #[.int .i64 a, .int .i64 b], .agg #[.int .i64 c, .int .i64 d]] w (One w (.bool (lessB a b c d))) := by
  have hB : Below w.heap.size w ((w.alloc (.cells #[.int .i64 a, .int .i64 b] 55)).alloc (.cells #[.int .i64 c, .int .i64 d] 55)) := ((Below.refl _ w).alloc (Nat.le_refl _) _).alloc (by simp) _
  by_cases h1 : a < c
  · have e : lessB a b c d = true := (lessB_iff _ _ _ _).2 (.inl h1)
    rw [e]
    clear e
    go_enter Try.func58, Try.ntmps58
    go_wp2
    go_ret
    exact ⟨rfl, hB⟩
  · by_cases h2 : a = c
    · subst h2
      have h3 : ¬ a < a := by omega
      have e : lessB a b a d = decide (b < d) := by simp [lessB]
      rw [e]
      clear e h1
      go_enter Try.func58, Try.ntmps58
      go_wp2
      go_ret
      exact ⟨rfl, hB⟩
    · have e : lessB a b c d = false := by simp [lessB, h1, h2]
      rw [e]
      clear e
      go_enter Try.func58, Try.ntmps58
      go_wp2
      go_ret
      exact ⟨rfl, hB⟩
set_option maxHeartbeats 1000000 in
theorem rahead_calls (x y : Pt) (w : World) : Calls Try.prog 41 #[.agg x.cells.toArray, .agg y.cells.toArray] w (One w (.bool (aheadP x y))) := by
  have HL := Lib.hid (fun a b c d W => rless_calls a b c d W)
  obtain ⟨e1, c1, s1, i1⟩ := x
  obtain ⟨e2, c2, s2, i2⟩ := y
  simp only [Pt.cells, aheadP]
  generalize i1.v = v1
  generalize i2.v = v2
  obtain ⟨W1, hW1⟩ : ∃ W1, w.alloc (.cells #[.int .i64 e1, .int .i64 c1, .int .i64 s1, v1] 83) = W1 := ⟨_, rfl⟩
  obtain ⟨W2, hW2⟩ : ∃ W2, W1.alloc (.cells #[.int .i64 e2, .int .i64 c2, .int .i64 s2, v2] 83) = W2 := ⟨_, rfl⟩
  obtain ⟨p1, b1, z1⟩ := box_new hW1
  obtain ⟨p2, b2, z2⟩ := box_new hW2
  have q1 : W2.heap[w.heap.size]? = some (.cells #[.int .i64 e1, .int .i64 c1, .int .i64 s1, v1] 83 (0, 0)) := (b2.block _ (by omega)).trans p1
  rw [z1] at p2
  have hcell : ∀ V, Below W2.heap.size W2 V → V.heap[w.heap.size]? = some (.cells #[.int .i64 e1, .int .i64 c1, .int .i64 s1, v1] 83 (0, 0)) ∧ V.heap[w.heap.size + 1]? = some (.cells #[.int .i64 e2, .int .i64 c2, .int .i64 s2, v2] 83 (0, 0)) := fun V hV =>
    ⟨(hV.block _ (Array.getElem?_eq_some_iff.1 q1).1).trans q1, (hV.block _ (Array.getElem?_eq_some_iff.1 p2).1).trans p2⟩
  have HC := Lib.hid hcell
  have HB : Hid (∀ V, Below W2.heap.size W2 V → Below w.heap.size w V) := fun V hV => (b1.trans (b2.mono b1.size)).trans (hV.mono (b1.trans (b2.mono b1.size)).size)
  have a0 : W2.cell? ⟨w.heap.size, 0, none⟩ = some (.int .i64 e1) := box_cell q1 0
  have a1 : W2.cell? ⟨w.heap.size, 1, none⟩ = some (.int .i64 c1) := box_cell q1 1
  have c0 : W2.cell? ⟨w.heap.size + 1, 0, none⟩ = some (.int .i64 e2) := box_cell p2 0
  have c1' : W2.cell? ⟨w.heap.size + 1, 1, none⟩ = some (.int .i64 c2) := box_cell p2 1
  have hs1 : W1.heap.size = w.heap.size + 1 := z1
  clear p1 b1 p2 b2 q1 hcell z2 z1
  have HL1 := Lib.hid (HL.out e1 c1 e2 c2 W2)
  cases hl : lessB e1 c1 e2 c2 with
  | true =>
    rw [hl] at HL1
    clear hl HL
    go_enter Try.func41, Try.ntmps41
    go_wp2_with fail
    refine HL1.out.mono ?_
    rintro e w3 ⟨rfl, b3⟩
    have HF := Lib.hid (HB.out w3 b3)
    clear b3 a0 a1 c0 c1' hW1 hW2
    go_wp2
    go_ret
    exact ⟨by simp, HF.out⟩
  | false =>
    rw [hl] at HL1
    clear hl HL
    rw [Bool.false_or]
    go_enter Try.func41, Try.ntmps41
    go_wp2_with fail
    refine HL1.out.mono ?_
    rintro e w3 ⟨rfl, b3⟩
    obtain ⟨h1, h2⟩ := HC.out w3 b3
    have d0 : w3.cell? ⟨w.heap.size, 0, none⟩ = some (.int .i64 e1) := box_cell h1 0
    have d1 : w3.cell? ⟨w.heap.size, 1, none⟩ = some (.int .i64 c1) := box_cell h1 1
    have d2 : w3.cell? ⟨w.heap.size, 2, none⟩ = some (.int .i64 s1) := box_cell h1 2
    have d3 : w3.cell? ⟨w.heap.size + 1, 0, none⟩ = some (.int .i64 e2) := box_cell h2 0
    have d4 : w3.cell? ⟨w.heap.size + 1, 1, none⟩ = some (.int .i64 c2) := box_cell h2 1
    have d5 : w3.cell? ⟨w.heap.size + 1, 2, none⟩ = some (.int .i64 s2) := box_cell h2 2
    have HF := Lib.hid (HB.out w3 b3)
    clear b3 a0 a1 c0 c1' hW1 hW2 h1 h2 HL1 HC HB
    by_cases k1 : e1 = e2
    · subst k1
      by_cases k2 : c1 = c2
      · subst k2
        go_wp2
        go_ret
        exact ⟨by simp, HF.out⟩
      · go_wp2
        go_ret
        exact ⟨by simp [k2], HF.out⟩
    · go_wp2
      go_ret
      exact ⟨by simp [k1], HF.out⟩
def numU (n : Int) : Bytes := numT (IntKind.u64.wrap n).toNat
def rrow (ns : List Int) (l : List Bytes) : Bytes × Nat := if rowE (ns.map numU ++ l) = 0 ∧ l ≠ [] then (rowT (ns.map numU ++ l), 0) else ([], 1)
def RowGo (w : World) (ns : List Int) (k : Nat) (v6 v7 : Value) (wr : World) : Prop :=
  ∃ i : Nat, k + i = ns.length ∧ v7 = .int .i64 i ∧ wr.ownsRow w.heap.size 9 1 v6 i (txt ((ns.take i).map numU)) ∧ Below w.heap.size w wr
theorem OwnRowS {w : World} {B : Nat} {v : Value} {zs : List Bytes} (h : w.ownsRow B 9 1 v zs.length (txt zs)) (hs : ∀ z ∈ zs, z.length ≤ maxLen) (hf : zs.length ≤ maxLen) : RowA w v zs := by
  refine ⟨?_, hs, hf⟩
  have h' := h
  rcases h.2 with ⟨rfl, h0⟩ | ⟨g, cap, cur, rfl, _, hg, _⟩
  · obtain rfl : zs = [] := List.length_eq_zero_iff.1 h0
    exact ⟨none, 0, rfl, fun j x hx => by simp at hx⟩
  · refine ⟨_, cap, rfl, fun j x hx => ⟨_, rfl, (h'.lt g rfl).2, id, ?_⟩⟩
    exact h'.cells (g := g) rfl j _ (by simp [txt, hx])
theorem u64_lt (n : Int) : IntKind.u64.wrap n = ((IntKind.u64.wrap n).toNat : Int) ∧ (IntKind.u64.wrap n).toNat < 18446744073709551616 := by
  rw [IntKind.wrap_u64]; omega
set_option maxRecDepth 100000 in
set_option maxHeartbeats 4000000 in
theorem rrow_calls (x : It) (ns : List Int) (g cq : Nat) (w : World) (hx : ItAt w x) (hl : x.l.length ≤ 4000000) (hn : ns.length ≤ 3) (hg : g < w.heap.size) (hc : ∀ (j : Nat) (n : Int), ns[j]? = some n → w.cell? ⟨g, j, none⟩ = some (.int .i64 n)) :
    Calls Try.prog 39 #[.slice (some ⟨g, 0, none⟩) ns.length cq, x.v] w (Pair2 w (rrow ns x.l)) := by
  obtain ⟨i0, hi, hz0, hz1, hz2⟩ := info_parts info_str
  obtain ⟨A, c, l⟩ := x
  simp only [It.v]
  replace hl : l.length ≤ 4000000 := hl
  obtain ⟨r, hr⟩ : ∃ r, rrow ns l = r := ⟨_, rfl⟩
  have HR := Lib.hid hr
  simp only [hr]
  clear hr
  have HSt : Hid (RowGo w ns ns.length (.slice none 0 0) (.int .i64 0) w) := ⟨0, by omega, rfl, World.ownsRow_nil _ _ _ _, Below.refl _ _⟩
  have HC := Lib.hid hc
  have HX := Lib.hid hx
  have HG := Lib.hid hg
  clear hc hx hg
  go_enter Try.func39, Try.ntmps39
  go_wp2
  go_loopg [6, 7] ns.length (fun k v6 v7 wr => RowGo w ns k v6 v7 wr)
  case atStart => exact HSt.out
  clear HSt
  case round =>
    obtain ⟨i, hk, rfl, hrow, hB⟩ := hrel
    obtain ⟨A6, c6, rfl⟩ := L5.own_slice hrow
    by_cases hil : i < ns.length
    · obtain ⟨n, hxn⟩ : ∃ n, ns[i]? = some n := ⟨_, List.getElem?_eq_getElem hil⟩
      have j1 : (i : Int) < (ns.length : Int) := by omega
      have j2 : (0 : Int) ≤ (i : Int) := by omega
      have c0 : wr.cell? ⟨g, i, none⟩ = some (.int .i64 n) := (hB.cell (p := ⟨g, i, none⟩) HG.out).trans (HC.out i n hxn)
      have hgk := Lib.hid (show gk - 1 < gk by omega)
      obtain ⟨hu, hm⟩ := u64_lt n
      have HNum : Hid (∀ V, Calls Try.prog 55 #[.int .u64 (IntKind.u64.wrap n)] V (One V (.string ⟨(numU n).toArray⟩))) := fun V => by
        rw [hu]
        exact refNumber_calls _ hm V
      have HRw : Hid (∀ V, Below wr.heap.size wr V → (V.alloc (.cells #[.string ⟨(numU n).toArray⟩] 9)).ownsRow w.heap.size 9 1 (.slice A6 i c6) i (txt ((ns.take i).map numU)) ∧ w.heap.size ≤ V.heap.size ∧
          ∀ v' w1, w1.ownsRow w.heap.size 9 1 v' (i + 1) (txt ((ns.take i).map numU) ++ [.string ⟨(numU n).toArray⟩]) → (V.alloc (.cells #[.string ⟨(numU n).toArray⟩] 9)).grownBy w1 (Value.slice A6 i c6).ownBlock → RowGo w ns (gk - 1) v' (.int .i64 ((i + 1 : Nat) : Int)) w1) := fun V hV => by
        have hr := L5.own_below hrow hV
        have hb := hB.trans (hV.mono hB.size)
        have hbz := hb.size
        refine ⟨hr.alloc _, hbz, fun v' w1 k1 k2 => ⟨i + 1, by omega, rfl, ?_, ?_⟩⟩
        · rw [take_nextR ns hxn, List.map_append, txt_append]; exact k1
        · exact (hb.alloc hbz _).grown k2 (Nat.le_trans hbz (by simp)) (fun q e => (hr.lt q e).1)
      clear hk hrow hB hxn hu hm
      go_wp2_with fail
      refine (HNum.out _).mono ?_
      rintro e w6 ⟨rfl, b6⟩
      obtain ⟨r1, r2, r3⟩ := HRw.out w6 b6
      have HR1 := Lib.hid r1
      have HR3 := Lib.hid r3
      clear r1 r3 b6 HRw HNum
      generalize numU n = tx at *
      go_wp2_with (at_builtin; refine wpList_append_own _ rfl _ _ 24 rfl w.heap.size 9 i0 (.string ⟨#[]⟩) 1 16 Try.underlying24 hi hz0 hz1 hz2 rfl (by decide) _ _ _ rfl HR1.out ⟨w6.heap.size, 0, none⟩ 1 1 [.string ⟨tx.toArray⟩] rfl rfl (cell_one_new _ _ _) (by simp [Value.oneCell']) (by unfold maxLen; omega) (by omega) (by simp; omega) ?_; intro v' w1 hown' hgrow _; have HJ := Lib.hid (HR3.out v' w1 hown' hgrow); clear hown' hgrow)
      go_roundg (gk - 1)
      case measure => exact hgk.out
      case rel => exact HJ.out
    · obtain rfl : i = ns.length := by omega
      have j1 : ¬ (ns.length : Int) < (ns.length : Int) := by omega
      have HX2 := Lib.hid (HX.out.below hB)
      have HR1 := Lib.hid hrow
      have hbs := hB.size
      have hlen : (ns.map numU ++ l).length = ns.length + l.length := by simp
      have HFin : Hid (∀ v' w1, w1.ownsRow w.heap.size 9 1 v' (ns.length + l.length) (txt ((ns.take ns.length).map numU) ++ txt l) → wr.grownBy w1 (Value.slice A6 ns.length c6).ownBlock →
          Calls Try.prog 56 #[v'] w1 (Pair2 w (rowT (ns.map numU ++ l), rowE (ns.map numU ++ l)))) := fun v' w1 k1 k2 => by
        have hb : Below w.heap.size w w1 := hB.grown k2 hbs (fun q e => (hrow.lt q e).1)
        rw [List.take_length, ← txt_append] at k1
        refine (RPut4_calls (ns.map numU ++ l) v' w1 (OwnRowS (by rw [hlen]; exact k1) (fun z hz => ?_) (by rw [hlen]; unfold maxLen; omega)) (by rw [hlen]; omega)).mono (fun e w2 h => ⟨h.1, hb.trans (h.2.mono hb.size)⟩)
        rcases List.mem_append.1 hz with hz | hz
        · obtain ⟨n, _, rfl⟩ := List.mem_map.1 hz
          exact numT_short _
        · exact HX.out.short z hz
      clear hk hrow hB hlen
      go_wp2_with (at_builtin; refine wpList_append_it (by rfl) _ _ 24 rfl w.heap.size 9 i0 (.string ⟨#[]⟩) 16 Try.underlying24 hi hz0 hz1 hz2 rfl _ _ _ rfl HR1.out A c l rfl HX2.out (by unfold maxLen; omega) (by omega) hbs ?_; intro v' w1 hown' hgrow; have HJ := Lib.hid (HFin.out v' w1 hown' hgrow); obtain ⟨A7, c7, rfl⟩ := L5.own_slice hown'; clear hown' hgrow)
      refine HJ.out.mono ?_
      clear HFin HJ
      rintro e w2 ⟨rfl, b2⟩
      by_cases he : rowE (ns.map numU ++ l) = 0
      · rw [he]
        by_cases h0 : l.length = 0
        · have hl0 : l = [] := List.length_eq_zero_iff.1 h0
          have HF : Hid (r = ([], 1) ∧ Below w.heap.size w w2) := ⟨by rw [← HR.out]; unfold rrow; rw [if_neg (by rw [hl0]; simp)], b2⟩
          rw [h0]
          clear b2 HR he hl0
          generalize rowT (ns.map numU ++ l) = tx at *
          go_wp2
          go_ret2
          obtain ⟨rfl, h2⟩ := HF.out
          exact ⟨rfl, h2⟩
        · have h0' : ((l.length : Int) == 0) = false := by rw [beq_eq_false_iff_ne]; omega
          have HF : Hid (r = (rowT (ns.map numU ++ l), 0) ∧ Below w.heap.size w w2) := ⟨by rw [← HR.out]; unfold rrow; rw [if_pos ⟨he, fun e => h0 (by rw [e]; rfl)⟩], b2⟩
          clear b2 HR he
          generalize rowT (ns.map numU ++ l) = tx at *
          go_wp2
          go_ret2
          obtain ⟨rfl, h2⟩ := HF.out
          exact ⟨rfl, h2⟩
      · have he2 : ((rowE (ns.map numU ++ l) : Int) == 0) = false := by rw [beq_eq_false_iff_ne]; omega
        have HF : Hid (r = ([], 1) ∧ Below w.heap.size w w2) := ⟨by rw [← HR.out]; unfold rrow; rw [if_neg (fun h => he h.1)], b2⟩
        clear b2 HR
        generalize rowT (ns.map numU ++ l) = tx at *
        generalize rowE (ns.map numU ++ l) = er at *
        go_wp2
        go_ret2
        obtain ⟨rfl, h2⟩ := HF.out
        exact ⟨rfl, h2⟩
end Go.Proofs.Ytkalmfhebffklaa.L11
end

section
namespace Go.Proofs.Ytkalmfhebffklaa.L11
open Go.ChangeShapes Go.WideShapes Go.ChangeAt Go.RowKit Go.Deep

/-- A row of texts in a block of the call's own. -/
structure OwnX (ty : TypeId) (w : World) (B : Nat) (x : It) : Prop where
  at' : ItAt w x
  blk : ∀ ad z, x.a = some ad → z ∈ x.l → B ≤ ad.block ∧ ∃ cs cur, w.heap[ad.block]? = some (.cells cs ty cur)
theorem OwnX.below {ty : TypeId} {w W : World} {B : Nat} {x : It} (h : OwnX ty w B x) (hb : Below w.heap.size w W) : OwnX ty W B x := ⟨h.at'.below hb, fun ad z e hz => by
  obtain ⟨h1, cs, cur, h2⟩ := h.blk ad z e hz
  exact ⟨h1, cs, cur, (hb.block _ (Array.getElem?_eq_some_iff.1 h2).1).trans h2⟩⟩
theorem OwnX.base {ty : TypeId} {w : World} {B C : Nat} {x : It} (h : OwnX ty w B x) (hc : C ≤ B) : OwnX ty w C x := ⟨h.at', fun ad z e hz => ⟨Nat.le_trans hc (h.blk ad z e hz).1, (h.blk ad z e hz).2⟩⟩
theorem OwnX.grown {ty : TypeId} {w w' : World} {B : Nat} {x : It} (h : OwnX ty w B x) {v : Value} {n : Nat} {xs : List Value} {e : TypeId} {B' size : Nat} (hr : w.ownsRow B' e size v n xs) (he : e ≠ ty) (hg : w.grownBy w' v.ownBlock) : OwnX ty w' B x := by
  have key : ∀ ad z, x.a = some ad → z ∈ x.l → w'.heap[ad.block]? = w.heap[ad.block]? := fun ad z e1 hz => by
    obtain ⟨h1, cs, cur, h2⟩ := h.blk ad z e1 hz
    refine hg.block _ (Array.getElem?_eq_some_iff.1 h2).1 (fun e2 => ?_)
    rcases hr.2 with ⟨e3, _⟩ | ⟨g', cap', cur', e3, _, h3, _⟩
    · rw [e3] at e2; cases e2
    · rw [e3] at e2
      have : ad.block = g' := by cases e2; rfl
      rw [← this, h2] at h3
      cases h3
      exact he rfl
  refine ⟨⟨h.at'.le, h.at'.few, h.at'.nil, h.at'.short, fun j z hz => ?_⟩, fun ad z e1 hz => ?_⟩
  · obtain ⟨ad, e1, h1, h2⟩ := h.at'.reads j z hz
    refine ⟨ad, e1, Nat.lt_of_lt_of_le h1 hg.size, ?_⟩
    rw [← h2]
    exact World.cell?_of_block (by rw [addr_blockC]; exact key ad z e1 (List.mem_of_getElem? hz))
  · obtain ⟨h1, cs, cur, h2⟩ := h.blk ad z e1 hz
    exact ⟨h1, cs, cur, (key ad z e1 hz).trans h2⟩
theorem OwnX.of_own {ty : TypeId} {w : World} {B : Nat} {A : Option Addr} {c : Nat} {zs : List Bytes} (h : w.ownsRow B ty 1 (.slice A zs.length c) zs.length (txt zs)) (hs : ∀ z ∈ zs, z.length ≤ maxLen) : OwnX ty w B ⟨A, c, zs⟩ := by
  have hat : ItAt w ⟨A, c, zs⟩ := by
    have hf : zs.length ≤ maxLen := by
      rcases h.2 with ⟨_, h0⟩ | ⟨g, cap, cur, _, _, _, h1, h2, _⟩
      · omega
      · omega
    obtain ⟨y, e1, e2, e3⟩ := ItAt.of_own h hs hf
    obtain ⟨a', c', l'⟩ := y
    simp only [It.v] at e1 e2
    subst e2
    cases e1
    exact e3
  refine ⟨hat, fun ad z e hz => ?_⟩
  simp only at e
  rcases h.2 with ⟨e3, h0⟩ | ⟨g', cap', cur', e3, h2, h3, _⟩
  · have : A = none := by injection e3
    rw [this] at e; cases e
  · have : A = some ⟨g', 0, none⟩ := by injection e3
    rw [this] at e; cases e; exact ⟨h2, _, _, h3⟩
theorem OwnX.drop {ty : TypeId} {w : World} {B : Nat} {A : Option Addr} {c : Nat} {l : List Bytes} (h : OwnX ty w B ⟨A, c, l⟩) {n : Nat} (hn : n < l.length) : OwnX ty w B ⟨A.map (fun x => x.add n), c - n, l.drop n⟩ := by
  obtain ⟨ad, e, h1⟩ := h.at'.drop hn
  subst e
  refine ⟨h1, fun ad' z e hz => ?_⟩
  cases e
  rw [addr_blockC]
  exact h.blk ad z rfl (List.mem_of_mem_drop hz)
theorem OwnX.none' {ty : TypeId} {w : World} {B : Nat} {A : Option Addr} {c : Nat} (hc : c ≤ maxLen) (hA : A = none → c = 0) : OwnX ty w B ⟨A, c, []⟩ :=
  ⟨⟨Nat.zero_le _, hc, hA, by simp, fun j z hz => by simp at hz⟩, fun ad z e hz => by simp at hz⟩
def RNum (z : Bytes) : Prop := (Tm.valueT z).2 = true ∧ (Tm.valueT z).1 ≤ 2147483647 ∧ z.getD 0 0 = 117
def runOk (t : Bytes) (k : Nat) (zs : List Bytes) : Prop := Tm.takeRow t = (zs, 0) ∧ k < zs.length ∧ ∀ z ∈ zs.take k, RNum z
def RunOut (w : World) (t : Bytes) (k : Nat) (e : Ending) (w' : World) : Prop :=
  (∃ (zs : List Bytes) (A : Option Addr) (c : Nat) (v : Value), runOk t k zs ∧ e = .returned (.tuple #[v, .slice A (zs.drop k).length c, .bool true]) ∧ w'.ownsRow w.heap.size 3 1 v k (numIs (zs.take k)) ∧
    OwnX 9 w' w.heap.size ⟨A, c, zs.drop k⟩ ∧ Below w.heap.size w w') ∨
  ((¬ ∃ zs, runOk t k zs) ∧ e = .returned (.tuple #[.slice none 0 0, .slice none 0 0, .bool false]) ∧ Below w.heap.size w w')
def UnGo (w : World) (zs : List Bytes) (n k : Nat) (v9 v10 : Value) (wr : World) : Prop :=
  ∃ i : Nat, k + i = n ∧ v10 = .int .i64 i ∧ (∀ z ∈ zs.take i, RNum z) ∧ wr.ownsRow w.heap.size 3 1 v9 i (numIs (zs.take i)) ∧ Below w.heap.size w wr
theorem value_head {z : Bytes} (h : (Tm.valueT z).2 = true) : 0 < z.length := by
  unfold Tm.valueT at h
  split at h
  · rename_i hk
    rcases z with _ | ⟨a, l⟩
    · exfalso
      rcases hk with hk | hk <;> simp [Tm.kindOf] at hk
    · simp
  · cases h
set_option maxRecDepth 100000 in
set_option maxHeartbeats 4000000 in
theorem runrow_calls (t : Bytes) (ht : t.length ≤ maxLen) (n : Nat) (hn : n ≤ 3) (w : World) : Calls Try.prog 43 #[.string ⟨t.toArray⟩, .int .i64 (n : Int)] w (RunOut w t n) := by
  obtain ⟨i0, hi, hz0, hz1, hz2⟩ := info_parts info_int11
  have HT := Lib.hid (RTake4_calls t ht w)
  obtain ⟨⟨zs, er⟩, hr⟩ : ∃ r, Tm.takeRow t = r := ⟨_, rfl⟩
  rw [hr] at HT
  have hTl := Lib.hid ht
  clear ht
  go_enter Try.func43, Try.ntmps43
  go_wp2_with fail
  refine HT.out.mono ?_
  clear HT
  rintro e w1 ⟨v, rfl, hown, b1⟩
  obtain ⟨A, c, rfl⟩ := L5.own_slice hown
  have HW1 := Lib.hid b1
  have HNo : Hid ((¬ ∃ zs, runOk t n zs) → ∀ V, Below w1.heap.size w1 V → RunOut w t n (.returned (.tuple #[.slice none 0 0, .slice none 0 0, .bool false])) V) := fun h V hV => .inr ⟨h, rfl, b1.trans (hV.mono b1.size)⟩
  clear b1
  by_cases h1 : er = 0
  · subst h1
    by_cases h2 : zs.length ≤ n
    · have HF := Lib.hid (HNo.out (fun ⟨zs', k1, k2, _⟩ => by rw [hr] at k1; cases k1; omega) w1 (Below.refl _ _))
      have j1 : (zs.length : Int) ≤ (n : Int) := by omega
      clear hr hown HNo h2
      go_wp2
      refine bodyPost_ret (by simp [results]; rfl) rfl ?_
      exact HF.out
    · have j1 : ¬ (zs.length : Int) ≤ (n : Int) := by omega
      have hnl : n < zs.length := by omega
      obtain ⟨_, htz, hlen, _⟩ := takeRow_some hr
      have hshort : ∀ z ∈ zs, z.length ≤ maxLen := fun z hz => Nat.le_trans (row_len hz) (by rw [← htz]; exact hTl.out)
      have HD := Lib.hid (OwnX.of_own hown hshort)
      have hle := HD.out.at'.le
      have hfew := HD.out.at'.few
      simp only at hle hfew
      have HFew := Lib.hid hfew
      unfold maxLen at hfew
      have HStart : Hid (UnGo w1 zs n n (.slice none 0 0) (.int .i64 0) w1) := ⟨0, rfl, rfl, by simp, World.ownsRow_nil _ _ _ _, Below.refl _ _⟩
      have HR := Lib.hid hr
      clear hr hown h2 hshort htz
      have hcI : (n : Int) ≤ (c : Int) := by omega
      have hn0 : (0 : Int) ≤ (n : Int) := by omega
      go_wp2
      rw [show decide (zs.length ≤ n) = false from decide_eq_false (by omega)]
      go_loopg [9, 10] n (fun k v9 v10 wr => UnGo w1 zs n k v9 v10 wr)
      case atStart => exact HStart.out
      clear HStart
      case round =>
        obtain ⟨i, hk, rfl, hpre, hown, hB⟩ := hrel
        obtain ⟨A9, c9, rfl⟩ := L5.own_slice hown
        by_cases hlt : i < n
        · obtain ⟨z, hz⟩ : ∃ z, zs[i]? = some z := ⟨_, List.getElem?_eq_getElem (by omega)⟩
          have hzl := HD.out.at'.short z (List.mem_of_getElem? hz)
          obtain ⟨ad, rfl, hrd⟩ := it_read HD.out.at' i z hz
          have a4 := hrd wr hB
          have HVa := Lib.hid (fun V => RValue_calls ⟨z.toArray⟩ (by rw [size_list]; exact hzl) V)
          have ez : (⟨z.toArray⟩ : ByteArray).data.toList = z := rfl
          rw [ez] at HVa
          have k1 : (i : Int) < (n : Int) := by omega
          have k1' : (i : Int) < (zs.length : Int) := by omega
          have k2 : (0 : Int) ≤ (i : Int) := by omega
          have hgk := Lib.hid (show n - (i + 1) < gk by omega)
          obtain ⟨⟨x, xb⟩, hx⟩ : ∃ r, Tm.valueT z = r := ⟨_, rfl⟩
          have hRN : RNum z ↔ xb = true ∧ x ≤ 2147483647 ∧ z.getD 0 0 = 117 := by unfold RNum; rw [hx]
          have hHd : xb = true → 0 < z.length := fun h => value_head (by rw [hx]; exact h)
          have hxn : x ≤ 2147483647 → numI z = (x : Int) := fun h => by unfold numI; rw [hx]; exact wrap_small (by simp only; omega)
          rw [hx] at HVa
          have HA : Hid (∀ V, Below wr.heap.size wr V → V.cell? (ad.add i) = some (.string ⟨z.toArray⟩)) := fun V hV => hrd V (hB.trans (hV.mono hB.size))
          have HNo2 : Hid (¬ RNum z → ∀ V, Below wr.heap.size wr V → RunOut w t n (.returned (.tuple #[.slice none 0 0, .slice none 0 0, .bool false])) V) := fun hu V hV => HNo.out (fun ⟨zs', k1, _, k3⟩ => by
            rw [HR.out] at k1
            cases k1
            exact hu (k3 z (List.mem_of_getElem? (i := i) (by rw [List.getElem?_take, if_pos hlt]; exact hz)))) V (hB.trans (hV.mono hB.size))
          have HYes : Hid (RNum z → x ≤ 2147483647 → ∀ V, Below wr.heap.size wr V → (V.alloc (.cells #[.int .i64 (x : Int)] 3)).ownsRow w1.heap.size 3 1 (.slice A9 i c9) i (numIs (zs.take i)) ∧ w1.heap.size ≤ V.heap.size ∧
              ∀ v' w6, w6.ownsRow w1.heap.size 3 1 v' (i + 1) (numIs (zs.take i) ++ [.int .i64 (x : Int)]) → (V.alloc (.cells #[.int .i64 (x : Int)] 3)).grownBy w6 (Value.slice A9 i c9).ownBlock → UnGo w1 zs n (n - (i + 1)) v' (.int .i64 ((i + 1 : Nat) : Int)) w6) := fun hu hx31 V hV => by
            have hr := L5.own_below hown hV
            have hb := hB.trans (hV.mono hB.size)
            have hbz := hb.size
            refine ⟨hr.alloc _, hbz, fun v' w6 q1 q2 => ⟨i + 1, by omega, rfl, fun z' hz' => ?_, ?_, ?_⟩⟩
            · rw [take_nextB zs hz] at hz'
              rcases List.mem_append.1 hz' with hz' | hz'
              · exact hpre z' hz'
              · simp at hz'; rw [hz']; exact hu
            · rw [take_nextB zs hz, numIs, List.map_append, ← numIs]
              simp only [List.map_cons, List.map_nil, hxn hx31]
              exact q1
            · exact (hb.alloc hbz _).grown q2 (Nat.le_trans hbz (by simp)) (fun q e => (hr.lt q e).1)
          clear hk hown hB hpre hz hzl hx ez hrd hxn
          cases xb with
          | false =>
            have HNo3 := Lib.hid (HNo2.out (fun h => by have := (hRN.1 h).1; cases this))
            clear hRN hHd HNo2 HYes HA
            go_wp2_with fail
            refine (HVa.out _).mono ?_
            rintro e u2 ⟨rfl, md, rfl⟩
            have HF := Lib.hid (HNo3.out _ (L5.below_drewN (Below.refl _ _) md))
            clear a4 HNo3
            go_wp2
            refine bodyPost_ret (by simp [results]; rfl) rfl ?_
            exact HF.out
          | true =>
            have hzp := hHd rfl
            by_cases hx31 : x ≤ 2147483647
            · have j5 : ¬ (2147483647 : Int) < (x : Int) := by omega
              obtain ⟨b, l, rfl⟩ : ∃ b l, z = b :: l := by
                cases z with
                | nil => simp at hzp
                | cons b l => exact ⟨b, l, rfl⟩
              have hHead : (b :: l).getD 0 0 = b := rfl
              rw [hHead] at hRN
              by_cases hb : b = 117
              · have n0 : ∀ h, (((((⟨(b :: l).toArray⟩ : ByteArray)[0]'h).toNat : Nat) : Int) != 117) = false := fun _ => by
                  show (((b.toNat : Nat) : Int) != 117) = false
                  rw [hb]; rfl
                have HYes2 := Lib.hid (HYes.out (hRN.2 ⟨rfl, hx31, hb⟩) hx31)
                have hx63 : IntKind.i64.wrap (x : Int) = (x : Int) := wrap_small (by omega)
                clear hRN hHd HYes hzp hHead hb HNo2
                go_wp2_with fail
                refine (HVa.out _).mono ?_
                rintro e u2 ⟨rfl, md, rfl⟩
                have a5 := HA.out _ (L5.below_drewN (Below.refl wr.heap.size wr) md)
                obtain ⟨r1, r2, r3⟩ := HYes2.out _ (L5.below_drewN (Below.refl wr.heap.size wr) md)
                have HR1 := Lib.hid r1
                have HR3 := Lib.hid r3
                have hi8 : i ≤ 8 := by omega
                clear r1 r3 a4 HYes2 HA
                generalize wr.drewN md = w7 at *
                go_wp2_with (at_builtin; refine wpList_append_own _ rfl _ _ 70 rfl w1.heap.size 3 i0 (.int .i64 0) 1 8 Try.underlying70 hi hz0 hz1 hz2 rfl (by decide) _ _ _ rfl HR1.out ⟨w7.heap.size, 0, none⟩ 1 1 [.int .i64 (x : Int)] rfl rfl (cell_one_new _ _ _) (by simp [Value.oneCell']) (by unfold maxLen; omega) (by omega) (by simp; omega) ?_; intro v' w8 hown' hgrow _; have HJ := Lib.hid (HR3.out v' w8 hown' hgrow); clear hown' hgrow)
                go_roundg (n - (i + 1))
                case measure => exact hgk.out
                case rel => exact HJ.out
              · have n0 : ∀ h, (((((⟨(b :: l).toArray⟩ : ByteArray)[0]'h).toNat : Nat) : Int) != 117) = true := fun _ => by
                  show (((b.toNat : Nat) : Int) != 117) = true
                  rw [bne_iff_ne]
                  intro e
                  exact hb (UInt8.toNat_inj.1 (Int.ofNat.inj e))
                have HNo3 := Lib.hid (HNo2.out (fun h => hb (hRN.1 h).2.2))
                clear hRN hHd HNo2 HYes hzp hHead hb
                go_wp2_with fail
                refine (HVa.out _).mono ?_
                rintro e u2 ⟨rfl, md, rfl⟩
                have a5 := HA.out _ (L5.below_drewN (Below.refl wr.heap.size wr) md)
                have HF := Lib.hid (HNo3.out _ (L5.below_drewN (Below.refl _ _) md))
                clear a4 HNo3 HA
                go_wp2
                refine bodyPost_ret (by simp [results]; rfl) rfl ?_
                exact HF.out
            · have j5 : (2147483647 : Int) < (x : Int) := by omega
              have HNo3 := Lib.hid (HNo2.out (fun h => hx31 (hRN.1 h).2.1))
              clear hRN hHd HNo2 HYes HA hx31
              go_wp2_with fail
              refine (HVa.out _).mono ?_
              rintro e u2 ⟨rfl, md, rfl⟩
              have HF := Lib.hid (HNo3.out _ (L5.below_drewN (Below.refl _ _) md))
              clear a4 HNo3
              go_wp2
              refine bodyPost_ret (by simp [results]; rfl) rfl ?_
              exact HF.out
        · obtain rfl : i = n := by omega
          have k1 : ¬ ((i : Int) < (i : Int)) := by omega
          have HFin : Hid (∀ (w2 : World) (A2 : Option Addr) (c2 : Nat), Below wr.heap.size wr w2 → OwnX 9 w2 w.heap.size ⟨A2, c2, zs.drop i⟩ → RunOut w t i (.returned (.tuple #[.slice A9 i c9, .slice A2 (zs.drop i).length c2, .bool true])) w2) := fun w2 A2 c2 b2 hd =>
            .inl ⟨zs, A2, c2, _, ⟨HR.out, hnl, hpre⟩, rfl, (L5.own_below hown b2).mono HW1.out.size, hd, HW1.out.trans ((hB.trans (b2.mono hB.size)).mono HW1.out.size)⟩
          have HDw : Hid (∀ w2, Below wr.heap.size wr w2 → OwnX 9 w2 w.heap.size ⟨A, c, zs⟩) := fun w2 b2 => HD.out.below (hB.trans (b2.mono hB.size))
          clear hk hown hB hpre
          have hdl : (zs.drop i).length = zs.length - i := List.length_drop
          have hcap : ¬ c = i := by omega
          have k3 : (i : Int) ≤ (zs.length : Int) := by omega
          have HFin2 : Hid (∀ w2, Below wr.heap.size wr w2 → RunOut w t i (.returned (.tuple #[.slice A9 i c9, .slice (A.map (fun x => x.add i)) (zs.length - i) (c - i), .bool true])) w2) := fun w2 b2 => by
            have := HFin.out w2 (A.map (fun x => x.add i)) (c - i) b2 ((HDw.out w2 b2).drop hnl)
            rw [hdl] at this
            exact this
          clear HFin HDw hdl
          go_wp2
          refine wp_region_later (by kernel_rfl) (by kernel_rfl) ?_
          repeat
            (refine Quietly.step (fun K hK => ?_)
             go_simp
             refine hK _ ?_
             clear hK K)
          refine Quietly.none ?_
          rintro w2 ⟨⟨V, b2⟩, rfl⟩
          have HF := Lib.hid (HFin2.out _ b2)
          clear b2
          go_wp2
          refine bodyPost_ret (by simp [results]; rfl) rfl ?_
          exact HF.out
  · have HF := Lib.hid (HNo.out (fun ⟨zs', k1, _⟩ => by rw [hr] at k1; cases k1; exact h1 rfl) w1 (Below.refl _ _))
    have j1 : ((er : Int) == 0) = false := by rw [beq_eq_false_iff_ne]; omega
    clear hr hown HNo
    go_wp2
    refine bodyPost_ret (by simp [results]; rfl) rfl ?_
    exact HF.out
end Go.Proofs.Ytkalmfhebffklaa.L11
end

section
namespace Go.Proofs.Ytkalmfhebffklaa.L11
open Go.ChangeShapes Go.WideShapes Go.ChangeAt Go.RowKit Go.Deep

def PutOk (lc : List LCore) : Prop := OkLogs lc ∧ ∀ r ∈ lc.map rowLg, rowE r = 0
def PlaceOk (lc : List LCore) (i : Nat) : Prop := LogOk lc i ∧ ∀ c, lc[i]? = some c → rowE (rowLg c) = 0
theorem putOk_places {lc : List LCore} : PutOk lc ↔ ∀ i, PlaceOk lc i := by
  constructor
  · exact fun h i => ⟨h.1 i, fun c hc => h.2 _ (List.mem_map.2 ⟨c, List.mem_of_getElem? hc, rfl⟩)⟩
  · exact fun h => ⟨fun i => (h i).1, fun r hr => by
      obtain ⟨c, hc, rfl⟩ := List.mem_map.1 hr
      obtain ⟨i, hi⟩ := List.getElem?_of_mem hc
      exact (h i).2 c hi⟩
/-- What is told: rows as terms, or nothing. -/
def RRows (w : World) (ok : Prop) (rows : List (List Bytes)) (e : Ending) (w' : World) : Prop :=
  (ok ∧ ∃ v, e = .returned (.tuple #[v, .int .i64 0]) ∧ w'.ownsRow w.heap.size 9 1 v rows.length (txt (rows.map rowT)) ∧ Below w.heap.size w w') ∨
  (¬ ok ∧ e = .returned (.tuple #[.slice none 0 0, .int .i64 1]) ∧ Below w.heap.size w w')
def RPutGo (w : World) (P : Nat → Prop) (rows : List (List Bytes)) (k : Nat) (v4 vi : Value) (wr : World) : Prop :=
  ∃ i : Nat, k + i = rows.length ∧ vi = .int .i64 i ∧ (∀ j, j < i → P j) ∧ wr.ownsRow w.heap.size 9 1 v4 i (txt ((rows.take i).map rowT)) ∧ Below w.heap.size w wr
theorem rrow_ok {se : Int} {l : List Bytes} (h1 : 1 ≤ se) (h8 : se ≤ 8) : rrow [se] l = if rowE (rowLg (se, l)) = 0 ∧ l ≠ [] then (rowT (rowLg (se, l)), 0) else ([], 1) := by
  have e : numU se = numT se.toNat := by
    unfold numU
    congr 1
    rw [IntKind.wrap_u64]
    omega
  unfold rrow
  simp only [List.map_cons, List.map_nil, List.cons_append, List.nil_append, e]
  rfl
theorem rrow_err (ns : List Int) (l : List Bytes) : (rrow ns l).2 = 0 ∨ rrow ns l = ([], 1) := by
  unfold rrow
  split
  · exact .inl rfl
  · exact .inr rfl
set_option maxRecDepth 100000 in
set_option maxHeartbeats 8000000 in
theorem rput_calls {v : Value} {ls : List Lg} (w : World) (h : LogsA w v ls) (hl : ls.length ≤ 4000000) (hits : ∀ l ∈ ls, l.it.l.length ≤ 4000000) :
    Calls Try.prog 14 #[v] w (RRows w (PutOk (ls.map Lg.core)) ((ls.map Lg.core).map rowLg)) := by
  obtain ⟨i0, hi, hz0, hz1, hz2⟩ := info_parts info_str
  obtain ⟨A, c, rfl, hf, hr⟩ := logs_read h
  have HR := Lib.hid hr
  have HIt := Lib.hid hits
  obtain ⟨rows, hrows⟩ : ∃ rows, (ls.map Lg.core).map rowLg = rows := ⟨_, rfl⟩
  have hlen : rows.length = ls.length := by rw [← hrows]; simp
  have HGet : Hid (∀ (i : Nat) (l : Lg), ls[i]? = some l → rows[i]? = some (rowLg l.core)) := fun i l hx => by rw [← hrows, List.getElem?_map, List.getElem?_map, hx]; rfl
  rw [hrows]
  have HLen := Lib.hid hlen
  have HSt : Hid (RPutGo w (PlaceOk (ls.map Lg.core)) rows ls.length (.slice none 0 0) (.int .i64 0) w) := ⟨0, by rw [hlen]; omega, rfl, by omega, World.ownsRow_nil _ _ _ _, Below.refl _ _⟩
  clear hr hf h hits hrows hlen
  go_enter Try.func14, Try.ntmps14
  go_wp2
  go_loopg [4, 5] ls.length (fun k v4 v5 wr => RPutGo w (PlaceOk (ls.map Lg.core)) rows k v4 v5 wr)
  case atStart => exact HSt.out
  clear HSt
  case round =>
    obtain ⟨i, hk, rfl, hpre, hrow, hB⟩ := hrel
    rw [HLen.out] at hk
    obtain ⟨A4, c4, rfl⟩ := L5.own_slice hrow
    by_cases hil : i < ls.length
    · obtain ⟨l, hx⟩ : ∃ l, ls[i]? = some l := ⟨_, List.getElem?_eq_getElem hil⟩
      obtain ⟨ad, rfl, hit, hse, hc⟩ := HR.out i l hx
      obtain ⟨c0, c1⟩ := hc wr hB
      have hl3 := HIt.out l (List.mem_of_getElem? hx)
      have j1 : (i : Int) < (ls.length : Int) := by omega
      have j2 : (0 : Int) ≤ (i : Int) := by omega
      have hgk := Lib.hid (show gk - 1 < gk by omega)
      have hbs := hB.size
      have hcx : (ls.map Lg.core)[i]? = some l.core := by rw [List.getElem?_map, hx]; rfl
      have hrx : rows[i]? = some (rowLg l.core) := HGet.out i l hx
      obtain ⟨se, ⟨A3, c3, l3⟩⟩ := l
      simp only [It.v] at c0 c1
      simp only at hl3
      have HBw := Lib.hid hB
      have HC3 : Hid (∀ V, Below wr.heap.size wr V → V.cell? (ad.add (i * 2)) = some (.int .i64 se) ∧ V.cell? ⟨(ad.add (i * 2)).block, (ad.add (i * 2)).off + 1, none⟩ = some (.slice A3 l3.length c3)) := fun V hV => hc V (hB.trans (hV.mono hbs))
      have HRow1 : Hid (Calls Try.prog 39 #[.slice (some ⟨wr.heap.size, 0, none⟩) 1 1, .slice A3 l3.length c3] (wr.alloc (.cells #[.int .i64 se] 3)).drew fun e w' => e = .returned (.tuple #[.string ⟨(rrow [se] l3).1.toArray⟩, .int .i64 (rrow [se] l3).2]) ∧ (w'.cell? (ad.add (i * 2)) = some (.int .i64 se) ∧ w'.cell? ⟨(ad.add (i * 2)).block, (ad.add (i * 2)).off + 1, none⟩ = some (.slice A3 l3.length c3)) ∧ Below wr.heap.size wr w') := by
        have hVa : Below wr.heap.size wr (wr.alloc (.cells #[.int .i64 se] 3)).drew := ((Below.refl _ _).alloc (Nat.le_refl _) _).drew
        refine (rrow_calls ⟨A3, c3, l3⟩ [se] wr.heap.size 1 _ (hit.below (hB.trans (hVa.mono hbs))) hl3 (by simp) (by simp) (fun j n hn => ?_)).mono ?_
        · match j, hn with
          | 0, hn =>
            simp at hn
            subst hn
            show (wr.alloc (.cells #[.int .i64 se] 3)).cell? ⟨wr.heap.size, 0, none⟩ = _
            simp only [World.cell?]
            rw [World.alloc_heap_new wr _]
            rfl
          | (j + 1), hn => simp at hn
        · rintro e w' ⟨rfl, h2⟩
          have h6 : Below wr.heap.size wr w' := hVa.trans (h2.mono hVa.size)
          exact ⟨rfl, HC3.out w' h6, h6⟩
      have HNo : Hid (¬ PlaceOk (ls.map Lg.core) i → ∀ V, Below wr.heap.size wr V → RRows w (PutOk (ls.map Lg.core)) rows (.returned (.tuple #[.slice none 0 0, .int .i64 1])) V) := fun hno V hV => .inr ⟨fun h => hno (putOk_places.1 h i), rfl, hB.trans (hV.mono hbs)⟩
      generalize hp0 : ad.add (i * 2) = p0 at *
      obtain ⟨⟨rt, re⟩, hrr⟩ : ∃ r, rrow [se] l3 = r := ⟨_, rfl⟩
      rw [hrr] at HRow1
      go_wp2_with fail
      go_region_held3 (fun V => V.cell? p0 = some (.int .i64 se) ∧ V.cell? ⟨p0.block, p0.off + 1, none⟩ = some (.slice A3 l3.length c3))
        ((first | exact ⟨c0, c1⟩ | exact HC3.out _ (((Below.refl _ _).alloc (Nat.le_refl _) _).drew) | exact ⟨g2, g3⟩ | go_keep))
        (first | (go_at_call 39; refine HRow1.out.mono ?_; rintro e w5 ⟨rfl, ⟨g2, g3⟩, b5⟩))
      have HBad : Hid (¬ PlaceOk (ls.map Lg.core) i → ∀ q, RRows w (PutOk (ls.map Lg.core)) rows (.returned (.tuple #[.slice none 0 0, .int .i64 1])) (w5.drewN q)) := fun h q => HNo.out h _ (b5.trans (L5.below_drewN (Below.refl _ _) q |>.mono b5.size))
      have HGood : Hid (PlaceOk (ls.map Lg.core) i → rt = rowT (rowLg (se, l3)) → ∀ q, ((w5.drewN q).alloc (.cells #[.string ⟨rt.toArray⟩] 9)).ownsRow w.heap.size 9 1 (.slice A4 i c4) i (txt ((rows.take i).map rowT)) ∧ w.heap.size ≤ (w5.drewN q).heap.size ∧
          ∀ v' w1, w1.ownsRow w.heap.size 9 1 v' (i + 1) (txt ((rows.take i).map rowT) ++ [.string ⟨rt.toArray⟩]) → ((w5.drewN q).alloc (.cells #[.string ⟨rt.toArray⟩] 9)).grownBy w1 (Value.slice A4 i c4).ownBlock → RPutGo w (PlaceOk (ls.map Lg.core)) rows (gk - 1) v' (.int .i64 ((i + 1 : Nat) : Int)) w1) := fun hp hrt q => by
        have hV : Below wr.heap.size wr (w5.drewN q) := b5.trans (L5.below_drewN (Below.refl _ _) q |>.mono b5.size)
        have hr := L5.own_below hrow hV
        have hb := hB.trans (hV.mono hbs)
        have hbz := hb.size
        refine ⟨hr.alloc _, hbz, fun v' w1 k1 k2 => ⟨i + 1, by rw [HLen.out]; omega, rfl, fun j hj => ?_, ?_, ?_⟩⟩
        · rcases Nat.lt_succ_iff_lt_or_eq.1 hj with h | h
          · exact hpre j h
          · rw [h]; exact hp
        · rw [take_nextR _ hrx, List.map_append, txt_append]
          rw [hrt] at k1
          exact k1
        · exact (hb.alloc hbz _).grown k2 (Nat.le_trans hbz (by simp)) (fun q e => (hr.lt q e).1)
      have hplace : PlaceOk (ls.map Lg.core) i → re = 0 ∧ 1 ≤ se ∧ se ≤ 8 ∧ ∀ d, 0 < i → (ls.map Lg.core)[i - 1]? = some d → d.1 < se := fun hp => by
        obtain ⟨q1, q2, q3, q4⟩ := hp.1 _ hcx
        have q5 := hp.2 _ hcx
        have h9 := rrow_ok (se := se) (l := l3) q1 q2
        rw [hrr, if_pos ⟨q5, q3⟩] at h9
        exact ⟨congrArg Prod.snd h9, q1, q2, q4⟩
      have hplace2 : re = 0 → 1 ≤ se → se ≤ 8 → (∀ d, 0 < i → (ls.map Lg.core)[i - 1]? = some d → d.1 < se) → PlaceOk (ls.map Lg.core) i ∧ rt = rowT (rowLg (se, l3)) := fun h0 q1 q2 q4 => by
        have h9 := rrow_ok (se := se) (l := l3) q1 q2
        rw [hrr] at h9
        split at h9
        · rename_i hc
          refine ⟨⟨fun c hc' => ?_, fun c hc' => ?_⟩, congrArg Prod.fst h9⟩
          · rw [hcx] at hc'; cases hc'
            exact ⟨q1, q2, hc.2, q4⟩
          · rw [hcx] at hc'; cases hc'
            exact hc.1
        · have := congrArg Prod.snd h9
          simp only at this
          omega
      clear hk hpre hrow hB hil hit hse hrx HC3 HRow1 hrr HNo hbs hl3 c0 c1 g3
      by_cases he : re = 0
      · subst he
        by_cases s1 : se < 1
        · have HN := Lib.hid (HBad.out (fun h => by have := (hplace h).2.1; omega))
          clear hplace hplace2 HBad HGood hcx hx hc b5
          go_wp2
          refine region_stillC (by kernel_rfl) (by kernel_rfl) ?_
          repeat
            (refine Quietly.step (fun K hK => ?_)
             go_simp
             refine hK _ ?_
             clear hK K)
          refine Quietly.none ?_
          rintro w6 ⟨nq, rfl⟩
          have HF := Lib.hid (HN.out nq)
          clear HN
          go_wp2
          go_ret2
          exact HF.out
        · by_cases s8 : se > 8
          · have HN := Lib.hid (HBad.out (fun h => by have := (hplace h).2.2.1; omega))
            clear hplace hplace2 HBad HGood hcx hx hc b5
            go_wp2
            refine region_stillC (by kernel_rfl) (by kernel_rfl) ?_
            repeat
              (refine Quietly.step (fun K hK => ?_)
               go_simp
               refine hK _ ?_
               clear hK K)
            refine Quietly.none ?_
            rintro w6 ⟨nq, rfl⟩
            have HF := Lib.hid (HN.out nq)
            clear HN
            go_wp2
            go_ret2
            exact HF.out
          · by_cases h3 : i = 0
            · have g3 : Hid (decide (0 < i) = false) := Lib.hid (by subst h3; rfl)
              obtain ⟨q1, q2⟩ := hplace2 rfl (by omega) (by omega) (fun d hd => absurd hd (by omega))
              have HN := Lib.hid (HGood.out q1 q2)
              have hi4 : i ≤ 4000000 := by omega
              clear hplace hplace2 HBad HGood hcx hx hc b5 q1 q2 h3
              go_wp2
              refine region_stillC (by kernel_rfl) (by kernel_rfl) ?_
              repeat
                (refine Quietly.step (fun K hK => ?_)
                 go_simp
                 try rw [g3.out]
                 refine hK _ ?_
                 clear hK K)
              refine Quietly.none ?_
              rintro w6 ⟨nq, rfl⟩
              obtain ⟨r1, r2, r3⟩ := HN.out nq
              have HR1 := Lib.hid r1
              have HR3 := Lib.hid r3
              clear r1 r3 HN
              generalize w5.drewN nq = w7 at *
              go_wp2_with (at_builtin; refine wpList_append_own _ rfl _ _ 24 rfl w.heap.size 9 i0 (.string ⟨#[]⟩) 1 16 Try.underlying24 hi hz0 hz1 hz2 rfl (by decide) _ _ _ rfl HR1.out ⟨w7.heap.size, 0, none⟩ 1 1 [.string ⟨rt.toArray⟩] rfl rfl (cell_one_new _ _ _) (by simp [Value.oneCell']) (by unfold maxLen; omega) (by omega) (by simp; omega) ?_; intro v' w8 hown' hgrow _; have HJ := Lib.hid (HR3.out v' w8 hown' hgrow); clear hown' hgrow)
              go_roundg (gk - 1)
              case measure => exact hgk.out
              case rel => exact HJ.out
            · obtain ⟨m, rfl⟩ : ∃ m, i = m + 1 := ⟨i - 1, by omega⟩
              obtain ⟨y, hy⟩ : ∃ y, ls[m]? = some y := ⟨_, List.getElem?_eq_getElem (by omega)⟩
              obtain ⟨ad', e', _, _, hcy⟩ := HR.out m y hy
              cases e'
              have y0 : w5.cell? (ad.add (m * 2)) = some (.int .i64 y.se) := (hcy w5 (HBw.out.trans (b5.mono HBw.out.size))).1
              have hcy' : (ls.map Lg.core)[m]? = some y.core := by rw [List.getElem?_map, hy]; rfl
              have k3 : ((m : Int) + 1 > 0) := by omega
              have k4 : (0 : Int) ≤ (m : Int) := by omega
              have k5 : (m : Int) < (ls.length : Int) := by omega
              have k6 : IntKind.i64.wrap ((m : Int) + 1 - 1) = (m : Int) := by rw [show (m : Int) + 1 - 1 = (m : Int) by omega]; exact IntWalk.i64_in _ (by omega)
              have k7 : IntKind.i64.wrap (m : Int) = (m : Int) := IntWalk.i64_in _ (by omega)
              have hi4 : m + 1 ≤ 4000000 := by omega
              have k8 : ((m : Int) + 1).toNat = m + 1 := by omega
              have k9 : (0 : Int) ≤ (m : Int) + 1 := by omega
              have k10 : (m : Int) + 1 < (ls.length : Int) := by omega
              by_cases h4 : se ≤ y.se
              · have HN := Lib.hid (HBad.out (fun h => by
                  have := (hplace h).2.2.2 y.core (by omega) (by rw [show m + 1 - 1 = m by omega]; exact hcy')
                  have h5 : y.se < se := this
                  omega))
                clear hplace hplace2 HBad HGood hcx hx hc b5 hcy hcy' hy h3
                go_wp2
                refine region_stillC (by kernel_rfl) (by kernel_rfl) ?_
                repeat
                  (refine Quietly.step (fun K hK => ?_)
                   go_simp
                   refine hK _ ?_
                   clear hK K)
                refine Quietly.none ?_
                rintro w6 ⟨nq, rfl⟩
                have HF := Lib.hid (HN.out nq)
                clear HN
                go_wp2
                go_ret2
                exact HF.out
              · obtain ⟨q1, q2⟩ := hplace2 rfl (by omega) (by omega) (fun d _ hd => by
                  rw [show m + 1 - 1 = m by omega, hcy'] at hd
                  cases hd
                  show y.se < se
                  omega)
                have HN := Lib.hid (HGood.out q1 q2)
                clear hplace hplace2 HBad HGood hcx hx hc b5 hcy hcy' hy h3 q1 q2
                go_wp2
                refine region_stillC (by kernel_rfl) (by kernel_rfl) ?_
                repeat
                  (refine Quietly.step (fun K hK => ?_)
                   go_simp
                   refine hK _ ?_
                   clear hK K)
                refine Quietly.none ?_
                rintro w6 ⟨nq, rfl⟩
                obtain ⟨r1, r2, r3⟩ := HN.out nq
                have HR1 := Lib.hid r1
                have HR3 := Lib.hid r3
                clear r1 r3 HN
                generalize w5.drewN nq = w7 at *
                go_wp2_with (at_builtin; refine wpList_append_own _ rfl _ _ 24 rfl w.heap.size 9 i0 (.string ⟨#[]⟩) 1 16 Try.underlying24 hi hz0 hz1 hz2 rfl (by decide) _ _ _ rfl HR1.out ⟨w7.heap.size, 0, none⟩ 1 1 [.string ⟨rt.toArray⟩] rfl rfl (cell_one_new _ _ _) (by simp [Value.oneCell']) (by unfold maxLen; omega) (by omega) (by simp; omega) ?_; intro v' w8 hown' hgrow _; have HJ := Lib.hid (HR3.out v' w8 hown' hgrow); clear hown' hgrow)
                go_roundg (gk - 1)
                case measure => exact hgk.out
                case rel => exact HJ.out
      · have he2 : ((re : Int) == 0) = false := by rw [beq_eq_false_iff_ne]; omega
        have HN := Lib.hid (HBad.out (fun h => he (hplace h).1))
        clear hplace hplace2 HBad HGood hcx hx hc b5
        go_wp2
        refine region_stillC (by kernel_rfl) (by kernel_rfl) ?_
        repeat
          (refine Quietly.step (fun K hK => ?_)
           go_simp
           refine hK _ ?_
           clear hK K)
        refine Quietly.none ?_
        rintro w6 ⟨nq, rfl⟩
        have HF := Lib.hid (HN.out nq)
        clear HN
        go_wp2
        go_ret2
        exact HF.out
    · obtain rfl : i = ls.length := by omega
      have j1 : ¬ (ls.length : Int) < (ls.length : Int) := by omega
      have HF : Hid (RRows w (PutOk (ls.map Lg.core)) rows (.returned (.tuple #[.slice A4 ls.length c4, .int .i64 0])) wr) := .inl ⟨putOk_places.2 (fun j => by
          by_cases hj : j < ls.length
          · exact hpre j hj
          · have hn : (ls.map Lg.core)[j]? = none := List.getElem?_eq_none (by simp; omega)
            exact ⟨fun c hc => (by rw [hn] at hc; cases hc), fun c hc => (by rw [hn] at hc; cases hc)⟩), _, rfl, by
        rw [List.take_of_length_le (Nat.le_of_eq HLen.out)] at hrow
        rw [HLen.out]; exact hrow, hB⟩
      clear hk hrow hB hpre
      go_wp2
      go_ret2
      exact HF.out
end Go.Proofs.Ytkalmfhebffklaa.L11
end

section
namespace Go.Proofs.Ytkalmfhebffklaa.L11
open Go.ChangeShapes Go.WideShapes Go.ChangeAt Go.RowKit Go.Deep

instance (z : Bytes) : Decidable (RNum z) := by unfold RNum; exact inferInstance
def runN (k : Nat) (t : Bytes) : Option (List Bytes) := if (Tm.takeRow t).2 = 0 ∧ k < (Tm.takeRow t).1.length ∧ ∀ z ∈ (Tm.takeRow t).1.take k, RNum z then some (Tm.takeRow t).1 else none
theorem runN_iff {k : Nat} {t : Bytes} {zs : List Bytes} : runN k t = some zs ↔ runOk t k zs := by
  unfold runN runOk
  constructor
  · intro h
    split at h
    · rename_i h1
      cases h
      exact ⟨Prod.ext rfl h1.1, h1.2.1, h1.2.2⟩
    · cases h
  · rintro ⟨h1, h2, h3⟩
    rw [h1, if_pos ⟨rfl, h2, h3⟩]
def runlog (t : Bytes) : Option LCore := (runN 1 t).map logOf
def RTook (w : World) (un : Bytes → Option LCore) (tm : List Bytes) (e : Ending) (w' : World) : Prop :=
  (∃ (v : Value) (ls : List Lg), e = .returned (.tuple #[v, .int .i64 0]) ∧ tm.map un = (ls.map Lg.core).map some ∧ PutOk (ls.map Lg.core) ∧ LogsA w' v ls ∧ (∀ l ∈ ls, l.it.l.length ≤ 150) ∧ Below w.heap.size w w') ∨
  ((¬ ∃ lc, tm.map un = lc.map some ∧ PutOk lc) ∧ e = .returned (.tuple #[.slice none 0 0, .int .i64 2]) ∧ Below w.heap.size w w')
def RTakeGo (w : World) (tm : List Bytes) (k : Nat) (v4 vi : Value) (wr : World) : Prop :=
  ∃ (i : Nat) (ls : List Lg), k + i = tm.length ∧ vi = .int .i64 i ∧ (tm.take i).map runlog = (ls.map Lg.core).map some ∧ (∀ l ∈ ls, OwnX 9 wr w.heap.size l.it ∧ isInt l.se ∧ l.it.l.length ≤ 150) ∧
    wr.ownsRow w.heap.size 89 2 v4 ls.length (flatG ls) ∧ Below w.heap.size w wr
set_option maxRecDepth 100000 in
set_option maxHeartbeats 8000000 in
theorem rtake_calls (x : It) (w : World) (h : ItAt w x) (hl : x.l.length ≤ 4000000) : Calls Try.prog 20 #[x.v] w (RTook w runlog x.l) := by
  obtain ⟨i0, hi, hz0, hz1, hz2⟩ := info_partsC info_rlog
  obtain ⟨A, c, tm⟩ := x
  replace hl : tm.length ≤ 4000000 := hl
  have HR := Lib.hid (it_read h)
  have HSh := Lib.hid h.short
  have HSt : Hid (RTakeGo w tm tm.length (.slice none 0 0) (.int .i64 0) w) := ⟨0, [], by omega, rfl, by simp, by simp, World.ownsRow_nil _ _ _ _, Below.refl _ _⟩
  simp only [It.v]
  clear h
  go_enter Try.func20, Try.ntmps20
  go_wp2
  go_loopg [4, 5] tm.length (fun k v4 v5 wr => RTakeGo w tm k v4 v5 wr)
  case atStart => exact HSt.out
  clear HSt
  case round =>
    obtain ⟨i, ls, hk, rfl, hco, hit, hrow, hB⟩ := hrel
    obtain ⟨A9, c9, rfl⟩ := L5.own_slice hrow
    have hbs := hB.size
    have hll : ls.length = (tm.take i).length := by have := congrArg List.length hco; simpa using this.symm
    by_cases hil : i < tm.length
    · obtain ⟨t, hx⟩ : ∃ t, tm[i]? = some t := ⟨_, List.getElem?_eq_getElem hil⟩
      obtain ⟨ad, rfl, hrd⟩ := HR.out i t hx
      have a0 := hrd wr hB
      have ht := HSh.out t (List.mem_of_getElem? hx)
      have j1 : (i : Int) < (tm.length : Int) := by omega
      have j2 : (0 : Int) ≤ (i : Int) := by omega
      have hgk := Lib.hid (show gk - 1 < gk by omega)
      have HS : Hid (∀ V, Calls Try.prog 43 #[.string ⟨t.toArray⟩, .int .i64 1] V (RunOut V t 1)) := fun V => runrow_calls t ht 1 (by omega) V
      have hll' : ls.length ≤ 4000000 := by rw [hll]; simp; omega
      have hnx : (tm.take (i + 1)).map runlog = (ls.map Lg.core).map some ++ [runlog t] := by rw [take_nextR tm hx, List.map_append, hco]; rfl
      have HNo : Hid ((¬ ∃ zs, runOk t 1 zs) → ∀ V, Below wr.heap.size wr V → RTook w runlog tm (.returned (.tuple #[.slice none 0 0, .int .i64 2])) V) := fun hno V hV => by
        refine .inr ⟨fun ⟨lc, k1, _⟩ => hno ?_, rfl, hB.trans (hV.mono hbs)⟩
        have e := congrArg (fun l => l[i]?) k1
        simp only [List.getElem?_map, hx, Option.map_some] at e
        obtain ⟨y, hy, e2⟩ := Option.map_eq_some_iff.1 e.symm
        unfold runlog at e2
        obtain ⟨zs, hz, _⟩ := Option.map_eq_some_iff.1 e2.symm
        exact ⟨zs, runN_iff.1 hz⟩
      have HApp : Hid (∀ (zs : List Bytes) (z0 : Bytes) (A : Option Addr) (c g : Nat) V, runOk t 1 zs → zs[0]? = some z0 → Below wr.heap.size wr V → OwnX 9 V wr.heap.size ⟨A, c, zs.drop 1⟩ → g < V.heap.size → (V.cell? ⟨g, 0, none⟩ = some (.int .i64 (numI z0)) ∧ wr.heap.size ≤ g) →
          (V.alloc (.cells #[.int .i64 (numI z0), .slice A (zs.drop 1).length c] 89)).ownsRow w.heap.size 89 2 (.slice A9 ls.length c9) ls.length (flatG ls) ∧
          (∀ (j : Nat) (u : Value), [Value.int .i64 (numI z0), .slice A (zs.drop 1).length c][j]? = some u → (V.alloc (.cells #[.int .i64 (numI z0), .slice A (zs.drop 1).length c] 89)).cell? ((⟨V.heap.size, 0, none⟩ : Addr).add j) = some u) ∧
          w.heap.size ≤ (V.alloc (.cells #[.int .i64 (numI z0), .slice A (zs.drop 1).length c] 89)).heap.size ∧
          ∀ v' w6, w6.ownsRow w.heap.size 89 2 v' (ls.length + 1) (flatG ls ++ [.int .i64 (numI z0), .slice A (zs.drop 1).length c]) → (V.alloc (.cells #[.int .i64 (numI z0), .slice A (zs.drop 1).length c] 89)).grownBy w6 (Value.slice A9 ls.length c9).ownBlock →
            w6.cell? ⟨g, 0, none⟩ = some (.int .i64 (numI z0)) ∧ RTakeGo w tm (gk - 1) v' (.int .i64 ((i + 1 : Nat) : Int)) w6) := by
        intro zs z0 A c g V hok hz0 hV hD hg hc
        have hr := L5.own_below hrow hV
        have hb := hB.trans (hV.mono hbs)
        have hbz := hb.size
        refine ⟨hr.alloc _, fun j u hu => ?_, Nat.le_trans hbz (by simp), fun v' w6 k1 k2 => ?_⟩
        · rw [add_zeroC]
          simp only [World.cell?]
          rw [World.alloc_heap_new V _]
          simpa using hu
        · have k3 := (World.grownBy_alloc V (.cells #[.int .i64 (numI z0), .slice A (zs.drop 1).length c] 89) (Value.slice A9 ls.length c9).ownBlock).trans k2
          have hcell : w6.cell? ⟨g, 0, none⟩ = some (.int .i64 (numI z0)) := by
            rw [← hc.1]
            refine World.cell?_of_block (k3.block _ hg (fun e => ?_))
            have := (hrow.lt g e.symm).2
            omega
          obtain ⟨_, _, hlz, _⟩ := takeRow_some hok.1
          refine ⟨hcell, i + 1, ls ++ [⟨numI z0, ⟨A, c, zs.drop 1⟩⟩], by omega, rfl, ?_, fun l hl => ?_, ?_, hb.grown k3 hbz (fun q e => (hr.lt q e).1)⟩
          · rw [hnx, List.map_append, List.map_append]
            congr 1
            unfold runlog
            rw [runN_iff.2 hok]
            simp only [Option.map_some, List.map_cons, List.map_nil, logOf, Lg.core, List.getD, hz0, Option.getD_some]
          · rcases List.mem_append.1 hl with hl | hl
            · exact ⟨((hit l hl).1.below hV).grown hr (of_decide_eq_true (by kernel_rfl)) k3, (hit l hl).2⟩
            · obtain rfl := List.mem_singleton.1 hl
              exact ⟨(hD.base hbs).grown hr (of_decide_eq_true (by kernel_rfl)) k3, numI_int z0, by simp; omega⟩
          · rw [flatG_snoc, List.length_append]
            simp only [Lg.cells, It.v]
            exact k1
      clear hk hco hit hrow hB hx hrd ht hnx hll
      go_wp2_with fail
      refine (HS.out _).mono ?_
      rintro e w6 hsp
      rcases hsp with ⟨zs, A2, c2, vn, hok, rfl, hnums, hD, b6⟩ | ⟨hno, rfl, b6⟩
      · obtain ⟨z0, hz0⟩ : ∃ z, zs[0]? = some z := ⟨_, List.getElem?_eq_getElem (by have := hok.2.1; omega)⟩
        have hn1 : numIs (zs.take 1) = [.int .i64 (numI z0)] := by
          match zs, hok.2.1, hz0 with
          | z :: r, _, hz0 => simp at hz0; subst hz0; simp [numIs]
        rw [hn1] at hnums
        obtain ⟨g, cn, rfl⟩ : ∃ g cn, vn = .slice (some ⟨g, 0, none⟩) 1 cn := by
          rcases hnums.2 with ⟨_, h0⟩ | ⟨g, cap, cur, e, _⟩
          · cases h0
          · exact ⟨g, cap, e⟩
        have hgB := (hnums.lt g rfl).1
        have hg := (hnums.lt g rfl).2
        have f1 : w6.cell? ⟨g, 0, none⟩ = some (.int .i64 (numI z0)) := by
          have := hnums.cells (g := g) rfl 0 _ rfl
          rw [add_zeroC] at this
          exact this
        have HA := Lib.hid (HApp.out zs z0 A2 c2 g w6 hok hz0 b6 hD hg ⟨f1, hgB⟩)
        clear hok hz0 hg hnums hn1 hD b6 hgB HApp HNo HS
        generalize numI z0 = n0 at *
        generalize (zs.drop 1).length = dl at *
        go_wp2_with (at_builtin; refine wpList_append_own _ rfl _ _ 37 rfl w.heap.size 89 i0 zeroLg 2 32 Try.underlying37 hi hz0 hz1 hz2 rfl (by decide) _ _ _ rfl HA.out.1 ⟨w6.heap.size, 0, none⟩ 1 1 [.int .i64 n0, .slice A2 dl c2] rfl rfl HA.out.2.1 (by simp [Value.oneCell']) (by unfold maxLen; omega) (by omega) HA.out.2.2.1 ?_; intro v' w1 hown' hgrow _; have HJ := Lib.hid (HA.out.2.2.2 v' w1 hown' hgrow).2; clear hown' hgrow)
        go_roundg (gk - 1)
        case measure => exact hgk.out
        case rel => exact HJ.out
      · have HF := Lib.hid (HNo.out hno w6 b6)
        clear hno b6 HNo HApp
        go_wp2
        go_ret2
        exact HF.out
    · obtain rfl : i = tm.length := by omega
      have j1 : ¬ (tm.length : Int) < (tm.length : Int) := by omega
      rw [List.take_length] at hco hll
      have hLA : LogsA wr (.slice A9 ls.length c9) ls := LogsA.of_own hrow (by unfold maxLen; omega) (fun l hl => ⟨(hit l hl).1.at', (hit l hl).2.1⟩)
      have HRt := Lib.hid (rput_calls wr hLA (by omega) (fun l hl => by have := (hit l hl).2.2; omega))
      have HY : Hid (PutOk (ls.map Lg.core) → ∀ V, Below wr.heap.size wr V → RTook w runlog tm (.returned (.tuple #[.slice A9 ls.length c9, .int .i64 0])) V) := fun hok V hV => .inl ⟨_, ls, rfl, hco, hok, hLA.below hV, fun l hl => (hit l hl).2.2, hB.trans (hV.mono hbs)⟩
      have HN : Hid (¬ PutOk (ls.map Lg.core) → ∀ V, Below wr.heap.size wr V → RTook w runlog tm (.returned (.tuple #[.slice none 0 0, .int .i64 2])) V) := fun hno V hV => by
        refine .inr ⟨fun ⟨lc, k1, k2⟩ => ?_, rfl, hB.trans (hV.mono hbs)⟩
        rw [hco] at k1
        have k3 : ls.map Lg.core = lc := (List.map_inj_right (fun _ _ h => Option.some.inj h)).1 k1
        rw [← k3] at k2
        exact hno k2
      clear hk hco hit hrow hB hll hLA
      go_wp2_with fail
      refine HRt.out.mono ?_
      clear HRt
      rintro e w6 hro
      rcases hro with ⟨hok, v9, rfl, hv9, b6⟩ | ⟨hno, rfl, b6⟩
      · have HF2 := Lib.hid (HY.out hok w6 b6)
        obtain ⟨Ay, cy, rfl⟩ := L5.own_slice hv9
        clear hok hv9 b6 HY HN
        go_wp2
        go_ret2
        exact HF2.out
      · have HF2 := Lib.hid (HN.out hno w6 b6)
        clear hno b6 HY HN
        go_wp2
        go_ret2
        exact HF2.out
end Go.Proofs.Ytkalmfhebffklaa.L11
end

section
namespace Go.Proofs.Ytkalmfhebffklaa.L11
open Go.ChangeShapes Go.WideShapes Go.ChangeAt Go.RowKit Go.Deep

def PutPOk (pc : List Core) : Prop := OkParts pc ∧ ∀ r ∈ pc.map rowPt, rowE r = 0
def PlacePOk (pc : List Core) (i : Nat) : Prop := PartOk pc i ∧ ∀ c, pc[i]? = some c → rowE (rowPt c) = 0
theorem putPOk_places {pc : List Core} : PutPOk pc ↔ ∀ i, PlacePOk pc i := by
  constructor
  · exact fun h i => ⟨h.1 i, fun c hc => h.2 _ (List.mem_map.2 ⟨c, List.mem_of_getElem? hc, rfl⟩)⟩
  · exact fun h => ⟨fun i => (h i).1, fun r hr => by
      obtain ⟨c, hc, rfl⟩ := List.mem_map.1 hr
      obtain ⟨i, hi⟩ := List.getElem?_of_mem hc
      exact (h i).2 c hi⟩
theorem numU_small {n : Int} (h : 0 ≤ n) (h2 : n ≤ 2147483647) : numU n = numT n.toNat := by
  unfold numU
  congr 1
  rw [IntKind.wrap_u64]
  omega
theorem rrow_ok3 {ep co se : Int} {l : List Bytes} (h : OldOk ep co) (h1 : 1 ≤ se) (h8 : se ≤ 8) : rrow [ep, co, se] l = if rowE (rowPt (ep, co, se, l)) = 0 ∧ l ≠ [] then (rowT (rowPt (ep, co, se, l)), 0) else ([], 1) := by
  obtain ⟨o1, o2, o3, o4⟩ := h
  unfold rrow
  simp only [List.map_cons, List.map_nil, List.cons_append, List.nil_append, numU_small o1 o2, numU_small o3 (show co ≤ 2147483647 by omega), numU_small (show 0 ≤ se by omega) (show se ≤ 2147483647 by omega)]
  rfl
set_option maxRecDepth 100000 in
set_option maxHeartbeats 8000000 in
theorem rparts_calls {v : Value} {ls : List Pt} (w : World) (h : PartsA w v ls) (hl : ls.length ≤ 4000000) (hits : ∀ l ∈ ls, l.it.l.length ≤ 4000000) :
    Calls Try.prog 17 #[v] w (RRows w (PutPOk (ls.map Pt.core)) ((ls.map Pt.core).map rowPt)) := by
  obtain ⟨i0, hi, hz0, hz1, hz2⟩ := info_parts info_str
  obtain ⟨A, c, rfl, hf, hr⟩ := parts_read h
  have HR := Lib.hid hr
  have HIt := Lib.hid hits
  have HDr := Lib.hid (fun x y V => rahead_calls x y V)
  obtain ⟨rows, hrows⟩ : ∃ rows, (ls.map Pt.core).map rowPt = rows := ⟨_, rfl⟩
  have hlen : rows.length = ls.length := by rw [← hrows]; simp
  have HGet : Hid (∀ (i : Nat) (l : Pt), ls[i]? = some l → rows[i]? = some (rowPt l.core)) := fun i l hx => by rw [← hrows, List.getElem?_map, List.getElem?_map, hx]; rfl
  rw [hrows]
  have HLen := Lib.hid hlen
  have HSt : Hid (RPutGo w (PlacePOk (ls.map Pt.core)) rows ls.length (.slice none 0 0) (.int .i64 0) w) := ⟨0, by rw [hlen]; omega, rfl, by omega, World.ownsRow_nil _ _ _ _, Below.refl _ _⟩
  clear hr hf h hits hrows hlen
  go_enter Try.func17, Try.ntmps17
  go_wp2
  go_loopg [4, 5] ls.length (fun k v4 v5 wr => RPutGo w (PlacePOk (ls.map Pt.core)) rows k v4 v5 wr)
  case atStart => exact HSt.out
  clear HSt
  case round =>
    obtain ⟨i, hk, rfl, hpre, hrow, hB⟩ := hrel
    rw [HLen.out] at hk
    obtain ⟨A4, c4, rfl⟩ := L5.own_slice hrow
    by_cases hil : i < ls.length
    · obtain ⟨l, hx⟩ : ∃ l, ls[i]? = some l := ⟨_, List.getElem?_eq_getElem hil⟩
      obtain ⟨ad, rfl, hit, hse, hc⟩ := HR.out i l hx
      obtain ⟨c0, c1, c2, c3⟩ := hc wr hB
      have hl3 := HIt.out l (List.mem_of_getElem? hx)
      have j1 : (i : Int) < (ls.length : Int) := by omega
      have j2 : (0 : Int) ≤ (i : Int) := by omega
      have hgk := Lib.hid (show gk - 1 < gk by omega)
      have hbs := hB.size
      have hcx : (ls.map Pt.core)[i]? = some l.core := by rw [List.getElem?_map, hx]; rfl
      have hrx : rows[i]? = some (rowPt l.core) := HGet.out i l hx
      obtain ⟨ep, co, se, ⟨A3, cc3, l3⟩⟩ := l
      simp only [It.v] at c0 c1 c2 c3
      simp only at hl3
      obtain ⟨W1, hW1⟩ : ∃ W1, wr.alloc (.cells #[.int .i64 ep, .int .i64 co, .int .i64 se, .slice A3 l3.length cc3] 83) = W1 := ⟨_, rfl⟩
      obtain ⟨W2, hW2⟩ : ∃ W2, W1.alloc (.cells #[.int .i64 ep, .int .i64 co, .int .i64 se] 3) = W2 := ⟨_, rfl⟩
      obtain ⟨p1, b1, s1⟩ := box_new hW1
      obtain ⟨p2, b2, s2⟩ := box_new hW2
      have d0 : W1.cell? ⟨wr.heap.size, 0, none⟩ = some (.int .i64 ep) := box_cell p1 0
      have d1 : W1.cell? ⟨wr.heap.size, 1, none⟩ = some (.int .i64 co) := box_cell p1 1
      have d2 : W1.cell? ⟨wr.heap.size, 2, none⟩ = some (.int .i64 se) := box_cell p1 2
      have d3 : W1.cell? ⟨wr.heap.size, 3, none⟩ = some (.slice A3 l3.length cc3) := box_cell p1 3
      have bW : Below wr.heap.size wr W2 := b1.trans (b2.mono (by omega))
      have HJ := rrow_calls ⟨A3, cc3, l3⟩ [ep, co, se] W1.heap.size 3 W2 (hit.below ((hB.trans (bW.mono hbs)))) hl3 (by simp) (by omega) (fun j m hm => cells_at hW2 j _ (by
        match j, hm with
        | 0, hm => simp at hm; subst hm; rfl
        | 1, hm => simp at hm; subst hm; rfl
        | 2, hm => simp at hm; subst hm; rfl
        | (j + 3), hm => simp at hm))
      simp only [It.v, List.length_cons, List.length_nil] at HJ
      rw [s1] at HJ
      have HJ := Lib.hid HJ
      have HBox : Hid (∀ V, Below W2.heap.size W2 V → ∀ j, V.cell? ⟨wr.heap.size, j, none⟩ = W1.cell? ⟨wr.heap.size, j, none⟩) := fun V hV j => by
        have h1 : W2.cell? ⟨wr.heap.size, j, none⟩ = W1.cell? ⟨wr.heap.size, j, none⟩ := b2.cell (p := ⟨wr.heap.size, j, none⟩) (by rw [s1]; exact Nat.lt_succ_self _)
        exact (hV.cell (p := ⟨wr.heap.size, j, none⟩) (by rw [s2, s1]; show wr.heap.size < _; omega)).trans h1
      have d3b : W2.cell? ⟨wr.heap.size, 3, none⟩ = some (.slice A3 l3.length cc3) := (HBox.out W2 (Below.refl _ _) 3).trans d3
      have HNo : Hid (¬ PlacePOk (ls.map Pt.core) i → ∀ V, Below wr.heap.size wr V → RRows w (PutPOk (ls.map Pt.core)) rows (.returned (.tuple #[.slice none 0 0, .int .i64 1])) V) := fun hno V hV => .inr ⟨fun h => hno (putPOk_places.1 h i), rfl, hB.trans (hV.mono hbs)⟩
      obtain ⟨⟨rt, re⟩, hrr⟩ : ∃ r, rrow [ep, co, se] l3 = r := ⟨_, rfl⟩
      rw [hrr] at HJ
      have HW2 := Lib.hid bW
      have HD := Lib.hid (And.intro d0 (And.intro d1 (And.intro d2 d3)))
      have HBw := Lib.hid hB
      clear p1 b1 p2 b2 s2 bW hc
      go_wp2_with fail
      refine HJ.out.mono ?_
      clear HJ
      rintro e w5 ⟨rfl, b5⟩
      clear hW1 hW2 d0 d1 d2 d3 d3b c0 c1 c2 c3 s1
      have hX : ∀ X : Later w5, Below W2.heap.size W2 X.world := fun X => b5.trans (X.kept.mono b5.size)
      have HWX : Hid (∀ X : Later w5, Below wr.heap.size wr X.world) := fun X => HW2.out.trans ((hX X).mono HW2.out.size)
      have f0 : ∀ X : Later w5, X.world.cell? ⟨wr.heap.size, 0, none⟩ = some (.int .i64 ep) := fun X => (HBox.out _ (hX X) 0).trans HD.out.1
      have f1 : ∀ X : Later w5, X.world.cell? ⟨wr.heap.size, 1, none⟩ = some (.int .i64 co) := fun X => (HBox.out _ (hX X) 1).trans HD.out.2.1
      have f2 : ∀ X : Later w5, X.world.cell? ⟨wr.heap.size, 2, none⟩ = some (.int .i64 se) := fun X => (HBox.out _ (hX X) 2).trans HD.out.2.2.1
      have f3 : ∀ X : Later w5, X.world.cell? ⟨wr.heap.size, 3, none⟩ = some (.slice A3 l3.length cc3) := fun X => (HBox.out _ (hX X) 3).trans HD.out.2.2.2
      have HBad : Hid (¬ PlacePOk (ls.map Pt.core) i → ∀ X : Later w5, RRows w (PutPOk (ls.map Pt.core)) rows (.returned (.tuple #[.slice none 0 0, .int .i64 1])) X.world) := fun h X => HNo.out h _ (HWX.out X)
      have HGood : Hid (PlacePOk (ls.map Pt.core) i → rt = rowT (rowPt (ep, co, se, l3)) → ∀ X : Later w5, (X.world.alloc (.cells #[.string ⟨rt.toArray⟩] 9)).ownsRow w.heap.size 9 1 (.slice A4 i c4) i (txt ((rows.take i).map rowT)) ∧ w.heap.size ≤ X.world.heap.size ∧
          ∀ v' w1, w1.ownsRow w.heap.size 9 1 v' (i + 1) (txt ((rows.take i).map rowT) ++ [.string ⟨rt.toArray⟩]) → (X.world.alloc (.cells #[.string ⟨rt.toArray⟩] 9)).grownBy w1 (Value.slice A4 i c4).ownBlock → RPutGo w (PlacePOk (ls.map Pt.core)) rows (gk - 1) v' (.int .i64 ((i + 1 : Nat) : Int)) w1) := fun hp hrt X => by
        have hV := HWX.out X
        have hr := L5.own_below hrow hV
        have hb := hB.trans (hV.mono hbs)
        have hbz := hb.size
        refine ⟨hr.alloc _, hbz, fun v' w1 k1 k2 => ⟨i + 1, by rw [HLen.out]; omega, rfl, fun j hj => ?_, ?_, ?_⟩⟩
        · rcases Nat.lt_succ_iff_lt_or_eq.1 hj with h | h
          · exact hpre j h
          · rw [h]; exact hp
        · rw [take_nextR _ hrx, List.map_append, txt_append]
          rw [hrt] at k1
          exact k1
        · exact (hb.alloc hbz _).grown k2 (Nat.le_trans hbz (by simp)) (fun q e => (hr.lt q e).1)
      have hplace : PlacePOk (ls.map Pt.core) i → re = 0 ∧ OldOk ep co ∧ (1 ≤ se ∧ se ≤ 8) ∧ ∀ d, 0 < i → (ls.map Pt.core)[i - 1]? = some d → aheadC d (ep, co, se, l3) = true := fun hp => by
        obtain ⟨q1, q2, q3, q4⟩ := hp.1 _ hcx
        have q5 := hp.2 _ hcx
        have h9 := rrow_ok3 (ep := ep) (co := co) (se := se) (l := l3) q1 q2.1 q2.2
        rw [hrr, if_pos ⟨q5, q3⟩] at h9
        exact ⟨congrArg Prod.snd h9, q1, q2, q4⟩
      have hplace2 : re = 0 → OldOk ep co → 1 ≤ se → se ≤ 8 → (∀ d, 0 < i → (ls.map Pt.core)[i - 1]? = some d → aheadC d (ep, co, se, l3) = true) → PlacePOk (ls.map Pt.core) i ∧ rt = rowT (rowPt (ep, co, se, l3)) := fun h0 q0 q1 q2 q4 => by
        have h9 := rrow_ok3 (ep := ep) (co := co) (se := se) (l := l3) q0 q1 q2
        rw [hrr] at h9
        split at h9
        · rename_i hc
          refine ⟨⟨fun c hc' => ?_, fun c hc' => ?_⟩, congrArg Prod.fst h9⟩
          · rw [hcx] at hc'; cases hc'
            exact ⟨q0, ⟨q1, q2⟩, hc.2, q4⟩
          · rw [hcx] at hc'; cases hc'
            exact hc.1
        · have := congrArg Prod.snd h9
          simp only at this
          omega
      clear hk hpre hrow hB hil hit hse hrx hrr HNo hbs hl3 hX HBox HD hcx
      by_cases he : re = 0
      case neg =>
        have he2 : ((re : Int) == 0) = false := by rw [beq_eq_false_iff_ne]; omega
        have HN := Lib.hid (HBad.out (fun h => he (hplace h).1))
        clear hplace hplace2 HBad HGood hx HWX b5
        go_wp2
        refine wp_region_later (by kernel_rfl) (by kernel_rfl) ?_
        repeat
          (refine Quietly.step (fun K hK => ?_)
           go_simp
           first
             | (refine hK _ ?_)
           clear hK K)
        refine Quietly.none ?_
        rintro w6 ⟨X, rfl⟩
        have HF := Lib.hid (HN.out X)
        clear HN
        go_wp2
        go_ret2
        exact HF.out
      subst he
      by_cases s1 : se < 1
      case pos =>
        have HN := Lib.hid (HBad.out (fun h => by have := (hplace h).2.2.1.1; omega))
        clear hplace hplace2 HBad HGood hx HWX b5
        go_wp2
        refine wp_region_later (by kernel_rfl) (by kernel_rfl) ?_
        repeat
          (refine Quietly.step (fun K hK => ?_)
           go_simp
           first
             | (refine hK _ ?_)
           clear hK K)
        refine Quietly.none ?_
        rintro w6 ⟨X, rfl⟩
        have HF := Lib.hid (HN.out X)
        clear HN
        go_wp2
        go_ret2
        exact HF.out
      by_cases s8 : se > 8
      case pos =>
        have HN := Lib.hid (HBad.out (fun h => by have := (hplace h).2.2.1.2; omega))
        clear hplace hplace2 HBad HGood hx HWX b5
        go_wp2
        refine wp_region_later (by kernel_rfl) (by kernel_rfl) ?_
        repeat
          (refine Quietly.step (fun K hK => ?_)
           go_simp
           first
             | (refine hK _ ?_)
           clear hK K)
        refine Quietly.none ?_
        rintro w6 ⟨X, rfl⟩
        have HF := Lib.hid (HN.out X)
        clear HN
        go_wp2
        go_ret2
        exact HF.out
      by_cases e0 : ep < 0
      case pos =>
        have HN := Lib.hid (HBad.out (fun h => by have := (hplace h).2.1.1; omega))
        clear hplace hplace2 HBad HGood hx HWX b5
        go_wp2
        refine wp_region_later (by kernel_rfl) (by kernel_rfl) ?_
        repeat
          (refine Quietly.step (fun K hK => ?_)
           go_simp
           first
             | (refine hK _ ?_)
           clear hK K)
        refine Quietly.none ?_
        rintro w6 ⟨X, rfl⟩
        have HF := Lib.hid (HN.out X)
        clear HN
        go_wp2
        go_ret2
        exact HF.out
      by_cases e1 : ep > 2147483647
      case pos =>
        have HN := Lib.hid (HBad.out (fun h => by have := (hplace h).2.1.2.1; omega))
        clear hplace hplace2 HBad HGood hx HWX b5
        go_wp2
        refine wp_region_later (by kernel_rfl) (by kernel_rfl) ?_
        repeat
          (refine Quietly.step (fun K hK => ?_)
           go_simp
           first
             | (refine hK _ ?_)
           clear hK K)
        refine Quietly.none ?_
        rintro w6 ⟨X, rfl⟩
        have HF := Lib.hid (HN.out X)
        clear HN
        go_wp2
        go_ret2
        exact HF.out
      by_cases k0 : co < 0
      case pos =>
        have HN := Lib.hid (HBad.out (fun h => by have := (hplace h).2.1.2.2.1; omega))
        clear hplace hplace2 HBad HGood hx HWX b5
        go_wp2
        refine wp_region_later (by kernel_rfl) (by kernel_rfl) ?_
        repeat
          (refine Quietly.step (fun K hK => ?_)
           go_simp
           first
             | (refine hK _ ?_)
           clear hK K)
        refine Quietly.none ?_
        rintro w6 ⟨X, rfl⟩
        have HF := Lib.hid (HN.out X)
        clear HN
        go_wp2
        go_ret2
        exact HF.out
      by_cases k8 : co > 8
      case pos =>
        have HN := Lib.hid (HBad.out (fun h => by have := (hplace h).2.1.2.2.2; omega))
        clear hplace hplace2 HBad HGood hx HWX b5
        go_wp2
        refine wp_region_later (by kernel_rfl) (by kernel_rfl) ?_
        repeat
          (refine Quietly.step (fun K hK => ?_)
           go_simp
           first
             | (refine hK _ ?_)
           clear hK K)
        refine Quietly.none ?_
        rintro w6 ⟨X, rfl⟩
        have HF := Lib.hid (HN.out X)
        clear HN
        go_wp2
        go_ret2
        exact HF.out
      by_cases h3 : i = 0
      · have g3 : Hid (decide (0 < i) = false) := Lib.hid (by subst h3; rfl)
        obtain ⟨q1, q2⟩ := hplace2 rfl ⟨by omega, by omega, by omega, by omega⟩ (by omega) (by omega) (fun d hd => absurd hd (by omega))
        have HN := Lib.hid (HGood.out q1 q2)
        have hi4 : i ≤ 4000000 := by omega
        clear hplace hplace2 HBad HGood hx HWX b5 q1 q2 h3
        go_wp2
        refine wp_region_later (by kernel_rfl) (by kernel_rfl) ?_
        repeat
          (refine Quietly.step (fun K hK => ?_)
           go_simp
           try rw [g3.out]
           first
             | (refine hK _ ?_)
           clear hK K)
        refine Quietly.none ?_
        rintro w6 ⟨X, rfl⟩
        obtain ⟨r1, r2, r3⟩ := HN.out X
        have HR1 := Lib.hid r1
        have HR3 := Lib.hid r3
        clear r1 r3 HN f0 f1 f2 f3
        generalize X.world = w7 at *
        go_wp2_with (at_builtin; refine wpList_append_own _ rfl _ _ 24 rfl w.heap.size 9 i0 (.string ⟨#[]⟩) 1 16 Try.underlying24 hi hz0 hz1 hz2 rfl (by decide) _ _ _ rfl HR1.out ⟨w7.heap.size, 0, none⟩ 1 1 [.string ⟨rt.toArray⟩] rfl rfl (cell_one_new _ _ _) (by simp [Value.oneCell']) (by unfold maxLen; omega) (by omega) (by simp; omega) ?_; intro v' w8 hown' hgrow _; have HJ := Lib.hid (HR3.out v' w8 hown' hgrow); clear hown' hgrow)
        go_roundg (gk - 1)
        case measure => exact hgk.out
        case rel => exact HJ.out
      · obtain ⟨m, rfl⟩ : ∃ m, i = m + 1 := ⟨i - 1, by omega⟩
        obtain ⟨y, hy⟩ : ∃ y, ls[m]? = some y := ⟨_, List.getElem?_eq_getElem (by omega)⟩
        obtain ⟨ad', e', _, _, hcy⟩ := HR.out m y hy
        cases e'
        have hBX : ∀ X : Later w5, Below w.heap.size w X.world := fun X => HBw.out.trans ((HWX.out X).mono HBw.out.size)
        have y0 : ∀ X : Later w5, X.world.cell? (ad.add (m * 4)) = some (.int .i64 y.ep) := fun X => (hcy _ (hBX X)).1
        have y1 : ∀ X : Later w5, X.world.cell? ⟨(ad.add (m * 4)).block, (ad.add (m * 4)).off + 1, none⟩ = some (.int .i64 y.co) := fun X => (hcy _ (hBX X)).2.1
        have y2 : ∀ X : Later w5, X.world.cell? ⟨(ad.add (m * 4)).block, (ad.add (m * 4)).off + 2, none⟩ = some (.int .i64 y.se) := fun X => (hcy _ (hBX X)).2.2.1
        have y3 : ∀ X : Later w5, X.world.cell? ⟨(ad.add (m * 4)).block, (ad.add (m * 4)).off + 3, none⟩ = some y.it.v := fun X => (hcy _ (hBX X)).2.2.2
        have hcy' : (ls.map Pt.core)[m]? = some y.core := by rw [List.getElem?_map, hy]; rfl
        have k3 : ((m : Int) + 1 > 0) := by omega
        have k4 : (0 : Int) ≤ (m : Int) := by omega
        have k5 : (m : Int) < (ls.length : Int) := by omega
        have k6 : IntKind.i64.wrap ((m : Int) + 1 - 1) = (m : Int) := by rw [show (m : Int) + 1 - 1 = (m : Int) by omega]; exact IntWalk.i64_in _ (by omega)
        have k7 : IntKind.i64.wrap (m : Int) = (m : Int) := IntWalk.i64_in _ (by omega)
        have hi4 : m + 1 ≤ 4000000 := by omega
        have HD1 := Lib.hid (HDr.out y ⟨ep, co, se, ⟨A3, cc3, l3⟩⟩)
        simp only [Pt.cells, It.v] at HD1
        have hac : aheadC y.core (ep, co, se, l3) = aheadP y ⟨ep, co, se, ⟨A3, cc3, l3⟩⟩ := rfl
        generalize hr0 : aheadP y ⟨ep, co, se, ⟨A3, cc3, l3⟩⟩ = r at *
        cases r with
        | false =>
          have HN := Lib.hid (HBad.out (fun h => by
            have h4 := (hplace h).2.2.2 y.core (by omega) (by rw [show m + 1 - 1 = m by omega]; exact hcy')
            rw [hac] at h4
            cases h4))
          obtain ⟨ye, yc, ys, ⟨yA, ycc, yl⟩⟩ := y
          simp only [It.v] at y0 y1 y2 y3 HD1
          clear hplace hplace2 HBad HGood hx HWX b5 hcy hcy' hy h3 hBX hac hr0
          go_wp2
          refine wp_region_later (by kernel_rfl) (by kernel_rfl) ?_
          repeat
            (refine Quietly.step (fun K hK => ?_)
             go_simp
             first
               | (refine hK _ ?_)
               | (refine ⟨_, fun X => ((HD1.out X.world).mono (fun e w' h => ⟨h.1, ⟨w', X.kept.trans (h.2.mono X.kept.size)⟩, rfl⟩)), ?_⟩; refine hK _ ?_)
             clear hK K)
          refine Quietly.none ?_
          rintro w6 ⟨X, rfl⟩
          have HF := Lib.hid (HN.out X)
          clear HN
          go_wp2
          go_ret2
          exact HF.out
        | true =>
          obtain ⟨q1, q2⟩ := hplace2 rfl ⟨by omega, by omega, by omega, by omega⟩ (by omega) (by omega) (fun d _ hd => by
            rw [show m + 1 - 1 = m by omega, hcy'] at hd
            cases hd
            exact hac)
          have HN := Lib.hid (HGood.out q1 q2)
          obtain ⟨ye, yc, ys, ⟨yA, ycc, yl⟩⟩ := y
          simp only [It.v] at y0 y1 y2 y3 HD1
          clear hplace hplace2 HBad HGood hx HWX b5 hcy hcy' hy h3 hBX hac hr0 q1 q2
          go_wp2
          refine wp_region_later (by kernel_rfl) (by kernel_rfl) ?_
          repeat
            (refine Quietly.step (fun K hK => ?_)
             go_simp
             first
               | (refine hK _ ?_)
               | (refine ⟨_, fun X => ((HD1.out X.world).mono (fun e w' h => ⟨h.1, ⟨w', X.kept.trans (h.2.mono X.kept.size)⟩, rfl⟩)), ?_⟩; refine hK _ ?_)
             clear hK K)
          refine Quietly.none ?_
          rintro w6 ⟨X, rfl⟩
          obtain ⟨r1, r2, r3⟩ := HN.out X
          have HR1 := Lib.hid r1
          have HR3 := Lib.hid r3
          clear r1 r3 HN f0 f1 f2 f3 y0 y1 y2 y3
          generalize X.world = w7 at *
          go_wp2_with (at_builtin; refine wpList_append_own _ rfl _ _ 24 rfl w.heap.size 9 i0 (.string ⟨#[]⟩) 1 16 Try.underlying24 hi hz0 hz1 hz2 rfl (by decide) _ _ _ rfl HR1.out ⟨w7.heap.size, 0, none⟩ 1 1 [.string ⟨rt.toArray⟩] rfl rfl (cell_one_new _ _ _) (by simp [Value.oneCell']) (by unfold maxLen; omega) (by omega) (by simp; omega) ?_; intro v' w8 hown' hgrow _; have HJ := Lib.hid (HR3.out v' w8 hown' hgrow); clear hown' hgrow)
          go_roundg (gk - 1)
          case measure => exact hgk.out
          case rel => exact HJ.out
    · obtain rfl : i = ls.length := by omega
      have j1 : ¬ (ls.length : Int) < (ls.length : Int) := by omega
      have HF : Hid (RRows w (PutPOk (ls.map Pt.core)) rows (.returned (.tuple #[.slice A4 ls.length c4, .int .i64 0])) wr) := .inl ⟨putPOk_places.2 (fun j => by
          by_cases hj : j < ls.length
          · exact hpre j hj
          · have hn : (ls.map Pt.core)[j]? = none := List.getElem?_eq_none (by simp; omega)
            exact ⟨fun c hc => (by rw [hn] at hc; cases hc), fun c hc => (by rw [hn] at hc; cases hc)⟩), _, rfl, by
        rw [List.take_of_length_le (Nat.le_of_eq HLen.out)] at hrow
        rw [HLen.out]; exact hrow, hB⟩
      clear hk hrow hB hpre
      go_wp2
      go_ret2
      exact HF.out
end Go.Proofs.Ytkalmfhebffklaa.L11
end

section
namespace Go.Proofs.Ytkalmfhebffklaa.L11
open Go.ChangeShapes Go.WideShapes Go.ChangeAt Go.RowKit Go.Deep

def runpart (t : Bytes) : Option Core := (runN 3 t).map partOf
theorem info_rpart2 : (Try.prog.info? 83).map (fun i => (i.zero, i.size, i.bytes)) = some (some zeroPt, 4, 48) := by kernel_rfl
def RTold (w : World) (un : Bytes → Option Core) (tm : List Bytes) (e : Ending) (w' : World) : Prop :=
  (∃ (v : Value) (ls : List Pt), e = .returned (.tuple #[v, .int .i64 0]) ∧ tm.map un = (ls.map Pt.core).map some ∧ PutPOk (ls.map Pt.core) ∧ PartsA w' v ls ∧ (∀ l ∈ ls, l.it.l.length ≤ 150) ∧ Below w.heap.size w w') ∨
  ((¬ ∃ lc, tm.map un = lc.map some ∧ PutPOk lc) ∧ e = .returned (.tuple #[.slice none 0 0, .int .i64 2]) ∧ Below w.heap.size w w')
def RTellGo (w : World) (tm : List Bytes) (k : Nat) (v4 vi : Value) (wr : World) : Prop :=
  ∃ (i : Nat) (ls : List Pt), k + i = tm.length ∧ vi = .int .i64 i ∧ (tm.take i).map runpart = (ls.map Pt.core).map some ∧ (∀ l ∈ ls, OwnX 9 wr w.heap.size l.it ∧ intsP l ∧ l.it.l.length ≤ 150) ∧
    wr.ownsRow w.heap.size 83 4 v4 ls.length (flatP ls) ∧ Below w.heap.size w wr
set_option maxRecDepth 100000 in
set_option maxHeartbeats 8000000 in
theorem runpart_calls (x : It) (w : World) (h : ItAt w x) (hl : x.l.length ≤ 4000000) : Calls Try.prog 22 #[x.v] w (RTold w runpart x.l) := by
  obtain ⟨i0, hi, hz0, hz1, hz2⟩ := info_partsC info_rpart2
  obtain ⟨A, c, tm⟩ := x
  replace hl : tm.length ≤ 4000000 := hl
  have HR := Lib.hid (it_read h)
  have HSh := Lib.hid h.short
  have HSt : Hid (RTellGo w tm tm.length (.slice none 0 0) (.int .i64 0) w) := ⟨0, [], by omega, rfl, by simp, by simp, World.ownsRow_nil _ _ _ _, Below.refl _ _⟩
  simp only [It.v]
  clear h
  go_enter Try.func22, Try.ntmps22
  go_wp2
  go_loopg [4, 5] tm.length (fun k v4 v5 wr => RTellGo w tm k v4 v5 wr)
  case atStart => exact HSt.out
  clear HSt
  case round =>
    obtain ⟨i, ls, hk, rfl, hco, hit, hrow, hB⟩ := hrel
    obtain ⟨A9, c9, rfl⟩ := L5.own_slice hrow
    have hbs := hB.size
    have hll : ls.length = (tm.take i).length := by have := congrArg List.length hco; simpa using this.symm
    by_cases hil : i < tm.length
    · obtain ⟨t, hx⟩ : ∃ t, tm[i]? = some t := ⟨_, List.getElem?_eq_getElem hil⟩
      obtain ⟨ad, rfl, hrd⟩ := HR.out i t hx
      have a0 := hrd wr hB
      have ht := HSh.out t (List.mem_of_getElem? hx)
      have j1 : (i : Int) < (tm.length : Int) := by omega
      have j2 : (0 : Int) ≤ (i : Int) := by omega
      have hgk := Lib.hid (show gk - 1 < gk by omega)
      have HS : Hid (∀ V, Calls Try.prog 43 #[.string ⟨t.toArray⟩, (.int .i64 3)] V (RunOut V t 3)) := fun V => runrow_calls t ht 3 (by omega) V
      have hll' : ls.length ≤ 4000000 := by rw [hll]; simp; omega
      have hnx : (tm.take (i + 1)).map runpart = (ls.map Pt.core).map some ++ [runpart t] := by rw [take_nextR tm hx, List.map_append, hco]; rfl
      have HNo : Hid ((¬ ∃ zs, runOk t 3 zs) → ∀ V, Below wr.heap.size wr V → RTold w runpart tm (.returned (.tuple #[.slice none 0 0, .int .i64 2])) V) := fun hno V hV => by
        refine .inr ⟨fun ⟨lc, k1, _⟩ => hno ?_, rfl, hB.trans (hV.mono hbs)⟩
        have e := congrArg (fun l => l[i]?) k1
        simp only [List.getElem?_map, hx, Option.map_some] at e
        obtain ⟨y, hy, e2⟩ := Option.map_eq_some_iff.1 e.symm
        unfold runpart at e2
        obtain ⟨zs, hz, _⟩ := Option.map_eq_some_iff.1 e2.symm
        exact ⟨zs, runN_iff.1 hz⟩
      have HApp : Hid (∀ (zs : List Bytes) (z0 z1 z2 : Bytes) (A : Option Addr) (c g : Nat) V, runOk t 3 zs → zs[0]? = some z0 → zs[1]? = some z1 → zs[2]? = some z2 → Below wr.heap.size wr V → OwnX 9 V wr.heap.size ⟨A, c, zs.drop 3⟩ → g < V.heap.size → ((V.cell? ⟨g, 0, none⟩ = some (.int .i64 (numI z0)) ∧ V.cell? ⟨g, 1, none⟩ = some (.int .i64 (numI z1)) ∧ V.cell? ⟨g, 2, none⟩ = some (.int .i64 (numI z2))) ∧ wr.heap.size ≤ g) →
          (V.alloc (.cells #[.int .i64 (numI z0), .int .i64 (numI z1), .int .i64 (numI z2), .slice A (zs.drop 3).length c] 83)).ownsRow w.heap.size 83 4 (.slice A9 ls.length c9) ls.length (flatP ls) ∧
          (∀ (j : Nat) (u : Value), [Value.int .i64 (numI z0), .int .i64 (numI z1), .int .i64 (numI z2), .slice A (zs.drop 3).length c][j]? = some u → (V.alloc (.cells #[.int .i64 (numI z0), .int .i64 (numI z1), .int .i64 (numI z2), .slice A (zs.drop 3).length c] 83)).cell? ((⟨V.heap.size, 0, none⟩ : Addr).add j) = some u) ∧
          w.heap.size ≤ (V.alloc (.cells #[.int .i64 (numI z0), .int .i64 (numI z1), .int .i64 (numI z2), .slice A (zs.drop 3).length c] 83)).heap.size ∧
          ∀ v' w6, w6.ownsRow w.heap.size 83 4 v' (ls.length + 1) (flatP ls ++ [.int .i64 (numI z0), .int .i64 (numI z1), .int .i64 (numI z2), .slice A (zs.drop 3).length c]) → (V.alloc (.cells #[.int .i64 (numI z0), .int .i64 (numI z1), .int .i64 (numI z2), .slice A (zs.drop 3).length c] 83)).grownBy w6 (Value.slice A9 ls.length c9).ownBlock →
            (w6.cell? ⟨g, 0, none⟩ = some (.int .i64 (numI z0)) ∧ w6.cell? ⟨g, 1, none⟩ = some (.int .i64 (numI z1)) ∧ w6.cell? ⟨g, 2, none⟩ = some (.int .i64 (numI z2))) ∧ RTellGo w tm (gk - 1) v' (.int .i64 ((i + 1 : Nat) : Int)) w6) := by
        intro zs z0 z1 z2 A c g V hok hz0 hz1 hz2 hV hD hg hc
        have hr := L5.own_below hrow hV
        have hb := hB.trans (hV.mono hbs)
        have hbz := hb.size
        refine ⟨hr.alloc _, fun j u hu => ?_, Nat.le_trans hbz (by simp), fun v' w6 k1 k2 => ?_⟩
        · rw [add_zeroC]
          simp only [World.cell?]
          rw [World.alloc_heap_new V _]
          simpa using hu
        · have k3 := (World.grownBy_alloc V (.cells #[.int .i64 (numI z0), .int .i64 (numI z1), .int .i64 (numI z2), .slice A (zs.drop 3).length c] 83) (Value.slice A9 ls.length c9).ownBlock).trans k2
          have hcell : ∀ j, w6.cell? ⟨g, j, none⟩ = V.cell? ⟨g, j, none⟩ := fun j => by
            refine World.cell?_of_block (k3.block _ hg (fun e => ?_))
            have := (hrow.lt g e.symm).2
            omega
          obtain ⟨_, _, hlz, _⟩ := takeRow_some hok.1
          refine ⟨⟨(hcell 0).trans hc.1.1, (hcell 1).trans hc.1.2.1, (hcell 2).trans hc.1.2.2⟩, i + 1, ls ++ [⟨numI z0, numI z1, numI z2, ⟨A, c, zs.drop 3⟩⟩], by omega, rfl, ?_, fun l hl => ?_, ?_, hb.grown k3 hbz (fun q e => (hr.lt q e).1)⟩
          · rw [hnx, List.map_append, List.map_append]
            congr 1
            unfold runpart
            rw [runN_iff.2 hok]
            simp only [Option.map_some, List.map_cons, List.map_nil, partOf, Pt.core, List.getD, hz0, hz1, hz2, Option.getD_some]
          · rcases List.mem_append.1 hl with hl | hl
            · exact ⟨((hit l hl).1.below hV).grown hr (of_decide_eq_true (by kernel_rfl)) k3, (hit l hl).2⟩
            · obtain rfl := List.mem_singleton.1 hl
              exact ⟨(hD.base hbs).grown hr (of_decide_eq_true (by kernel_rfl)) k3, ⟨numI_int z0, numI_int z1, numI_int z2⟩, by simp; omega⟩
          · rw [flatP_snoc, List.length_append]
            simp only [Pt.cells, It.v]
            exact k1
      clear hk hco hit hrow hB hx hrd ht hnx hll
      go_wp2_with fail
      refine (HS.out _).mono ?_
      rintro e w6 hsp
      rcases hsp with ⟨zs, A2, c2, vn, hok, rfl, hnums, hD, b6⟩ | ⟨hno, rfl, b6⟩
      · obtain ⟨z0, hz0⟩ : ∃ z, zs[0]? = some z := ⟨_, List.getElem?_eq_getElem (by have := hok.2.1; omega)⟩
        obtain ⟨z1, hz1⟩ : ∃ z, zs[1]? = some z := ⟨_, List.getElem?_eq_getElem (by have := hok.2.1; omega)⟩
        obtain ⟨z2, hz2⟩ : ∃ z, zs[2]? = some z := ⟨_, List.getElem?_eq_getElem (by have := hok.2.1; omega)⟩
        have hn1 : numIs (zs.take 3) = [.int .i64 (numI z0), .int .i64 (numI z1), .int .i64 (numI z2)] := by
          match zs, hok.2.1, hz0, hz1, hz2 with
          | a :: b :: c :: r, _, hz0, hz1, hz2 => simp at hz0 hz1 hz2; subst hz0 hz1 hz2; simp [numIs]
        rw [hn1] at hnums
        obtain ⟨g, cn, rfl⟩ : ∃ g cn, vn = .slice (some ⟨g, 0, none⟩) 3 cn := by
          rcases hnums.2 with ⟨_, h0⟩ | ⟨g, cap, cur, e, _⟩
          · cases h0
          · exact ⟨g, cap, e⟩
        have hgB := (hnums.lt g rfl).1
        have hg := (hnums.lt g rfl).2
        have hcl : ∀ (j : Nat) (u : Value), [Value.int .i64 (numI z0), .int .i64 (numI z1), .int .i64 (numI z2)][j]? = some u → w6.cell? ⟨g, j, none⟩ = some u := fun j u hu => by
          have := hnums.cells (g := g) rfl j u hu
          rw [add_zeroC] at this
          exact this
        have f0 : w6.cell? ⟨g, 0, none⟩ = some (.int .i64 (numI z0)) := hcl 0 _ rfl
        have f1 : w6.cell? ⟨g, 1, none⟩ = some (.int .i64 (numI z1)) := hcl 1 _ rfl
        have f2 : w6.cell? ⟨g, 2, none⟩ = some (.int .i64 (numI z2)) := hcl 2 _ rfl
        have HA := Lib.hid (HApp.out zs z0 z1 z2 A2 c2 g w6.drew hok hz0 hz1 hz2 b6.drew (hD.below (Below.refl _ _).drew) hg ⟨⟨f0, f1, f2⟩, hgB⟩)
        clear hok hz0 hz1 hz2 hg hnums hn1 hcl hD b6 hgB HApp HNo HS
        generalize numI z0 = n0 at *
        generalize numI z1 = n1 at *
        generalize numI z2 = n2 at *
        generalize (zs.drop 3).length = dl at *
        go_wp2
        go_region_held3 (fun V => V.cell? ⟨g, 0, none⟩ = some (.int .i64 n0) ∧ V.cell? ⟨g, 1, none⟩ = some (.int .i64 n1) ∧ V.cell? ⟨g, 2, none⟩ = some (.int .i64 n2))
          ((first | exact ⟨f0, f1, f2⟩ | (go_split_ands; refine ⟨?_, ?_, ?_⟩ <;> first | assumption | go_keep)))
          (first
            | (refine step_append_lies _ rfl (.tmp 28) (.tmp 41) 27 rfl w.heap.size 83 i0 zeroPt 4 48 Try.underlying27 hi hz0 hz1 hz2 rfl (by decide) (.slice A9 ls.length c9) ls.length (flatP ls) (by simp [Act.eval]) HA.out.1 ⟨w6.heap.size, 0, none⟩ 1 1 [.int .i64 n0, .int .i64 n1, .int .i64 n2, .slice A2 dl c2] (by simp [Act.eval]) rfl HA.out.2.1 (by simp [Value.oneCell']) (by decide) (by unfold maxLen; omega) (by omega) HA.out.2.2.1 (w6.heap.size + 1) (by simp) ?_
               intro gg cc w7 k1 k2 k3 k4
               obtain ⟨⟨g4, g5, g6⟩, hfin⟩ := HA.out.2.2.2 _ w7 k1 k2))
        have HJ := Lib.hid hfin
        clear hfin g4 g5 g6 k1 k2 k3 k4 HA
        go_wp2
        go_roundg (gk - 1)
        case measure => exact hgk.out
        case rel => exact HJ.out
      · have HF := Lib.hid (HNo.out hno w6 b6)
        clear hno b6 HNo HApp
        go_wp2
        go_ret2
        exact HF.out
    · obtain rfl : i = tm.length := by omega
      have j1 : ¬ (tm.length : Int) < (tm.length : Int) := by omega
      rw [List.take_length] at hco hll
      have hLA : PartsA wr (.slice A9 ls.length c9) ls := PartsA.of_own hrow (by unfold maxLen; omega) (fun l hl => ⟨(hit l hl).1.at', (hit l hl).2.1⟩)
      have HRt := Lib.hid (rparts_calls wr hLA (by omega) (fun l hl => by have := (hit l hl).2.2; omega))
      have HY : Hid (PutPOk (ls.map Pt.core) → ∀ V, Below wr.heap.size wr V → RTold w runpart tm (.returned (.tuple #[.slice A9 ls.length c9, .int .i64 0])) V) := fun hok V hV => .inl ⟨_, ls, rfl, hco, hok, hLA.below hV, fun l hl => (hit l hl).2.2, hB.trans (hV.mono hbs)⟩
      have HN : Hid (¬ PutPOk (ls.map Pt.core) → ∀ V, Below wr.heap.size wr V → RTold w runpart tm (.returned (.tuple #[.slice none 0 0, .int .i64 2])) V) := fun hno V hV => by
        refine .inr ⟨fun ⟨lc, k1, k2⟩ => ?_, rfl, hB.trans (hV.mono hbs)⟩
        rw [hco] at k1
        have k3 : ls.map Pt.core = lc := (List.map_inj_right (fun _ _ h => Option.some.inj h)).1 k1
        rw [← k3] at k2
        exact hno k2
      clear hk hco hit hrow hB hll hLA
      go_wp2_with fail
      refine HRt.out.mono ?_
      clear HRt
      rintro e w6 hro
      rcases hro with ⟨hok, v9, rfl, hv9, b6⟩ | ⟨hno, rfl, b6⟩
      · have HF2 := Lib.hid (HY.out hok w6 b6)
        obtain ⟨Ay, cy, rfl⟩ := L5.own_slice hv9
        clear hok hv9 b6 HY HN
        go_wp2
        go_ret2
        exact HF2.out
      · have HF2 := Lib.hid (HN.out hno w6 b6)
        clear hno b6 HY HN
        go_wp2
        go_ret2
        exact HF2.out
end Go.Proofs.Ytkalmfhebffklaa.L11
end

section
namespace Go.Proofs.Ytkalmfhebffklaa.L11
open Go.ChangeShapes Go.WideShapes Go.ChangeAt Go.RowKit Go.Deep

theorem be8_beNumC {l : List UInt8} (h : l.length = 8) : Tm.be8 (Tm.beNum l) = l := by
  match l, h with
  | [b0, b1, b2, b3, b4, b5, b6, b7], _ =>
    have h0 := b0.toNat_lt
    have h1 := b1.toNat_lt
    have h2 := b2.toNat_lt
    have h3 := b3.toNat_lt
    have h4 := b4.toNat_lt
    have h5 := b5.toNat_lt
    have h6 := b6.toNat_lt
    have h7 := b7.toNat_lt
    simp only [Tm.beNum, Tm.be8, List.foldl_cons, List.foldl_nil, Nat.zero_mul, Nat.zero_add, List.cons.injEq, and_true]
    have key : ∀ (x : Nat) (b : UInt8), x % 256 = b.toNat → UInt8.ofNat x = b := fun x b e => by
      apply UInt8.toNat_inj.1
      rw [UInt8.toNat_ofNat']
      exact e
    refine ⟨key _ _ ?_, key _ _ ?_, key _ _ ?_, key _ _ ?_, key _ _ ?_, key _ _ ?_, key _ _ ?_, key _ _ ?_⟩ <;> simp only [Nat.reducePow, Nat.div_one] <;> omega
theorem rnum_is {z : Bytes} (hr : Tm.right z = true) (h : RNum z) : IsNum z := by
  obtain ⟨_, _, h3⟩ := h
  have h9 := Tm.word_long hr (.inr h3)
  have hk : Tm.kindOf z = 117 := by unfold Tm.kindOf; rw [if_pos hr]; exact h3
  have hv : (Tm.valueT z).1 = Tm.beNum (z.drop 1) := by unfold Tm.valueT; rw [if_pos (.inr hk)]
  unfold IsNum
  rw [hv]
  match z, h9, h3 with
  | b :: l, h9, h3 =>
    have hb : b = 117 := h3
    subst hb
    show _ = numT (Tm.beNum l)
    unfold numT
    rw [be8_beNumC (by simpa using h9)]
theorem is_rnum {z : Bytes} (hr : Tm.right z = true) (h : IsNum z) (hv : (Tm.valueT z).1 ≤ 2147483647) : RNum z := by
  have hz : z = numT (Tm.valueT z).1 := h
  refine ⟨?_, hv, ?_⟩
  · have h2 := valueT_num (n := (Tm.valueT z).1) (by omega) (by rw [← hz]; exact hr)
    rw [← hz] at h2
    rw [h2]
  · rw [hz]; rfl
theorem small_num {z : Bytes} {n : Int} (h : numI z = n) (h0 : 0 ≤ n) (h1 : n ≤ 2147483647) : (Tm.valueT z).1 ≤ 2147483647 := by
  have hl := valueT_lt z
  unfold numI at h
  rw [IntKind.wrap_i64] at h
  omega
theorem run_un {k : Nat} {t : Bytes} {zs : List Bytes} (h : runN k t = some zs) : unrowN k t = some zs := by
  obtain ⟨h1, h2, h3⟩ := runN_iff.1 h
  obtain ⟨_, _, _, hw⟩ := takeRow_some h1
  exact unrowN_iff.2 ⟨h1, by omega, fun z hz => rnum_is (right_in hw (List.mem_of_mem_take hz)) (h3 z hz)⟩
theorem un_run {k : Nat} {t : Bytes} {zs : List Bytes} (h : unrowN k t = some zs) (hl : k < zs.length) (hv : ∀ z ∈ zs.take k, (Tm.valueT z).1 ≤ 2147483647) : runN k t = some zs := by
  obtain ⟨h1, h2, h3⟩ := unrowN_iff.1 h
  obtain ⟨_, _, _, hw⟩ := takeRow_some h1
  exact runN_iff.2 ⟨h1, hl, fun z hz => is_rnum (right_in hw (List.mem_of_mem_take hz)) (h3 z hz) (hv z hz)⟩
theorem runlog_un {t : Bytes} {c : LCore} (h : runlog t = some c) : unlog t = some c := by
  obtain ⟨zs, hz, rfl⟩ := Option.map_eq_some_iff.1 h
  unfold unlog
  rw [run_un hz]
  rfl
theorem unlog_run {t : Bytes} {c : LCore} (h : unlog t = some c) (h1 : 1 ≤ c.1) (h8 : c.1 ≤ 8) (hne : c.2 ≠ []) : runlog t = some c := by
  obtain ⟨zs, hz, rfl⟩ := Option.map_eq_some_iff.1 h
  have hl := (unrowN_iff.1 hz).2.1
  match zs, hl with
  | z :: r, _ =>
    have hr : r ≠ [] := hne
    unfold runlog
    rw [un_run hz (by have := List.length_pos_iff.2 hr; simp; omega) (fun z' hz' => by
      simp at hz'
      rw [hz']
      exact small_num (n := numI z) rfl (by have : numI z = (logOf (z :: r)).1 := rfl; omega) (by have : numI z = (logOf (z :: r)).1 := rfl; omega))]
    rfl
theorem runpart_un {t : Bytes} {c : Core} (h : runpart t = some c) : unpart t = some c := by
  obtain ⟨zs, hz, rfl⟩ := Option.map_eq_some_iff.1 h
  unfold unpart
  rw [run_un hz]
  rfl
theorem unpart_run {t : Bytes} {c : Core} (h : unpart t = some c) (ho : OldOk c.1 c.2.1) (hs : 1 ≤ c.2.2.1 ∧ c.2.2.1 ≤ 8) (hne : c.2.2.2 ≠ []) : runpart t = some c := by
  obtain ⟨zs, hz, rfl⟩ := Option.map_eq_some_iff.1 h
  have hl := (unrowN_iff.1 hz).2.1
  obtain ⟨o1, o2, o3, o4⟩ := ho
  match zs, hl with
  | z0 :: z1 :: z2 :: r, _ =>
    have hr : r ≠ [] := hne
    have e0 : numI z0 = (partOf (z0 :: z1 :: z2 :: r)).1 := rfl
    have e1 : numI z1 = (partOf (z0 :: z1 :: z2 :: r)).2.1 := rfl
    have e2 : numI z2 = (partOf (z0 :: z1 :: z2 :: r)).2.2.1 := rfl
    unfold runpart
    rw [un_run hz (by have := List.length_pos_iff.2 hr; simp; omega) (fun z' hz' => by
      simp at hz'
      rcases hz' with rfl | rfl | rfl
      · exact small_num (n := numI z') rfl (by omega) (by omega)
      · exact small_num (n := numI z') rfl (by omega) (by omega)
      · exact small_num (n := numI z') rfl (by omega) (by omega))]
    rfl
theorem map_same {α : Type} {s : List Bytes} {f g : Bytes → Option α} {l : List α} (h : s.map f = l.map some) (hg : ∀ t c, f t = some c → c ∈ l → g t = some c) : s.map g = l.map some := by
  have hl : s.length = l.length := by have := congrArg List.length h; simpa using this
  refine List.ext_getElem? fun i => ?_
  cases hc : l[i]? with
  | none =>
    have h1 : l.length ≤ i := List.getElem?_eq_none_iff.1 hc
    rw [List.getElem?_eq_none (by simp; omega), List.getElem?_eq_none (by simp; omega)]
  | some c =>
    obtain ⟨t, h1, h2⟩ := map_some_at h i c hc
    simp only [List.getElem?_map, hc, Option.map_some, h1, hg t c h2 (List.mem_of_getElem? hc)]
theorem logs_run {s : List Bytes} {lc : List LCore} (h : s.map unlog = lc.map some) (ho : OkLogs lc) : s.map runlog = lc.map some ∧ PutOk lc :=
  ⟨map_same h (fun t c h1 hc => by
    obtain ⟨i, hi⟩ := List.getElem?_of_mem hc
    obtain ⟨q1, q2, q3, _⟩ := ho i c hi
    exact unlog_run h1 q1 q2 q3), ho, (take_putC h ho).2⟩
theorem logs_un {s : List Bytes} {lc : List LCore} (h : s.map runlog = lc.map some) (ho : PutOk lc) : s.map unlog = lc.map some ∧ OkLogs lc :=
  ⟨map_same h (fun _ _ h1 _ => runlog_un h1), ho.1⟩
theorem parts_run {s : List Bytes} {pc : List Core} (h : s.map unpart = pc.map some) (ho : OkParts pc) : s.map runpart = pc.map some ∧ PutPOk pc :=
  ⟨map_same h (fun t c h1 hc => by
    obtain ⟨i, hi⟩ := List.getElem?_of_mem hc
    obtain ⟨q1, q2, q3, _⟩ := ho i c hi
    exact unpart_run h1 q1 q2 q3), ho, (take_partsC h ho).2⟩
theorem parts_un {s : List Bytes} {pc : List Core} (h : s.map runpart = pc.map some) (ho : PutPOk pc) : s.map unpart = pc.map some ∧ OkParts pc :=
  ⟨map_same h (fun _ _ h1 _ => runpart_un h1), ho.1⟩
/-- The program's Take, and the document's: alike. -/
theorem took_alike {w1 w2 w1' w2' : World} {tm : List Bytes} {e e2 : Ending} (h : TookOut w1 unlog tm e w1') (h2 : RTook w2 runlog tm e2 w2') : ∃ (n : Nat) (v v2 : Value) (ls ls2 : List Lg), e = .returned (.tuple #[v, .int .i64 n]) ∧ e2 = .returned (.tuple #[v2, .int .i64 n]) ∧
    LogsA w1' v ls ∧ LogsA w2' v2 ls2 ∧ ls.map Lg.core = ls2.map Lg.core ∧ Below w1.heap.size w1 w1' ∧ Below w2.heap.size w2 w2' := by
  rcases h with ⟨v, ls, rfl, h1, h3, h4, _, h5⟩ | ⟨hno, rfl, h5⟩
  · rcases h2 with ⟨v2, ls2, rfl, k1, k3, k4, _, k5⟩ | ⟨kno, _, _⟩
    · obtain ⟨q1, _⟩ := logs_run h1 h3
      have : ls.map Lg.core = ls2.map Lg.core := (List.map_inj_right (fun _ _ h => Option.some.inj h)).1 (q1.symm.trans k1)
      exact ⟨0, v, v2, ls, ls2, rfl, rfl, h4, k4, this, h5, k5⟩
    · exact absurd ⟨_, logs_run h1 h3⟩ kno
  · rcases h2 with ⟨v2, ls2, rfl, k1, k3, k4, _, k5⟩ | ⟨kno, rfl, k5⟩
    · exact absurd ⟨_, logs_un k1 k3⟩ hno
    · exact ⟨2, _, _, [], [], rfl, rfl, logs_none _ _, logs_none _ _, rfl, h5, k5⟩
theorem parts_noneR (w : World) (c : Nat) : PartsA w (.slice none 0 c) [] := ⟨⟨none, c, rfl, by simp, fun j x hx => by simp at hx⟩, by simp⟩
theorem told_alike {w1 w2 w1' w2' : World} {tm : List Bytes} {e e2 : Ending} (h : ToldOut w1 unpart tm e w1') (h2 : RTold w2 runpart tm e2 w2') : ∃ (n : Nat) (v v2 : Value) (ls ls2 : List Pt), e = .returned (.tuple #[v, .int .i64 n]) ∧ e2 = .returned (.tuple #[v2, .int .i64 n]) ∧
    PartsA w1' v ls ∧ PartsA w2' v2 ls2 ∧ ls.map Pt.core = ls2.map Pt.core ∧ Below w1.heap.size w1 w1' ∧ Below w2.heap.size w2 w2' := by
  rcases h with ⟨v, ls, rfl, h1, h3, h4, _, h5⟩ | ⟨hno, rfl, h5⟩
  · rcases h2 with ⟨v2, ls2, rfl, k1, k3, k4, _, k5⟩ | ⟨kno, _, _⟩
    · obtain ⟨q1, _⟩ := parts_run h1 h3
      have : ls.map Pt.core = ls2.map Pt.core := (List.map_inj_right (fun _ _ h => Option.some.inj h)).1 (q1.symm.trans k1)
      exact ⟨0, v, v2, ls, ls2, rfl, rfl, h4, k4, this, h5, k5⟩
    · exact absurd ⟨_, parts_run h1 h3⟩ kno
  · rcases h2 with ⟨v2, ls2, rfl, k1, k3, k4, _, k5⟩ | ⟨kno, rfl, k5⟩
    · exact absurd ⟨_, parts_un k1 k3⟩ hno
    · exact ⟨2, _, _, [], [], rfl, rfl, parts_noneR _ _, parts_noneR _ _, rfl, h5, k5⟩
theorem rows_alike {w1 w2 w1' w2' : World} {ok : Prop} {rows : List (List Bytes)} {e e2 : Ending} (h : RowsOut w1 ok rows e w1') (h2 : RRows w2 (ok ∧ ∀ r ∈ rows, rowE r = 0) rows e2 w2') (hl : rows.length ≤ 4000000) : ∃ (n : Nat) (y y2 : It), e = .returned (.tuple #[y.v, .int .i64 n]) ∧ e2 = .returned (.tuple #[y2.v, .int .i64 n]) ∧
    ItAt w1' y ∧ ItAt w2' y2 ∧ y.l = y2.l ∧ Below w1.heap.size w1 w1' ∧ Below w2.heap.size w2 w2' := by
  have hit : ∀ (w : World), ItAt w ⟨none, 0, []⟩ := fun w => ⟨Nat.le_refl _, by simp, fun _ => rfl, by simp, fun j z hz => by simp at hz⟩
  rcases h with ⟨h1, hz, v, rfl, h3, h4⟩ | ⟨hno, rfl, h4⟩
  · rcases h2 with ⟨_, v2, rfl, k3, k4⟩ | ⟨kno, _, _⟩
    · have hsh : ∀ z ∈ rows.map rowT, z.length ≤ maxLen := fun z hz' => by
        obtain ⟨r, hr, rfl⟩ := List.mem_map.1 hz'
        obtain ⟨e, _, _, hl, _⟩ := Tm.putRow_ok (show Tm.putRow r = (rowT r, 0) from Prod.ext rfl (hz r hr))
        rw [e]
        unfold maxLen
        omega
      obtain ⟨y, e1, e2, e3⟩ := ItAt.of_own (zs := rows.map rowT) (by rw [List.length_map]; exact h3) hsh (by rw [List.length_map]; unfold maxLen; omega)
      obtain ⟨y2, f1, f2, f3⟩ := ItAt.of_own (zs := rows.map rowT) (by rw [List.length_map]; exact k3) hsh (by rw [List.length_map]; unfold maxLen; omega)
      exact ⟨0, y, y2, by rw [e1]; rfl, by rw [f1]; rfl, e3, f3, by rw [e2, f2], h4, k4⟩
    · exact absurd ⟨h1, hz⟩ kno
  · rcases h2 with ⟨k1, _⟩ | ⟨_, rfl, k4⟩
    · rcases hno with hno | ⟨r, hr, hr0⟩
      · exact absurd k1.1 hno
      · exact absurd (k1.2 r hr) hr0
    · exact ⟨1, _, _, rfl, rfl, hit _, hit _, rfl, h4, k4⟩
end Go.Proofs.Ytkalmfhebffklaa.L11
end
