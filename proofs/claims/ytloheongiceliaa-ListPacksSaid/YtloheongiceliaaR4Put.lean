/- Contract of the document's own Put of rows (gemotref4): as the program's. -/
import Derived.Test.YtloheongiceliaaRef1
import Derived.Test.YtloheongiceliaaRefNum
import Derived.Test.YtloheongiceliaaMeasure
import Derived.Test.YtloheongiceliaaRowFacts
namespace Go.Proofs.Ytloheongiceliaa
open Go.ChangeShapes Go.WideShapes Go.ChangeAt Go.RowKit

namespace Tm
def flatP (zs : List (List UInt8)) : List UInt8 := zs.flatMap (fun z => 112 :: z)
theorem flatP_snoc (zs : List (List UInt8)) (z : List UInt8) : flatP (zs ++ [z]) = flatP zs ++ 112 :: z := by simp [flatP]
theorem rowL_flat (zs : List (List UInt8)) : rowL zs = flatP zs ++ num0 := rfl
end Tm
theorem cat_lists (a b : List UInt8) : (⟨a.toArray⟩ ++ ⟨b.toArray⟩ : ByteArray) = ⟨(a ++ b).toArray⟩ := ByteArray.mk_append_mk a b
def RPutting (w : World) (zs : List (List UInt8)) (k : Nat) (v4 v5 : Value) (wr : World) : Prop :=
  ∃ i, k + i = zs.length ∧ v5 = .int .i64 i ∧ v4 = .string ⟨(Tm.flatP (zs.take i)).toArray⟩ ∧ Tm.wrongIn (zs.take i) = false ∧ (Tm.flatP (zs.take i)).length ≤ i * 20001 ∧ Below w.heap.size w wr

set_option maxRecDepth 100000 in
set_option maxHeartbeats 4000000 in
theorem RPut4_calls (zs : List (List UInt8)) (v : Value) (w : World) (h : RowA w v zs) (hl : zs.length ≤ 1000) : Calls Try.prog 51 #[v] w (Pair2 w (Tm.putRow zs)) := by
  obtain ⟨⟨A, c, rfl, hcells⟩, hshort, _⟩ := h
  have HNum : Hid (∀ V : World, Calls Try.prog 14 #[.int .u64 0] V (One V (.string ⟨Tm.num0.toArray⟩))) := fun V => refNumber_calls 0 (by decide) V
  have HC := Lib.hid hcells
  have HSh := Lib.hid hshort
  obtain ⟨r, hr⟩ : ∃ r, Tm.putRow zs = r := ⟨_, rfl⟩
  rw [hr]
  have HR := Lib.hid hr
  clear hcells hshort hr
  go_enter Try.func51, Try.ntmps51
  go_wp2
  go_loopg [4, 5] zs.length (fun k v4 v5 wr => RPutting w zs k v4 v5 wr)
  case atStart => exact ⟨0, by omega, rfl, rfl, rfl, by simp [Tm.flatP], Below.refl _ _⟩
  case round =>
    obtain ⟨i, hk, rfl, rfl, hw, hb, hB⟩ := hrel
    have HB := Lib.hid hB
    have HW := Lib.hid hw
    have HK := Lib.hid hk
    by_cases hil : i < zs.length
    · obtain ⟨z, hz⟩ : ∃ z, zs[i]? = some z := ⟨_, List.getElem?_eq_getElem hil⟩
      obtain ⟨ad, rfl, a1, _, a3⟩ := HC.out i z hz
      have hcell : wr.cell? (ad.add i) = some (.string ⟨z.toArray⟩) := (hB.cell (p := ad.add i) (by rw [addr_block]; exact a1)).trans a3
      have hzl : Hid (z.length ≤ maxLen) := HSh.out z (List.mem_of_getElem? hz)
      have cR : ∀ V : World, Calls Try.prog 78 #[.string ⟨z.toArray⟩] V (Drew V (.bool (Tm.right z))) := fun V => RRight_calls ⟨z.toArray⟩ (by rw [size_list]; exact hzl.out) V
      have e := List.take_add_one (l := zs) (i := i)
      rw [hz, Option.toList_some] at e
      have HE := Lib.hid e
      have hgk : gk - 1 < gk := by omega
      have j2 : (i : Int) < (zs.length : Int) := by omega
      have j3 : (0 : Int) ≤ (i : Int) := by omega
      cases hrz : Tm.right z with
      | false =>
        rw [hrz] at cR
        have HRz := Lib.hid cR
        have hfin : Hid (∀ n, Pair2 w r (.returned (.tuple #[.string ⟨#[]⟩, .int .i64 1])) (wr.drewN n)) := fun n => by
          have hd : Tm.depthOf z = 0 := by
            have := hrz
            unfold Tm.right at this
            simpa using this
          have hwz : Tm.wrongIn zs = true := by
            have h1 : Tm.wrongIn (zs.take (i + 1)) = true := by rw [HE.out, Tm.wrongIn_snoc, hd]; simp
            unfold Tm.wrongIn at h1 ⊢
            rw [List.any_eq_true] at h1 ⊢
            obtain ⟨x, hx, hx2⟩ := h1
            exact ⟨x, List.mem_of_mem_take hx, hx2⟩
          have := HR.out
          unfold Tm.putRow Tm.measureL at this
          rw [if_pos (Or.inr hwz)] at this
          rw [← this]
          exact ⟨rfl, below_drewN HB.out n⟩
        clear hB hw hk hz a1 a3 e cR hrz
        go_wp2_with fail
        refine (HRz.out _).mono ?_
        rintro e' w3 ⟨rfl, md, rfl⟩
        have HF := Lib.hid (hfin.out md)
        go_wp2
        go_ret2
        exact HF.out
      | true =>
        rw [hrz] at cR
        have HRz := Lib.hid cR
        have hd0 : Tm.depthOf z ≠ 0 := (Tm.right_iff z).1 hrz
        have hz20 := Tm.depthOf_short hd0
        have HD := Lib.hid hd0
        obtain ⟨fl, hfl⟩ : ∃ fl, Tm.flatP (zs.take i) = fl := ⟨_, rfl⟩
        rw [hfl] at hb ⊢
        have HFl := Lib.hid hfl
        have hcat1 : (⟨fl.toArray⟩ ++ ⟨#[112]⟩ : ByteArray) = ⟨(fl ++ [112]).toArray⟩ := cat_lists fl [112]
        have hcat2 : (⟨(fl ++ [112]).toArray⟩ ++ ⟨z.toArray⟩ : ByteArray) = ⟨(fl ++ [112] ++ z).toArray⟩ := cat_lists (fl ++ [112]) z
        have hRel : Hid (∀ n, RPutting w zs (gk - 1) (.string ⟨(fl ++ 112 :: z).toArray⟩) (.int .i64 ((i + 1 : Nat) : Int)) (wr.drewN n)) := fun n => by
          refine ⟨i + 1, by have := HK.out; omega, rfl, ?_, ?_, ?_, below_drewN HB.out n⟩
          · rw [HE.out, Tm.flatP_snoc, HFl.out]
          · rw [HE.out, Tm.wrongIn_snoc, HW.out]; simp; exact HD.out
          · rw [HE.out, Tm.flatP_snoc, HFl.out, Nat.add_mul]; simp; omega
        clear hB hw hk hz a1 a3 e cR hrz hfl hd0
        go_wp2_with fail
        refine (HRz.out _).mono ?_
        rintro e' w3 ⟨rfl, md, rfl⟩
        have HRl := Lib.hid (hRel.out md)
        go_wp2
        go_roundg (gk - 1)
        case measure => exact hgk
        case rel => exact HRl.out
    · obtain rfl : i = zs.length := by omega
      have j2 : ¬ ((zs.length : Int) < (zs.length : Int)) := by omega
      rw [List.take_length] at hw hb ⊢
      have hrow := Tm.rowL_flat zs
      obtain ⟨fl, hfl⟩ : ∃ fl, Tm.flatP zs = fl := ⟨_, rfl⟩
      rw [hfl] at hb hrow ⊢
      have hcat : (⟨fl.toArray⟩ ++ ⟨Tm.num0.toArray⟩ : ByteArray) = ⟨(Tm.rowL zs).toArray⟩ := by rw [hrow]; exact cat_lists fl Tm.num0
      have hrl : (Tm.rowL zs).length = fl.length + 9 := by rw [hrow, List.length_append]; rfl
      have HRow := Lib.hid (And.intro hw hrl)
      clear hB hw hk hfl hrow
      by_cases h1 : 150 < zs.length
      · have j3 : (150 : Int) < (zs.length : Int) := by omega
        have hfin : Hid (Pair2 w r (.returned (.tuple #[.string ⟨#[]⟩, .int .i64 1])) wr) := by
          have := HR.out
          unfold Tm.putRow Tm.measureL at this
          rw [if_pos (Or.inl h1)] at this
          rw [← this]
          exact ⟨rfl, HB.out⟩
        clear hcat hrl
        go_wp2
        go_ret2
        exact hfin.out
      · have j3 : ¬ ((150 : Int) < (zs.length : Int)) := by omega
        have cR : (Tm.rowL zs).length ≤ 100000000 → ∀ V : World, Calls Try.prog 78 #[.string ⟨(Tm.rowL zs).toArray⟩] V (Drew V (.bool (Tm.right (Tm.rowL zs)))) := fun hh V => RRight_calls ⟨(Tm.rowL zs).toArray⟩ (by rw [size_list]; omega) V
        have hp : Hid (r = if 20000 < (Tm.rowL zs).length then ([], 3) else if Tm.right (Tm.rowL zs) = true then (Tm.rowL zs, 0) else ([], 4)) := by
          have := HR.out
          rw [← this]
          have hw := HRow.out.1
          have hn : ¬ (150 < zs.length ∨ Tm.wrongIn zs = true) := by rw [hw]; simp; omega
          by_cases h2 : 20000 < (Tm.rowL zs).length
          · have e : Tm.measureL zs = (0, 3) := by unfold Tm.measureL; rw [if_neg hn, if_pos h2]
            unfold Tm.putRow
            rw [if_pos h2, e]
            rfl
          · rw [if_neg h2]
            by_cases h3 : Tm.right (Tm.rowL zs) = true
            · rw [if_pos h3]
              exact Tm.putRow_mk (by omega) hw (by omega) ((Tm.right_row_iff zs hw (by omega)).1 h3)
            · rw [if_neg h3]
              have h4 : 400 < Tm.deepR zs := by
                have := mt (Tm.right_row_iff zs hw (by omega)).2 h3
                omega
              have e : Tm.measureL zs = (0, 4) := by unfold Tm.measureL; rw [if_neg hn, if_neg h2, if_pos h4]
              unfold Tm.putRow
              rw [e]
              rfl
        have HCr := Lib.hid (cR (by omega))
        have hrsz : (⟨(Tm.rowL zs).toArray⟩ : ByteArray).size = fl.length + 9 := by rw [size_list]; exact hrl
        rw [hrl] at hp
        have hn9 : Tm.num0.length = 9 := Tm.num0_len
        have hn9s : (⟨Tm.num0.toArray⟩ : ByteArray).size = 9 := rfl
        clear cR hrl
        generalize Tm.rowL zs = row at *
        go_wp2_with fail
        refine (HNum.out _).mono ?_
        rintro e' w3 ⟨rfl, b3⟩
        have HB3 := Lib.hid (HB.out.trans (b3.mono HB.out.size))
        clear b3
        have hp' := hp.out
        by_cases h2 : 20000 < fl.length + 9
        · rw [if_pos h2] at hp'
          subst hp'
          have j4 : (20000 : Int) < (fl.length : Int) + 9 := by omega
          go_wp2
          go_ret2
          exact ⟨rfl, HB3.out⟩
        · rw [if_neg h2] at hp'
          have j4 : ¬ ((20000 : Int) < (fl.length : Int) + 9) := by omega
          have HP := Lib.hid hp'
          clear hp hp'
          have hCr := HCr.out
          cases hq : Tm.right row with
          | true =>
            rw [hq] at hCr
            have HC2 := Lib.hid hCr
            have hr2 := HP.out
            rw [if_pos hq] at hr2
            subst hr2
            clear hCr HCr hq HP HR
            go_wp2_with fail
            refine (HC2.out _).mono ?_
            rintro e' w4 ⟨rfl, md, rfl⟩
            go_wp2
            go_ret2
            exact ⟨rfl, below_drewN HB3.out md⟩
          | false =>
            rw [hq] at hCr
            have HC2 := Lib.hid hCr
            have hr2 := HP.out
            rw [if_neg (by rw [hq]; simp)] at hr2
            subst hr2
            clear hCr HCr hq HP HR
            go_wp2_with fail
            refine (HC2.out _).mono ?_
            rintro e' w4 ⟨rfl, md, rfl⟩
            go_wp2
            go_ret2
            exact ⟨rfl, below_drewN HB3.out md⟩

end Go.Proofs.Ytloheongiceliaa
