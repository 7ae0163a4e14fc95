/- Contract of the document's own Put of rows (gemotref4): as the program's. Contract of the document's own Right of messages (gemotref4). Contract of the document's own Pack of messages (gemotref4): as the program's. -/
import Derived.Test.YtkhiconkoldllaaRef1
import Derived.Test.YtkhiconkoldllaaRefNum
import Derived.Test.YtkhiconkoldllaaMeasure
import Derived.Test.YtkhiconkoldllaaRowFacts
import Derived.Test.YtkhiconkoldllaaShort
import Derived.Test.YtkhiconkoldllaaMsg
import Derived.Test.YtkhiconkoldllaaLater
import Derived.Deep.RegionHeld3
import Derived.Test.YtkhiconkoldllaaPack
import Derived.Laws.AppendOwnNone
import Derived.Laws.AppendOwn
import Derived.Deep.Cut
section
namespace Go.Proofs.Ytkhiconkoldllaa
open Go.ChangeShapes Go.WideShapes Go.ChangeAt Go.RowKit

namespace Tm
def flatP (zs : List (List UInt8)) : List UInt8 := zs.flatMap (fun z => 112 :: z)
theorem flatP_snoc (zs : List (List UInt8)) (z : List UInt8) : flatP (zs ++ [z]) = flatP zs ++ 112 :: z := by simp [flatP]
theorem rowL_flat (zs : List (List UInt8)) : rowL zs = flatP zs ++ num0 := rfl
end Tm
theorem cat_lists (a b : List UInt8) : (⟨a.toArray⟩ ++ ⟨b.toArray⟩ : ByteArray) = ⟨(a ++ b).toArray⟩ := ByteArray.mk_append_mk a b
def RPutting (w : World) (zs : List (List UInt8)) (k : Nat) (v4 v5 : Value) (wr : World) : Prop :=
  ∃ i, k + i = zs.length ∧ v5 = .int .i64 i ∧ v4 = .string ⟨(Tm.flatP (zs.take i)).toArray⟩ ∧ Tm.wrongIn (zs.take i) = false ∧ (Tm.flatP (zs.take i)).length ≤ i * 20001 ∧ Below w.heap.size w wr

set_option maxRecDepth 100000 in
set_option maxHeartbeats 4000000 in
theorem RPut4_calls (zs : List (List UInt8)) (v : Value) (w : World) (h : RowA w v zs) (hl : zs.length ≤ 1000) : Calls Try.prog 39 #[v] w (Pair2 w (Tm.putRow zs)) := by
  obtain ⟨⟨A, c, rfl, hcells⟩, hshort, _⟩ := h
  have HNum : Hid (∀ V : World, Calls Try.prog 38 #[.int .u64 0] V (One V (.string ⟨Tm.num0.toArray⟩))) := fun V => refNumber_calls 0 (by decide) V
  have HC := Lib.hid hcells
  have HSh := Lib.hid hshort
  obtain ⟨r, hr⟩ : ∃ r, Tm.putRow zs = r := ⟨_, rfl⟩
  rw [hr]
  have HR := Lib.hid hr
  clear hcells hshort hr
  go_enter Try.func39, Try.ntmps39
  go_wp2
  go_loopg [4, 5] zs.length (fun k v4 v5 wr => RPutting w zs k v4 v5 wr)
  case atStart => exact ⟨0, by omega, rfl, rfl, rfl, by simp [Tm.flatP], Below.refl _ _⟩
  case round =>
    obtain ⟨i, hk, rfl, rfl, hw, hb, hB⟩ := hrel
    have HB := Lib.hid hB
    have HW := Lib.hid hw
    have HK := Lib.hid hk
    by_cases hil : i < zs.length
    · obtain ⟨z, hz⟩ : ∃ z, zs[i]? = some z := ⟨_, List.getElem?_eq_getElem hil⟩
      obtain ⟨ad, rfl, a1, _, a3⟩ := HC.out i z hz
      have hcell : wr.cell? (ad.add i) = some (.string ⟨z.toArray⟩) := (hB.cell (p := ad.add i) (by rw [addr_block]; exact a1)).trans a3
      have hzl : Hid (z.length ≤ maxLen) := HSh.out z (List.mem_of_getElem? hz)
      have cR : ∀ V : World, Calls Try.prog 53 #[.string ⟨z.toArray⟩] V (Drew V (.bool (Tm.right z))) := fun V => RRight_calls ⟨z.toArray⟩ (by rw [size_list]; exact hzl.out) V
      have e := List.take_add_one (l := zs) (i := i)
      rw [hz, Option.toList_some] at e
      have HE := Lib.hid e
      have hgk : gk - 1 < gk := by omega
      have j2 : (i : Int) < (zs.length : Int) := by omega
      have j3 : (0 : Int) ≤ (i : Int) := by omega
      cases hrz : Tm.right z with
      | false =>
        rw [hrz] at cR
        have HRz := Lib.hid cR
        have hfin : Hid (∀ n, Pair2 w r (.returned (.tuple #[.string ⟨#[]⟩, .int .i64 1])) (wr.drewN n)) := fun n => by
          have hd : Tm.depthOf z = 0 := by
            have := hrz
            unfold Tm.right at this
            simpa using this
          have hwz : Tm.wrongIn zs = true := by
            have h1 : Tm.wrongIn (zs.take (i + 1)) = true := by rw [HE.out, Tm.wrongIn_snoc, hd]; simp
            unfold Tm.wrongIn at h1 ⊢
            rw [List.any_eq_true] at h1 ⊢
            obtain ⟨x, hx, hx2⟩ := h1
            exact ⟨x, List.mem_of_mem_take hx, hx2⟩
          have := HR.out
          unfold Tm.putRow Tm.measureL at this
          rw [if_pos (Or.inr hwz)] at this
          rw [← this]
          exact ⟨rfl, below_drewN HB.out n⟩
        clear hB hw hk hz a1 a3 e cR hrz
        go_wp2_with fail
        refine (HRz.out _).mono ?_
        rintro e' w3 ⟨rfl, md, rfl⟩
        have HF := Lib.hid (hfin.out md)
        go_wp2
        go_ret2
        exact HF.out
      | true =>
        rw [hrz] at cR
        have HRz := Lib.hid cR
        have hd0 : Tm.depthOf z ≠ 0 := (Tm.right_iff z).1 hrz
        have hz20 := Tm.depthOf_short hd0
        have HD := Lib.hid hd0
        obtain ⟨fl, hfl⟩ : ∃ fl, Tm.flatP (zs.take i) = fl := ⟨_, rfl⟩
        rw [hfl] at hb ⊢
        have HFl := Lib.hid hfl
        have hcat1 : (⟨fl.toArray⟩ ++ ⟨#[112]⟩ : ByteArray) = ⟨(fl ++ [112]).toArray⟩ := cat_lists fl [112]
        have hcat2 : (⟨(fl ++ [112]).toArray⟩ ++ ⟨z.toArray⟩ : ByteArray) = ⟨(fl ++ [112] ++ z).toArray⟩ := cat_lists (fl ++ [112]) z
        have hRel : Hid (∀ n, RPutting w zs (gk - 1) (.string ⟨(fl ++ 112 :: z).toArray⟩) (.int .i64 ((i + 1 : Nat) : Int)) (wr.drewN n)) := fun n => by
          refine ⟨i + 1, by have := HK.out; omega, rfl, ?_, ?_, ?_, below_drewN HB.out n⟩
          · rw [HE.out, Tm.flatP_snoc, HFl.out]
          · rw [HE.out, Tm.wrongIn_snoc, HW.out]; simp; exact HD.out
          · rw [HE.out, Tm.flatP_snoc, HFl.out, Nat.add_mul]; simp; omega
        clear hB hw hk hz a1 a3 e cR hrz hfl hd0
        go_wp2_with fail
        refine (HRz.out _).mono ?_
        rintro e' w3 ⟨rfl, md, rfl⟩
        have HRl := Lib.hid (hRel.out md)
        go_wp2
        go_roundg (gk - 1)
        case measure => exact hgk
        case rel => exact HRl.out
    · obtain rfl : i = zs.length := by omega
      have j2 : ¬ ((zs.length : Int) < (zs.length : Int)) := by omega
      rw [List.take_length] at hw hb ⊢
      have hrow := Tm.rowL_flat zs
      obtain ⟨fl, hfl⟩ : ∃ fl, Tm.flatP zs = fl := ⟨_, rfl⟩
      rw [hfl] at hb hrow ⊢
      have hcat : (⟨fl.toArray⟩ ++ ⟨Tm.num0.toArray⟩ : ByteArray) = ⟨(Tm.rowL zs).toArray⟩ := by rw [hrow]; exact cat_lists fl Tm.num0
      have hrl : (Tm.rowL zs).length = fl.length + 9 := by rw [hrow, List.length_append]; rfl
      have HRow := Lib.hid (And.intro hw hrl)
      clear hB hw hk hfl hrow
      by_cases h1 : 150 < zs.length
      · have j3 : (150 : Int) < (zs.length : Int) := by omega
        have hfin : Hid (Pair2 w r (.returned (.tuple #[.string ⟨#[]⟩, .int .i64 1])) wr) := by
          have := HR.out
          unfold Tm.putRow Tm.measureL at this
          rw [if_pos (Or.inl h1)] at this
          rw [← this]
          exact ⟨rfl, HB.out⟩
        clear hcat hrl
        go_wp2
        go_ret2
        exact hfin.out
      · have j3 : ¬ ((150 : Int) < (zs.length : Int)) := by omega
        have cR : (Tm.rowL zs).length ≤ 100000000 → ∀ V : World, Calls Try.prog 53 #[.string ⟨(Tm.rowL zs).toArray⟩] V (Drew V (.bool (Tm.right (Tm.rowL zs)))) := fun hh V => RRight_calls ⟨(Tm.rowL zs).toArray⟩ (by rw [size_list]; omega) V
        have hp : Hid (r = if 20000 < (Tm.rowL zs).length then ([], 3) else if Tm.right (Tm.rowL zs) = true then (Tm.rowL zs, 0) else ([], 4)) := by
          have := HR.out
          rw [← this]
          have hw := HRow.out.1
          have hn : ¬ (150 < zs.length ∨ Tm.wrongIn zs = true) := by rw [hw]; simp; omega
          by_cases h2 : 20000 < (Tm.rowL zs).length
          · have e : Tm.measureL zs = (0, 3) := by unfold Tm.measureL; rw [if_neg hn, if_pos h2]
            unfold Tm.putRow
            rw [if_pos h2, e]
            rfl
          · rw [if_neg h2]
            by_cases h3 : Tm.right (Tm.rowL zs) = true
            · rw [if_pos h3]
              exact Tm.putRow_mk (by omega) hw (by omega) ((Tm.right_row_iff zs hw (by omega)).1 h3)
            · rw [if_neg h3]
              have h4 : 400 < Tm.deepR zs := by
                have := mt (Tm.right_row_iff zs hw (by omega)).2 h3
                omega
              have e : Tm.measureL zs = (0, 4) := by unfold Tm.measureL; rw [if_neg hn, if_neg h2, if_pos h4]
              unfold Tm.putRow
              rw [e]
              rfl
        have HCr := Lib.hid (cR (by omega))
        have hrsz : (⟨(Tm.rowL zs).toArray⟩ : ByteArray).size = fl.length + 9 := by rw [size_list]; exact hrl
        rw [hrl] at hp
        have hn9 : Tm.num0.length = 9 := Tm.num0_len
        have hn9s : (⟨Tm.num0.toArray⟩ : ByteArray).size = 9 := rfl
        clear cR hrl
        generalize Tm.rowL zs = row at *
        go_wp2_with fail
        refine (HNum.out _).mono ?_
        rintro e' w3 ⟨rfl, b3⟩
        have HB3 := Lib.hid (HB.out.trans (b3.mono HB.out.size))
        clear b3
        have hp' := hp.out
        by_cases h2 : 20000 < fl.length + 9
        · rw [if_pos h2] at hp'
          subst hp'
          have j4 : (20000 : Int) < (fl.length : Int) + 9 := by omega
          go_wp2
          go_ret2
          exact ⟨rfl, HB3.out⟩
        · rw [if_neg h2] at hp'
          have j4 : ¬ ((20000 : Int) < (fl.length : Int) + 9) := by omega
          have HP := Lib.hid hp'
          clear hp hp'
          have hCr := HCr.out
          cases hq : Tm.right row with
          | true =>
            rw [hq] at hCr
            have HC2 := Lib.hid hCr
            have hr2 := HP.out
            rw [if_pos hq] at hr2
            subst hr2
            clear hCr HCr hq HP HR
            go_wp2_with fail
            refine (HC2.out _).mono ?_
            rintro e' w4 ⟨rfl, md, rfl⟩
            go_wp2
            go_ret2
            exact ⟨rfl, below_drewN HB3.out md⟩
          | false =>
            rw [hq] at hCr
            have HC2 := Lib.hid hCr
            have hr2 := HP.out
            rw [if_neg (by rw [hq]; simp)] at hr2
            subst hr2
            clear hCr HCr hq HP HR
            go_wp2_with fail
            refine (HC2.out _).mono ?_
            rintro e' w4 ⟨rfl, md, rfl⟩
            go_wp2
            go_ret2
            exact ⟨rfl, below_drewN HB3.out md⟩

end Go.Proofs.Ytkhiconkoldllaa
end

section
namespace Go.Proofs.Ytkhiconkoldllaa.L4
open Go.ChangeShapes Go.WideShapes Go.ChangeAt Go.RowKit

set_option maxHeartbeats 1000000 in
theorem id4_calls (a c : Int) (w : World) : Calls Try.prog 51 #[.agg #[.int .i64 a, .int .i64 c]] w (One w (.bool (idB a c))) := by
  have hB : Hid (Below w.heap.size w (w.alloc (.cells #[.int .i64 a, .int .i64 c] 23))) := (Below.refl _ w).alloc (Nat.le_refl _) _
  have hcases : (¬ 0 ≤ a ∧ idB a c = false) ∨ (0 ≤ a ∧ ¬ a ≤ 2147483647 ∧ idB a c = false) ∨ (0 ≤ a ∧ a ≤ 2147483647 ∧ ¬ 0 ≤ c ∧ idB a c = false) ∨ (0 ≤ a ∧ a ≤ 2147483647 ∧ 0 ≤ c ∧ ¬ c ≤ 8 ∧ idB a c = false) ∨ (0 ≤ a ∧ a ≤ 2147483647 ∧ 0 ≤ c ∧ c ≤ 8 ∧ idB a c = true) := by
    have key : idB a c = decide (0 ≤ a ∧ a ≤ 2147483647 ∧ 0 ≤ c ∧ c ≤ 8) := by
      rw [Bool.eq_iff_iff]
      simp [idB, withinB, and_assoc]
    rw [key]
    simp only [decide_eq_true_eq, decide_eq_false_iff_not]
    omega
  generalize idB a c = b at *
  rcases hcases with ⟨h1, rfl⟩ | ⟨h1, h2, rfl⟩ | ⟨h1, h2, h3, rfl⟩ | ⟨h1, h2, h3, h4, rfl⟩ | ⟨h1, h2, h3, h4, rfl⟩
  all_goals
    go_enter Try.func51, Try.ntmps51
    go_wp2
    go_ret
    exact ⟨rfl, hB.out⟩

/-- A region that draws its order and only reads: one walk, in the order of the text, closed at each step. -/
theorem wp_region_still {P : Program} {id : Nat} {Q : Exit → Act → World → Prop} {a : Act} {w : World} {l : List Oper} (hm : P.follows .mixedOrders = true) (hB : Region.lexB .any l.toArray = true)
    (h : Quietly P l.toArray (fun w' => ∃ n : Nat, w' = w.drewN n) (fun a' => ∀ w', (∃ n : Nat, w' = w.drewN n) → Q .normal a' w') l a) : (Code.region id l.toArray true).wp P Q a w :=
  wp_region_quiet (C := fun w' => ∃ n : Nat, w' = w.drewN n) hm hB ⟨1, rfl⟩ (by simpa using h.out)

/-- The number ahead of place i, 0 at the first one. -/
def ahead (xs : List Int) (i : Nat) : Int := if i = 0 then 0 else xs.getD (i - 1) 0
def RRising (W0 : World) (xs : List Int) (k : Nat) (v3 : Value) (wr : World) : Prop :=
  ∃ i : Nat, k + i = xs.length ∧ v3 = .int .i64 i ∧ riseB 0 xs = riseB (ahead xs i) (xs.drop i) ∧ 0 ≤ ahead xs i ∧ ahead xs i ≤ 8 ∧ (0 < i → 1 ≤ ahead xs i) ∧ Below W0.heap.size W0 wr

set_option maxRecDepth 100000 in
set_option maxHeartbeats 8000000 in
theorem right4_calls (m : Msg) (vm vt : Value) (w : World) (h : MsgA w m vm vt) (hl : m.terms.length ≤ 1000) : Calls Try.prog 37 #[.agg (msgCells m vm vt)] w (One w (.bool m.ok)) := by
  obtain ⟨A5, c5, rfl⟩ : ∃ A c, vm = .slice A m.mem.length c := by obtain ⟨⟨A, c, e, k⟩, f⟩ := h.mem; exact ⟨A, c, e⟩
  obtain ⟨A6, c6, rfl⟩ : ∃ A c, vt = .slice A m.terms.length c := by obtain ⟨⟨A, c, e, k⟩, f⟩ := h.terms; exact ⟨A, c, e⟩
  have hbx := boxed_new w m (.slice A5 m.mem.length c5) (.slice A6 m.terms.length c6) 55
  unfold msgCells at hbx ⊢
  obtain ⟨W0, hW0⟩ : ∃ W0, w.alloc (.cells #[.int .i64 m.kind, .int .i64 m.e1, .int .i64 m.c1, .int .i64 m.e2, .int .i64 m.c2, .int .i64 m.num, .slice A5 m.mem.length c5, .slice A6 m.terms.length c6] 55) = W0 := ⟨_, rfl⟩
  have hs0 : W0.heap.size = w.heap.size + 1 := by rw [← hW0]; simp
  have hB0 : Below w.heap.size w W0 := by rw [← hW0]; exact (Below.refl _ w).alloc (Nat.le_refl _) _
  rw [hW0] at hbx
  have HTwo : Hid (∀ V, Below W0.heap.size W0 V → Boxed V w.heap.size m (.slice A5 m.mem.length c5) (.slice A6 m.terms.length c6)) := fun V hV => hbx.below hV (by omega)
  have HW : Hid (∀ V, Below W0.heap.size W0 V → Below w.heap.size w V) := fun V hV => hB0.trans (hV.mono (by omega))
  have HI : Hid (∀ (j : Nat) (x : Int), m.mem[j]? = some x → ∃ ad : Addr, A5 = some ad ∧ ∀ V : World, Below W0.heap.size W0 V → V.cell? (ad.add j) = some (.int .i64 x)) := by
    intro j x hx
    obtain ⟨⟨A, c, e, k⟩, _⟩ := h.mem
    cases e
    obtain ⟨ad, e2, b1, b2⟩ := k j x hx
    exact ⟨ad, e2, fun V hV => (hV.cell (p := ad.add j) (by rw [addr_block]; omega)).trans ((hB0.cell (p := ad.add j) (by rw [addr_block]; exact b1)).trans b2)⟩
  have f5 := h.mem.few
  unfold maxLen at f5
  have HPut : Hid (∀ V, Below W0.heap.size W0 V → Calls Try.prog 39 #[.slice A6 m.terms.length c6] V (Pair2 V (Tm.putRow m.terms))) := fun V hV => RPut4_calls m.terms _ V (h.terms.below (HW.out V hV)) hl
  have HId1 := Lib.hid (fun V => id4_calls m.e1 m.c1 V)
  have HId2 := Lib.hid (fun V => id4_calls m.e2 m.c2 V)
  obtain ⟨r, hr⟩ : ∃ r, m.ok = r := ⟨_, rfl⟩
  rw [hr]
  have HR := Lib.hid hr
  have HBx := Lib.hid (And.intro hbx hB0)
  obtain ⟨y0, y1, y2, y3, y4, y5, y6, y7⟩ := hbx
  clear h hB0 hs0 hr hl
  go_enter Try.func37, Try.ntmps37
  go_wp2
  clear hW0
  go_loopg [3] m.mem.length (fun k v3 wr => RRising W0 m.mem k v3 wr)
  case atStart => exact ⟨0, by omega, rfl, by simp [ahead], by simp [ahead], by simp [ahead], by omega, Below.refl _ _⟩
  case round =>
    obtain ⟨i, hk, rfl, hd, h0, h8, h1, hBd⟩ := hrel
    have HBd := Lib.hid hBd
    obtain ⟨z0, z1, z2, z3, z4, z5, z6, z7⟩ := HTwo.out wr hBd
    by_cases hil : i < m.mem.length
    · obtain ⟨x, hx⟩ : ∃ x, m.mem[i]? = some x := ⟨_, List.getElem?_eq_getElem hil⟩
      obtain ⟨ad, rfl, hcx⟩ := HI.out i x hx
      have c1 := hcx wr hBd
      have hdrop : m.mem.drop i = x :: m.mem.drop (i + 1) := by
        rw [List.drop_eq_getElem_cons hil, (List.getElem?_eq_some_iff.1 hx).2]
      have hd2 : riseB 0 m.mem = (withinB x (ahead m.mem i + 1) 8 && riseB x (m.mem.drop (i + 1))) := by rw [hd, hdrop]; rfl
      have hnx : ahead m.mem (i + 1) = x := by simp [ahead, List.getD, hx]
      have hgk := Lib.hid (show gk - 1 < gk by omega)
      have j1 : (i : Int) < (m.mem.length : Int) := by omega
      have j2 : (0 : Int) ≤ (i : Int) := by omega
      have hno : withinB x (ahead m.mem i + 1) 8 = false → Hid (r = false) := fun h => by
        show r = false
        rw [← HR.out]
        unfold Msg.ok Msg.okHead
        rw [hd2, h]
        simp
      have hyes : withinB x (ahead m.mem i + 1) 8 = true → Hid (∀ md2, RRising W0 m.mem (gk - 1) (.int .i64 ((i + 1 : Nat) : Int)) (wr.drewN md2)) := fun h md2 => by
        have := (withinB_iff _ _ _).1 h
        exact ⟨i + 1, by omega, rfl, by rw [hd2, h, hnx]; rfl, by rw [hnx]; omega, by rw [hnx]; omega, fun _ => by rw [hnx]; omega, below_drewN hBd md2⟩
      have hiff := withinB_iff x (ahead m.mem i + 1) 8
      have hwf : ¬ (ahead m.mem i + 1 ≤ x ∧ x ≤ 8) → withinB x (ahead m.mem i + 1) 8 = false := fun h => by
        cases hq : withinB x (ahead m.mem i + 1) 8 with
        | false => rfl
        | true => exact absurd (hiff.1 hq) h
      have HBw : Hid (∀ md2, Below w.heap.size w (wr.drewN md2)) := fun md2 => HW.out _ (below_drewN hBd md2)
      have hend : Hid (r = false) → Hid (∀ md2, One w (.bool r) (.returned (.bool false)) (wr.drewN md2)) := fun h md2 => ⟨by rw [show r = false from h], HBw.out md2⟩
      clear hBd
      by_cases hx1 : x < 1
      · have HF := Lib.hid ((hend (hno (hwf (by omega)))).out)
        clear hk hd hx hdrop hd2 hnx hno hyes hiff hwf hend h0 h8 h1
        go_wp2
        refine wp_region_still (by kernel_rfl) (by kernel_rfl) ?_
        repeat
          (refine Quietly.step (fun K hK => ?_)
           go_simp
           refine hK _ ?_
           clear hK K)
        refine Quietly.none ?_
        rintro w2 ⟨nq, rfl⟩
        go_wp2
        go_ret
        exact HF.out _
      by_cases hx8 : 8 < x
      · have HF := Lib.hid ((hend (hno (hwf (by omega)))).out)
        clear hk hd hx hdrop hd2 hnx hno hyes hiff hwf hend h0 h8 h1
        go_wp2
        refine wp_region_still (by kernel_rfl) (by kernel_rfl) ?_
        repeat
          (refine Quietly.step (fun K hK => ?_)
           go_simp
           refine hK _ ?_
           clear hK K)
        refine Quietly.none ?_
        rintro w2 ⟨nq, rfl⟩
        go_wp2
        go_ret
        exact HF.out _
      rcases Nat.eq_zero_or_pos i with hi0 | hi0
      · subst hi0
        have c1' : wr.cell? ad = some (.int .i64 x) := by have := c1; rwa [show ad.add 0 = ad by unfold Addr.add; rw [if_pos rfl]] at this
        have HF := Lib.hid (hyes (by rw [hiff]; simp [ahead]; omega)).out
        clear hk hd hx hdrop hd2 hnx hno hyes hiff hwf hend h0 h8 h1
        go_wp2
        refine wp_region_still (by kernel_rfl) (by kernel_rfl) ?_
        repeat
          (refine Quietly.step (fun K hK => ?_)
           go_simp
           refine hK _ ?_
           clear hK K)
        refine Quietly.none ?_
        rintro w2 ⟨nq, rfl⟩
        go_wp2
        go_roundg (gk - 1)
        case measure => exact hgk.out
        case rel => exact HF.out _
      · obtain ⟨q, hq⟩ : ∃ q, q + 1 = i := ⟨i - 1, by omega⟩
        obtain ⟨p, hp⟩ : ∃ p, m.mem[q]? = some p := ⟨_, List.getElem?_eq_getElem (by omega)⟩
        obtain ⟨ad', e', hcp⟩ := HI.out q p hp
        cases e'
        have c2 := hcp wr HBd.out
        have hap : ahead m.mem i = p := by rw [← hq]; simp [ahead, List.getD, hp]
        have j3 : (0 : Int) < (i : Int) := by omega
        have j4 : (q : Int) < (m.mem.length : Int) := by omega
        have j5 : (0 : Int) ≤ (q : Int) := by omega
        have j6 : IntKind.i64.wrap ((i : Int) - 1) = (q : Int) := by rw [IntKind.wrap_i64]; omega
        have hd3 := hd2
        rw [hap] at hd3
        by_cases hle : x ≤ p
        · have HF := Lib.hid ((hend (hno (hwf (by rw [hap]; omega)))).out)
          clear hk hd hx hdrop hd2 hnx hno hyes hiff hwf hend h0 h8 h1 hp hap hd3 hq
          go_wp2
          refine wp_region_still (by kernel_rfl) (by kernel_rfl) ?_
          repeat
            (refine Quietly.step (fun K hK => ?_)
             go_simp
             refine hK _ ?_
             clear hK K)
          refine Quietly.none ?_
          rintro w2 ⟨nq, rfl⟩
          go_wp2
          go_ret
          exact HF.out _
        · have HF := Lib.hid (hyes (by rw [hiff, hap]; omega)).out
          clear hk hd hx hdrop hd2 hnx hno hyes hiff hwf hend h0 h8 h1 hp hap hd3 hq
          go_wp2
          refine wp_region_still (by kernel_rfl) (by kernel_rfl) ?_
          repeat
            (refine Quietly.step (fun K hK => ?_)
             go_simp
             refine hK _ ?_
             clear hK K)
          refine Quietly.none ?_
          rintro w2 ⟨nq, rfl⟩
          go_wp2
          go_roundg (gk - 1)
          case measure => exact hgk.out
          case rel => exact HF.out _
    · have j1 : ¬ (i : Int) < (m.mem.length : Int) := by omega
      have hrise : riseB 0 m.mem = true := by rw [hd, List.drop_eq_nil_of_le (by omega)]; rfl
      have HP := Lib.hid (HPut.out _ hBd)
      have hprow : (Tm.putRow m.terms).2 = (Tm.measureL m.terms).2 := by unfold Tm.putRow; split <;> simp_all
      have hok : r = (withinB m.kind 0 20 && idB m.e1 m.c1 && idB m.e2 m.c2 && withinB m.num 0 2147483647 && decide ((Tm.putRow m.terms).2 = 0)) := by
        rw [← HR.out, hprow]
        unfold Msg.ok Msg.okHead
        rw [hrise]
        simp
      obtain ⟨pt, pe, hpe⟩ : ∃ pt pe, Tm.putRow m.terms = (pt, pe) := ⟨_, _, rfl⟩
      rw [hpe] at HP hok
      have HOk := Lib.hid hok
      clear hk hd h0 h8 h1 hil hrise hBd hprow hok hpe
      go_wp2_with fail
      refine HP.out.mono ?_
      rintro e w1 ⟨rfl, b1⟩
      have hB1 := HBd.out.trans (b1.mono HBd.out.size)
      obtain ⟨x0, x1, x2, x3, x4, x5, x6, x7⟩ := HTwo.out _ hB1
      have HB1 := Lib.hid hB1
      clear b1 hB1 HP z0 z1 z2 z3 z4 z5 z6 z7
      have HEnd : Hid (∀ V b, Below W0.heap.size W0 V → r = b → One w (.bool r) (.returned (.bool b)) V) := fun V b hV hb => ⟨by rw [hb], HW.out V hV⟩
      by_cases hpe : pe = 0
      rotate_left
      · have hq : ((pe : Int) == 0) = false := by rw [beq_eq_false_iff_ne]; omega
        have HF := Lib.hid (HEnd.out w1 false HB1.out (by rw [HOk.out]; simp [hpe]))
        go_wp2
        go_ret
        exact HF.out
      subst hpe
      cases hb1 : idB m.e1 m.c1 with
      | false =>
        rw [hb1] at HId1
        have HOk1 : Hid (r = false) := by show r = false; rw [HOk.out, hb1]; simp
        clear hb1
        go_wp2_with fail
        refine (HId1.out _).mono ?_
        rintro e w2 ⟨rfl, b2⟩
        have HF := Lib.hid (HEnd.out w2 false (HB1.out.trans (b2.mono HB1.out.size)) HOk1.out)
        clear b2
        go_wp2
        go_ret
        exact HF.out
      | true =>
      rw [hb1] at HId1
      cases hb2 : idB m.e2 m.c2 with
      | false =>
        rw [hb2] at HId2
        have HOk1 : Hid (r = false) := by show r = false; rw [HOk.out, hb2]; simp
        clear hb1 hb2
        go_wp2_with fail
        refine (HId1.out _).mono ?_
        rintro e w2 ⟨rfl, b2⟩
        have hB2 := HB1.out.trans (b2.mono HB1.out.size)
        obtain ⟨z0, z1, z2, z3, z4, z5, z6, z7⟩ := HTwo.out _ hB2
        have HB2 := Lib.hid hB2
        clear b2 hB2
        go_wp2_with fail
        refine (HId2.out _).mono ?_
        rintro e w3 ⟨rfl, b3⟩
        have HF := Lib.hid (HEnd.out w3 false (HB2.out.trans (b3.mono HB2.out.size)) HOk1.out)
        clear b3
        go_wp2
        go_ret
        exact HF.out
      | true =>
      rw [hb2] at HId2
      have HOk1 : Hid (r = decide (0 ≤ m.kind ∧ m.kind ≤ 20 ∧ 0 ≤ m.num ∧ m.num ≤ 2147483647)) := by
        show r = _
        rw [HOk.out, hb1, hb2, Bool.eq_iff_iff]
        simp [withinB, and_assoc]
      clear hb1 hb2
      go_wp2_with fail
      refine (HId1.out _).mono ?_
      rintro e w2 ⟨rfl, b2⟩
      have hB2 := HB1.out.trans (b2.mono HB1.out.size)
      obtain ⟨z0, z1, z2, z3, z4, z5, z6, z7⟩ := HTwo.out _ hB2
      have HB2 := Lib.hid hB2
      clear b2 hB2 x0 x1 x2 x3 x4 x5 x6 x7
      go_wp2_with fail
      refine (HId2.out _).mono ?_
      rintro e w3 ⟨rfl, b3⟩
      have hB3 := HB2.out.trans (b3.mono HB2.out.size)
      obtain ⟨x0, x1, x2, x3, x4, x5, x6, x7⟩ := HTwo.out _ hB3
      have HF := Lib.hid (fun b hb => HEnd.out w3 b hB3 hb)
      clear b3 hB3 z0 z1 z2 z3 z4 z5 z6 z7 HOk HEnd
      by_cases k1 : 0 ≤ m.kind
      rotate_left
      · have HG := Lib.hid (HF.out false (by rw [HOk1.out]; simp; omega))
        go_wp2
        go_ret
        exact HG.out
      by_cases k2 : m.kind ≤ 20
      rotate_left
      · have HG := Lib.hid (HF.out false (by rw [HOk1.out]; simp; omega))
        go_wp2
        go_ret
        exact HG.out
      by_cases k3 : 0 ≤ m.num
      rotate_left
      · have HG := Lib.hid (HF.out false (by rw [HOk1.out]; simp; omega))
        go_wp2
        go_ret
        exact HG.out
      by_cases k4 : m.num ≤ 2147483647
      rotate_left
      · have k5 : decide (m.num ≤ 2147483647) = false := by simp; omega
        have HG := Lib.hid (HF.out false (by rw [HOk1.out]; simp; omega))
        go_wp2
        go_ret
        exact HG.out
      have HG := Lib.hid (HF.out true (by rw [HOk1.out]; simp; omega))
      go_wp2
      go_ret
      exact HG.out

end Go.Proofs.Ytkhiconkoldllaa.L4
end

section
namespace Go.Proofs.Ytkhiconkoldllaa.L4
open Go.ChangeShapes Go.WideShapes Go.ChangeAt Go.RowKit

/-- What is appended, one cell each: nothing at nil, or cells that lie there. -/
structure Src (w : World) (v : Value) (news : List Value) : Prop where
  lies : (v = .slice none 0 0 ∧ news = []) ∨ ∃ ad c, v = .slice (some ad) news.length c ∧ ∀ j u, news[j]? = some u → w.cell? (ad.add j) = some u
  one : ∀ u ∈ news, u.oneCell' = true
/-- append of whatever row of one-cell elements onto a slice that the call owns, whatever the guard that stands. -/
theorem wpList_append_src {P : Program} {w : World} {ops : Array Oper} {rest : List Oper} {o : Oper} {a : Act} {Q : Exit → Act → World → Prop} (hw : Region.wanted o (yielded ops a.tmps) = true) (s x : Operand) (t : TypeId)
    (ho : o.op = .call { callee := .builtin .append, args := #[s, x], argTypes := #[t, t] })
    (base : Nat) (e : TypeId) (i : TypeInfo) (z : Value) (bytes : Nat) (ht : P.underlying t = some (.slice e)) (hi : P.info? e = some i) (hz : i.zero = some z)
    (hsize : i.size = 1) (hby : i.bytes = bytes) (hzs : z.cells.size = 1)
    (v : Value) (n : Nat) (xs : List Value) (hs : a.eval s = v) (hown : w.ownsRow base e 1 v n xs)
    (vx : Value) (news : List Value) (hx : a.eval x = vx) (hsrc : Src w vx news)
    (h63 : n + news.length ≤ maxLen) (hbytes : (n + news.length) * bytes ≤ 140737488355328) (hbase : base ≤ w.heap.size)
    (h : ∀ v' w', w'.ownsRow base e 1 v' (n + news.length) (xs ++ news) → w.grownBy w' v.ownBlock → wpList P ops Q rest (a.put o.dst v') w') :
    wpList P ops Q (o :: rest) a w := by
  refine wpList_step fun K hK => ?_
  rw [if_pos hw]
  rcases hsrc.lies with ⟨rfl, rfl⟩ | ⟨ad, c, rfl, hc⟩
  · have hrun := run_append_owned_none (P := P) (w := w) base t o.type e i 1 ht hi v n xs hown
    unfold Oper.wp execOp
    simp only [ho, resolve, invoke, builtin, Sem.run_bind, Sem.run_pure, Result.andThen_ok, List.map_toArray, List.map_cons, List.map_nil, hs, hx, hrun]
    exact hK _ _ (h v w (by simpa using hown) ⟨rfl, rfl, rfl, Nat.le_refl _, fun _ _ _ => rfl⟩)
  · obtain ⟨v', w', hr, h2, h3, _⟩ := run_append_own (P := P) w base t o.type e i z 1 bytes ht hi hz hsize hby hzs (by decide) v n xs hown ad news.length c news (by simp) hc hsrc.one h63 hbytes hbase
    unfold Oper.wp execOp
    simp only [ho, resolve, invoke, builtin, Sem.run_bind, Sem.run_pure, Result.andThen_ok, List.map_toArray, List.map_cons, List.map_nil, hs, hx, hr]
    exact hK _ _ (h v' w' h2 h3)
def intV (xs : List Int) : List Value := xs.map (fun x => .int .i64 x)
theorem Src.ints {w : World} {v : Value} {xs : List Int} (h : IntsA w v xs) (hn : ∀ n c, v = .slice none n c → c = 0) : Src w v (intV xs) := by
  obtain ⟨⟨A, c, rfl, k⟩, _, _⟩ := h
  refine ⟨?_, fun u hu => by obtain ⟨x, _, rfl⟩ := List.mem_map.1 hu; rfl⟩
  cases A with
  | none =>
    have hx : xs = [] := by
      cases xs with
      | nil => rfl
      | cons x xs => obtain ⟨ad, e, _⟩ := k 0 x rfl; cases e
    subst hx
    obtain rfl := hn _ _ rfl
    exact .inl ⟨rfl, rfl⟩
  | some ad =>
    refine .inr ⟨ad, c, by simp [intV], fun j u hu => ?_⟩
    simp only [intV, List.getElem?_map, Option.map_eq_some_iff] at hu
    obtain ⟨x, hx, rfl⟩ := hu
    obtain ⟨ad', e, _, k2⟩ := k j x hx
    cases e
    exact k2
theorem Src.texts {w : World} {v : Value} {zs : List (List UInt8)} (h : RowA w v zs) (hn : ∀ n c, v = .slice none n c → c = 0) : Src w v (strs zs) := by
  obtain ⟨⟨A, c, rfl, k⟩, _, _⟩ := h
  refine ⟨?_, fun u hu => by obtain ⟨x, _, rfl⟩ := List.mem_map.1 hu; rfl⟩
  cases A with
  | none =>
    have hx : zs = [] := by
      cases zs with
      | nil => rfl
      | cons x xs => obtain ⟨ad, e, _⟩ := k 0 x rfl; cases e
    subst hx
    obtain rfl := hn _ _ rfl
    exact .inl ⟨rfl, rfl⟩
  | some ad =>
    refine .inr ⟨ad, c, by simp [strs], fun j u hu => ?_⟩
    simp only [strs, List.getElem?_map, Option.map_eq_some_iff] at hu
    obtain ⟨x, hx, rfl⟩ := hu
    obtain ⟨ad', e, _, _, k2⟩ := k j x hx
    cases e
    exact k2

def RNumbering (_W B : World) (ns : List Int) (k : Nat) (v5 v6 : Value) (wr : World) : Prop :=
  ∃ i : Nat, k + i = ns.length ∧ v6 = .int .i64 i ∧ wr.ownsRow B.heap.size 9 1 v5 i (strs ((ns.take i).map Tm.numL)) ∧ Below B.heap.size B wr
theorem info_s4 : (Try.prog.info? 9).map (fun i => (i.zero, i.size, i.bytes)) = some (some (.string ⟨#[]⟩), 1, 16) := by kernel_rfl
theorem info_int4 : (Try.prog.info? 3).map (fun i => (i.zero, i.size, i.bytes)) = some (some (.int .i64 0), 1, 8) := by kernel_rfl

set_option maxRecDepth 100000 in
set_option maxHeartbeats 8000000 in
theorem pack4_calls (m : Msg) (vm vt : Value) (w : World) (h : MsgA w m vm vt) (hnm : ∀ n c, vm = .slice none n c → c = 0) (hnt : ∀ n c, vt = .slice none n c → c = 0) (hl : m.terms.length ≤ 900) : Calls Try.prog 28 #[.agg (msgCells m vm vt)] w (Pair2 w m.pack) := by
  obtain ⟨i0, hi, hz0, hz1, hz2⟩ := info_parts info_s4
  obtain ⟨j0, hj, hy0, hy1, hy2⟩ := info_parts info_int4
  obtain ⟨A5, c5, rfl⟩ : ∃ A c, vm = .slice A m.mem.length c := by obtain ⟨⟨A, c, e, k⟩, f⟩ := h.mem; exact ⟨A, c, e⟩
  obtain ⟨A6, c6, rfl⟩ : ∃ A c, vt = .slice A m.terms.length c := by obtain ⟨⟨A, c, e, k⟩, f⟩ := h.terms; exact ⟨A, c, e⟩
  have hbx := boxed_new w m (.slice A5 m.mem.length c5) (.slice A6 m.terms.length c6) 55
  unfold msgCells at hbx ⊢
  obtain ⟨W0, hW0⟩ : ∃ W0, w.alloc (.cells #[.int .i64 m.kind, .int .i64 m.e1, .int .i64 m.c1, .int .i64 m.e2, .int .i64 m.c2, .int .i64 m.num, .slice A5 m.mem.length c5, .slice A6 m.terms.length c6] 55) = W0 := ⟨_, rfl⟩
  have hs0 : W0.heap.size = w.heap.size + 1 := by rw [← hW0]; simp
  have hB0 : Below w.heap.size w W0 := by rw [← hW0]; exact (Below.refl _ w).alloc (Nat.le_refl _) _
  rw [hW0] at hbx
  have HTwo : Hid (∀ V, Below W0.heap.size W0 V → Boxed V w.heap.size m (.slice A5 m.mem.length c5) (.slice A6 m.terms.length c6)) := fun V hV => hbx.below hV (by omega)
  have HW : Hid (∀ V, Below W0.heap.size W0 V → Below w.heap.size w V) := fun V hV => hB0.trans (hV.mono (by omega))
  have HRt := Lib.hid (right4_calls m _ _ W0 (h.below hB0) (by omega))
  have HSm : Hid (∀ V, Below W0.heap.size W0 V → Src V (.slice A5 m.mem.length c5) (intV m.mem)) := fun V hV => Src.ints (h.mem.below (HW.out V hV)) hnm
  have HSt : Hid (∀ V, Below W0.heap.size W0 V → Src V (.slice A6 m.terms.length c6) (strs m.terms)) := fun V hV => Src.texts (h.terms.below (HW.out V hV)) hnt
  have HSh := Lib.hid h.terms.short
  have HPk : Hid (m.pack = if m.ok = true then Tm.putRow m.row else ([], 1)) := rfl
  have HAll := Lib.hid (fun ho => Msg.ok_all (m := m) ho)
  obtain ⟨y0, y1, y2, y3, y4, y5, y6, y7⟩ := hbx
  unfold msgCells at HRt
  clear h hB0 hs0 hnm hnt
  cases hok : m.ok with
  | false =>
    rw [hok] at HRt
    have hp : m.pack = ([], 1) := by rw [HPk.out, hok]; rfl
    rw [hp]
    clear hp hok
    go_enter Try.func28, Try.ntmps28
    go_wp2_with fail
    refine HRt.out.mono ?_
    rintro e w1 ⟨rfl, b1⟩
    have HB1 := Lib.hid (HW.out w1 b1)
    clear b1
    go_wp2
    go_ret2
    exact ⟨rfl, HB1.out⟩
  | true =>
    rw [hok] at HRt
    have hp : m.pack = Tm.putRow m.row := by rw [HPk.out, hok]; rfl
    rw [hp]
    obtain ⟨hnum, hm8, ht150, _⟩ := HAll.out hok
    have HNum := Lib.hid hnum
    have HLens := Lib.hid (And.intro hm8 ht150)
    have hm8I : (m.mem.length : Int) ≤ 8 := by omega
    clear hp hok hnum hm8 ht150 hl
    go_enter Try.func28, Try.ntmps28
    go_wp2_with fail
    refine HRt.out.mono ?_
    rintro e w1 ⟨rfl, b1⟩
    obtain ⟨x0, x1, x2, x3, x4, x5, x6, x7⟩ := HTwo.out w1 b1
    have HB1 := Lib.hid b1
    clear b1 y0 y1 y2 y3 y4 y5 y6 y7
    have HB1w := Lib.hid (HW.out w1 HB1.out)
    have hsz1 := HB1.out.size
    go_upto_region 4 with (fail)
    obtain ⟨W2, hW2⟩ : ∃ W2, w1.alloc (.cells #[.int .i64 m.kind, .int .i64 m.e1, .int .i64 m.c1, .int .i64 m.e2, .int .i64 m.c2, .int .i64 m.num, .int .i64 (m.mem.length : Int)] 3) = W2 := ⟨_, rfl⟩
    have hlit : W2.ownsRow w1.heap.size 3 1 (.slice (some ⟨w1.heap.size, 0, none⟩) 7 7) 7 (intV m.head) := by
      rw [← hW2]
      exact World.ownsRow_lit (e := 3) (base := w1.heap.size) (size := 1) w1 #[.int .i64 m.kind, .int .i64 m.e1, .int .i64 m.c1, .int .i64 m.e2, .int .i64 m.c2, .int .i64 m.num, .int .i64 (m.mem.length : Int)] 7 (Nat.le_refl _) (by unfold maxLen; omega) rfl
    have hB12 : Below w1.heap.size w1 W2 := by rw [← hW2]; exact (Below.refl _ w1).alloc (Nat.le_refl _) _
    have HLit := Lib.hid hlit
    have HB12 := Lib.hid hB12
    have hBW2 := HB1.out.trans (hB12.mono hsz1)
    obtain ⟨z0, z1, z2, z3, z4, z5, z6, z7⟩ := HTwo.out W2 hBW2
    have HS2 := Lib.hid (HSm.out W2 hBW2)
    have HBW2 := Lib.hid hBW2
    have hil : (intV m.mem).length = m.mem.length := by simp [intV]
    have m1 : Hid (7 + (intV m.mem).length ≤ maxLen ∧ (7 + (intV m.mem).length) * 8 ≤ 140737488355328) := by rw [hil]; exact ⟨by unfold maxLen; have := HLens.out; omega, by have := HLens.out; omega⟩
    have m2 : Hid (w1.heap.size ≤ W2.heap.size) := hB12.size
    have HFin : Hid (∀ v3 w3, w3.ownsRow w1.heap.size 3 1 v3 (7 + (intV m.mem).length) (intV m.head ++ intV m.mem) → W2.grownBy w3 (some w1.heap.size) → ∃ g c, v3 = .slice (some ⟨g, 0, none⟩) m.nums.length c ∧ Hid (Below W0.heap.size W0 w3 ∧ g < w3.heap.size ∧ ∀ j (x : Int), m.nums[j]? = some x → w3.cell? ⟨g, j, none⟩ = some (.int .i64 x))) := fun v3 w3 k1 k2 => by
      have hn : 7 + (intV m.mem).length = m.nums.length := by rw [hil]; simp [Msg.nums, Msg.head]; omega
      have hv : intV m.head ++ intV m.mem = intV m.nums := by simp [intV, Msg.nums]
      rw [hn, hv] at k1
      have hb3 : Below W0.heap.size W0 w3 := HBW2.out.grown k2 HBW2.out.size (fun q e => by cases e; exact hsz1)
      rcases k1.2 with ⟨_, h0⟩ | ⟨g, cap, cur, rfl, _, hg, _⟩
      · rw [← hn] at h0; omega
      · refine ⟨g, cap, rfl, hb3, (Array.getElem?_eq_some_iff.1 hg).1, fun j x hx => ?_⟩
        have hjl := (List.getElem?_eq_some_iff.1 hx).1
        rw [k1.cellAt j (by omega)]
        simp [intV, hx]
    clear hlit hB12 hBW2 hil x0 x1 x2 x3 x4 x5 x6 x7
    rw [hW2]
    clear hW2
    go_wp2_with (at_builtin; (refine wpList_append_src (by rfl) (.tmp 30) (.tmp 32) 24 rfl w1.heap.size 3 j0 (.int .i64 0) 8 Try.underlying24 hj hy0 hy1 hy2 rfl (.slice (some ⟨w1.heap.size, 0, none⟩) 7 7) 7 (intV m.head) (by simp [Act.eval]) HLit.out (.slice A5 m.mem.length c5) (intV m.mem) (by simp [Act.eval]) HS2.out m1.out.1 m1.out.2 m2.out ?_; intro v3 w3 k1 k2; obtain ⟨g, c3, rfl, H3⟩ := HFin.out v3 w3 k1 k2; clear k1 k2))
    obtain ⟨N, hN⟩ : ∃ N, m.nums.length = N := ⟨_, rfl⟩
    have hNb : N ≤ 15 := by rw [← hN]; have := HLens.out; simp [Msg.nums, Msg.head]; omega
    have HN := Lib.hid hN
    rw [hN]
    clear hN HFin z0 z1 z2 z3 z4 z5 z6 z7
    go_loopg [5, 6] N (fun k v5 v6 wr => RNumbering w w3 m.nums k v5 v6 wr)
    case atStart => exact ⟨0, by rw [HN.out]; rfl, rfl, World.ownsRow_nil _ _ _ _, Below.refl _ _⟩
    case round =>
      obtain ⟨i, hk, rfl, hr5, hB⟩ := hrel
      rw [HN.out] at hk
      obtain ⟨A5', c5', rfl⟩ := own_slice hr5
      by_cases hlt : i < N
      · obtain ⟨x, hx⟩ : ∃ x, m.nums[i]? = some x := ⟨_, List.getElem?_eq_getElem (by rw [HN.out]; exact hlt)⟩
        have hxn := HNum.out x (List.mem_of_getElem? hx)
        obtain ⟨xn, rfl⟩ : ∃ xn : Nat, x = xn := ⟨x.toNat, by omega⟩
        have hc0 := H3.out.2.2 i xn hx
        have hc1 : wr.cell? ⟨g, i, none⟩ = some (.int .i64 xn) := (hB.cell (p := ⟨g, i, none⟩) H3.out.2.1).trans hc0
        have hw : IntKind.u64.wrap (xn : Int) = (xn : Int) := by rw [IntKind.wrap_u64]; omega
        have HNb := Lib.hid (refNumber_calls xn (by omega) wr)
        have j1 : (i : Int) < (N : Int) := by omega
        have j2 : (0 : Int) ≤ (i : Int) := by omega
        have hmm := Lib.hid (show gk - 1 < gk by omega)
        have hfin : Hid (∀ w4, Below wr.heap.size wr w4 → (w4.alloc (.cells #[.string ⟨(117 :: Tm.be8 xn).toArray⟩] 9)).ownsRow w3.heap.size 9 1 (.slice A5' i c5') i (strs ((m.nums.take i).map Tm.numL)) ∧ w3.heap.size ≤ (w4.alloc (.cells #[.string ⟨(117 :: Tm.be8 xn).toArray⟩] 9)).heap.size ∧
            ∀ v5 w5, w5.ownsRow w3.heap.size 9 1 v5 (i + 1) (strs ((m.nums.take i).map Tm.numL) ++ [.string ⟨(117 :: Tm.be8 xn).toArray⟩]) → (w4.alloc (.cells #[.string ⟨(117 :: Tm.be8 xn).toArray⟩] 9)).grownBy w5 (Value.slice A5' i c5').ownBlock → RNumbering w w3 m.nums (gk - 1) v5 (.int .i64 ((i + 1 : Nat) : Int)) w5) := fun w4 b4 => by
          have hs3 := hB.size
          have hs4 := b4.size
          refine ⟨(own_below hr5 b4).alloc _, by simp; omega, fun v5 w5 k1 k2 => ⟨i + 1, by rw [HN.out]; omega, rfl, ?_, ?_⟩⟩
          · have ht : m.nums.take (i + 1) = m.nums.take i ++ [(xn : Int)] := by rw [List.take_add_one, hx]; rfl
            rw [ht]
            simpa [strs, Tm.numL] using k1
          · have hb4 := hB.trans (b4.mono hs3)
            exact hb4.grown (grow_trans (World.grownBy_alloc w4 _ _) k2) hb4.size (fun q e => (hr5.lt q e).1)
        have HIb := Lib.hid (show i ≤ 15 by omega)
        generalize 117 :: Tm.be8 xn = zx at *
        clear hr5 hB hk hx hxn hc0 hlt
        go_wp2_with fail
        refine HNb.out.mono ?_
        rintro e w4 ⟨rfl, b4⟩
        obtain ⟨q1, q2, q3⟩ := hfin.out w4 b4
        have HQ1 := Lib.hid q1
        have HQ2 := Lib.hid q2
        have HQ3 := Lib.hid q3
        clear b4 q1 q2 q3 hfin HNb hc1
        go_wp2_with (at_builtin; refine wpList_append_own_at _ rfl _ _ 53 rfl w3.heap.size 9 i0 _ 1 16 Try.underlying53 hi hz0 hz1 hz2 rfl (by decide) _ _ _ rfl HQ1.out ⟨w4.heap.size, 0, none⟩ 1 1 [.string ⟨zx.toArray⟩] rfl rfl (cell_one_new _ _ _) (by simp [Value.oneCell']) (by have := HIb.out; unfold maxLen; omega) (by have := HIb.out; omega) HQ2.out ?_; intro v5 w5 hown5 hgrow5 hnil5 hat5; have HF := Lib.hid (HQ3.out v5 w5 hown5 hgrow5); clear hown5 hgrow5 hnil5 hat5)
        go_roundg (gk - 1)
        case measure => exact hmm.out
        case rel => simpa using HF.out
      · obtain rfl : i = N := by omega
        have j1 : ¬ (i : Int) < (i : Int) := by omega
        have hBw := H3.out.1.trans (hB.mono H3.out.1.size)
        obtain ⟨z0, z1, z2, z3, z4, z5, z6, z7⟩ := HTwo.out wr hBw
        have HS3 := Lib.hid (HSt.out wr hBw)
        have HR5 := Lib.hid hr5
        have HBw := Lib.hid (HW.out wr hBw)
        have HB3 := Lib.hid hB.size
        have hsl : (strs m.terms).length = m.terms.length := by simp [strs]
        have m3 : Hid (i + (strs m.terms).length ≤ maxLen ∧ (i + (strs m.terms).length) * 16 ≤ 140737488355328) := by rw [hsl]; have := HLens.out; exact ⟨by unfold maxLen; omega, by omega⟩
        have HFin : Hid (∀ v5 w5, w5.ownsRow w3.heap.size 9 1 v5 (i + (strs m.terms).length) (strs ((m.nums.take i).map Tm.numL) ++ strs m.terms) → wr.grownBy w5 (Value.slice A5' i c5').ownBlock → Calls Try.prog 39 #[v5] w5 fun e w' => Pair2 w (Tm.putRow m.row) e w') := fun v5 w5 k1 k2 => by
          have hs3 := HW.out _ H3.out.1
          have hlw := hs3.size
          have hb5 : Below w.heap.size w w5 := HBw.out.grown k2 HBw.out.size (fun q e => by have := (HR5.out.lt q e).1; omega)
          have hrow : m.row = m.nums.map Tm.numL ++ m.terms := rfl
          have hlen : i + (strs m.terms).length = m.row.length := by rw [hsl, hrow, List.length_append, List.length_map, HN.out]
          have hstr : strs ((m.nums.take i).map Tm.numL) ++ strs m.terms = strs m.row := by rw [hrow, List.take_of_length_le (by rw [HN.out]; exact Nat.le_refl _)]; simp [strs]
          rw [hlen, hstr] at k1
          have hshort : ∀ z ∈ m.row, z.length ≤ maxLen := fun z hz => by
            rw [hrow] at hz
            rcases List.mem_append.1 hz with hz | hz
            · obtain ⟨n, _, rfl⟩ := List.mem_map.1 hz
              rw [numL_len]
              unfold maxLen
              omega
            · exact HSh.out z hz
          have hml : m.row.length ≤ 1000 := by rw [← hlen, hsl]; have := HLens.out; omega
          have hRA : RowA w5 v5 m.row := by
            rcases k1.2 with ⟨rfl, h0⟩ | ⟨g', cap, cur, rfl, h1, h2, h3, h4, h5, h6⟩
            · obtain hnil : m.row = [] := List.length_eq_zero_iff.1 h0
              rw [hnil]
              exact ⟨⟨none, 0, rfl, fun j x hx => by simp at hx⟩, by simp, by simp⟩
            · refine ⟨⟨_, cap, rfl, fun j x hx => ⟨⟨g', 0, none⟩, rfl, (Array.getElem?_eq_some_iff.1 h2).1, id, ?_⟩⟩, hshort, by unfold maxLen; omega⟩
              exact k1.cells (g := g') rfl j _ (by unfold strs; rw [List.getElem?_map, hx]; rfl)
          refine (RPut4_calls m.row v5 w5 hRA hml).mono ?_
          rintro e w' ⟨h1, h2⟩
          exact ⟨h1, hb5.trans (h2.mono hb5.size)⟩
        clear hr5 hB hk hlt hBw hsl
        go_wp2_with (at_builtin; (refine wpList_append_src (by rfl) (.tmp 49) (.tmp 51) 53 rfl w3.heap.size 9 i0 (.string ⟨#[]⟩) 16 Try.underlying53 hi hz0 hz1 hz2 rfl (.slice A5' i c5') i (strs ((m.nums.take i).map Tm.numL)) (by simp [Act.eval]) HR5.out (.slice A6 m.terms.length c6) (strs m.terms) (by simp [Act.eval]) HS3.out m3.out.1 m3.out.2 HB3.out ?_; intro v5 w5 k1 k2; have HC := Lib.hid (HFin.out v5 w5 k1 k2); clear k1 k2))
        refine HC.out.mono ?_
        rintro e w6 ⟨rfl, b6⟩
        have HB6 := Lib.hid b6
        clear b6
        generalize Tm.putRow m.row = pr at *
        go_wp2
        go_ret2
        exact ⟨rfl, HB6.out⟩

end Go.Proofs.Ytkhiconkoldllaa.L4
end
