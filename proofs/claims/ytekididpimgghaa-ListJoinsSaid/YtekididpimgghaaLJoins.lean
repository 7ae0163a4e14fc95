/- The law ListJoins: for all steps and places it returns true. -/
import Derived.Test.YtekididpimgghaaLShown
import Derived.Test.YtekididpimgghaaHelpK4
import Derived.Maps.AppendAt
namespace Go.Proofs.Ytekididpimgghaa.L4
open Go.ChangeShapes Go.WideShapes Go.ChangeAt Go.RowKit

theorem pick_any4 {V : World} {B g cap : Nat} {ts : List (List UInt8)} (hrow : V.ownsRow B 28 1 (.slice (some ⟨g, 0, none⟩) ts.length cap) ts.length (strs ts)) (h2 : 2 ≤ ts.length) (h42 : ts.length ≤ 42) (hg : ∀ t ∈ ts, Tm.Good 41 600 t) {v : Int} (hv : isInt v) :
    ∃ (p : Nat) (x : List UInt8), (∀ W, Calls Try.prog 44 #[.int .i64 v, .int .i64 ts.length] W fun e w' => e = .returned (.int .i64 p) ∧ W = w') ∧ (p : Int) < (ts.length : Int) ∧ V.cell? ⟨g, p, none⟩ = some (.string ⟨x.toArray⟩) ∧ Tm.Good 41 600 x := by
  have hl := Tm.pickN_lt v ts.length (by omega)
  obtain ⟨x, hx⟩ : ∃ x, ts[Tm.pickN v ts.length]? = some x := ⟨_, List.getElem?_eq_getElem hl⟩
  exact ⟨_, x, fun W => pick_calls v ts.length hv.1 hv.2 (by omega) (by omega) W, by omega, texts_of_row hrow _ _ hx, hg x (List.mem_of_getElem? hx)⟩
theorem own_lit (w : World) (x : List UInt8) : (w.alloc (.cells #[.string ⟨x.toArray⟩] 28)).ownsRow w.heap.size 28 1 (.slice (some ⟨w.heap.size, 0, none⟩) 1 1) 1 [.string ⟨x.toArray⟩] :=
  ⟨rfl, .inr ⟨w.heap.size, 1, _, rfl, Nat.le_refl _, World.alloc_heap_new w _, by omega, by unfold maxLen; omega, rfl, rfl⟩⟩
theorem texts_news4 {w : World} {g : Nat} {ps : List (List UInt8)} (h : Texts w g ps) : ∀ (j : Nat) (u : Value), (strs ps)[j]? = some u → w.cell? ((⟨g, 0, none⟩ : Addr).add j) = some u := fun j u hu => by
  unfold strs at hu
  rw [List.getElem?_map, Option.map_eq_some_iff] at hu
  obtain ⟨z, hz, rfl⟩ := hu
  rw [addr_flat]
  exact h j z hz
theorem strs_one4 (ps : List (List UInt8)) : ∀ u ∈ strs ps, u.oneCell' = true := fun u hu => by
  unfold strs at hu
  obtain ⟨z, _, rfl⟩ := List.mem_map.1 hu
  rfl

set_option maxRecDepth 100000 in
set_option maxHeartbeats 40000000 in
theorem joins_all (A : Option Addr) (n c : Nat) (i : Int) (w : World) (hS : Steps w A n) (hnc : n ≤ maxLen) (ri : isInt i) :
    Calls Try.prog 10 #[.slice A n c, .int .i64 i] w (One w (.bool true)) := by
  obtain ⟨i0, hi, hz0, hz1, hz2⟩ := info_parts info_term
  have HS := Lib.hid shown_calls
  have HSt := Lib.hid hS
  have HNC := Lib.hid hnc
  have HR := Lib.hid ri
  clear hS hnc ri
  go_enter Try.func10, Try.ntmps10
  go_wp2_with fail
  refine (HS.out _).mono ?_
  rintro e' w0 ⟨rfl, B0⟩
  have HM := Lib.hid (made_calls A n c w0 (steps_below HSt.out B0) HNC.out)
  go_wp2_with fail
  refine HM.out.mono ?_
  rintro e' w1 ⟨g, cap, ts, rfl, hrow, hlen, hgood, hb1⟩
  have HB := Lib.hid (B0.trans (hb1.mono B0.size))
  have h42 : ts.length ≤ 42 := by omega
  have h22 : 2 ≤ ts.length := by omega
  obtain ⟨pa, a, cPa, la, ca, Ga⟩ := pick_any4 hrow h22 h42 hgood HR.out
  have HPa := Lib.hid cPa
  have ja : (0 : Int) ≤ (pa : Int) := by omega
  have hTx := texts_of_row hrow
  have hgl := lt_of_row hrow
  have hshort : ∀ z ∈ ts, z.length ≤ maxLen := fun z hz => good_short (hgood z hz) (by omega)
  have hRow : RowA w1 (.slice (some ⟨g, 0, none⟩) ts.length cap) ts := rowA_texts rfl hgl hTx hshort (by unfold maxLen; omega)
  have hPut := lput_calls _ _ w1 hRow
  have hne : ts ≠ [] := fun e => by rw [e] at h22; simp at h22
  have HF := Lib.hid (And.intro hgood (And.intro Ga (And.intro hTx (And.intro hgl hshort))))
  -- behind the append
  have HPut2 : Hid (∀ (w2 w3 : World) (v2 : Value), Below w1.heap.size w1 w2 → w3.ownsRow w2.heap.size 28 1 v2 (1 + ts.length) ([.string ⟨a.toArray⟩] ++ strs ts) → Calls Try.prog 30 #[v2] w3 (Pair2 w3 (Tm.putRow (a :: ts)))) := fun w2 w3 v2 b2 h3 => by
    refine lput_calls _ _ w3 (rowA_own (B := w2.heap.size) ?_ (fun z hz => ?_) (by unfold maxLen; simp; omega))
    · rw [List.length_cons, show ts.length + 1 = 1 + ts.length by omega]
      exact h3
    · rcases List.mem_cons.1 hz with rfl | hz
      · exact good_short Ga (by omega)
      · exact hshort z hz
  have hor1 := Tm.put_good (ts := ts) (fun t ht => (hgood t ht).1) (by omega)
  have hor2 := Tm.put_good (ts := a :: ts) (fun t ht => by
    rcases List.mem_cons.1 ht with rfl | ht
    · exact Ga.1
    · exact (hgood t ht).1) (by simp; omega)
  -- what is to be shown behind both, where both are told without an error
  have HEnd : Hid (Tm.putRow ts = (Tm.rowL ts, 0) → Tm.putRow (a :: ts) = (Tm.rowL (a :: ts), 0) → Tm.put [112] [a, Tm.rowL ts] = (Tm.rowL (a :: ts), 0) ∧ (Tm.rowL ts == Tm.rowL (a :: ts)) = false ∧ Tm.right (Tm.rowL ts) = true ∧ (Tm.rowL ts).length ≤ 20000) := fun e1 e2 => by
    obtain ⟨r1, _⟩ := Tm.take_put e1
    obtain ⟨r2, _⟩ := Tm.take_put e2
    have hc := Tm.rowL_cons a ts
    have hl2 := (Tm.ofL_ok r2).2.2.2.2.2
    rw [hc] at r2 hl2
    obtain ⟨_, _, k3⟩ := Tm.pair_inv Ga.1 r2
    refine ⟨?_, beq_eq_false_iff_ne.2 (fun e => ?_), r1, (Tm.ofL_ok r1).2.2.2.2.2⟩
    · have hd := Tm.depthOf_le (112 :: (a ++ Tm.rowL ts))
      rw [k3] at hd
      have hr1 := (Tm.right_iff _).1 r1
      unfold Tm.put
      rw [if_neg (by simp [Ga.1, hr1]), if_neg (by simp at hl2 ⊢; omega), if_neg (by simp [Tm.maxDepth]; omega), hc]
      simp
    · have := congrArg List.length e
      rw [hc] at this
      simp at this
      omega
  clear hrow hgood hb1 B0 HM hlen cPa Ga hRow hTx hshort
  go_wp2_with fail
  refine (HPa.out _).mono ?_
  rintro e w2 ⟨rfl, rfl⟩
  have tac1 : True := trivial
  rcases hor1 with ⟨e1, _⟩ | e1 | e1 <;> rcases hor2 with ⟨e2, _⟩ | e2 | e2
  all_goals
    rw [e1] at hPut
    rw [e2] at HPut2
    have HPut := Lib.hid hPut
    clear hPut
    have HE1 := Lib.hid e1
    have HE2 := Lib.hid e2
    clear e1 e2
    go_wp2_with fail
    refine HPut.out.mono ?_
    rintro e w3 ⟨rfl, b3⟩
    have hT3 : Texts (w3.alloc (.cells #[.string ⟨a.toArray⟩] 28)) g ts := fun j z hz => by
      have h1 := (b3.cell (p := ⟨g, j, none⟩) HF.out.2.2.2.1).trans (HF.out.2.2.1 j z hz)
      exact ((World.grownBy_alloc w3 (.cells #[.string ⟨a.toArray⟩] 28) none).cell_far ⟨g, j, none⟩ (Nat.lt_of_lt_of_le hgl b3.size) (by simp)).trans h1
    have HNews := Lib.hid (texts_news4 hT3)
    have hlit := own_lit w3 a
    have HB3 := Lib.hid b3
    clear b3 hT3 HPut
    go_wp2_with (at_builtin; refine wpList_append_own_at _ rfl _ _ 25 rfl w3.heap.size 28 i0 _ 1 16 Try.underlying25 hi hz0 hz1 hz2 rfl (by decide) _ _ _ rfl hlit ⟨g, 0, none⟩ ts.length cap (strs ts) rfl (by simp [strs]) HNews.out (strs_one4 _) (by unfold maxLen; omega) (by omega) (by simp) ?_; intro v2 w4 hown' hgrow hnil hat)
    have HP2 := Lib.hid (HPut2.out w3 w4 v2 HB3.out hown')
    have hB4 : Hid (Below w.heap.size w w4) := by
      have k3 := HB.out.trans (HB3.out.mono HB.out.size)
      have k4 := (Below.refl w3.heap.size w3).alloc (Nat.le_refl _) (.cells #[.string ⟨a.toArray⟩] 28)
      have k5 := k4.grown hgrow k4.size (fun q e => by cases e; exact Nat.le_refl _)
      exact k3.trans (k5.mono k3.size)
    clear hown' hgrow hnil hat hlit HNews HPut2
    refine HP2.out.mono ?_
    rintro e w5 ⟨rfl, b5⟩
    have hB5 := Lib.hid (hB4.out.trans (b5.mono hB4.out.size))
    clear b5
  · obtain ⟨f1, f2, f3, f4⟩ := HEnd.out HE1.out HE2.out
    have cPr := fun V => Pair_calls ⟨a.toArray⟩ ⟨(Tm.rowL ts).toArray⟩ (by rw [size_list]; exact good_short HF.out.2.1 (by omega)) (by rw [size_list]; unfold maxLen; omega) V
    rw [show (⟨a.toArray⟩ : ByteArray).data.toList = a from rfl, show (⟨(Tm.rowL ts).toArray⟩ : ByteArray).data.toList = Tm.rowL ts from rfl, f1] at cPr
    have cRt := fun V => Right_calls ⟨(Tm.rowL ts).toArray⟩ (by rw [size_list]; unfold maxLen; omega) V
    rw [show (⟨(Tm.rowL ts).toArray⟩ : ByteArray).data.toList = Tm.rowL ts from rfl, f3] at cRt
    have HPr := Lib.hid cPr
    have HRt := Lib.hid cRt
    clear cPr cRt f1 f3 HEnd HE1 HE2 HP2
    generalize Tm.rowL (a :: ts) = u at *
    generalize Tm.rowL ts = t at *
    go_wp2_with fail
    refine (HPr.out _).mono ?_
    rintro e w6 ⟨rfl, b6⟩
    go_wp2_with fail
    refine (HRt.out _).mono ?_
    rintro e w7 ⟨rfl, b7⟩
    have hfin : Hid (Below w.heap.size w w7) := by
      have k1 := hB5.out.trans (b6.mono hB5.out.size)
      exact k1.trans (b7.mono k1.size)
    clear b6 b7
    go_wp2
    go_ret
    exact ⟨rfl, hfin.out⟩
  all_goals
    go_wp2
    go_ret
    exact ⟨rfl, hB5.out⟩

end Go.Proofs.Ytekididpimgghaa.L4
