/- The law ListCuts: for all steps it returns true. -/
import Derived.Test.YtekididpimgghaaLShown
import Derived.Test.YtekididpimgghaaHelpK4
namespace Go.Proofs.Ytekididpimgghaa.L4
open Go.ChangeShapes Go.WideShapes Go.ChangeAt Go.RowKit

def Cutting (w : World) (g : Nat) (ts : List (List UInt8)) (K : Nat) (v5 v6 : Value) (wr : World) : Prop :=
  ∃ (k : Nat) (last : List UInt8), K + k = ts.length + 1 ∧ v6 = .int .i64 k ∧ v5 = .string ⟨last.toArray⟩ ∧ (k = 0 ∧ last = [] ∨ ∃ j, k = j + 1 ∧ last = Tm.rowL (ts.take j)) ∧ last.length ≤ 20000 ∧ Texts wr g ts ∧ g < wr.heap.size ∧ Below w.heap.size w wr

set_option maxRecDepth 100000 in
set_option maxHeartbeats 40000000 in
theorem cuts_all (A : Option Addr) (n c : Nat) (w : World) (hS : Steps w A n) (hnc : n ≤ maxLen) :
    Calls Try.prog 12 #[.slice A n c] w (One w (.bool true)) := by
  have HS := Lib.hid shown_calls
  have HSt := Lib.hid hS
  have HNC := Lib.hid hnc
  clear hS hnc
  go_enter Try.func12, Try.ntmps12
  go_wp2_with fail
  refine (HS.out _).mono ?_
  rintro e' w0 ⟨rfl, B0⟩
  have HM := Lib.hid (made_calls A n c w0 (steps_below HSt.out B0) HNC.out)
  go_wp2_with fail
  refine HM.out.mono ?_
  rintro e' w1 ⟨g, cap, ts, rfl, hrow, hlen, hgood, hb1⟩
  have HB := Lib.hid (B0.trans (hb1.mono B0.size))
  have h42 : ts.length ≤ 42 := by omega
  have hcap : ts.length ≤ cap := by
    rcases hrow.2 with ⟨h1, _⟩ | ⟨_, _, _, h1, _, _, h4, _⟩
    · cases h1
    · cases h1; exact h4
  have HT := Lib.hid (And.intro (texts_of_row hrow) (lt_of_row hrow))
  have HG := Lib.hid hgood
  clear hrow hgood hb1 B0 HM hlen
  go_wp2
  go_loopg [5, 6] (ts.length + 1) (fun K v5 v6 wr => Cutting w g ts K v5 v6 wr)
  case atStart => exact ⟨0, [], rfl, rfl, rfl, .inl ⟨rfl, rfl⟩, by simp, HT.out.1, HT.out.2, HB.out⟩
  case round =>
    obtain ⟨k, last, hk, rfl, rfl, hor, hll, hTx, hgl, hB⟩ := hrel
    by_cases hkl : k ≤ ts.length
    · have hgt : ∀ z ∈ ts.take k, Tm.Good 41 600 z := fun z hz => HG.out z (List.mem_of_mem_take hz)
      have hlt : (ts.take k).length = k := by rw [List.length_take]; omega
      have hRow : RowA wr (.slice (some ⟨g, 0, none⟩) k cap) (ts.take k) := by
        refine rowA_texts hlt hgl (fun j x hx => hTx j x ?_) (fun z hz => good_short (hgt z hz) (by omega)) (by unfold maxLen; omega)
        rw [List.getElem?_take] at hx
        split at hx
        · exact hx
        · cases hx
      have hPut := lput_calls _ _ wr hRow
      have HF := Lib.hid (And.intro hk (And.intro hor (And.intro hTx (And.intro hgl hB))))
      have j1 : (k : Int) ≤ (ts.length : Int) := by omega
      have j2 : (k : Int) ≤ (cap : Int) := by omega
      have j3 : (0 : Int) ≤ (k : Int) := by omega
      have hgk : gk - 1 < gk := by omega
      rcases Tm.put_good (ts := ts.take k) (fun t ht => (hgt t ht).1) (by omega) with ⟨hp, hpl⟩ | hp | hp
      · rw [hp] at hPut
        have HPut := Lib.hid hPut
        have hTk := Tm.take_put hp
        have HTake : Hid (∀ V : World, Calls Try.prog 32 #[.string ⟨(Tm.rowL (ts.take k)).toArray⟩] V (TakeOut V (ts.take k, 0))) := fun V => by
          have := ltake_calls ⟨(Tm.rowL (ts.take k)).toArray⟩ (by rw [size_list]; unfold maxLen; omega) V
          rw [show (⟨(Tm.rowL (ts.take k)).toArray⟩ : ByteArray).data.toList = Tm.rowL (ts.take k) from rfl, hTk.2] at this
          exact this
        have hcmp : k = 0 ∨ last.length < (Tm.rowL (ts.take k)).length := by
          rcases hor with ⟨h, _⟩ | ⟨j, rfl, rfl⟩
          · exact .inl h
          · right
            obtain ⟨z, hz⟩ : ∃ z, ts[j]? = some z := ⟨_, List.getElem?_eq_getElem (by omega)⟩
            have e := List.take_add_one (l := ts) (i := j)
            rw [hz, Option.toList_some] at e
            rw [e, Tm.rowL_len_snoc]
            omega
        have hRel : Hid (∀ w4, Below wr.heap.size wr w4 → Cutting w g ts (gk - 1) (.string ⟨(Tm.rowL (ts.take k)).toArray⟩) (.int .i64 ((k + 1 : Nat) : Int)) w4) := fun w4 b4 => by
          obtain ⟨q1, q2, q3, q4, q5⟩ := HF.out
          exact ⟨k + 1, _, by omega, rfl, rfl, .inr ⟨k, rfl, rfl⟩, hpl, fun j x hx => (b4.cell (p := ⟨g, j, none⟩) q4).trans (q3 j x hx), Nat.lt_of_lt_of_le q4 b4.size, q5.trans (b4.mono q5.size)⟩
        obtain ⟨rl, hrl⟩ : ∃ rl, (Tm.rowL (ts.take k)).length = rl := ⟨_, rfl⟩
        have hsz1 : (⟨(Tm.rowL (ts.take k)).toArray⟩ : ByteArray).size = rl := by rw [size_list]; exact hrl
        have hsz2 : (⟨last.toArray⟩ : ByteArray).size = last.length := size_list last
        rw [hrl] at hpl hcmp
        generalize Tm.rowL (ts.take k) = rw_ at *
        have HCmp := Lib.hid hcmp
        have HLt := Lib.hid hlt
        clear hTx hgl hB hk hor hRow hPut hp hTk hgt hrl hcmp hlt
        go_wp2_with fail
        refine HPut.out.mono ?_
        rintro e w3 ⟨rfl, b3⟩
        go_wp2_with fail
        refine (HTake.out _).mono ?_
        rintro e w4 ⟨v4, rfl, hrow4, _, b4⟩
        obtain ⟨A4, c4, rfl⟩ := own_slice hrow4
        have hRl := Lib.hid (hRel.out w4 (b3.trans (b4.mono b3.size)))
        rw [HLt.out]
        clear hrow4 b3 b4 hRel HPut HTake HF
        have hcm := HCmp.out
        clear HCmp
        by_cases hk0 : 0 < k
        · have q1 : (0 : Int) < (k : Int) := by omega
          have hnle : ¬ ((rl : Int) ≤ (last.length : Int)) := by omega
          clear hcm hk0
          go_wp2
          go_roundg (gk - 1)
          case measure => exact hgk
          case rel => exact hRl.out
        · have q1 : ¬ ((0 : Int) < (k : Int)) := by omega
          clear hcm hk0
          go_wp2
          go_roundg (gk - 1)
          case measure => exact hgk
          case rel => exact hRl.out
      · rw [hp] at hPut
        have HPut := Lib.hid hPut
        clear hTx hgl hB hk hor hRow hPut hp hgt
        go_wp2_with fail
        refine HPut.out.mono ?_
        rintro e w3 ⟨rfl, b3⟩
        have hfin : Hid (Below w.heap.size w w3) := by have := HF.out.2.2.2.2; exact this.trans (b3.mono this.size)
        clear b3
        go_wp2
        go_ret
        exact ⟨rfl, hfin.out⟩
      · rw [hp] at hPut
        have HPut := Lib.hid hPut
        clear hTx hgl hB hk hor hRow hPut hp hgt
        go_wp2_with fail
        refine HPut.out.mono ?_
        rintro e w3 ⟨rfl, b3⟩
        have hfin : Hid (Below w.heap.size w w3) := by have := HF.out.2.2.2.2; exact this.trans (b3.mono this.size)
        clear b3
        go_wp2
        go_ret
        exact ⟨rfl, hfin.out⟩
    · have j1 : ¬ ((k : Int) ≤ (ts.length : Int)) := by omega
      have HB2 := Lib.hid hB
      clear hTx hgl hB hk hor
      go_wp2
      go_ret
      exact ⟨rfl, HB2.out⟩

end Go.Proofs.Ytekididpimgghaa.L4
