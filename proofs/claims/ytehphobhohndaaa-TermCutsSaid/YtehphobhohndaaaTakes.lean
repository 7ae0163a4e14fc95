/- The law TermTakesAll: for all steps it returns true. -/
import Derived.Test.YtehphobhohndaaaParts
namespace Go.Proofs.Ytehphobhohndaaa
open Go.ChangeShapes Go.WideShapes Go.ChangeAt Go.RowKit

namespace Tm
theorem take_good {k : Nat} {t : List UInt8} (h : Good k 20000 t) (y : List UInt8) : take (t ++ y) = (t, y, 0) := by
  obtain ⟨hp, hl⟩ := right_parse h.1
  have hs := parse_stable 400 t t.length (depthOf t) hp y
  rw [List.take_length] at hs
  have hr : read (t ++ y) = (t.length, depthOf t, 0) := by rw [read_parse]; exact hs
  unfold take
  rw [hr]
  simp only [ne_eq, not_true_eq_false, if_false]
  rw [if_neg (by omega), List.take_left, List.drop_left]
theorem flat_le {ts : List (List UInt8)} (h : ∀ t ∈ ts, t.length ≤ 600) : ts.flatten.length ≤ ts.length * 600 := by
  induction ts with
  | nil => simp
  | cons p ps ih =>
    have a1 := h p (by simp)
    have a2 := ih (fun q hq => h q (by simp [hq]))
    simp only [List.flatten_cons, List.length_append, List.length_cons]
    omega
end Tm

theorem take_at {k : Nat} {t : List UInt8} (h : Tm.Good k 20000 t) (y : List UInt8) (hy : y.length ≤ 1000000) (W : World) :
    Calls Try.prog 32 #[.string ⟨(t ++ y).toArray⟩] W (One W (.tuple #[.string ⟨t.toArray⟩, .string ⟨y.toArray⟩, .int .i64 0])) := by
  have hl := h.2.2
  have := Take_calls ⟨(t ++ y).toArray⟩ (by rw [size_list, List.length_append]; unfold maxLen; omega) W
  have e : (⟨(t ++ y).toArray⟩ : ByteArray).data.toList = t ++ y := by simp
  rw [e, Tm.take_good h y] at this
  exact this

def Joined (ts : List (List UInt8)) (w1 : World) (k : Nat) (v5 v6 : Value) (wr : World) : Prop :=
  ∃ i, k + i = ts.length ∧ v6 = .int .i64 i ∧ v5 = .string ⟨(ts.take i).flatten.toArray⟩ ∧ wr = w1
def Taken (ts : List (List UInt8)) (w1 : World) (k : Nat) (v5 v7 : Value) (wr : World) : Prop :=
  ∃ i, k + i = ts.length ∧ v7 = .int .i64 i ∧ v5 = .string ⟨(ts.drop i).flatten.toArray⟩ ∧ Below w1.heap.size w1 wr

set_option maxRecDepth 100000 in
set_option maxHeartbeats 40000000 in
theorem takes_all (A : Option Addr) (n c : Nat) (w : World) (hS : Steps w A n) (hnc : n ≤ maxLen) :
    Calls Try.prog 11 #[.slice A n c] w (One w (.bool true)) := by
  have HS := Lib.hid shown_calls
  have HSt := Lib.hid hS
  have HNC := Lib.hid hnc
  clear hS hnc
  go_enter Try.func11, Try.ntmps11
  go_wp2_with fail
  refine (HS.out _).mono ?_
  rintro e' w0 ⟨rfl, B0⟩
  have HM := Lib.hid (made_calls A n c w0 (steps_below HSt.out B0) HNC.out)
  go_wp2_with fail
  refine HM.out.mono ?_
  rintro e' w1 ⟨g, cap, ts, rfl, hrow, hlen, hgood, hb1⟩
  have B := B0.trans (hb1.mono B0.size)
  have h42 : ts.length ≤ 42 := by omega
  have HG := Lib.hid hgood
  have HT := Lib.hid (texts_of_row hrow)
  have hgl : g < w1.heap.size := lt_of_row hrow
  clear hrow hgood hlen hb1 HM HSt HNC HS B0
  go_wp2
  go_loopg [5, 6] ts.length (fun k v5 v6 wr => Joined ts w1 k v5 v6 wr)
  case atStart => exact ⟨0, by omega, rfl, by simp, rfl⟩
  case round =>
    obtain ⟨i, hk, rfl, rfl, rfl⟩ := hrel
    by_cases hi : i < ts.length
    · obtain ⟨t, ht⟩ : ∃ t, ts[i]? = some t := ⟨_, List.getElem?_eq_getElem hi⟩
      have hcell := HT.out i t ht
      have htk : ts.take (i + 1) = ts.take i ++ [t] := by rw [List.take_add_one, ht]; rfl
      have hfl := Tm.flat_le (ts := ts.take i) (fun t ht => (HG.out t (List.mem_of_mem_take ht)).2.2)
      have hlt : (ts.take i).length ≤ 42 := by simp; omega
      have htl := (HG.out t (List.mem_of_getElem? ht)).2.2
      obtain ⟨y, hy⟩ : ∃ y, (ts.take i).flatten = y := ⟨_, rfl⟩
      have hcat : (⟨y.toArray⟩ ++ ⟨t.toArray⟩ : ByteArray) = ⟨(y ++ t).toArray⟩ := ByteArray.mk_append_mk y t
      rw [hy] at hfl ⊢
      have HC := Lib.hid (And.intro hcat (And.intro htk hy))
      have z1 : (y.length : Int) + (t.length : Int) ≤ 1000000 := by omega
      have z2 : y.length + t.length ≤ 1000000 := by omega
      clear hcat htk hy ht
      have i1 : (i : Int) < (ts.length : Int) := by omega
      have i2 : (0 : Int) ≤ (i : Int) := by omega
      go_wp2
      go_roundg (gk - 1)
      case measure => omega
      case rel =>
        refine ⟨i + 1, by omega, rfl, ?_, rfl⟩
        rw [HC.out.2.1, List.flatten_append, HC.out.2.2]
        simp only [List.flatten_cons, List.flatten_nil, List.append_nil]
        rw [← HC.out.1]
    · obtain rfl : i = ts.length := by omega
      rw [List.take_length]
      have i1 : ¬ ((ts.length : Int) < (ts.length : Int)) := by omega
      have H0 : Hid (Taken ts wr ts.length (.string ⟨ts.flatten.toArray⟩) (.int .i64 0) wr) := ⟨0, by omega, rfl, by simp, Below.refl _ _⟩
      generalize hsv : Value.string ⟨ts.flatten.toArray⟩ = sv at *
      have HSV := Lib.hid hsv
      clear hsv
      obtain ⟨wz, hwz⟩ : ∃ wz, wz = wr := ⟨_, rfl⟩
      rw [← hwz] at H0 HT hgl B ⊢
      have BZ := Lib.hid B
      clear hwz B
      go_wp2
      go_loopg [5, 7] ts.length (fun k v5 v7 wr => Taken ts wz k v5 v7 wr)
      case atStart => exact H0.out
      case round =>
        clear H0
        obtain ⟨i, hk2, rfl, rfl, hbel⟩ := hrel
        by_cases hi : i < ts.length
        · obtain ⟨t, ht⟩ : ∃ t, ts[i]? = some t := ⟨_, List.getElem?_eq_getElem hi⟩
          have hcell : wr.cell? ⟨g, i, none⟩ = some (.string ⟨t.toArray⟩) := (HT.out.below hbel hgl) i t ht
          have hdr : ts.drop i = t :: ts.drop (i + 1) := by
            rw [List.drop_eq_getElem_cons hi]
            congr 1
            exact (List.getElem?_eq_some_iff.1 ht).2
          have hG := HG.out t (List.mem_of_getElem? ht)
          have hfl := Tm.flat_le (ts := ts.drop (i + 1)) (fun t ht => (HG.out t (List.mem_of_mem_drop ht)).2.2)
          have hlt : (ts.drop (i + 1)).length ≤ 42 := by simp; omega
          obtain ⟨y, hy⟩ : ∃ y, (ts.drop (i + 1)).flatten = y := ⟨_, rfl⟩
          rw [hy] at hfl
          have hs : (ts.drop i).flatten = t ++ y := by rw [hdr, List.flatten_cons, hy]
          rw [hs]
          have cT := fun W => take_at (k := 41) (t := t) (hG.mono (Nat.le_refl _) (by omega)) y (by omega) W
          obtain ⟨s, hsv⟩ : ∃ s, t ++ y = s := ⟨_, rfl⟩
          have hsl : s.length = t.length + y.length := by rw [← hsv, List.length_append]
          rw [hsv] at cT ⊢
          have HC := Lib.hid cT
          have HY := Lib.hid hy
          have z1 : ((y.length : Int) != (s.length : Int) - (t.length : Int)) = false := by simp; omega
          have z2 : (s.length : Int) ≤ 1000000 := by have := hG.2.2; omega
          have z3 : (t.length : Int) ≤ (s.length : Int) := by omega
          have z4 : (t == t) = true := by simp
          have i1 : (i : Int) < (ts.length : Int) := by omega
          have i2 : (0 : Int) ≤ (i : Int) := by omega
          clear cT hy hs hdr hG hsl hsv ht
          go_wp2_with fail
          refine (HC.out _).mono ?_
          rintro e' w5 ⟨rfl, b5⟩
          have B5 : Below wz.heap.size wz w5 := hbel.trans (b5.mono hbel.size)
          have hcell5 : w5.cell? ⟨g, i, none⟩ = some (.string ⟨t.toArray⟩) := by
            rw [b5.cell (p := ⟨g, i, none⟩) (Nat.lt_of_lt_of_le hgl hbel.size)]
            exact hcell
          clear b5
          go_wp2
          go_roundg (ts.length - (i + 1))
          case measure => omega
          case rel => exact ⟨i + 1, by omega, rfl, by rw [HY.out], B5⟩
        · obtain rfl : i = ts.length := by omega
          rw [List.drop_length]
          have i1 : ¬ ((ts.length : Int) < (ts.length : Int)) := by omega
          simp only [List.flatten_nil]
          go_wp2
          go_ret
          exact ⟨by simp, BZ.out.trans (hbel.mono BZ.out.size)⟩

end Go.Proofs.Ytehphobhohndaaa
