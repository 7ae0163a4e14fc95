/- The law TermBack: for all steps and all texts behind it returns true. -/
import Derived.Test.YtccdpimmmicgaaaHelp
namespace Go.Proofs.Ytccdpimmmicgaaa
open Go.ChangeShapes Go.WideShapes Go.ChangeAt Go.RowKit

namespace Tm
/-- No term is the beginning of another one. -/
theorem no_begin {k m : Nat} {s t : List UInt8} (hs : Good k m s) (ht : Good k m t) (hne : s ≠ t) : ¬ t.take s.length = s := by
  intro h
  have hp := (right_parse hs.1).1
  have hq := (right_parse ht.1).1
  have st := parse_stable 400 s s.length _ hp (t.drop s.length)
  rw [List.take_length] at st
  have e : s ++ t.drop s.length = t := by
    have e1 : s ++ t.drop s.length = t.take s.length ++ t.drop s.length := by rw [h]
    rw [e1, List.take_append_drop]
  rw [e, hq] at st
  simp only [Prod.mk.injEq] at st
  apply hne
  rw [← h, ← st.1, List.take_length]
theorem take_ok (l : List UInt8) : ((take l).2.2 ≠ 0 ∧ (take l).1 = [] ∧ (take l).2.1 = []) ∨ ((take l).2.2 = 0 ∧ right (take l).1 = true ∧ (take l).1 ++ (take l).2.1 = l ∧ (take l).1.length ≤ 20000) := by
  obtain ⟨⟨n, d, e⟩, hr⟩ : ∃ r, read l = r := ⟨_, rfl⟩
  unfold take
  rw [hr]
  simp only
  by_cases he : e = 0
  · subst he
    simp only [ne_eq, not_true_eq_false, if_false]
    by_cases hn : 20000 < n
    · simp [hn]
    · right
      rw [if_neg hn]
      have hp : parse 400 l = (n, d, 0) := by rw [← read_parse]; exact hr
      have hb := (parse_bounds 400 l).1
      rw [hp] at hb
      simp only at hb
      have hs := parse_stable 400 l n d hp []
      rw [List.append_nil] at hs
      have hl : (l.take n).length = n := by simp; omega
      refine ⟨rfl, right_of_parse (d := d) (by rw [hl]; exact hs) (by rw [hl]; omega), List.take_append_drop n l, by rw [hl]; omega⟩
  · left
    simp [he]
end Tm

theorem right_at {k : Nat} {t : List UInt8} (h : Tm.Good k 600 t) (W : World) : Calls Try.prog 25 #[.string ⟨t.toArray⟩] W (One W (.bool true)) := by
  have := Right_calls ⟨t.toArray⟩ (good_size h) W
  have e : (⟨t.toArray⟩ : ByteArray).data.toList = t := by simp
  rw [e, (Tm.right_iff t).2 h.1] at this
  exact this

def Backing (w1 : World) (n k : Nat) (v7 : Value) (wr : World) : Prop := ∃ i : Nat, k + i = n ∧ v7 = .int .i64 i ∧ Below w1.heap.size w1 wr

set_option maxRecDepth 100000 in
set_option maxHeartbeats 40000000 in
theorem back_all (A : Option Addr) (n c : Nat) (s : ByteArray) (w : World) (hS : Steps w A n) (hnc : n ≤ maxLen) (hs : s.size ≤ 300) :
    Calls Try.prog 4 #[.slice A n c, .string s] w (One w (.bool true)) := by
  have HS := Lib.hid shown_calls
  have HSt := Lib.hid hS
  have HNC := Lib.hid hnc
  have d1 : decide ((300 : Int) < (s.size : Int)) = false := by simp; omega
  have i1 : (s.size : Int) ≤ 300 := by omega
  clear hS hnc
  go_enter Try.func4, Try.ntmps4
  go_wp2_with fail
  refine (HS.out _).mono ?_
  rintro e' w0 ⟨rfl, B0⟩
  have HM := Lib.hid (made_calls A n c w0 (steps_below HSt.out B0) HNC.out)
  go_wp2_with fail
  refine HM.out.mono ?_
  rintro e' w1 ⟨g, cap, ts, rfl, hrow, hlen, hgood, hb1⟩
  have B := B0.trans (hb1.mono B0.size)
  have h42 : ts.length ≤ 42 := by omega
  have HG := Lib.hid hgood
  have HT := Lib.hid (texts_of_row hrow)
  have hgl : g < w1.heap.size := lt_of_row hrow
  have BB := Lib.hid B
  clear hrow hgood hlen hb1 HM HSt HNC HS B0 B
  go_wp2
  go_loopg [7] ts.length (fun k v7 wr => Backing w1 ts.length k v7 wr)
  case atStart => exact ⟨0, by omega, rfl, Below.refl _ _⟩
  case round =>
    obtain ⟨i, hk, rfl, hbel⟩ := hrel
    by_cases hi : i < ts.length
    · obtain ⟨t, ht⟩ : ∃ t, ts[i]? = some t := ⟨_, List.getElem?_eq_getElem hi⟩
      have hcell : wr.cell? ⟨g, i, none⟩ = some (.string ⟨t.toArray⟩) := (HT.out.below hbel hgl) i t ht
      have hG := HG.out t (List.mem_of_getElem? ht)
      have hGt := Lib.hid hG
      have htl := hG.2.2
      have cT := fun W => take_at (k := 41) (t := t) (hG.mono (Nat.le_refl _) (by omega)) s.data.toList (by rw [len_bytes]; omega) W
      have hcat : (⟨t.toArray⟩ ++ s : ByteArray) = ⟨(t ++ s.data.toList).toArray⟩ := by
        conv => lhs; rw [of_bytes s]
        exact ByteArray.mk_append_mk t s.data.toList
      rw [← hcat, ← of_bytes s] at cT
      have HC := Lib.hid cT
      have HRt := Lib.hid (fun W => right_at hG W)
      have hdp : 0 < Tm.depthOf t := Nat.pos_of_ne_zero hG.1
      have hd4 := Tm.depthOf_le t
      have cD := fun W => depth_at t (by omega) W
      obtain ⟨d, hd⟩ : ∃ d, Tm.depthOf t = d := ⟨_, rfl⟩
      rw [hd] at cD hdp hd4
      have HD := Lib.hid cD
      have z1 : (t.length : Int) + (s.size : Int) ≤ 1000 := by omega
      have z2 : t.length + s.size ≤ 1000 := by omega
      have z3 : (1 : Int) ≤ (d : Int) := by omega
      have z5 : ¬ ((d : Int) < 1) := by omega
      have j1 : (i : Int) < (ts.length : Int) := by omega
      have j2 : (0 : Int) ≤ (i : Int) := by omega
      have HTi := Lib.hid ht
      clear cT hcat cD hd hG ht
      go_wp2_with fail
      refine (HC.out _).mono ?_
      rintro e' w5 ⟨rfl, b5⟩
      have B5 : Below w1.heap.size w1 w5 := hbel.trans (b5.mono hbel.size)
      have hcell5 : w5.cell? ⟨g, i, none⟩ = some (.string ⟨t.toArray⟩) := (HT.out.below B5 hgl) i t HTi.out
      clear b5 hcell hbel
      go_wp2_with fail
      refine (HRt.out _).mono ?_
      rintro e' w6 ⟨rfl, b6⟩
      have B6 : Below w1.heap.size w1 w6 := B5.trans (b6.mono B5.size)
      have hcell6 : w6.cell? ⟨g, i, none⟩ = some (.string ⟨t.toArray⟩) := (HT.out.below B6 hgl) i t HTi.out
      clear b6 hcell5 B5
      go_wp2_with fail
      refine (HD.out _).mono ?_
      rintro e' w7 ⟨rfl, b7⟩
      have B7 : Below w1.heap.size w1 w7 := B6.trans (b7.mono B6.size)
      clear b7 hcell6 B6
      go_wp2
      go_loopg [11] i (fun k v11 wr => Backing w7 i k v11 wr)
      case atStart => exact ⟨0, by omega, rfl, Below.refl _ _⟩
      case round =>
        obtain ⟨j, hk2, rfl, hbel2⟩ := hrel
        have B8 : Below w1.heap.size w1 wr := B7.trans (hbel2.mono B7.size)
        by_cases hj : j < i
        · obtain ⟨u, hu⟩ : ∃ u, ts[j]? = some u := ⟨_, List.getElem?_eq_getElem (by omega)⟩
          have hcu : wr.cell? ⟨g, j, none⟩ = some (.string ⟨u.toArray⟩) := (HT.out.below B8 hgl) j u hu
          have hct : wr.cell? ⟨g, i, none⟩ = some (.string ⟨t.toArray⟩) := (HT.out.below B8 hgl) i t HTi.out
          have hGu := HG.out u (List.mem_of_getElem? hu)
          have l1 : (j : Int) < (i : Int) := by omega
          have l2 : (0 : Int) ≤ (j : Int) := by omega
          have l3 : (j : Int) < (ts.length : Int) := by omega
          by_cases hut : u = t
          · subst hut
            have q0 : (u == u) = true := by simp
            go_wp2
            go_roundg (i - (j + 1))
            case measure => omega
            case rel => exact ⟨j + 1, by omega, rfl, hbel2⟩
          · have e1 : ((⟨t.toArray⟩ : ByteArray).extract 0 u.length).toList = t.take u.length := by rw [Lib.toList_data, toList_extract]; simp
            have e2 : ((⟨u.toArray⟩ : ByteArray).extract 0 t.length).toList = u.take t.length := by rw [Lib.toList_data, toList_extract]; simp
            have q0 : (u == t) = false := by simpa using hut
            have q1 : (t.take u.length == u) = false := by simpa using Tm.no_begin hGu hGt.out hut
            have q2 : (u.take t.length == t) = false := by simpa using Tm.no_begin hGt.out hGu (fun h => hut h.symm)
            have hul := hGu.2.2
            clear hGu hu hut
            by_cases c1 : u.length ≤ t.length
            · have c1' : (u.length : Int) ≤ (t.length : Int) := by omega
              by_cases c2 : t.length ≤ u.length
              · have c2' : (t.length : Int) ≤ (u.length : Int) := by omega
                go_wp2
                go_roundg (i - (j + 1))
                case measure => omega
                case rel => exact ⟨j + 1, by omega, rfl, hbel2⟩
              · have c2' : ¬ (t.length : Int) ≤ (u.length : Int) := by omega
                go_wp2
                go_roundg (i - (j + 1))
                case measure => omega
                case rel => exact ⟨j + 1, by omega, rfl, hbel2⟩
            · have c1' : ¬ (u.length : Int) ≤ (t.length : Int) := by omega
              have c2' : (t.length : Int) ≤ (u.length : Int) := by omega
              go_wp2
              go_roundg (i - (j + 1))
              case measure => omega
              case rel => exact ⟨j + 1, by omega, rfl, hbel2⟩
        · obtain rfl : j = i := by omega
          have l1 : ¬ ((j : Int) < (j : Int)) := by omega
          go_wp2
          go_roundg (ts.length - (j + 1))
          case measure => omega
          case rel => exact ⟨j + 1, by omega, rfl, B8⟩
    · obtain rfl : i = ts.length := by omega
      have j1 : ¬ ((ts.length : Int) < (ts.length : Int)) := by omega
      have cT := fun W => Take_calls s (by unfold maxLen; omega) W
      have hok := Tm.take_ok s.data.toList
      generalize Tm.take s.data.toList = r at *
      obtain ⟨b, left, f⟩ := r
      simp only at cT hok
      have HC := Lib.hid cT
      clear cT
      rcases hok with ⟨h1, rfl, rfl⟩ | ⟨rfl, h2, h3, h4⟩
      · have f1 : ((f : Int) == 0) = false := by simp; omega
        have f2 : ((f : Int) != 0) = true := by simp; omega
        clear h1
        go_wp2_with fail
        refine (HC.out _).mono ?_
        rintro e' w5 ⟨rfl, b5⟩
        have B5 : Below w1.heap.size w1 w5 := hbel.trans (b5.mono hbel.size)
        go_wp2
        go_ret
        exact ⟨rfl, BB.out.trans (B5.mono BB.out.size)⟩
      · have cR := fun W => Right_calls ⟨b.toArray⟩ (by rw [size_list]; unfold maxLen; omega) W
        have e : (⟨b.toArray⟩ : ByteArray).data.toList = b := by simp
        rw [e, h2] at cR
        have HR := Lib.hid cR
        have hcat : (⟨b.toArray⟩ ++ ⟨left.toArray⟩ : ByteArray) = s := by
          rw [of_bytes s, ← h3]
          exact ByteArray.mk_append_mk b left
        have hl : b.length + left.length ≤ 300 := by rw [← List.length_append, h3, len_bytes]; omega
        have hl2 : (b.length : Int) + (left.length : Int) ≤ 300 := by omega
        clear cR e h2 h3 h4
        go_wp2_with fail
        refine (HC.out _).mono ?_
        rintro e' w5 ⟨rfl, b5⟩
        have B5 : Below w1.heap.size w1 w5 := hbel.trans (b5.mono hbel.size)
        go_wp2_with fail
        refine (HR.out _).mono ?_
        rintro e' w6 ⟨rfl, b6⟩
        have B6 : Below w1.heap.size w1 w6 := B5.trans (b6.mono B5.size)
        clear b5 b6
        go_wp2
        go_ret
        exact ⟨rfl, BB.out.trans (B6.mono BB.out.size)⟩

set_option maxRecDepth 100000 in
set_option maxHeartbeats 400000 in
theorem back_long (A : Option Addr) (n c : Nat) (s : ByteArray) (w : World) (hsm : s.size ≤ maxLen) (h : 300 < s.size) :
    Calls Try.prog 4 #[.slice A n c, .string s] w (One w (.bool true)) := by
  unfold maxLen at hsm
  have HS := Lib.hid shown_calls
  have d1 : decide ((300 : Int) < (s.size : Int)) = true := by simp; omega
  have i1 : (300 : Int) < (s.size : Int) := by omega
  clear h
  go_enter Try.func4, Try.ntmps4
  go_wp2_with fail
  refine (HS.out _).mono ?_
  rintro e' w1 ⟨rfl, hb1⟩
  go_wp2
  go_ret
  exact ⟨rfl, hb1⟩

theorem back_every (A : Option Addr) (n c : Nat) (s : ByteArray) (w : World) (hS : Steps w A n) (hnc : n ≤ maxLen) (hsm : s.size ≤ maxLen) :
    Calls Try.prog 4 #[.slice A n c, .string s] w (One w (.bool true)) := by
  by_cases h : s.size ≤ 300
  · exact back_all A n c s w hS hnc h
  · exact back_long A n c s w hsm (by omega)

end Go.Proofs.Ytccdpimmmicgaaa
