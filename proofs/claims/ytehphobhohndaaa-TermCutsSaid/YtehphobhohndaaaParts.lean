/- The law TermParts: for all steps, places and texts it returns true. -/
import Derived.Test.YtehphobhohndaaaSeals
namespace Go.Proofs.Ytehphobhohndaaa
open Go.ChangeShapes Go.WideShapes Go.ChangeAt Go.RowKit

theorem steps_below {w w0 : World} {A : Option Addr} {n : Nat} (h : Steps w A n) (B0 : Below w.heap.size w w0) : Steps w0 A n := by
  intro q hq
  obtain ⟨ad, o, x, y, z, h1, h2, r0, r1, r2, r3, c0, c1, c2, c3⟩ := h q hq
  exact ⟨ad, o, x, y, z, h1, Nat.lt_of_lt_of_le h2 B0.size, r0, r1, r2, r3, (B0.cell (by rw [block_add]; exact h2)).trans c0, (B0.cell (by rw [block_add]; exact h2)).trans c1, (B0.cell (by rw [block_add]; exact h2)).trans c2, (B0.cell (by rw [block_add]; exact h2)).trans c3⟩

theorem cat3 (k : UInt8) (a b : List UInt8) : (⟨#[k]⟩ ++ ⟨a.toArray⟩ ++ ⟨b.toArray⟩ : ByteArray).toList = k :: (a ++ b) := by
  rw [cat_head, ByteArray.mk_append_mk, ByteArray.toList_mk]
  rfl
where cat_head : (⟨#[k]⟩ ++ ⟨a.toArray⟩ : ByteArray) = ⟨(k :: a).toArray⟩ := ByteArray.mk_append_mk [k] a
theorem cat2 (k : UInt8) (a : List UInt8) : (⟨#[k]⟩ ++ ⟨a.toArray⟩ : ByteArray).toList = k :: a := by
  have : (⟨#[k]⟩ ++ ⟨a.toArray⟩ : ByteArray) = ⟨(k :: a).toArray⟩ := ByteArray.mk_append_mk [k] a
  rw [this, ByteArray.toList_mk]

theorem depth_at (l : List UInt8) (h : l.length ≤ 20000) (W : World) : Calls Try.prog 34 #[.string ⟨l.toArray⟩] W (One W (.int .i64 (Tm.depthOf l))) := by
  have := Depth_calls ⟨l.toArray⟩ (by rw [size_list]; unfold maxLen; omega) W
  simpa using this

set_option maxRecDepth 100000 in
set_option maxHeartbeats 40000000 in
theorem parts_all (A : Option Addr) (n c : Nat) (i j : Int) (s : ByteArray) (w : World) (hS : Steps w A n) (hnc : n ≤ maxLen) (ri : isInt i) (rj : isInt j) (hs : s.size ≤ 1000) :
    Calls Try.prog 7 #[.slice A n c, .int .i64 i, .int .i64 j, .string s] w (One w (.bool true)) := by
  have HS := Lib.hid shown_calls
  have HSt := Lib.hid hS
  have HNC := Lib.hid hnc
  have HR := Lib.hid (And.intro ri rj)
  have d1 : decide ((1000 : Int) < (s.size : Int)) = false := by simp; omega
  have i1 : (s.size : Int) ≤ 1000 := by omega
  have hsm : s.size ≤ maxLen := by unfold maxLen; omega
  have HSM := Lib.hid hsm
  clear hS hnc ri rj hsm
  go_enter Try.func7, Try.ntmps7
  go_wp2_with fail
  refine (HS.out _).mono ?_
  rintro e' w0 ⟨rfl, B0⟩
  have HM := Lib.hid (made_calls A n c w0 (steps_below HSt.out B0) HNC.out)
  go_wp2_with fail
  refine HM.out.mono ?_
  rintro e' w1 ⟨g, cap, ts, rfl, hrow, hlen, hgood, hb1⟩
  have B := B0.trans (hb1.mono B0.size)
  have h42 : ts.length ≤ 42 := by omega
  have h22 : 2 ≤ ts.length := by omega
  obtain ⟨pa, a, cPa, la, ca, Ga⟩ := pick_at hrow h22 h42 hgood HR.out.1
  obtain ⟨pb, b, cPb, lb, cb, Gb⟩ := pick_at hrow h22 h42 hgood HR.out.2
  have HPa := Lib.hid cPa
  have HPb := Lib.hid cPb
  have ja : (0 : Int) ≤ (pa : Int) := by omega
  have jb : (0 : Int) ≤ (pb : Int) := by omega
  have gp := Tm.good_pair (k := 41) (a := a) (b := b) (l := 112 :: (a ++ b)) (by
    have := Tm.put_fine (hd := [112]) (ps := [a, b]) (by simp) (by simp) (by intro p hp; simp at hp; rcases hp with rfl | rfl <;> assumption)
    simpa using this) Ga.2.1 Gb.2.1
  have gh := Tm.good_hash (k := 41) (a := a) (l := 104 :: a) (by
    have := Tm.put_fine (hd := [104]) (ps := [a]) (by simp) (by simp) (by intro p hp; simp at hp; subst hp; assumption)
    simpa using this) Ga.2.1
  have HP := Lib.hid (fun W => pair_fine Ga Gb W)
  have HH := Lib.hid (fun W => hash_fine Ga W)
  have HX := Lib.hid (fun W => sign_fine Ga Gb W)
  have HDp := Lib.hid (fun W => depth_at (112 :: (a ++ b)) gp.2.2.2.2 W)
  have HDh := Lib.hid (fun W => depth_at (104 :: a) gh.2.2.2.2 W)
  have HDa := Lib.hid (fun W => depth_at a (Nat.le_trans Ga.2.2 (by omega)) W)
  have HDb := Lib.hid (fun W => depth_at b (Nat.le_trans Gb.2.2 (by omega)) W)
  have q1 := cat3 112 a b
  have q2 := cat2 104 a
  have q3 := cat3 120 a b
  have za : a.length ≤ 600 := Ga.2.2
  have zb : b.length ≤ 600 := Gb.2.2
  obtain ⟨da, hda⟩ : ∃ d, Tm.depthOf a = d := ⟨_, rfl⟩
  obtain ⟨db, hdb⟩ : ∃ d, Tm.depthOf b = d := ⟨_, rfl⟩
  obtain ⟨dp, hdp⟩ : ∃ d, Tm.depthOf (112 :: (a ++ b)) = d := ⟨_, rfl⟩
  obtain ⟨dh, hdh⟩ : ∃ d, Tm.depthOf (104 :: a) = d := ⟨_, rfl⟩
  have y1 : dp = max da db + 1 := by rw [← hdp, ← hda, ← hdb]; exact gp.2.1
  have y2 : dh = da + 1 := by rw [← hdh, ← hda]; exact gh.2.1
  have y3 : da ≤ 41 := by rw [← hda]; exact Ga.2.1
  have y4 : db ≤ 41 := by rw [← hdb]; exact Gb.2.1
  rw [hda] at HDa
  rw [hdb] at HDb
  rw [hdp] at HDp
  rw [hdh] at HDh
  -- the text
  have cR := fun W => Right_calls s HSM.out W
  have cD := fun W => Depth_calls s HSM.out W
  have Gas := good_size Ga
  have cPu := fun W => Pair_calls ⟨a.toArray⟩ s Gas HSM.out W
  have cHu := fun W => Hash_calls s HSM.out W
  have hno : Tm.depthOf s.data.toList = 0 → Tm.put [112] [a, s.data.toList] = ([], 1) ∧ Tm.put [104] [s.data.toList] = ([], 1) := by
    intro h0
    constructor
    · unfold Tm.put; rw [if_pos (by simp [h0])]
    · unfold Tm.put; rw [if_pos (by simp [h0])]
  have hrr : Tm.right s.data.toList = decide (0 < Tm.depthOf s.data.toList) := rfl
  rw [hrr] at cR
  have ea : (⟨a.toArray⟩ : ByteArray).data.toList = a := by simp
  rw [ea] at cPu
  generalize Tm.depthOf s.data.toList = du at *
  have w1 : (dp : Int) = 1 + max (da : Int) (db : Int) := by omega
  have w2 : (dh : Int) = 1 + (da : Int) := by omega
  generalize (112 :: (a ++ b)) = x at *
  generalize (104 :: a) = h at *
  generalize (120 :: (a ++ b)) = z at *
  have W1 := Lib.hid (And.intro w1 w2)
  clear hrow hgood hlen hb1 cPa cPb HM HSt B0 Ga Gb gp gh hda hdb hdp hdh y1 y2 w1 w2 Gas hrr ea
  have HRs := Lib.hid cR
  have HDs := Lib.hid cD
  have HPu := Lib.hid cPu
  have HHu := Lib.hid cHu
  have HNo := Lib.hid hno
  clear cR cD cPu cHu hno
  go_wp2_with fail
  refine HPa.out.mono ?_
  rintro e' w' ⟨rfl, rfl⟩
  go_wp2_with fail
  refine HPb.out.mono ?_
  rintro e' w' ⟨rfl, rfl⟩
  go_wp2_with fail
  refine (HP.out _).mono ?_
  rintro e' w2 ⟨rfl, b2⟩
  replace B := B.trans (b2.mono B.size)
  clear b2
  go_wp2_with fail
  refine (HH.out _).mono ?_
  rintro e' w3 ⟨rfl, b3⟩
  replace B := B.trans (b3.mono B.size)
  clear b3
  go_wp2_with fail
  refine (HX.out _).mono ?_
  rintro e' w4 ⟨rfl, b4⟩
  replace B := B.trans (b4.mono B.size)
  clear b4
  have g3 : ((dh : Int) != 1 + (da : Int)) = false := by have := W1.out.2; simp; omega
  have g4 : ((dh : Int) == 1 + (da : Int)) = true := by have := W1.out.2; simp; omega
  rcases Nat.le_total da db with hab | hab
  all_goals
    have hab2 := (Int.ofNat_le.2 hab)
    have w1 := W1.out.1
    first
      | (have g1 : ((dp : Int) != 1 + (db : Int)) = false := by simp; omega)
      | (have g1 : ((dp : Int) != 1 + (da : Int)) = false := by simp; omega)
    first
      | (have g2 : max (da : Int) (db : Int) = (db : Int) := by omega)
      | (have g2 : max (da : Int) (db : Int) = (da : Int) := by omega)
    clear w1
    go_wp2_with fail
    refine (HDp.out _).mono ?_
    rintro e' w5 ⟨rfl, b5⟩
    replace B := B.trans (b5.mono B.size)
    clear b5
    go_wp2_with fail
    refine (HDa.out _).mono ?_
    rintro e' w6 ⟨rfl, b6⟩
    replace B := B.trans (b6.mono B.size)
    clear b6
    go_wp2_with fail
    refine (HDb.out _).mono ?_
    rintro e' w7 ⟨rfl, b7⟩
    replace B := B.trans (b7.mono B.size)
    clear b7
    go_wp2_with fail
    refine (HDh.out _).mono ?_
    rintro e' w8 ⟨rfl, b8⟩
    replace B := B.trans (b8.mono B.size)
    clear b8
    go_wp2_with fail
    refine (HDa.out _).mono ?_
    rintro e' w9 ⟨rfl, b9⟩
    replace B := B.trans (b9.mono B.size)
    clear b9
    go_wp2_with fail
    refine (HRs.out _).mono ?_
    rintro e' w10 ⟨rfl, b10⟩
    replace B := B.trans (b10.mono B.size)
    clear b10
    by_cases hdu : 0 < du
    · have du1 : decide (0 < du) = true := by simpa using hdu
      have du2 : decide ((0 : Int) < (du : Int)) = true := by simp; omega
      have du3 : (0 : Int) < (du : Int) := by omega
      go_wp2_with fail
      refine (HDs.out _).mono ?_
      rintro e' w11 ⟨rfl, b11⟩
      replace B := B.trans (b11.mono B.size)
      clear b11
      go_wp2
      go_ret
      exact ⟨by simp, B⟩
    · obtain rfl : du = 0 := by omega
      have n1 := HNo.out rfl
      rw [n1.1] at HPu
      rw [n1.2] at HHu
      clear n1
      go_wp2_with fail
      refine (HPu.out _).mono ?_
      rintro e' w11 ⟨rfl, b11⟩
      replace B := B.trans (b11.mono B.size)
      clear b11
      go_wp2_with fail
      refine (HHu.out _).mono ?_
      rintro e' w12 ⟨rfl, b12⟩
      replace B := B.trans (b12.mono B.size)
      clear b12
      go_wp2_with fail
      refine (HDs.out _).mono ?_
      rintro e' w13 ⟨rfl, b13⟩
      replace B := B.trans (b13.mono B.size)
      clear b13
      go_wp2
      go_ret
      exact ⟨rfl, B⟩

set_option maxRecDepth 100000 in
set_option maxHeartbeats 400000 in
theorem parts_long (A : Option Addr) (n c : Nat) (i j : Int) (s : ByteArray) (w : World) (hsm : s.size ≤ maxLen) (h : 1000 < s.size) :
    Calls Try.prog 7 #[.slice A n c, .int .i64 i, .int .i64 j, .string s] w (One w (.bool true)) := by
  unfold maxLen at hsm
  have HS := Lib.hid shown_calls
  have d1 : decide ((1000 : Int) < (s.size : Int)) = true := by simp; omega
  have i1 : (1000 : Int) < (s.size : Int) := by omega
  clear h
  go_enter Try.func7, Try.ntmps7
  go_wp2_with fail
  refine (HS.out _).mono ?_
  rintro e' w1 ⟨rfl, hb1⟩
  go_wp2
  go_ret
  exact ⟨rfl, hb1⟩

theorem parts_every (A : Option Addr) (n c : Nat) (i j : Int) (s : ByteArray) (w : World) (hS : Steps w A n) (hnc : n ≤ maxLen) (ri : isInt i) (rj : isInt j) (hsm : s.size ≤ maxLen) :
    Calls Try.prog 7 #[.slice A n c, .int .i64 i, .int .i64 j, .string s] w (One w (.bool true)) := by
  by_cases h : s.size ≤ 1000
  · exact parts_all A n c i j s w hS hnc ri rj h
  · exact parts_long A n c i j s w hsm (by omega)

end Go.Proofs.Ytehphobhohndaaa
