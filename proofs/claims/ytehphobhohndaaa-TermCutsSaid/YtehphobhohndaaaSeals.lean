/- The statement TermSeals: for all steps and all four places the law returns true, and its arguments read as they did. -/
import Derived.Test.YtehphobhohndaaaOpen
namespace Go.Proofs.Ytehphobhohndaaa
open Go.ChangeShapes Go.WideShapes Go.ChangeAt Go.RowKit

namespace Tm
theorem put_fine {hd : List UInt8} {ps : List (List UInt8)} (h1 : hd.length ≤ 2) (h2 : ps.length ≤ 20) (hg : ∀ p ∈ ps, Good 41 600 p) : put hd ps = (hd ++ ps.flatten, 0) := by
  have hf : ps.flatten.length ≤ ps.length * 600 := by
    clear h2
    induction ps with
    | nil => simp
    | cons p ps ih =>
      have a1 := (hg p (by simp)).2.2
      have a2 := ih (fun q hq => hg q (by simp [hq]))
      simp only [List.flatten_cons, List.length_append, List.length_cons]
      omega
  have hm : maxDepth ps ≤ 41 := maxDepth_bound (fun p hp => (hg p hp).2.1)
  exact put_ok (fun p hp => (hg p hp).1) (by unfold total; omega) (by omega)
end Tm

theorem exact_out {W : World} {r : List UInt8 × Nat} {l : List UInt8} (h : r = (l, 0)) {e : Ending} {w' : World} (hp : Pair2 W r e w') : One W (.tuple #[.string ⟨l.toArray⟩, .int .i64 0]) e w' := by
  subst h
  exact hp

theorem three_fine {a b c : List UInt8} (ha : Tm.Good 41 600 a) (hb : Tm.Good 41 600 b) (hc : Tm.Good 41 600 c) (W : World) :
    Calls Try.prog 29 #[.string ⟨a.toArray⟩, .string ⟨b.toArray⟩, .string ⟨c.toArray⟩] W (One W (.tuple #[.string ⟨(115 :: (a ++ (b ++ c))).toArray⟩, .int .i64 0])) :=
  (Seal_calls ⟨a.toArray⟩ ⟨b.toArray⟩ ⟨c.toArray⟩ (good_size ha) (good_size hb) (good_size hc) W).mono fun _ _ hp => exact_out (by
    have := Tm.put_fine (hd := [115]) (ps := [a, b, c]) (by simp) (by simp) (by intro p hp; simp at hp; rcases hp with rfl | rfl | rfl <;> assumption)
    simpa using this) hp
theorem sign_fine {a b : List UInt8} (ha : Tm.Good 41 600 a) (hb : Tm.Good 41 600 b) (W : World) :
    Calls Try.prog 30 #[.string ⟨a.toArray⟩, .string ⟨b.toArray⟩] W (One W (.tuple #[.string ⟨(120 :: (a ++ b)).toArray⟩, .int .i64 0])) :=
  (Sign_calls ⟨a.toArray⟩ ⟨b.toArray⟩ (good_size ha) (good_size hb) W).mono fun _ _ hp => exact_out (by
    have := Tm.put_fine (hd := [120]) (ps := [a, b]) (by simp) (by simp) (by intro p hp; simp at hp; rcases hp with rfl | rfl <;> assumption)
    simpa using this) hp
theorem pair_fine {a b : List UInt8} (ha : Tm.Good 41 600 a) (hb : Tm.Good 41 600 b) (W : World) :
    Calls Try.prog 26 #[.string ⟨a.toArray⟩, .string ⟨b.toArray⟩] W (One W (.tuple #[.string ⟨(112 :: (a ++ b)).toArray⟩, .int .i64 0])) :=
  (Pair_calls ⟨a.toArray⟩ ⟨b.toArray⟩ (good_size ha) (good_size hb) W).mono fun _ _ hp => exact_out (by
    have := Tm.put_fine (hd := [112]) (ps := [a, b]) (by simp) (by simp) (by intro p hp; simp at hp; rcases hp with rfl | rfl <;> assumption)
    simpa using this) hp
theorem hash_fine {a : List UInt8} (ha : Tm.Good 41 600 a) (W : World) :
    Calls Try.prog 28 #[.string ⟨a.toArray⟩] W (One W (.tuple #[.string ⟨(104 :: a).toArray⟩, .int .i64 0])) :=
  (Hash_calls ⟨a.toArray⟩ (good_size ha) W).mono fun _ _ hp => exact_out (by
    have := Tm.put_fine (hd := [104]) (ps := [a]) (by simp) (by simp) (by intro p hp; simp at hp; subst hp; assumption)
    simpa using this) hp

/-- A raw number speaks of a term of the row. -/
theorem pick_at {V : World} {B g cap : Nat} {ts : List (List UInt8)} (hrow : V.ownsRow B 24 1 (.slice (some ⟨g, 0, none⟩) ts.length cap) ts.length (strs ts)) (h2 : 2 ≤ ts.length) (h42 : ts.length ≤ 42) (hg : ∀ t ∈ ts, Tm.Good 41 600 t) {v : Int} (hv : isInt v) :
    ∃ (p : Nat) (x : List UInt8), (Calls Try.prog 35 #[.int .i64 v, .int .i64 ts.length] V fun e w' => e = .returned (.int .i64 p) ∧ V = w') ∧ (p : Int) < (ts.length : Int) ∧ V.cell? ⟨g, p, none⟩ = some (.string ⟨x.toArray⟩) ∧ Tm.Good 41 600 x := by
  have hl := Tm.pickN_lt v ts.length (by omega)
  obtain ⟨x, hx⟩ : ∃ x, ts[Tm.pickN v ts.length]? = some x := ⟨_, List.getElem?_eq_getElem hl⟩
  exact ⟨_, x, pick_calls v ts.length hv.1 hv.2 (by omega) (by omega) V, by omega, texts_of_row hrow _ _ hx, hg x (List.mem_of_getElem? hx)⟩

set_option maxRecDepth 100000 in
set_option maxHeartbeats 40000000 in
theorem seals_all (A : Option Addr) (n c : Nat) (i j k m : Int) (w : World) (hS : Steps w A n) (hnc : n ≤ maxLen) (ri : isInt i) (rj : isInt j) (rk : isInt k) (rm : isInt m) :
    Calls Try.prog 10 #[.slice A n c, .int .i64 i, .int .i64 j, .int .i64 k, .int .i64 m] w (One w (.bool true)) := by
  have HS := Lib.hid shown_calls
  have HSt := Lib.hid hS
  have HNC := Lib.hid hnc
  have HR := Lib.hid (And.intro ri (And.intro rj (And.intro rk rm)))
  clear hS hnc ri rj rk rm
  go_enter Try.func10, Try.ntmps10
  go_wp2_with fail
  refine (HS.out _).mono ?_
  rintro e' w0 ⟨rfl, B0⟩
  have hS0 : Steps w0 A n := by
    intro q hq
    obtain ⟨ad, o, x, y, z, h1, h2, r0, r1, r2, r3, c0, c1, c2, c3⟩ := HSt.out q hq
    exact ⟨ad, o, x, y, z, h1, Nat.lt_of_lt_of_le h2 B0.size, r0, r1, r2, r3, (B0.cell (by rw [block_add]; exact h2)).trans c0, (B0.cell (by rw [block_add]; exact h2)).trans c1, (B0.cell (by rw [block_add]; exact h2)).trans c2, (B0.cell (by rw [block_add]; exact h2)).trans c3⟩
  have HM := Lib.hid (made_calls A n c w0 hS0 HNC.out)
  clear hS0
  go_wp2_with fail
  refine HM.out.mono ?_
  rintro e' w1 ⟨g, cap, ts, rfl, hrow, hlen, hgood, hb1⟩
  have B := B0.trans (hb1.mono B0.size)
  have h42 : ts.length ≤ 42 := by omega
  have h22 : 2 ≤ ts.length := by omega
  obtain ⟨pa, a, cPa, la, ca, Ga⟩ := pick_at hrow h22 h42 hgood HR.out.1
  obtain ⟨pb, b, cPb, lb, cb, Gb⟩ := pick_at hrow h22 h42 hgood HR.out.2.1
  obtain ⟨pc, cc, cPc, lc, ccl, Gc⟩ := pick_at hrow h22 h42 hgood HR.out.2.2.1
  obtain ⟨pd, d, cPd, ld, cd, Gd⟩ := pick_at hrow h22 h42 hgood HR.out.2.2.2
  have HPa := Lib.hid cPa
  have HPb := Lib.hid cPb
  have HPc := Lib.hid cPc
  have HPd := Lib.hid cPd
  have ja : (0 : Int) ≤ (pa : Int) := by omega
  have jb : (0 : Int) ≤ (pb : Int) := by omega
  have jc : (0 : Int) ≤ (pc : Int) := by omega
  have jd : (0 : Int) ≤ (pd : Int) := by omega
  have HX := Lib.hid (fun W => three_fine Ga Gb Gc W)
  have HY := Lib.hid (fun W => three_fine Ga Gd Gc W)
  have HZ := Lib.hid (fun W => sign_fine Ga Gb W)
  have HV := Lib.hid (fun W => sign_fine Ga Gd W)
  have HP := Lib.hid (fun W => pair_fine Ga Gb W)
  obtain ⟨q, hq⟩ : ∃ q, (b == d) = q := ⟨_, rfl⟩
  have e1 : ((115 :: (a ++ (b ++ cc))) == (115 :: (a ++ (d ++ cc)))) = q := by
    rw [← hq, Bool.eq_iff_iff]
    simp
  have e2 : ((120 :: (a ++ b)) == (120 :: (a ++ d))) = q := by
    rw [← hq, Bool.eq_iff_iff]
    simp
  have e3 : ((115 :: (a ++ (b ++ cc))) == (120 :: (a ++ b))) = false := by simp
  have e4 : ((112 :: (a ++ b)) == (120 :: (a ++ b))) = false := by simp
  have e5 : ((112 :: (a ++ b)) == (115 :: (a ++ (b ++ cc)))) = false := by simp
  generalize (115 :: (a ++ (b ++ cc))) = x at *
  generalize (115 :: (a ++ (d ++ cc))) = y at *
  generalize (120 :: (a ++ b)) = z at *
  generalize (120 :: (a ++ d)) = v at *
  generalize (112 :: (a ++ b)) = p at *
  clear hrow hgood hlen hb1 cPa cPb cPc cPd HM HSt B0 Ga Gb Gc Gd
  rcases q with _ | _
  all_goals
    go_wp2_with fail
    refine HPa.out.mono ?_
    rintro e' w' ⟨rfl, rfl⟩
    go_wp2_with fail
    refine HPb.out.mono ?_
    rintro e' w' ⟨rfl, rfl⟩
    go_wp2_with fail
    refine HPc.out.mono ?_
    rintro e' w' ⟨rfl, rfl⟩
    go_wp2_with fail
    refine HPd.out.mono ?_
    rintro e' w' ⟨rfl, rfl⟩
    go_wp2_with fail
    refine (HX.out _).mono ?_
    rintro e' w2 ⟨rfl, b2⟩
    replace B := B.trans (b2.mono B.size)
    clear b2
    go_wp2_with fail
    refine (HY.out _).mono ?_
    rintro e' w3 ⟨rfl, b3⟩
    replace B := B.trans (b3.mono B.size)
    clear b3
    go_wp2_with fail
    refine (HZ.out _).mono ?_
    rintro e' w4 ⟨rfl, b4⟩
    replace B := B.trans (b4.mono B.size)
    clear b4
    go_wp2_with fail
    refine (HV.out _).mono ?_
    rintro e' w5 ⟨rfl, b5⟩
    replace B := B.trans (b5.mono B.size)
    clear b5
    go_wp2_with fail
    refine (HP.out _).mono ?_
    rintro e' w6 ⟨rfl, b6⟩
    replace B := B.trans (b6.mono B.size)
    clear b6
    go_wp2
    go_ret
    exact ⟨rfl, B⟩

end Go.Proofs.Ytehphobhohndaaa
