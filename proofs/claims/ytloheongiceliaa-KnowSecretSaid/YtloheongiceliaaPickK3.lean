/- Contracts of the statements' own pick and name: a place below n, and a leaf that is a term. -/
import Derived.Test.YtloheongiceliaaGood
namespace Go.Proofs.Ytloheongiceliaa.L3
open Go.ChangeShapes Go.WideShapes Go.ChangeAt Go.RowKit

set_option maxHeartbeats 400000 in
theorem pick_calls (c : Int) (n : Nat) (h1 : -9223372036854775808 ≤ c) (h2 : c ≤ 9223372036854775807) (hn : 0 < n) (hn2 : n ≤ 1000) (w : World) :
    Calls Try.prog 19 #[.int .i64 c, .int .i64 n] w fun e w' => e = .returned (.int .i64 (Tm.pickN c n)) ∧ w = w' := by
  have hz : ((n : Int) == 0) = false := by simp; omega
  have hz2 : ¬ (n : Int) = 0 := by omega
  by_cases hc : c < 0
  · obtain ⟨m, hm⟩ : ∃ m : Nat, -(c + 1) = m := ⟨(-(c + 1)).toNat, by omega⟩
    have hp : Tm.pickN c n = m % n := by unfold Tm.pickN; rw [if_pos hc, hm]; rfl
    rw [hp]
    have k1 : (0 : Int) ≤ (m : Int) := by omega
    have k2 : (m : Int) ≤ 9223372036854775807 := by omega
    have hcc : c = -(m : Int) - 1 := by omega
    have HM := Lib.hid hm
    clear hm hp
    subst hcc
    go_enter Try.func19, Try.ntmps19
    go_wp2
    all_goals first | omega | (go_ret; exact ⟨by simp, rfl⟩)
  · obtain ⟨m, rfl⟩ : ∃ m : Nat, c = m := ⟨c.toNat, by omega⟩
    have hp : Tm.pickN (m : Int) n = m % n := by unfold Tm.pickN; rw [if_neg hc]; rfl
    rw [hp]
    clear hp
    go_enter Try.func19, Try.ntmps19
    go_wp2
    all_goals first | omega | (go_ret; exact ⟨by simp, rfl⟩)

def NameOut (w : World) (e : Ending) (w' : World) : Prop := ∃ l : List UInt8, e = .returned (.string ⟨l.toArray⟩) ∧ Tm.Good 1 12 l ∧ Below w.heap.size w w'

theorem ab_cut (k : Nat) : ((⟨#[97, 98]⟩ : ByteArray).extract 0 k).data.toList.length ≤ 2 := by
  rw [toList_extract]; simp; omega

set_option maxRecDepth 100000 in
set_option maxHeartbeats 4000000 in
theorem name_calls (c : Int) (h1 : -9223372036854775808 ≤ c) (h2 : c ≤ 9223372036854775807) (w : World) :
    Calls Try.prog 38 #[.int .i64 c] w (NameOut w) := by
  obtain ⟨m, hm⟩ : ∃ m : Nat, (if c < 0 then -(c + 1) else c) = m := ⟨(if c < 0 then -(c + 1) else c).toNat, by split <;> omega⟩
  obtain ⟨k, hk⟩ : ∃ k : Nat, m / 6 % 5 = k := ⟨_, rfl⟩
  obtain ⟨r, hr⟩ : ∃ r : Nat, m % 6 = r := ⟨_, rfl⟩
  have hk5 : k < 5 := by omega
  have hr6 : r < 6 := by omega
  have hkI : (m : Int) / 6 % 5 = (k : Int) := by omega
  have hrI : (m : Int) % 6 = (r : Int) := by omega
  obtain ⟨q, hq⟩ : ∃ q : Nat, k % 3 = q := ⟨_, rfl⟩
  have hq3 : q ≤ 2 := by omega
  have hk3I : (k : Int) % 3 = (q : Int) := by omega
  have cN := fun W => Name_calls k (by omega) W
  have cU := fun W => Number_calls k (by omega) W
  have cP := fun W => Private_calls (1 + (k : Int)) (by omega) (by omega) W
  have cT := fun W => Text_calls ((⟨#[97, 98]⟩ : ByteArray).extract 0 q) (by rw [← len_bytes]; have := ab_cut q; omega) W
  have gP := Tm.good_private (1 + (k : Int)).toNat (by omega) (by omega)
  have gT := Tm.good_text ((⟨#[97, 98]⟩ : ByteArray).extract 0 q).data.toList (ab_cut _)
  rw [len_bytes] at gT
  have gN := Tm.good_name k
  have gU := Tm.good_number k
  generalize (116 :: 0 :: UInt8.ofNat ((⟨#[97, 98]⟩ : ByteArray).extract 0 q).size :: ((⟨#[97, 98]⟩ : ByteArray).extract 0 q).data.toList) = lt at *
  generalize (110 :: Tm.be8 k) = ln at *
  generalize (117 :: Tm.be8 k) = lu at *
  have eP : (#[105, UInt8.ofNat (1 + (k : Int)).toNat] : Array UInt8) = [105, UInt8.ofNat (1 + (k : Int)).toNat].toArray := rfl
  rw [eP] at cP
  generalize [105, UInt8.ofNat (1 + (k : Int)).toNat] = lp at *
  have HN := Lib.hid cN
  have HU := Lib.hid cU
  have HP := Lib.hid cP
  have HT := Lib.hid cT
  have GG : Hid (Tm.Good 1 12 ln ∧ Tm.Good 1 12 lu ∧ Tm.Good 1 12 lp ∧ Tm.Good 1 12 lt) := ⟨gN, gU, gP, gT⟩
  have k1 : (0 : Int) ≤ (m : Int) := by omega
  have k2 : (m : Int) ≤ 9223372036854775807 := by split at hm <;> omega
  have k3 : (0 : Int) ≤ (k : Int) := by omega
  have k4 : (k : Int) < 5 := by omega
  have k5 : (0 : Int) ≤ (q : Int) := by omega
  have k6 : (q : Int) ≤ 2 := by omega
  clear cN cU cP cT gN gU gP gT eP hk hr hq
  have hcc : (c < 0 ∧ c = -(m : Int) - 1) ∨ (¬ c < 0 ∧ c = (m : Int)) := by
    by_cases hc : c < 0
    · rw [if_pos hc] at hm; exact .inl ⟨hc, by omega⟩
    · rw [if_neg hc] at hm; exact .inr ⟨hc, hm⟩
  clear hm
  rcases hcc with ⟨hc, rfl⟩ | ⟨hc, rfl⟩
  all_goals
    match r, hr6 with
    | 0, _ =>
      go_enter Try.func38, Try.ntmps38
      go_wp2_with fail
      refine (HN.out _).mono ?_
      rintro e' w' ⟨rfl, hbw⟩
      go_wp2
      go_ret
      exact ⟨ln, rfl, GG.out.1, hbw⟩
    | 1, _ =>
      go_enter Try.func38, Try.ntmps38
      go_wp2_with fail
      refine (HN.out _).mono ?_
      rintro e' w' ⟨rfl, hbw⟩
      go_wp2
      go_ret
      exact ⟨ln, rfl, GG.out.1, hbw⟩
    | 2, _ =>
      go_enter Try.func38, Try.ntmps38
      go_wp2_with fail
      refine (HU.out _).mono ?_
      rintro e' w' ⟨rfl, hbw⟩
      go_wp2
      go_ret
      exact ⟨lu, rfl, GG.out.2.1, hbw⟩
    | 3, _ =>
      go_enter Try.func38, Try.ntmps38
      go_wp2_with fail
      refine (HP.out _).mono ?_
      rintro e' w' ⟨rfl, hbw⟩
      go_wp2
      go_ret
      exact ⟨lp, rfl, GG.out.2.2.1, hbw⟩
    | 4, _ =>
      go_enter Try.func38, Try.ntmps38
      go_wp2_with fail
      refine (HT.out _).mono ?_
      rintro e' w' ⟨rfl, hbw⟩
      go_wp2
      go_ret
      exact ⟨lt, rfl, GG.out.2.2.2, hbw⟩
    | 5, _ =>
      go_enter Try.func38, Try.ntmps38
      go_wp2_with fail
      refine (Gen_calls _).mono ?_
      rintro e' w' ⟨rfl, hbw⟩
      go_wp2
      go_ret
      exact ⟨[103], rfl, Tm.good_gen, hbw⟩
    | r + 6, h => omega

end Go.Proofs.Ytloheongiceliaa.L3
