/- Contracts of parts.Open and parts.Check, for every text. -/
import Derived.Test.YtiodphkmllcjdaaGreatPartsFns
namespace Go.Proofs.YtiodphkmllcjdaaGreat
open Go.ChangeShapes Go.WideShapes Go.ChangeAt Go.RowKit

set_option maxRecDepth 100000 in
set_option maxHeartbeats 1000000 in
theorem Check_calls (s : ByteArray) (p : Int) (hs : s.size ≤ maxLen) (w : World) :
    Calls Tryz.prog 32 #[.string s, .int .i64 p] w (One w (.tuple #[.string ⟨(Tm.checkT s.data.toList p).1.toArray⟩, .int .i64 (Tm.checkT s.data.toList p).2])) := by
  have HK := Lib.hid (fun W => Kind_calls s hs W)
  obtain ⟨r, hr⟩ : ∃ r, Tm.checkT s.data.toList p = r := ⟨_, rfl⟩
  rw [hr]
  unfold Tm.checkT at hr
  by_cases hk : Tm.kindOf s.data.toList = 120
  · rw [if_neg (by simp [hk])] at hr
    obtain ⟨k1, k2⟩ := Tm.kind_right hk (by decide)
    obtain ⟨x, y, hxy⟩ := Tm.sign_parts k1 k2
    have cO := fun W => Of_right s k1 W
    rw [hxy] at hr cO
    have HO := Lib.hid cO
    have g1 : (((Tm.kindOf s.data.toList).toNat : Int) != 120) = false := kind_yes (n := 120) (by omega) hk
    generalize Tm.kindOf s.data.toList = c at *
    clear hk k1 k2 cO hxy
    simp only [List.getD_cons_zero, List.getD_cons_succ] at hr
    by_cases hp : p < 1 ∨ 8 < p
    · rw [if_pos hp] at hr
      subst hr
      have HP := Lib.hid (fun W => Private_no_calls p hp W)
      clear hp
      go_enter Tryz.func32, Tryz.ntmps32
      go_wp2_with fail
      refine (HK.out _).mono ?_
      rintro e' w1 ⟨rfl, b1⟩
      go_wp2_with fail
      refine (HP.out _).mono ?_
      rintro e' w2 ⟨rfl, b2⟩
      have B := b1.trans (b2.mono b1.size)
      go_wp2
      go_ret2
      exact ⟨rfl, B⟩
    · rw [if_neg hp] at hr
      have cP := fun W => Private_calls p (by omega) (by omega) W
      have eP : (#[105, UInt8.ofNat p.toNat] : Array UInt8) = [105, UInt8.ofNat p.toNat].toArray := rfl
      rw [eP] at cP
      obtain ⟨q, hq⟩ : ∃ q, [105, UInt8.ofNat p.toNat] = q := ⟨_, rfl⟩
      rw [hq] at cP hr
      have HP := Lib.hid cP
      clear cP eP hq hp
      by_cases hx : x = q
      · subst hx
        rw [if_neg (by simp)] at hr
        subst hr
        have q1 : (x == x) = true := by simp
        go_enter Tryz.func32, Tryz.ntmps32
        go_wp2_with fail
        refine (HK.out _).mono ?_
        rintro e' w1 ⟨rfl, b1⟩
        go_wp2_with fail
        refine (HP.out _).mono ?_
        rintro e' w2 ⟨rfl, b2⟩
        go_wp2_with fail
        refine (HO.out _).mono ?_
        rintro e' w3 ⟨v, rfl, hrow, _, b3⟩
        obtain ⟨g, cap, rfl, hT, _⟩ := row_slice hrow (by simp)
        have t0 := hT 0 x rfl
        have t1 := hT 1 y rfl
        have B := b1.trans (b2.mono b1.size)
        replace B := B.trans (b3.mono B.size)
        clear hrow hT b1 b2 b3
        go_wp2
        go_ret2
        exact ⟨rfl, B⟩
      · rw [if_pos hx] at hr
        subst hr
        have q1 : (x == q) = false := by simpa using hx
        clear hx
        go_enter Tryz.func32, Tryz.ntmps32
        go_wp2_with fail
        refine (HK.out _).mono ?_
        rintro e' w1 ⟨rfl, b1⟩
        go_wp2_with fail
        refine (HP.out _).mono ?_
        rintro e' w2 ⟨rfl, b2⟩
        go_wp2_with fail
        refine (HO.out _).mono ?_
        rintro e' w3 ⟨v, rfl, hrow, _, b3⟩
        obtain ⟨g, cap, rfl, hT, _⟩ := row_slice hrow (by simp)
        have t0 := hT 0 x rfl
        have B := b1.trans (b2.mono b1.size)
        replace B := B.trans (b3.mono B.size)
        clear hrow hT b1 b2 b3
        go_wp2
        go_ret2
        exact ⟨rfl, B⟩
  · rw [if_pos hk] at hr
    subst hr
    have g1 : (((Tm.kindOf s.data.toList).toNat : Int) != 120) = true := kind_no (n := 120) (by omega) hk
    generalize Tm.kindOf s.data.toList = c at *
    clear hk
    go_enter Tryz.func32, Tryz.ntmps32
    go_wp2_with fail
    refine (HK.out _).mono ?_
    rintro e' w1 ⟨rfl, b1⟩
    go_wp2
    go_ret2
    exact ⟨rfl, b1⟩

end Go.Proofs.YtiodphkmllcjdaaGreat
