/- Contracts of the statements' own shown and same (of chapter 2); what is told of terms that were put together. -/
import Derived.Test.YtanfhnpnpdecnaaPartsFns
import Derived.Test.YtanfhnpnpdecnaaHelpK2
namespace Go.Proofs.Ytanfhnpnpdecnaa
open Go.ChangeShapes Go.WideShapes Go.ChangeAt Go.RowKit

namespace Tm
theorem fine_pair {a b : List UInt8} (ha : Good 41 600 a) (hb : Good 41 600 b) : Good 42 20000 (112 :: (a ++ b)) :=
  (good_pair (k := 41) (by have := put_fine (hd := [112]) (ps := [a, b]) (by simp) (by simp) (by intro p hp; simp at hp; rcases hp with rfl | rfl <;> assumption); simpa using this) ha.2.1 hb.2.1).2.2
theorem fine_sign {a b : List UInt8} (ha : Good 41 600 a) (hb : Good 41 600 b) : Good 42 20000 (120 :: (a ++ b)) :=
  (good_sign (k := 41) (by have := put_fine (hd := [120]) (ps := [a, b]) (by simp) (by simp) (by intro p hp; simp at hp; rcases hp with rfl | rfl <;> assumption); simpa using this) ha.2.1 hb.2.1).2.2
theorem fine_hash {a : List UInt8} (ha : Good 41 600 a) : Good 42 20000 (104 :: a) :=
  (good_hash (k := 41) (by have := put_fine (hd := [104]) (ps := [a]) (by simp) (by simp) (by intro p hp; simp at hp; subst hp; assumption); simpa using this) ha.2.1).2.2
theorem fine_three {a b c : List UInt8} (ha : Good 41 600 a) (hb : Good 41 600 b) (hc : Good 41 600 c) : Good 42 20000 (115 :: (a ++ (b ++ c))) :=
  (good_seal3 (k := 41) (by have := put_fine (hd := [115]) (ps := [a, b, c]) (by simp) (by simp) (by intro p hp; simp at hp; rcases hp with rfl | rfl | rfl <;> assumption); simpa using this) ha.2.1 hb.2.1 hc.2.1).2
theorem Good.right {k m : Nat} {l : List UInt8} (h : Good k m l) : Tm.right l = true := (right_iff l).2 h.1
theorem Good.kind {k m : Nat} {l : List UInt8} (h : Good k m l) : kindOf l = l.getD 0 0 := by unfold kindOf; rw [if_pos h.right]
theorem openT_yes {a b c : List UInt8} (ha : Good 41 600 a) (hb : Good 41 600 b) (hc : Good 41 600 c) : openT (115 :: (a ++ (b ++ c))) a = (b, c, 0) := by
  have h := fine_three ha hb hc
  unfold openT
  rw [h.kind, ofL_three ha.1 hb.1 hc.1]
  simp
theorem openT_no {a b c k : List UInt8} (ha : Good 41 600 a) (hb : Good 41 600 b) (hc : Good 41 600 c) (hk : a ≠ k) : openT (115 :: (a ++ (b ++ c))) k = ([], [], 6) := by
  have h := fine_three ha hb hc
  unfold openT
  rw [h.kind, ofL_three ha.1 hb.1 hc.1]
  simp [hk]
theorem private_inj {p q : Int} (hp : 1 ≤ p) (hp8 : p ≤ 8) (hq : 1 ≤ q) (hq8 : q ≤ 8) (h : ([105, UInt8.ofNat p.toNat] : List UInt8) = [105, UInt8.ofNat q.toNat]) : p = q := by
  simp only [List.cons.injEq, and_true, true_and] at h
  have h2 := congrArg UInt8.toNat h
  rw [UInt8.toNat_ofNat', UInt8.toNat_ofNat'] at h2
  omega
theorem checkT_yes {a : List UInt8} (p : Int) (hp : 1 ≤ p) (hp8 : p ≤ 8) (ha : Good 41 600 a) : checkT (120 :: ([105, UInt8.ofNat p.toNat] ++ a)) p = (a, 0) := by
  have hg := (good_private p.toNat (by omega) (by omega)).mono (k' := 41) (m' := 600) (by omega) (by omega)
  have h := fine_sign hg ha
  unfold checkT
  rw [h.kind, ofL_sign hg.1 ha.1, if_neg (by simp), if_neg (by omega)]
  simp
theorem checkT_no {a : List UInt8} (p q : Int) (hp : 1 ≤ p) (hp8 : p ≤ 8) (ha : Good 41 600 a) (hpq : p ≠ q) : checkT (120 :: ([105, UInt8.ofNat p.toNat] ++ a)) q = ([], 6) := by
  have hg := (good_private p.toNat (by omega) (by omega)).mono (k' := 41) (m' := 600) (by omega) (by omega)
  have h := fine_sign hg ha
  unfold checkT
  rw [h.kind, ofL_sign hg.1 ha.1, if_neg (by simp)]
  by_cases hq : q < 1 ∨ 8 < q
  · rw [if_pos hq]
  · rw [if_neg hq, if_pos]
    intro h2
    exact hpq (private_inj hp hp8 (by omega) (by omega) h2)
end Tm

namespace L2

set_option maxRecDepth 100000 in
set_option maxHeartbeats 1000000 in
theorem shown_calls (w : World) : Calls Try.prog 9 #[] w (One w (.bool true)) := by
  have g1 := Tm.good_gen.mono (k' := 41) (m' := 600) (by omega) (by omega)
  have g2' := Tm.good_hash (k := 1) (a := [103]) (l := [104, 103]) (by have := Tm.put_fine (hd := [104]) (ps := [[103]]) (by simp) (by simp) (by intro p hp; simp at hp; subst hp; exact g1); simpa using this) Tm.good_gen.2.1
  have g2 : Tm.Good 41 600 [104, 103] := ⟨g2'.2.2.1, by have := g2'.2.2.2.1; omega, by simp⟩
  have g3 := Tm.fine_pair g1 g2
  have e3 : Tm.ofL (112 :: ([103] ++ [104, 103])) = [[103], [104, 103]] := Tm.ofL_pair g1.1 g2.1
  have cO := fun W => Of_right ⟨#[112, 103, 104, 103]⟩ g3.right W
  have e4 : (⟨#[112, 103, 104, 103]⟩ : ByteArray).data.toList = 112 :: ([103] ++ [104, 103]) := rfl
  rw [e4, e3] at cO
  have HO := Lib.hid cO
  clear cO e3 e4 g1 g2 g2' g3
  go_enter Try.func9, Try.ntmps9
  go_wp2_with fail
  refine (HO.out _).mono ?_
  rintro e' w2 ⟨v, rfl, hrow, _, b2⟩
  obtain ⟨g, cap, rfl, hT, _⟩ := row_slice hrow (by simp)
  have t0 := hT 0 [103] rfl
  have t1 := hT 1 [104, 103] rfl
  clear hrow hT
  go_wp2
  go_ret
  exact ⟨rfl, b2⟩

theorem same_nil (A B : Option Addr) (c d : Nat) (w : World) : Calls Try.prog 16 #[.slice A 0 c, .slice B 0 d] w (One w (.bool true)) := by
  go_enter Try.func16, Try.ntmps16
  go_wp2
  refine wp_loop_rounds 1 ?_
  rw [rounds_succ]
  go_wp2
  go_ret
  exact ⟨rfl, Below.refl _ _⟩

def Comparing (w : World) (n k : Nat) (v5 : Value) (wr : World) : Prop := ∃ i : Nat, k + i = n ∧ v5 = .int .i64 i ∧ ∃ m, wr = w.drewN m

set_option maxRecDepth 100000 in
set_option maxHeartbeats 1000000 in
theorem same_row (ps : List (List UInt8)) (g h c d : Nat) (w : World) (hn : ps.length ≤ 100000) (hg : Texts w g ps) (hh : Texts w h ps) :
    Calls Try.prog 16 #[.slice (some ⟨g, 0, none⟩) ps.length c, .slice (some ⟨h, 0, none⟩) ps.length d] w (One w (.bool true)) := by
  have HG := Lib.hid hg
  have HH := Lib.hid hh
  clear hg hh
  have i0 : ((ps.length : Int) != (ps.length : Int)) = false := by simp
  go_enter Try.func16, Try.ntmps16
  go_wp2
  go_loopg [5] ps.length (fun k v5 wr => Comparing w ps.length k v5 wr)
  case atStart => exact ⟨0, by omega, rfl, 0, rfl⟩
  case round =>
    obtain ⟨i, hk, rfl, m, rfl⟩ := hrel
    by_cases hi : i < ps.length
    · obtain ⟨x, hx⟩ : ∃ x, ps[i]? = some x := ⟨_, List.getElem?_eq_getElem hi⟩
      have c1 := HG.out i x hx
      have c2 := HH.out i x hx
      have j1 : (i : Int) < (ps.length : Int) := by omega
      have j2 : (0 : Int) ≤ (i : Int) := by omega
      have q1 : (x == x) = true := by simp
      clear hx
      go_wp2
      go_quiet (fail)
      go_wp2
      go_roundg (gk - 1)
      case measure => omega
      case rel => exact ⟨i + 1, by omega, rfl, _, rfl⟩
    · obtain rfl : i = ps.length := by omega
      have j1 : ¬ ((ps.length : Int) < (ps.length : Int)) := by omega
      go_wp2
      go_ret
      exact ⟨rfl, below_drewN (Below.refl _ _) _⟩

end L2
end Go.Proofs.Ytanfhnpnpdecnaa
