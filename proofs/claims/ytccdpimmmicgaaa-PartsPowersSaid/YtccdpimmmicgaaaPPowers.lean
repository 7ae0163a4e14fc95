/- The law PartsPowers: for all steps and places it returns true. -/
import Derived.Test.YtccdpimmmicgaaaPBack
import Derived.Test.YtccdpimmmicgaaaPow
namespace Go.Proofs.Ytccdpimmmicgaaa
open Go.ChangeShapes Go.WideShapes Go.ChangeAt Go.RowKit

namespace Tm
theorem chain_at : ∀ (xs : List (List UInt8)) (ah : List UInt8), chain ah xs → ∀ n x y, xs[n]? = some y → xs[n + 1]? = some x → less x y = false := by
  intro xs
  induction xs with
  | nil => intro ah _ n x y h; simp at h
  | cons p ps ih =>
    intro ah hc n x y h1 h2
    cases n with
    | zero =>
      simp only [List.getElem?_cons_zero, Option.some.injEq] at h1
      subst h1
      cases ps with
      | nil => simp at h2
      | cons q qs =>
        simp only [List.getElem?_cons_succ, List.getElem?_cons_zero, Option.some.injEq] at h2
        subst h2
        exact hc.2.1
    | succ n =>
      simp only [List.getElem?_cons_succ] at h1 h2
      exact ih p hc.2 n x y h1 h2
/-- How far the two rows have been gone through. -/
def Match (old now : List (List UInt8)) (b : List UInt8) (n k : Nat) (met : Bool) : Prop :=
  (met = false ∧ k = n ∧ ∃ pre post, old.drop n = pre ++ post ∧ now.drop n = pre ++ b :: post) ∨ (met = true ∧ k + 1 = n ∧ now.drop n = old.drop k)
theorem getElem?_of_drop {α : Type} {l : List α} {n : Nat} {x : α} {r : List α} (h : l.drop n = x :: r) : l[n]? = some x ∧ l.drop (n + 1) = r := by
  have h1 : (l.drop n)[0]? = some x := by rw [h]; rfl
  rw [List.getElem?_drop] at h1
  refine ⟨by simpa using h1, ?_⟩
  rw [← List.drop_drop, h]; rfl
/-- One round: the two rows' next ones are one, or the new one stands there. -/
theorem Match.step {old now : List (List UInt8)} {b : List UInt8} {n k : Nat} {met : Bool} (h : Match old now b n k met) {x : List UInt8} (hx : now[n]? = some x) :
    (old[k]? = some x ∧ Match old now b (n + 1) (k + 1) met) ∨ ((∀ y, old[k]? = some y → y ≠ x) ∧ x = b ∧ met = false ∧ Match old now b (n + 1) k true) := by
  rcases h with ⟨rfl, rfl, pre, post, h1, h2⟩ | ⟨rfl, rfl, h2⟩
  · cases pre with
    | cons p pre =>
      obtain ⟨a1, a2⟩ := getElem?_of_drop h1
      obtain ⟨b1, b2⟩ := getElem?_of_drop h2
      rw [hx] at b1
      simp only [Option.some.injEq] at b1
      subst b1
      exact .inl ⟨a1, .inl ⟨rfl, rfl, pre, post, a2, b2⟩⟩
    | nil =>
      obtain ⟨b1, b2⟩ := getElem?_of_drop (by simpa using h2)
      rw [hx] at b1
      simp only [Option.some.injEq] at b1
      subst b1
      cases post with
      | nil =>
        right
        refine ⟨fun y hy => ?_, rfl, rfl, .inr ⟨rfl, rfl, by rw [b2]; simpa using h1.symm⟩⟩
        have : (old.drop k)[0]? = none := by rw [h1]; rfl
        rw [List.getElem?_drop] at this
        simp only [Nat.add_zero] at this
        rw [this] at hy; cases hy
      | cons y post =>
        obtain ⟨a1, a2⟩ := getElem?_of_drop (by simpa using h1)
        by_cases hyx : y = x
        · subst hyx
          exact .inl ⟨a1, .inl ⟨rfl, rfl, [], post, a2, by rw [b2]; rfl⟩⟩
        · right
          refine ⟨fun z hz => ?_, rfl, rfl, .inr ⟨rfl, rfl, by rw [b2]; simpa using h1.symm⟩⟩
          rw [a1] at hz
          simp only [Option.some.injEq] at hz
          subst hz
          exact hyx
  · have hlt : k + 1 < now.length := (List.getElem?_eq_some_iff.1 hx).1
    have e : now.drop (k + 1) = x :: now.drop (k + 1 + 1) := by
      rw [List.drop_eq_getElem_cons hlt]
      congr 1
      exact (List.getElem?_eq_some_iff.1 hx).2
    rw [e] at h2
    obtain ⟨a1, a2⟩ := getElem?_of_drop h2.symm
    exact .inl ⟨a1, .inr ⟨rfl, rfl, a2.symm⟩⟩
theorem Match.last {old now : List (List UInt8)} {b : List UInt8} {k : Nat} {met : Bool} (h : Match old now b now.length k met) (hk : k ≤ old.length) : met = true ∧ k = old.length := by
  rcases h with ⟨rfl, rfl, pre, post, h1, h2⟩ | ⟨rfl, h1, h2⟩
  · rw [List.drop_length] at h2
    have := congrArg List.length h2
    simp at this
  · rw [List.drop_length] at h2
    have := congrArg List.length h2
    simp at this
    exact ⟨rfl, by omega⟩
end Tm

namespace L2
def Matching (old now : List (List UInt8)) (b : List UInt8) (V : World) (K : Nat) (v16 v17 v18 : Value) (wr : World) : Prop :=
  ∃ (n k : Nat) (met : Bool), K + n = now.length ∧ v18 = .int .i64 n ∧ v16 = .int .i64 k ∧ v17 = .bool met ∧ Tm.Match old now b n k met ∧ k ≤ old.length ∧ ∃ m, wr = V.drewN m

/-- A row, empty or not, as a slice. -/
theorem row_any {w : World} {B : Nat} {v : Value} {ps : List (List UInt8)} (h : w.ownsRow B 23 1 v ps.length (strs ps)) :
    ∃ A c, v = .slice A ps.length c ∧ ∀ j x, ps[j]? = some x → ∃ g, A = some ⟨g, 0, none⟩ ∧ w.cell? ⟨g, j, none⟩ = some (.string ⟨x.toArray⟩) := by
  by_cases hp : ps = []
  · subst hp
    rcases h.2 with ⟨rfl, _⟩ | ⟨g, cap, cur, rfl, _⟩
    · exact ⟨none, 0, rfl, fun j x hx => by simp at hx⟩
    · exact ⟨_, cap, rfl, fun j x hx => by simp at hx⟩
  · obtain ⟨g, cap, rfl, hT, _⟩ := row_slice h hp
    exact ⟨_, cap, rfl, fun j x hx => ⟨g, rfl, hT j x hx⟩⟩

set_option maxRecDepth 100000 in
set_option maxHeartbeats 40000000 in
theorem powers_all (A : Option Addr) (n c : Nat) (i j : Int) (w : World) (hS : Steps w A n) (hnc : n ≤ maxLen) (ri : isInt i) (rj : isInt j) :
    Calls Try.prog 11 #[.slice A n c, .int .i64 i, .int .i64 j] w (One w (.bool true)) := by
  have HS := Lib.hid shown_calls
  have HSt := Lib.hid hS
  have HNC := Lib.hid hnc
  have HR := Lib.hid (And.intro ri rj)
  clear hS hnc ri rj
  go_enter Try.func11, Try.ntmps11
  go_wp2_with fail
  refine (HS.out _).mono ?_
  rintro e' w0 ⟨rfl, B0⟩
  have HM := Lib.hid (made_calls A n c w0 (steps_below HSt.out B0) HNC.out)
  go_wp2_with fail
  refine HM.out.mono ?_
  rintro e' w1 ⟨g, cap, ts, rfl, hrow, hlen, hgood, hb1⟩
  have B := B0.trans (hb1.mono B0.size)
  have h42 : ts.length ≤ 42 := by omega
  have h22 : 2 ≤ ts.length := by omega
  obtain ⟨pa, a, cPa, la, ca, Ga⟩ := pick_at hrow h22 h42 hgood HR.out.1
  obtain ⟨pb, b, cPb, lb, cb, Gb⟩ := pick_at hrow h22 h42 hgood HR.out.2
  have HPa := Lib.hid cPa
  have HPb := Lib.hid cPb
  have ja : (0 : Int) ≤ (pa : Int) := by omega
  have jb : (0 : Int) ≤ (pb : Int) := by omega
  have HP := Lib.hid (fun W => pow_at Ga.right Gb.right W)
  have cK := fun W => kind_at Ga (by omega) W
  have HOa := Lib.hid (fun W => of_at Ga W)
  have hne := (Tm.right_ne_nil Ga.right).1
  have hel := Tm.element_iff hne
  have hol : (Tm.ofL a).length ≤ 32 := by rw [(Tm.ofL_ok Ga.right).2.2.1]; exact (Tm.begin_le _).2
  generalize a.getD 0 0 = kc at *
  have HK := Lib.hid cK
  clear hrow hgood hlen hb1 cPa cPb HM HSt HNC HS B0 Ga Gb cK hne
  go_wp2_with fail
  refine HPa.out.mono ?_
  rintro e' w' ⟨rfl, rfl⟩
  go_wp2_with fail
  refine HPb.out.mono ?_
  rintro e' w' ⟨rfl, rfl⟩
  clear HPa HPb
  go_wp2_with fail
  refine (HP.out _).mono ?_
  rintro e' w2 ⟨l, en, rfl, b2, hcase⟩
  replace B := B.trans (b2.mono B.size)
  clear b2 ca cb
  go_wp2_with fail
  refine (HK.out _).mono ?_
  rintro e' w3 ⟨rfl, b3⟩
  replace B := B.trans (b3.mono B.size)
  clear b3
  rcases hcase with ⟨h1, rfl, rfl⟩ | ⟨h1, h2, rfl⟩ | ⟨h1, rfl, hfact⟩
  · have hk1 : ¬ kc = 103 := fun h => by rw [hel.2 (.inl h)] at h1; cases h1
    have hk2 : ¬ kc = 101 := fun h => by rw [hel.2 (.inr h)] at h1; cases h1
    have g1 : ((kc.toNat : Int) != 103) = true := kind_no (n := 103) (by omega) hk1
    have g2 : ((kc.toNat : Int) != 101) = true := kind_no (n := 101) (by omega) hk2
    clear hel
    go_wp2
    go_ret
    exact ⟨rfl, B⟩
  · have hg : ((kc.toNat : Int) != 103) = false ∨ (((kc.toNat : Int) != 103) = true ∧ ((kc.toNat : Int) != 101) = false) := by
      rcases hel.1 h1 with h | h
      · exact .inl (kind_yes (n := 103) (by omega) h)
      · exact .inr ⟨kind_no (n := 103) (by omega) (by rw [h]; decide), kind_yes (n := 101) (by omega) h⟩
    clear hel
    rcases h2 with rfl | rfl <;> rcases hg with g1 | ⟨g1, g2⟩
    all_goals
      go_wp2
      go_ret
      exact ⟨rfl, B⟩
  · have hg : ((kc.toNat : Int) != 103) = false ∨ (((kc.toNat : Int) != 103) = true ∧ ((kc.toNat : Int) != 101) = false) := by
      rcases hel.1 h1 with h | h
      · exact .inl (kind_yes (n := 103) (by omega) h)
      · exact .inr ⟨kind_no (n := 103) (by omega) (by rw [h]; decide), kind_yes (n := 101) (by omega) h⟩
    obtain ⟨ix, f1, f2, f3, f4, f5⟩ := hfact
    have cOl := fun W => Of_right ⟨l.toArray⟩ (by simpa using f4) W
    have el : (⟨l.toArray⟩ : ByteArray).data.toList = l := by simp
    rw [el] at cOl
    have hstart : Tm.Match (Tm.ofL a) (Tm.ofL l) b 0 0 false := .inl ⟨rfl, rfl, (Tm.ofL a).take ix, (Tm.ofL a).drop ix, by simp, by rw [f2]; rfl⟩
    have hlen2 : (Tm.ofL l).length = (Tm.ofL a).length + 1 := by rw [f2]; exact Tm.ins_length _ _ _ f1
    have hsorted := Tm.chain_at _ _ f3
    generalize Tm.ofL l = now at *
    generalize Tm.ofL a = old at *
    have HOl := Lib.hid cOl
    have HSo := Lib.hid hsorted
    have HSt2 := Lib.hid hstart
    have z1 : ((now.length : Int) != (old.length : Int) + 1) = false := by simp; omega
    clear hel h1 f1 f2 f3 f4 f5 cOl el hsorted hstart
    rcases hg with g1 | ⟨g1, g2⟩
    all_goals
      go_wp2_with fail
      refine (HOa.out _).mono ?_
      rintro e' w4 ⟨v4, rfl, hrow4, hnil4, b4⟩
      replace B := B.trans (b4.mono B.size)
      go_wp2_with fail
      refine (HOl.out _).mono ?_
      rintro e' w5 ⟨v5, rfl, hrow5, hnil5, b5⟩
      replace B := B.trans (b5.mono B.size)
      obtain ⟨A4, c4, rfl, hA4⟩ := row_any (ownsRow_below hrow4 b5)
      obtain ⟨g5, c5, rfl, hT5, _⟩ := row_slice hrow5 (fun h => by rw [h] at hlen2; simp at hlen2)
      have HT5 := Lib.hid hT5
      have HA4 := Lib.hid hA4
      have HL2 := Lib.hid hlen2
      clear hrow4 hrow5 hnil4 hnil5 b4 b5 hT5 hA4
      have n33 : now.length ≤ 33 := by omega
      clear hlen2
      go_wp2
      go_loopg [16, 17, 18] now.length (fun K v16 v17 v18 wr => Matching old now b w5 K v16 v17 v18 wr)
      case atStart => exact ⟨0, 0, false, by omega, rfl, rfl, rfl, HSt2.out, Nat.zero_le _, 0, rfl⟩
      case round =>
        obtain ⟨n, k, met, hK, rfl, rfl, rfl, hM, hk, m, rfl⟩ := hrel
        by_cases hn : n < now.length
        · obtain ⟨x, hx⟩ : ∃ x, now[n]? = some x := ⟨_, List.getElem?_eq_getElem hn⟩
          have cx := HT5.out n x hx
          have j1 : (n : Int) < (now.length : Int) := by omega
          have j2 : (0 : Int) ≤ (n : Int) := by omega
          have j3 : (0 : Int) ≤ (k : Int) := by omega
          have xx : (x == x) = true := by simp
          have hstep := hM.step hx
          have hprev : n = 0 ∨ ∃ n' y, n = n' + 1 ∧ w5.cell? ⟨g5, n', none⟩ = some (.string ⟨y.toArray⟩) ∧ Op.bytesLess x y = false := by
            cases n with
            | zero => exact .inl rfl
            | succ n' =>
              obtain ⟨y, hy⟩ : ∃ y, now[n']? = some y := ⟨_, List.getElem?_eq_getElem (by omega)⟩
              exact .inr ⟨n', y, rfl, HT5.out n' y hy, HSo.out n' x y hy hx⟩
          clear hM hx
          rcases hstep with ⟨s1, s2⟩ | ⟨s1, rfl, rfl, s3⟩
          · obtain ⟨g4, rfl, c4x⟩ := HA4.out k x s1
            have hkl : k < old.length := (List.getElem?_eq_some_iff.1 s1).1
            have l1 : (k : Int) < (old.length : Int) := by omega
            have S2 := Lib.hid s2
            clear s1 s2
            rcases hprev with rfl | ⟨n', y, rfl, cy, q1⟩
            · go_wp2
              go_quiet (fail)
              go_wp2
              go_quiet (fail)
              go_wp2
              go_roundg (gk - 1)
              case measure => omega
              case rel => exact ⟨0 + 1, k + 1, met, by omega, rfl, rfl, rfl, S2.out, by omega, _, rfl⟩
            · have p1 : (0 : Int) ≤ (n' : Int) := by omega
              have p2 : (n' : Int) < (now.length : Int) := by omega
              have p3 : (n' : Int) + 1 < (now.length : Int) := by omega
              have p4 : (0 : Int) < (n' : Int) + 1 := by omega
              go_wp2
              go_quiet (fail)
              go_wp2
              go_quiet (fail)
              go_wp2
              go_roundg (gk - 1)
              case measure => omega
              case rel => exact ⟨n' + 1 + 1, k + 1, met, by omega, rfl, rfl, rfl, S2.out, by omega, _, rfl⟩
          · have S3 := Lib.hid s3
            by_cases hkl : k < old.length
            · obtain ⟨y, hy⟩ : ∃ y, old[k]? = some y := ⟨_, List.getElem?_eq_getElem hkl⟩
              have hyx := s1 y hy
              have q2 : (x == y) = false := by simpa using fun h : x = y => hyx h.symm
              obtain ⟨g4, rfl, c4x⟩ := HA4.out k y hy
              have l1 : (k : Int) < (old.length : Int) := by omega
              clear s1 s3 hyx hy
              rcases hprev with rfl | ⟨n', z, rfl, cy, q1⟩
              · go_wp2
                go_quiet (fail)
                go_wp2
                go_quiet (fail)
                go_wp2
                go_roundg (gk - 1)
                case measure => omega
                case rel => exact ⟨0 + 1, k, true, by omega, rfl, rfl, rfl, S3.out, by omega, _, rfl⟩
              · have p1 : (0 : Int) ≤ (n' : Int) := by omega
                have p2 : (n' : Int) < (now.length : Int) := by omega
                have p3 : (n' : Int) + 1 < (now.length : Int) := by omega
                have p4 : (0 : Int) < (n' : Int) + 1 := by omega
                go_wp2
                go_quiet (fail)
                go_wp2
                go_quiet (fail)
                go_wp2
                go_roundg (gk - 1)
                case measure => omega
                case rel => exact ⟨n' + 1 + 1, k, true, by omega, rfl, rfl, rfl, S3.out, by omega, _, rfl⟩
            · have l1 : decide ((k : Int) < (old.length : Int)) = false := by simp; omega
              clear s1 s3
              rcases hprev with rfl | ⟨n', z, rfl, cy, q1⟩
              · go_wp2
                go_quiet (fail)
                go_wp2
                go_quiet (fail)
                go_wp2
                go_roundg (gk - 1)
                case measure => omega
                case rel => exact ⟨0 + 1, k, true, by omega, rfl, rfl, rfl, S3.out, by omega, _, rfl⟩
              · have p1 : (0 : Int) ≤ (n' : Int) := by omega
                have p2 : (n' : Int) < (now.length : Int) := by omega
                have p3 : (n' : Int) + 1 < (now.length : Int) := by omega
                have p4 : (0 : Int) < (n' : Int) + 1 := by omega
                go_wp2
                go_quiet (fail)
                go_wp2
                go_quiet (fail)
                go_wp2
                go_roundg (gk - 1)
                case measure => omega
                case rel => exact ⟨n' + 1 + 1, k, true, by omega, rfl, rfl, rfl, S3.out, by omega, _, rfl⟩
        · obtain rfl : n = now.length := by omega
          obtain ⟨rfl, rfl⟩ := hM.last hk
          have j1 : ¬ ((now.length : Int) < (now.length : Int)) := by omega
          clear hM
          go_wp2
          go_ret
          exact ⟨by simp, below_drewN B _⟩

end L2
end Go.Proofs.Ytccdpimmmicgaaa
