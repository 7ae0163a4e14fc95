/- The law PartsValues: for all numbers, texts, steps and places it returns true. -/
import Derived.Test.YtccdpimmmicgaaaPBack
import Derived.Test.YtccdpimmmicgaaaValue
namespace Go.Proofs.Ytccdpimmmicgaaa
open Go.ChangeShapes Go.WideShapes Go.ChangeAt Go.RowKit

namespace Tm
theorem beNum_be8 (n : Nat) (h : n < 18446744073709551616) : beNum (be8 n) = n := by
  simp only [beNum, be8, List.foldl_cons, List.foldl_nil, UInt8.toNat_ofNat', Nat.reducePow, Nat.div_one, Nat.zero_mul, Nat.zero_add]
  omega

def KF (c : UInt8) (k1 k2 k3 k4 k5 : Bool) : Prop :=
  ((c.toNat : Int) == 110) = k1 ∧ ((c.toNat : Int) == 117) = k2 ∧ ((c.toNat : Int) == 116) = k3 ∧ ((c.toNat : Int) == 105) = k4 ∧ ((c.toNat : Int) == 103) = k5

/-- What is told of a right term, kind by kind. -/
theorem told {t : List UInt8} (h : right t = true) : ∃ (c : UInt8) (v : Nat) (vb : Bool) (u : List UInt8) (ub : Bool), kindOf t = c ∧ valueT t = (v, vb) ∧ saidT t = (u, ub) ∧
    ((KF c true false false false false ∧ vb = true ∧ ub = false ∧ u = [] ∧ (ofL t).length = 0) ∨ (KF c false true false false false ∧ vb = true ∧ ub = false ∧ u = [] ∧ (ofL t).length = 0) ∨
     (KF c false false true false false ∧ vb = false ∧ v = 0 ∧ ub = true ∧ (ofL t).length = 0) ∨ (KF c false false false true false ∧ vb = false ∧ v = 0 ∧ ub = false ∧ u = [] ∧ (ofL t).length = 0) ∨
     (KF c false false false false true ∧ vb = false ∧ v = 0 ∧ ub = false ∧ u = [] ∧ (ofL t).length = 0) ∨ (KF c false false false false false ∧ vb = false ∧ v = 0 ∧ ub = false ∧ u = [] ∧ 0 < (ofL t).length)) := by
  have hk : kindOf t = t.getD 0 0 := by unfold kindOf; rw [if_pos h]
  obtain ⟨hb, h0⟩ := head_of_right h
  have hne := (right_ne_nil h).1
  have hl := (ofL_ok h).2.2.1
  rw [hb] at hl
  refine ⟨kindOf t, (valueT t).1, (valueT t).2, (saidT t).1, (saidT t).2, rfl, rfl, rfl, ?_⟩
  unfold headOf at h0 hl
  rw [if_neg hne] at h0 hl
  unfold valueT saidT
  rw [hk]
  generalize t.getD 0 0 = c at *
  by_cases c1 : c = 103
  · subst c1
    refine .inr (.inr (.inr (.inr (.inl ⟨⟨rfl, rfl, rfl, rfl, rfl⟩, rfl, rfl, rfl, rfl, ?_⟩))))
    simpa using hl
  rw [if_neg c1] at h0 hl
  by_cases c2 : c = 110 ∨ c = 117
  · rw [if_pos c2] at hl
    rcases c2 with rfl | rfl
    · exact .inl ⟨⟨rfl, rfl, rfl, rfl, rfl⟩, rfl, rfl, rfl, hl⟩
    · exact .inr (.inl ⟨⟨rfl, rfl, rfl, rfl, rfl⟩, rfl, rfl, rfl, hl⟩)
  rw [if_neg c2] at h0 hl
  by_cases c3 : c = 116
  · rw [if_pos c3] at hl
    subst c3
    exact .inr (.inr (.inl ⟨⟨rfl, rfl, rfl, rfl, rfl⟩, rfl, rfl, rfl, hl⟩))
  rw [if_neg c3] at h0 hl
  by_cases c4 : c = 105
  · rw [if_pos c4] at h0 hl
    subst c4
    refine .inr (.inr (.inr (.inl ⟨⟨rfl, rfl, rfl, rfl, rfl⟩, rfl, rfl, rfl, rfl, ?_⟩)))
    split at hl <;> simpa using hl
  rw [if_neg c4] at h0 hl
  have hKF : KF c false false false false false :=
    ⟨u8_no (n := 110) (by omega) (fun e => c2 (.inl e)), u8_no (n := 117) (by omega) (fun e => c2 (.inr e)), u8_no (n := 116) (by omega) c3, u8_no (n := 105) (by omega) c4, u8_no (n := 103) (by omega) c1⟩
  refine .inr (.inr (.inr (.inr (.inr ⟨hKF, ?_, ?_, ?_, ?_, ?_⟩))))
  · rw [if_neg c2]
  · rw [if_neg c2]
  · rw [if_pos c3]
  · rw [if_pos c3]
  · rw [hl]
    by_cases c5 : c = 101
    · rw [if_pos c5] at h0 ⊢
      split at h0
      · rename_i h1; rw [if_pos h1]; simp only; omega
      · exact absurd rfl h0
    rw [if_neg c5] at h0 ⊢
    by_cases c6 : c = 107 ∨ c = 104
    · rw [if_pos c6]; simp
    rw [if_neg c6] at h0 ⊢
    by_cases c7 : c = 112 ∨ c = 120
    · rw [if_pos c7]; simp
    rw [if_neg c7] at h0 ⊢
    by_cases c8 : c = 115
    · rw [if_pos c8]; simp
    · rw [if_neg c8] at h0; exact absurd rfl h0
theorem value_word {k : UInt8} (hk : k = 110 ∨ k = 117) (n : Nat) (h : n < 18446744073709551616) (hg : Good 1 12 (k :: be8 n)) : valueT (k :: be8 n) = (n, true) := by
  unfold valueT
  have e : kindOf (k :: be8 n) = k := hg.kind
  rw [e, if_pos hk]
  simp only [List.drop_one, List.tail_cons]
  rw [beNum_be8 n h]
theorem said_text {s : List UInt8} (h : s.length ≤ 100) : saidT (116 :: 0 :: UInt8.ofNat s.length :: s) = (s, true) := by
  have h1 := text_parse s h
  have hr := right_of_parse (p := 116 :: 0 :: UInt8.ofNat s.length :: s) (d := 1) (by simpa using h1) (by simp; omega)
  unfold saidT kindOf
  rw [if_pos hr, if_neg (by simp)]
  rfl
end Tm

namespace L2
theorem value_at {l : List UInt8} (hl : l.length ≤ 20000) (W : World) : Calls Try.prog 30 #[.string ⟨l.toArray⟩] W (One W (.tuple #[.int .u64 (Tm.valueT l).1, .bool (Tm.valueT l).2])) := by
  have := Value_calls ⟨l.toArray⟩ (by rw [size_list]; unfold maxLen; omega) W
  have e : (⟨l.toArray⟩ : ByteArray).data.toList = l := by simp
  rw [e] at this
  exact this
theorem said_at {l : List UInt8} (hl : l.length ≤ 20000) (W : World) : Calls Try.prog 32 #[.string ⟨l.toArray⟩] W (One W (.tuple #[.string ⟨(Tm.saidT l).1.toArray⟩, .bool (Tm.saidT l).2])) := by
  have := Said_calls ⟨l.toArray⟩ (by rw [size_list]; unfold maxLen; omega) W
  have e : (⟨l.toArray⟩ : ByteArray).data.toList = l := by simp
  rw [e] at this
  exact this

set_option maxRecDepth 100000 in
set_option maxHeartbeats 40000000 in
theorem values_all (m : Nat) (s : ByteArray) (A : Option Addr) (n c : Nat) (i : Int) (w : World) (hm : m < 18446744073709551616) (hs : s.size ≤ 100) (hS : Steps w A n) (hnc : n ≤ maxLen) (ri : isInt i) :
    Calls Try.prog 10 #[.int .u64 m, .string s, .slice A n c, .int .i64 i] w (One w (.bool true)) := by
  have HS := Lib.hid shown_calls
  have HSt := Lib.hid hS
  have HNC := Lib.hid hnc
  have HR := Lib.hid ri
  have d1 : decide ((100 : Int) < (s.size : Int)) = false := by simp; omega
  have i1 : (s.size : Int) ≤ 100 := by omega
  have HN := Lib.hid (fun W => Name_calls m hm W)
  have HU := Lib.hid (fun W => Number_calls m hm W)
  have cVn := fun W => value_at (l := 110 :: Tm.be8 m) (by simp [Tm.be8_length]) W
  rw [Tm.value_word (.inl rfl) m hm (Tm.good_name m)] at cVn
  have cVu := fun W => value_at (l := 117 :: Tm.be8 m) (by simp [Tm.be8_length]) W
  rw [Tm.value_word (.inr rfl) m hm (Tm.good_number m)] at cVu
  have cT := fun W => Text_calls s (by omega) W
  have hsl : s.data.toList.length ≤ 100 := by rw [len_bytes]; exact hs
  have cS := fun W => said_at (l := 116 :: 0 :: UInt8.ofNat s.data.toList.length :: s.data.toList) (by simp; omega) W
  rw [Tm.said_text hsl, len_bytes, ← of_bytes s] at cS
  have HVn := Lib.hid cVn
  have HVu := Lib.hid cVu
  have HT := Lib.hid cT
  have HSd := Lib.hid cS
  generalize (110 :: Tm.be8 m) = ln at *
  generalize (117 :: Tm.be8 m) = lu at *
  generalize (116 :: 0 :: UInt8.ofNat s.size :: s.data.toList) = lt at *
  have q0 : ((m : Int) != (m : Int)) = false := by simp
  clear hS hnc ri cVn cVu cT cS hsl hm hs
  go_enter Try.func10, Try.ntmps10
  go_wp2_with fail
  refine (HS.out _).mono ?_
  rintro e' w0 ⟨rfl, B⟩
  go_wp2_with fail
  refine (HN.out _).mono ?_
  rintro e' w2 ⟨rfl, b2⟩
  replace B := B.trans (b2.mono B.size)
  clear b2
  go_wp2_with fail
  refine (HVn.out _).mono ?_
  rintro e' w3 ⟨rfl, b3⟩
  replace B := B.trans (b3.mono B.size)
  clear b3
  go_wp2_with fail
  refine (HU.out _).mono ?_
  rintro e' w4 ⟨rfl, b4⟩
  replace B := B.trans (b4.mono B.size)
  clear b4
  go_wp2_with fail
  refine (HVu.out _).mono ?_
  rintro e' w5 ⟨rfl, b5⟩
  replace B := B.trans (b5.mono B.size)
  clear b5
  go_wp2_with fail
  refine (HT.out _).mono ?_
  rintro e' w6 ⟨rfl, b6⟩
  replace B := B.trans (b6.mono B.size)
  clear b6
  go_wp2_with fail
  refine (HSd.out _).mono ?_
  rintro e' w7 ⟨rfl, b7⟩
  replace B := B.trans (b7.mono B.size)
  clear b7
  have HM := Lib.hid (made_calls A n c w7 (steps_below HSt.out B) HNC.out)
  go_wp2_with fail
  refine HM.out.mono ?_
  rintro e' w1 ⟨g, cap, ts, rfl, hrow, hlen, hgood, hb1⟩
  replace B := B.trans (hb1.mono B.size)
  have h42 : ts.length ≤ 42 := by omega
  have h22 : 2 ≤ ts.length := by omega
  obtain ⟨pa, a, cPa, la, ca, Ga⟩ := pick_at hrow h22 h42 hgood HR.out
  have HPa := Lib.hid cPa
  have ja : (0 : Int) ≤ (pa : Int) := by omega
  have hal := Ga.2.2
  have cV := fun W => value_at (l := a) (by omega) W
  have cD := fun W => said_at (l := a) (by omega) W
  have cK := fun W => kind_at Ga (by omega) W
  have cO := fun W => of_at Ga W
  obtain ⟨kc, v, vb, u, ub, t1, t2, t3, t4⟩ := Tm.told Ga.right
  rw [Ga.kind] at t1
  rw [t2] at cV
  rw [t3] at cD
  rw [t1] at cK
  generalize Tm.ofL a = ps at *
  have HV := Lib.hid cV
  have HD := Lib.hid cD
  have HK := Lib.hid cK
  have HO := Lib.hid cO
  clear hrow hgood hlen hb1 cPa HM HSt HNC HS Ga cV cD cK cO t1 t2 t3
  go_wp2_with fail
  refine HPa.out.mono ?_
  rintro e' w' ⟨rfl, rfl⟩
  clear HPa
  go_wp2_with fail
  refine (HV.out _).mono ?_
  rintro e' w8 ⟨rfl, b8⟩
  replace B := B.trans (b8.mono B.size)
  clear b8 ca
  go_wp2_with fail
  refine (HD.out _).mono ?_
  rintro e' w9 ⟨rfl, b9⟩
  replace B := B.trans (b9.mono B.size)
  clear b9
  go_wp2_with fail
  refine (HK.out _).mono ?_
  rintro e' w10 ⟨rfl, b10⟩
  replace B := B.trans (b10.mono B.size)
  clear b10
  rcases t4 with ⟨⟨k1, k2, k3, k4, k5⟩, rfl, rfl, rfl, hn⟩ | ⟨⟨k1, k2, k3, k4, k5⟩, rfl, rfl, rfl, hn⟩ | ⟨⟨k1, k2, k3, k4, k5⟩, rfl, rfl, rfl, hn⟩ | ⟨⟨k1, k2, k3, k4, k5⟩, rfl, rfl, rfl, rfl, hn⟩ | ⟨⟨k1, k2, k3, k4, k5⟩, rfl, rfl, rfl, rfl, hn⟩ | ⟨⟨k1, k2, k3, k4, k5⟩, rfl, rfl, rfl, rfl, hn⟩
  iterate 5
    focus
      go_wp2_with fail
      refine (HO.out _).mono ?_
      rintro e' w11 ⟨vv, rfl, hrow11, hnil, b11⟩
      have hps : ps = [] := List.length_eq_zero_iff.1 hn
      obtain rfl := hnil.2 hps
      replace B := B.trans (b11.mono B.size)
      clear b11 hrow11 hnil hps hn
      go_wp2
      go_ret
      exact ⟨rfl, B⟩
  · go_wp2_with fail
    refine (HO.out _).mono ?_
    rintro e' w11 ⟨vv, rfl, hrow11, hnil, b11⟩
    obtain ⟨g11, c11, rfl, _, _⟩ := row_slice hrow11 (fun h => by rw [h] at hn; simp at hn)
    replace B := B.trans (b11.mono B.size)
    have z1 : ((ps.length : Int) == 0) = false := by simp; intro h; rw [h] at hn; simp at hn
    have z2 : ¬ ((ps.length : Int) = 0) := by omega
    clear b11 hrow11 hnil hn
    go_wp2
    go_ret
    exact ⟨rfl, B⟩

set_option maxRecDepth 100000 in
set_option maxHeartbeats 400000 in
theorem values_long (m : Nat) (s : ByteArray) (A : Option Addr) (n c : Nat) (i : Int) (w : World) (hsm : s.size ≤ maxLen) (h : 100 < s.size) :
    Calls Try.prog 10 #[.int .u64 m, .string s, .slice A n c, .int .i64 i] w (One w (.bool true)) := by
  unfold maxLen at hsm
  have HS := Lib.hid shown_calls
  have d1 : decide ((100 : Int) < (s.size : Int)) = true := by simp; omega
  have i1 : (100 : Int) < (s.size : Int) := by omega
  clear h
  go_enter Try.func10, Try.ntmps10
  go_wp2_with fail
  refine (HS.out _).mono ?_
  rintro e' w1 ⟨rfl, hb1⟩
  go_wp2
  go_ret
  exact ⟨rfl, hb1⟩

theorem values_every (m : Int) (s : ByteArray) (A : Option Addr) (n c : Nat) (i : Int) (w : World) (hm : (Lit.int .u64 m).wf = true) (hsm : s.size ≤ maxLen) (hS : Steps w A n) (hnc : n ≤ maxLen) (ri : isInt i) :
    Calls Try.prog 10 #[.int .u64 m, .string s, .slice A n c, .int .i64 i] w (One w (.bool true)) := by
  obtain ⟨k, rfl, hk⟩ := u64_of_wf hm
  by_cases h : s.size ≤ 100
  · exact values_all k s A n c i w hk h hS hnc ri
  · exact values_long k s A n c i w hsm (by omega)

end L2
end Go.Proofs.Ytccdpimmmicgaaa
