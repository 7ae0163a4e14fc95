/- The law PartsTaken: for every text it returns true. -/
import Derived.Test.YtanfhnpnpdecnaaPAll
import Derived.Test.YtanfhnpnpdecnaaRVal
import Derived.Test.YtanfhnpnpdecnaaPartsLaw
namespace Go.Proofs.Ytanfhnpnpdecnaa.L2
open Go.ChangeShapes Go.WideShapes Go.ChangeAt Go.RowKit

theorem reads_of_terms {w : World} {B : Nat} {v : Value} {xs : List (List UInt8)} (h : w.ownsRow B 23 1 v xs.length (strs xs)) : Reads w v xs := by
  by_cases hne : xs = []
  · subst hne
    rcases h.2 with ⟨rfl, _⟩ | ⟨g, cap, cur, rfl, _⟩
    · exact ⟨none, 0, rfl, by simp⟩
    · exact ⟨_, cap, rfl, by simp⟩
  · obtain ⟨g, cap, rfl, hT, hg⟩ := row_slice h hne
    exact ⟨_, cap, rfl, fun j x hx => ⟨g, rfl, hg, hT j x hx⟩⟩

theorem same_reads (ps : List (List UInt8)) (v v' : Value) (w : World) (hn : ps.length ≤ 100000) (h : Reads w v ps) (h' : Reads w v' ps) :
    Calls Try.prog 16 #[v, v'] w (One w (.bool true)) := by
  obtain ⟨A, c, rfl, h1⟩ := h
  obtain ⟨A', c', rfl, h2⟩ := h'
  cases ps with
  | nil => exact same_nil A A' c c' w
  | cons x xs =>
    obtain ⟨g, rfl, _, _⟩ := h1 0 x rfl
    obtain ⟨g', rfl, _, _⟩ := h2 0 x rfl
    refine same_row (x :: xs) g g' c c' w hn (fun j y hy => ?_) (fun j y hy => ?_)
    · obtain ⟨g2, e, _, hc⟩ := h1 j y hy
      cases e
      exact hc
    · obtain ⟨g2, e, _, hc⟩ := h2 j y hy
      cases e
      exact hc

/-- All that stands in a text, by bytes, each once: nothing, if it is not right. -/
def AllL (t : List UInt8) (ys : List (List UInt8)) : Prop := ys.Pairwise Tm.strict ∧ ∀ x, x ∈ ys ↔ (Tm.right t = true ∧ Tm.Sub t x)
theorem AllL.unique {t : List UInt8} {xs ys : List (List UInt8)} (h1 : AllL t xs) (h2 : AllL t ys) : xs = ys :=
  Tm.strict_unique h1.1 h2.1 (fun x => (h1.2 x).trans (h2.2 x).symm)

theorem all_reads (s : ByteArray) (hs : s.size ≤ maxLen) (w : World) :
    Calls Try.prog 19 #[.string s] w fun e w' => ∃ v ys, e = .returned v ∧ Reads w' v ys ∧ AllL s.data.toList ys ∧ Below w.heap.size w w' := by
  cases hr : Tm.right s.data.toList with
  | true =>
    refine (All_right s hr w).mono ?_
    rintro e w' ⟨v, xs, rfl, h1, h2, h3, _, h5⟩
    exact ⟨v, xs, rfl, reads_of_terms h1, ⟨h2, fun x => by rw [h3 x]; simp [hr]⟩, h5⟩
  | false =>
    refine (All_wrong s hs hr w).mono ?_
    rintro e w' ⟨rfl, h5⟩
    exact ⟨_, [], rfl, ⟨none, 0, rfl, by simp⟩, ⟨List.Pairwise.nil, fun x => by simp [hr]⟩, h5⟩

theorem rall_reads (s : ByteArray) (hs : s.size ≤ 1500) (w : World) :
    Calls Try.prog 20 #[.string s] w fun e w' => ∃ v ys, e = .returned v ∧ Reads w' v ys ∧ AllL s.data.toList ys ∧ ys.length ≤ 1500 ∧ Below w.heap.size w w' := by
  cases hr : Tm.right s.data.toList with
  | true =>
    have h := RAll_right 1500 s.data.toList (by rw [len_bytes]; exact hs) hr w
    have e0 : (⟨s.data.toList.toArray⟩ : ByteArray) = s := by cases s; simp
    rw [e0] at h
    refine h.mono ?_
    rintro e w' ⟨v, xs, rfl, h1, h2, h3, h4, h5⟩
    exact ⟨v, xs, rfl, h1, ⟨h2, fun x => by rw [h3 x]; simp [hr]⟩, by rw [len_bytes] at h4; omega, h5⟩
  | false =>
    refine (RAll_wrong s (by omega) hr w).mono ?_
    rintro e w' ⟨rfl, m, rfl⟩
    exact ⟨_, [], rfl, ⟨none, 0, rfl, by simp⟩, ⟨List.Pairwise.nil, fun x => by simp [hr]⟩, by simp, below_drewN (Below.refl _ _) m⟩

theorem of_reads (s : ByteArray) (hs : s.size ≤ maxLen) (w : World) :
    Calls Try.prog 17 #[.string s] w fun e w' => ∃ v, e = .returned v ∧ Reads w' v (Tm.partsOfT s.data.toList) ∧ Below w.heap.size w w' := by
  refine (Of_calls s hs w).mono ?_
  rintro e w' ⟨v, rfl, h1, _, h3⟩
  exact ⟨v, rfl, reads_of_terms h1, h3⟩
theorem rof_reads (s : ByteArray) (hs : s.size ≤ 1000000) (w : World) :
    Calls Try.prog 18 #[.string s] w fun e w' => ∃ v, e = .returned v ∧ Reads w' v (Tm.partsOfT s.data.toList) ∧ Below w.heap.size w w' := by
  refine (ROf_calls s hs w).mono ?_
  rintro e w' ⟨v, rfl, h1, h3⟩
  exact ⟨v, rfl, reads_of_row h1, h3⟩
theorem partsOfT_length (t : List UInt8) : (Tm.partsOfT t).length ≤ 32 := by
  unfold Tm.partsOfT
  split
  · rename_i h
    rw [(Tm.ofL_ok h).2.2.1]
    exact (Tm.begin_le _).2
  · simp

set_option maxRecDepth 100000 in
set_option maxHeartbeats 4000000 in
theorem taken_all (s : ByteArray) (w : World) (hs : s.size ≤ 1500) :
    Calls Try.prog 3 #[.string s] w (One w (.bool true)) := by
  have HS := Lib.hid shown_calls
  have cA := fun W => Value_calls s (by unfold maxLen; omega) W
  have cB := fun W => RValue_calls s (by omega) W
  have cC := fun W => Said_calls s (by unfold maxLen; omega) W
  have cD := fun W => RSaid_calls s (by omega) W
  have cE := fun W => Kind_calls s (by unfold maxLen; omega) W
  have cF := fun W => RKind_calls s (by omega) W
  have cG := fun W => of_reads s (by unfold maxLen; omega) W
  have cH := fun W => rof_reads s (by omega) W
  have cI := fun W => all_reads s (by unfold maxLen; omega) W
  have cJ := fun W => rall_reads s hs W
  have hps := partsOfT_length s.data.toList
  generalize Tm.valueT s.data.toList = r at *
  generalize Tm.saidT s.data.toList = q at *
  generalize Tm.kindOf s.data.toList = k at *
  generalize Tm.partsOfT s.data.toList = ps at *
  generalize s.data.toList = t at *
  obtain ⟨r1, r2⟩ := r
  obtain ⟨q1, q2⟩ := q
  simp only at cA cB cC cD
  have HA := Lib.hid cA
  have HB := Lib.hid cB
  have HC := Lib.hid cC
  have HD := Lib.hid cD
  have HE := Lib.hid cE
  have HF := Lib.hid cF
  have HG := Lib.hid cG
  have HH := Lib.hid cH
  have HI := Lib.hid cI
  have HJ := Lib.hid cJ
  have d1 : decide ((1500 : Int) < (s.size : Int)) = false := by simp; omega
  have i1 : (s.size : Int) ≤ 1500 := by omega
  clear cA cB cC cD cE cF cG cH cI cJ
  go_enter Try.func3, Try.ntmps3
  go_wp2_with fail
  refine (HS.out _).mono ?_
  rintro e' w0 ⟨rfl, B⟩
  go_wp2_with fail
  refine (HA.out _).mono ?_
  rintro e' w1 ⟨rfl, b1⟩
  replace B := B.trans (b1.mono B.size)
  clear b1
  go_wp2_with fail
  refine (HB.out _).mono ?_
  rintro e' w2 ⟨rfl, m2, rfl⟩
  replace B := below_drewN B m2
  go_wp2_with fail
  refine (HC.out _).mono ?_
  rintro e' w3 ⟨rfl, b3⟩
  replace B := B.trans (b3.mono B.size)
  clear b3
  go_wp2_with fail
  refine (HD.out _).mono ?_
  rintro e' w4 ⟨rfl, m4, rfl⟩
  replace B := below_drewN B m4
  go_wp2_with fail
  refine (HE.out _).mono ?_
  rintro e' w5 ⟨rfl, b5⟩
  replace B := B.trans (b5.mono B.size)
  clear b5
  go_wp2_with fail
  refine (HF.out _).mono ?_
  rintro e' w6 ⟨rfl, m6, rfl⟩
  replace B := below_drewN B m6
  have kk : ((k.toNat : Int) == (k.toNat : Int)) = true := by simp
  go_wp2_with fail
  refine (HG.out _).mono ?_
  rintro e' w7 ⟨v7, rfl, r7, b7⟩
  replace B := B.trans (b7.mono B.size)
  clear b7
  go_wp2_with fail
  refine (HH.out _).mono ?_
  rintro e' w8 ⟨v8, rfl, r8, b8⟩
  replace B := B.trans (b8.mono B.size)
  have HR1 := Lib.hid (same_reads ps v7 v8 w8 (by omega) (r7.below b8) r8)
  clear b8 r7 r8
  go_wp2_with fail
  refine HR1.out.mono ?_
  rintro e' w9 ⟨rfl, b9⟩
  replace B := B.trans (b9.mono B.size)
  clear b9 HR1
  go_wp2_with fail
  refine (HI.out _).mono ?_
  rintro e' w10 ⟨v10, ys, rfl, r10, a10, b10⟩
  replace B := B.trans (b10.mono B.size)
  clear b10
  go_wp2_with fail
  refine (HJ.out _).mono ?_
  rintro e' w11 ⟨v11, ys', rfl, r11, a11, l11, b11⟩
  obtain rfl := a10.unique a11
  replace B := B.trans (b11.mono B.size)
  have HR2 := Lib.hid (same_reads ys v10 v11 w11 (by omega) (r10.below b11) r11)
  clear b11 r10 r11 a10 a11
  go_wp2_with fail
  refine HR2.out.mono ?_
  rintro e' w12 ⟨rfl, b12⟩
  replace B := B.trans (b12.mono B.size)
  go_wp2
  go_ret
  exact ⟨by simp, B⟩

set_option maxRecDepth 100000 in
set_option maxHeartbeats 400000 in
theorem taken_long (s : ByteArray) (w : World) (hsm : s.size ≤ maxLen) (h : 1500 < s.size) :
    Calls Try.prog 3 #[.string s] w (One w (.bool true)) := by
  unfold maxLen at hsm
  have HS := Lib.hid shown_calls
  have d1 : decide ((1500 : Int) < (s.size : Int)) = true := by simp; omega
  have i1 : (1500 : Int) < (s.size : Int) := by omega
  clear h
  go_enter Try.func3, Try.ntmps3
  go_wp2_with fail
  refine (HS.out _).mono ?_
  rintro e' w1 ⟨rfl, hb1⟩
  go_wp2
  go_ret
  exact ⟨rfl, hb1⟩

theorem taken_every (s : ByteArray) (w : World) (hsm : s.size ≤ maxLen) :
    Calls Try.prog 3 #[.string s] w (One w (.bool true)) := by
  by_cases h : s.size ≤ 1500
  · exact taken_all s w h
  · exact taken_long s w hsm (by omega)

end Go.Proofs.Ytanfhnpnpdecnaa.L2
