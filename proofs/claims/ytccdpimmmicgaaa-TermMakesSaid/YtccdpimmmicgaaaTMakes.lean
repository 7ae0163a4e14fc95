/- The law TermMakes: for all three texts it returns true. -/
import Derived.Test.YtccdpimmmicgaaaRefPow2
import Derived.Test.YtccdpimmmicgaaaHelp
namespace Go.Proofs.Ytccdpimmmicgaaa
open Go.ChangeShapes Go.WideShapes Go.ChangeAt Go.RowKit

theorem right_depth (p : List UInt8) : (Tm.depthOf p == 0) = !Tm.right p := by
  unfold Tm.right
  cases h : (Tm.depthOf p == 0) with
  | true => simp at h; simp [h]
  | false => simp at h; simp; omega
/-- The program's put is the document's Of. -/
theorem put_ofT {hd : List UInt8} {ps : List (List UInt8)} (hb : Tm.begin_ (hd ++ ps.flatten) = (hd.length, ps.length)) (hne : hd ≠ []) (h7 : (hd ++ ps.flatten).getD 0 0 ≠ 107) (h1 : (hd ++ ps.flatten).getD 0 0 ≠ 101) : Tm.put hd ps = ofT hd ps := by
  unfold ofT
  have e : ps.any (fun p => !Tm.right p) = ps.any (fun p => Tm.depthOf p == 0) := by
    congr 1
    funext p
    exact (right_depth p).symm
  rw [e]
  by_cases h : ps.any (fun p => Tm.depthOf p == 0) = true
  · rw [if_pos h]
    unfold Tm.put
    rw [if_pos h]
  · rw [if_neg h]
    refine Tm.put_made (fun p hp h0 => h (List.any_eq_true.2 ⟨p, hp, by simp [h0]⟩)) hb hne (fun h => absurd h h7) (fun h => absurd h h1)

theorem Key_all (a : ByteArray) (ha : a.size ≤ maxLen) (w : World) : Calls Try.prog 16 #[.string a] w (Pair2 w (keyT a.data.toList)) := by
  unfold keyT
  cases hel : Tm.element a.data.toList with
  | false =>
    rw [Bool.and_false, if_neg (by simp)]
    exact (Key_no_calls a hel w).mono fun _ _ hp => hp
  | true =>
    refine (Key_calls a ha hel w).mono fun _ _ hp => ?_
    cases hr : Tm.right a.data.toList with
    | true =>
      rw [if_pos (by rfl)]
      have := Tm.put_made (hd := [107]) (ps := [a.data.toList]) (by intro p hp; simp at hp; subst hp; exact (Tm.right_iff _).1 hr) (by simp [Tm.begin_, Tm.headOf]) (by simp) (by intro _; simpa using hel) (by simp)
      rw [this] at hp
      simpa using hp
    | false =>
      rw [if_neg (by simp)]
      have h0 : Tm.depthOf a.data.toList = 0 := by
        have := right_depth a.data.toList
        rw [hr] at this
        simpa using this
      have : Tm.put [107] [a.data.toList] = ([], 1) := by unfold Tm.put; rw [if_pos (by simp [h0])]
      rw [this] at hp
      exact hp

theorem lit_texts (W : World) (xs : List (List UInt8)) (t : TypeId) : Texts (W.alloc (.cells (xs.map fun x => Value.string ⟨x.toArray⟩).toArray t)) W.heap.size xs := text_cells (heap_alloc_new W _)

/-- What the document's Of makes of a row that was just laid. -/
theorem lit_of (hd : List UInt8) (xs : List (List UInt8)) (cap : Nat) (hh : hd.length ≤ 5) (hn : xs.length ≤ 5) (hp : ∀ p ∈ xs, p.length ≤ 10000) (W : World) :
    Calls Try.prog 19 #[.string ⟨hd.toArray⟩, .slice (some ⟨W.heap.size, 0, none⟩) xs.length cap] (W.alloc (.cells (xs.map fun x => Value.string ⟨x.toArray⟩).toArray 9)) fun e w' =>
      e = .returned (.tuple #[.string ⟨(ofT hd xs).1.toArray⟩, .int .i64 (ofT hd xs).2]) ∧ Below W.heap.size W w' :=
  (ROfm_calls hd xs W.heap.size cap _ (lit_texts W xs _) hh hn hp).mono fun _ _ ⟨h1, m, h2⟩ => ⟨h1, by rw [h2]; exact below_drewN ((Below.refl _ W).alloc (Nat.le_refl _) _) _⟩

set_option maxRecDepth 100000 in
set_option maxHeartbeats 40000000 in
theorem makes_all (a b c : List UInt8) (w : World) (ha : a.length ≤ 3000) (hb : b.length ≤ 3000) (hc : c.length ≤ 3000) :
    Calls Try.prog 3 #[.string ⟨a.toArray⟩, .string ⟨b.toArray⟩, .string ⟨c.toArray⟩] w (One w (.bool true)) := by
  have ea : (⟨a.toArray⟩ : ByteArray).data.toList = a := by simp
  have eb : (⟨b.toArray⟩ : ByteArray).data.toList = b := by simp
  have ec : (⟨c.toArray⟩ : ByteArray).data.toList = c := by simp
  have za : (⟨a.toArray⟩ : ByteArray).size ≤ maxLen := by rw [size_list]; unfold maxLen; omega
  have zb : (⟨b.toArray⟩ : ByteArray).size ≤ maxLen := by rw [size_list]; unfold maxLen; omega
  have zc : (⟨c.toArray⟩ : ByteArray).size ≤ maxLen := by rw [size_list]; unfold maxLen; omega
  have cP := fun W => Pow_rel ⟨a.toArray⟩ ⟨b.toArray⟩ za zb W
  have cQ := fun W => RPower_calls ⟨a.toArray⟩ ⟨b.toArray⟩ (by rw [size_list]; omega) (by rw [size_list]; omega) W
  have cK := fun W => Key_all ⟨a.toArray⟩ za W
  have cL := fun W => RKey_calls ⟨a.toArray⟩ (by rw [size_list]; omega) W
  have cPa := fun W => Pair_calls ⟨a.toArray⟩ ⟨b.toArray⟩ za zb W
  have cHa := fun W => Hash_calls ⟨a.toArray⟩ za W
  have cSe := fun W => Seal_calls ⟨a.toArray⟩ ⟨b.toArray⟩ ⟨c.toArray⟩ za zb zc W
  have cSi := fun W => Sign_calls ⟨a.toArray⟩ ⟨b.toArray⟩ za zb W
  rw [ea, eb] at cP cQ cPa cSi
  rw [ea] at cK cL cHa
  rw [ea, eb, ec] at cSe
  rw [put_ofT (hd := [112]) (ps := [a, b]) (by simp [Tm.begin_, Tm.headOf]) (by simp) (by simp) (by simp)] at cPa
  rw [put_ofT (hd := [104]) (ps := [a]) (by simp [Tm.begin_, Tm.headOf]) (by simp) (by simp) (by simp)] at cHa
  rw [put_ofT (hd := [115]) (ps := [a, b, c]) (by simp [Tm.begin_, Tm.headOf]) (by simp) (by simp) (by simp)] at cSe
  rw [put_ofT (hd := [120]) (ps := [a, b]) (by simp [Tm.begin_, Tm.headOf]) (by simp) (by simp) (by simp)] at cSi
  have cRp := fun W => lit_of [112] [a, b] 2 (by simp) (by simp) (by intro p hp; simp at hp; rcases hp with rfl | rfl <;> omega) W
  have cRh := fun W => lit_of [104] [a] 1 (by simp) (by simp) (by intro p hp; simp at hp; subst hp; omega) W
  have cRs := fun W => lit_of [115] [a, b, c] 3 (by simp) (by simp) (by intro p hp; simp at hp; rcases hp with rfl | rfl | rfl <;> omega) W
  have cRx := fun W => lit_of [120] [a, b] 2 (by simp) (by simp) (by intro p hp; simp at hp; rcases hp with rfl | rfl <;> omega) W
  generalize ofT [112] [a, b] = r1 at *
  generalize ofT [104] [a] = r2 at *
  generalize ofT [115] [a, b, c] = r3 at *
  generalize ofT [120] [a, b] = r4 at *
  generalize keyT a = r5 at *
  obtain ⟨p1, q1⟩ := r1
  obtain ⟨p2, q2⟩ := r2
  obtain ⟨p3, q3⟩ := r3
  obtain ⟨p4, q4⟩ := r4
  obtain ⟨p5, q5⟩ := r5
  have HS := Lib.hid shown_calls
  have HP := Lib.hid cP
  have HQ := Lib.hid cQ
  have HK := Lib.hid cK
  have HL := Lib.hid cL
  have HPa := Lib.hid cPa
  have HHa := Lib.hid cHa
  have HSe := Lib.hid cSe
  have HSi := Lib.hid cSi
  have HRp := Lib.hid cRp
  have HRh := Lib.hid cRh
  have HRs := Lib.hid cRs
  have HRx := Lib.hid cRx
  have d1 : decide ((3000 : Int) < (a.length : Int)) = false := by simp; omega
  have d2 : decide ((3000 : Int) < (b.length : Int)) = false := by simp; omega
  have d3 : decide ((3000 : Int) < (c.length : Int)) = false := by simp; omega
  have i1 : (a.length : Int) ≤ 3000 := by omega
  have i2 : (b.length : Int) ≤ 3000 := by omega
  have i3 : (c.length : Int) ≤ 3000 := by omega
  clear cP cQ cK cL cPa cHa cSe cSi cRp cRh cRs cRx ea eb ec za zb zc
  go_enter Try.func3, Try.ntmps3
  go_wp2_with fail
  refine (HS.out _).mono ?_
  rintro e' w0 ⟨rfl, B⟩
  go_wp2_with fail
  refine (HP.out _).mono ?_
  rintro e' w1 ⟨⟨p6, q6⟩, rfl, u1, b1⟩
  replace B := B.trans (b1.mono B.size)
  clear b1
  go_wp2_with fail
  refine (HQ.out _).mono ?_
  rintro e' w2 ⟨⟨p7, q7⟩, rfl, u2, b2⟩
  replace B := B.trans (b2.mono B.size)
  have hu := u1.unique u2
  simp only [Prod.mk.injEq] at hu
  obtain ⟨rfl, rfl⟩ := hu
  clear b2 u1 u2 HP HQ
  go_wp2_with fail
  refine (HK.out _).mono ?_
  rintro e' w3 ⟨rfl, b3⟩
  replace B := B.trans (b3.mono B.size)
  clear b3
  go_wp2_with fail
  refine (HL.out _).mono ?_
  rintro e' w' ⟨rfl, md, rfl⟩
  replace B := below_drewN B md
  go_wp2_with fail
  refine (HPa.out _).mono ?_
  rintro e' w4 ⟨rfl, b4⟩
  replace B := B.trans (b4.mono B.size)
  clear b4
  go_wp2_with fail
  refine (HRp.out _).mono ?_
  rintro e' w5 ⟨rfl, b5⟩
  replace B := B.trans (b5.mono B.size)
  clear b5
  go_wp2_with fail
  refine (HHa.out _).mono ?_
  rintro e' w6 ⟨rfl, b6⟩
  replace B := B.trans (b6.mono B.size)
  clear b6
  go_wp2_with fail
  refine (HRh.out _).mono ?_
  rintro e' w7 ⟨rfl, b7⟩
  replace B := B.trans (b7.mono B.size)
  clear b7
  go_wp2_with fail
  refine (HSe.out _).mono ?_
  rintro e' w8 ⟨rfl, b8⟩
  replace B := B.trans (b8.mono B.size)
  clear b8
  go_wp2_with fail
  refine (HRs.out _).mono ?_
  rintro e' w9 ⟨rfl, b9⟩
  replace B := B.trans (b9.mono B.size)
  clear b9
  go_wp2_with fail
  refine (HSi.out _).mono ?_
  rintro e' w10 ⟨rfl, b10⟩
  replace B := B.trans (b10.mono B.size)
  clear b10
  go_wp2_with fail
  refine (HRx.out _).mono ?_
  rintro e' w11 ⟨rfl, b11⟩
  replace B := B.trans (b11.mono B.size)
  clear b11
  go_wp2
  go_ret
  exact ⟨by simp, B⟩

set_option maxRecDepth 100000 in
set_option maxHeartbeats 1000000 in
theorem makes_long (a b c : ByteArray) (w : World) (ha : a.size ≤ maxLen) (hb : b.size ≤ maxLen) (hc : c.size ≤ maxLen) (h : 3000 < a.size ∨ 3000 < b.size ∨ 3000 < c.size) :
    Calls Try.prog 3 #[.string a, .string b, .string c] w (One w (.bool true)) := by
  unfold maxLen at ha hb hc
  have HS := Lib.hid shown_calls
  by_cases h1 : 3000 < a.size
  · have d1 : decide ((3000 : Int) < (a.size : Int)) = true := by simp; omega
    have i1 : (3000 : Int) < (a.size : Int) := by omega
    clear h h1
    go_enter Try.func3, Try.ntmps3
    go_wp2_with fail
    refine (HS.out _).mono ?_
    rintro e' w1 ⟨rfl, hb1⟩
    go_wp2
    go_ret
    exact ⟨rfl, hb1⟩
  have d1 : decide ((3000 : Int) < (a.size : Int)) = false := by simp; omega
  have i1 : (a.size : Int) ≤ 3000 := by omega
  by_cases h2 : 3000 < b.size
  · have d2 : decide ((3000 : Int) < (b.size : Int)) = true := by simp; omega
    have i2 : (3000 : Int) < (b.size : Int) := by omega
    clear h h1 h2
    go_enter Try.func3, Try.ntmps3
    go_wp2_with fail
    refine (HS.out _).mono ?_
    rintro e' w1 ⟨rfl, hb1⟩
    go_wp2
    go_ret
    exact ⟨rfl, hb1⟩
  have d2 : decide ((3000 : Int) < (b.size : Int)) = false := by simp; omega
  have i2 : (b.size : Int) ≤ 3000 := by omega
  have d3 : decide ((3000 : Int) < (c.size : Int)) = true := by simp; omega
  have i3 : (3000 : Int) < (c.size : Int) := by omega
  clear h h1 h2
  go_enter Try.func3, Try.ntmps3
  go_wp2_with fail
  refine (HS.out _).mono ?_
  rintro e' w1 ⟨rfl, hb1⟩
  go_wp2
  go_ret
  exact ⟨rfl, hb1⟩

theorem makes_every (a b c : ByteArray) (w : World) (ha : a.size ≤ maxLen) (hb : b.size ≤ maxLen) (hc : c.size ≤ maxLen) :
    Calls Try.prog 3 #[.string a, .string b, .string c] w (One w (.bool true)) := by
  by_cases h : a.size ≤ 3000 ∧ b.size ≤ 3000 ∧ c.size ≤ 3000
  · have := makes_all a.data.toList b.data.toList c.data.toList w (by rw [len_bytes]; exact h.1) (by rw [len_bytes]; exact h.2.1) (by rw [len_bytes]; exact h.2.2)
    rw [← of_bytes a, ← of_bytes b, ← of_bytes c] at this
    exact this
  · exact makes_long a b c w ha hb hc (by omega)

end Go.Proofs.Ytccdpimmmicgaaa
