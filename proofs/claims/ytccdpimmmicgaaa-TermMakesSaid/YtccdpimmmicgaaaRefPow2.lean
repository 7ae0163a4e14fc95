/- Contract of the document's own Power (gemotref1): as the program's. -/
import Derived.Test.YtccdpimmmicgaaaRefPow
namespace Go.Proofs.Ytccdpimmmicgaaa
open Go.ChangeShapes Go.WideShapes Go.ChangeAt Go.RowKit

theorem perm_flat {xs ys : List (List UInt8)} (h : xs.Perm ys) : xs.flatten.length = ys.flatten.length := by
  induction h with
  | nil => rfl
  | cons x _ ih => simp only [List.flatten_cons, List.length_append, ih]
  | swap x y l => simp only [List.flatten_cons, List.length_append]; omega
  | trans _ _ ih1 ih2 => rw [ih1, ih2]

set_option maxRecDepth 100000 in
set_option maxHeartbeats 1000000 in
theorem RPower_no1 (a b : ByteArray) (ha : a.size ≤ 1000000) (h : (Tm.right a.data.toList && Tm.element a.data.toList) = false) (w : World) :
    Calls Try.prog 15 #[.string a, .string b] w (One w (.tuple #[.string ⟨#[]⟩, .int .i64 1])) := by
  have cE := fun W => Relement_calls a ha W
  rw [h] at cE
  have HE := Lib.hid cE
  clear cE h
  go_enter Try.func15, Try.ntmps15
  go_wp2_with fail
  refine (HE.out _).mono ?_
  rintro e' w' ⟨rfl, md, rfl⟩
  go_wp2
  go_ret2
  exact ⟨rfl, below_drewN (Below.refl _ _) _⟩

set_option maxRecDepth 100000 in
set_option maxHeartbeats 1000000 in
theorem RPower_no2 (a b : ByteArray) (ha : a.size ≤ 1000000) (hb : b.size ≤ 1000000) (h : (Tm.right a.data.toList && Tm.element a.data.toList) = true) (h2 : Tm.right b.data.toList = false) (w : World) :
    Calls Try.prog 15 #[.string a, .string b] w (One w (.tuple #[.string ⟨#[]⟩, .int .i64 1])) := by
  have cE := fun W => Relement_calls a ha W
  rw [h] at cE
  have HE := Lib.hid cE
  have cR := fun W => RRight_calls b hb W
  rw [h2] at cR
  have HR := Lib.hid cR
  clear cE cR h h2
  go_enter Try.func15, Try.ntmps15
  go_wp2_with fail
  refine (HE.out _).mono ?_
  rintro e' w' ⟨rfl, md, rfl⟩
  go_wp2_with fail
  refine (HR.out _).mono ?_
  rintro e' w' ⟨rfl, md2, rfl⟩
  go_wp2
  go_ret2
  exact ⟨rfl, below_drewN (Below.refl _ _) _⟩

set_option maxRecDepth 100000 in
set_option maxHeartbeats 4000000 in
theorem RPower_yes (a b : ByteArray) (ha : a.size ≤ 20000) (hb : b.size ≤ 20000) (ra : Tm.right a.data.toList = true) (hel : Tm.element a.data.toList = true) (rb : Tm.right b.data.toList = true) (w : World) :
    Calls Try.prog 15 #[.string a, .string b] w (PowRel w a.data.toList b.data.toList) := by
  have cE := fun W => Relement_calls a (by omega) W
  rw [ra, hel] at cE
  have HE := Lib.hid cE
  have cR := fun W => RRight_calls b (by omega) W
  rw [rb] at cR
  have HR := Lib.hid cR
  have HX := Lib.hid (fun W => RExps_calls a ra hel W)
  obtain ⟨x1, x2, x3, x4⟩ := Tm.expsOf_ok ra hel
  rw [len_bytes] at x4
  obtain ⟨i0, hi, hz0, hz1, hz2⟩ := info_parts info_text
  have h32 : (Tm.expsOf a.data.toList).length = 32 → PowR a.data.toList b.data.toList ([], 3) := fun h => .inr ⟨⟨ra, hel, rb⟩, .inl ⟨h, rfl⟩⟩
  have hok : (Tm.expsOf a.data.toList).length ≠ 32 → ∀ ys : List (List UInt8), ys.Perm (Tm.expsOf a.data.toList ++ [b.data.toList]) → Tm.chain [] ys → PowR a.data.toList b.data.toList (Tm.madeT (101 :: UInt8.ofNat ((Tm.expsOf a.data.toList).length + 1) :: ys.flatten)) :=
    fun h ys h1 h2 => .inr ⟨⟨ra, hel, rb⟩, .inr ⟨h, ys, h1, h2, rfl⟩⟩
  generalize Tm.expsOf a.data.toList = xs at *
  have HOk := Lib.hid hok
  have H32 := Lib.hid h32
  clear cE cR ra hel rb hok h32 x1 x2
  go_enter Try.func15, Try.ntmps15
  go_wp2_with fail
  refine (HE.out _).mono ?_
  rintro e' w' ⟨rfl, md, rfl⟩
  go_wp2_with fail
  refine (HR.out _).mono ?_
  rintro e' w' ⟨rfl, md2, rfl⟩
  go_wp2_with fail
  refine (HX.out _).mono ?_
  rintro e' w2 ⟨v, rfl, hrow, b2⟩
  have B2 : Below w.heap.size w w2 := by
    have h1 : Below w.heap.size w (w.drewN (md + md2)) := below_drewN (Below.refl _ _) _
    exact h1.trans (b2.mono h1.size)
  have HRow := Lib.hid hrow
  have hsz := B2.size
  clear b2 hrow
  go_wp2_with (at_builtin
               refine wpList_append_own _ rfl _ _ 32 rfl w.heap.size 9 i0 (.string ⟨#[]⟩) 1 16 Try.underlying32 hi hz0 hz1 hz2 rfl (by decide) _ xs.length (strs xs) rfl (World.ownsRow.alloc (w := w2) HRow.out _) ⟨w2.heap.size, 0, none⟩ 1 1 [.string b] rfl rfl (cell_one_new _ _ _) (fun y hy => by simp at hy; subst hy; rfl) (by unfold maxLen; omega) (by omega) (by simp; omega) ?_
               intro v3 w3 hown3 hgrow3 hnil3
               obtain ⟨g3, c3, rfl⟩ := ownsRow_succ hown3
               have X : Hid (w3.ownsRow w.heap.size 9 1 (.slice (some ⟨g3, 0, none⟩) (xs.length + 1) c3) (xs.length + 1) (strs xs ++ [.string b]) ∧ Below w.heap.size w w3) :=
                 ⟨hown3, Below.grown (B2.alloc (by omega) _) hgrow3 (by simp; omega) (fun j hj => (World.ownsRow.lt HRow.out _ hj).1)⟩
               clear hown3 hgrow3 hnil3
               have hstr : strs xs ++ [.string b] = strs (xs ++ [b.data.toList]) := by simp [strs]
               have T3 : Hid (Texts w3 g3 (xs ++ [b.data.toList]) ∧ g3 < w3.heap.size) := ⟨texts_of_row (by rw [← hstr]; exact X.out.1), lt_of_row X.out.1⟩
               clear hstr)
  · have h : xs.length = 32 := by omega
    go_ret2
    exact ⟨([], 3), rfl, H32.out h, X.out.2⟩
  · have h : xs.length ≠ 32 := by omega
    have hl : (xs ++ [b.data.toList]).length = xs.length + 1 := by simp
    have hfl : (xs ++ [b.data.toList]).flatten.length ≤ 40000 := by
      rw [List.flatten_append, List.length_append]
      simp only [List.flatten_cons, List.flatten_nil, List.append_nil, len_bytes]
      omega
    have cRa := Raised_calls (xs ++ [b.data.toList]) g3 c3 w3 T3.out.1 T3.out.2 (by omega) (by omega) (by omega)
    rw [hl] at cRa
    refine cRa.mono ?_
    rintro e' w4 ⟨ys, rfl, hperm, hch, b4⟩
    rw [hl]
    have B4 := X.out.2.trans (b4.mono X.out.2.size)
    have hyl := perm_flat hperm
    have cM := fun W => Rmade_calls ⟨(101 :: UInt8.ofNat (xs.length + 1) :: ys.flatten).toArray⟩ (by rw [size_list]; simp only [List.length_cons]; omega) W
    have em : (⟨(101 :: UInt8.ofNat (xs.length + 1) :: ys.flatten).toArray⟩ : ByteArray).data.toList = 101 :: UInt8.ofNat (xs.length + 1) :: ys.flatten := by simp
    rw [em] at cM
    have hfin := HOk.out h ys hperm hch
    generalize Tm.madeT (101 :: UInt8.ofNat (xs.length + 1) :: ys.flatten) = r at *
    generalize (101 :: UInt8.ofNat (xs.length + 1) :: ys.flatten) = y at *
    have HM := Lib.hid cM
    have HFin := Lib.hid hfin
    clear cRa cM em hfin hyl hperm hch hl hfl b4
    go_wp2_with fail
    refine (HM.out _).mono ?_
    rintro e' w' ⟨rfl, md5, rfl⟩
    go_wp2
    go_ret2
    exact ⟨r, rfl, HFin.out, below_drewN B4 _⟩

theorem RPower_calls (a b : ByteArray) (ha : a.size ≤ 20000) (hb : b.size ≤ 20000) (w : World) : Calls Try.prog 15 #[.string a, .string b] w (PowRel w a.data.toList b.data.toList) := by
  have no : ¬ (Tm.right a.data.toList = true ∧ Tm.element a.data.toList = true ∧ Tm.right b.data.toList = true) → ∀ e w', One w (.tuple #[.string ⟨#[]⟩, .int .i64 1]) e w' → PowRel w a.data.toList b.data.toList e w' :=
    fun h e w' hp => ⟨([], 1), hp.1, .inl ⟨h, rfl⟩, hp.2⟩
  cases hr : Tm.right a.data.toList with
  | false => exact (RPower_no1 a b (by omega) (by rw [hr]; rfl) w).mono (no (by rw [hr]; simp))
  | true =>
    cases hel : Tm.element a.data.toList with
    | false => exact (RPower_no1 a b (by omega) (by rw [hr, hel]; rfl) w).mono (no (by rw [hel]; simp))
    | true =>
      cases hrb : Tm.right b.data.toList with
      | false => exact (RPower_no2 a b (by omega) (by omega) (by rw [hr, hel]; rfl) hrb w).mono (no (by rw [hrb]; simp))
      | true => exact RPower_yes a b ha hb hr hel hrb w

end Go.Proofs.Ytccdpimmmicgaaa
