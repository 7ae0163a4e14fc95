/- Contract of slices.BinarySearch at rows of terms: the place that it tells has a lesser term ahead of it and none that is less at it. -/
import Derived.Test.YtloheongiceliaaExps
namespace Go.Proofs.Ytloheongiceliaa
open Go.ChangeShapes Go.WideShapes Go.ChangeAt Go.RowKit

set_option maxHeartbeats 400000 in
theorem cmpNaN_calls (x : ByteArray) (w : World) : Calls Try.prog 88 #[.string x] w fun e w' => e = .returned (.bool false) ∧ w = w' := by
  go_enter Try.func88, Try.ntmps88
  go_wp2
  go_ret
  exact ⟨by simp, rfl⟩

set_option maxHeartbeats 400000 in
theorem slNaN_calls (x : ByteArray) (w : World) : Calls Try.prog 68 #[.string x] w fun e w' => e = .returned (.bool false) ∧ w = w' := by
  go_enter Try.func68, Try.ntmps68
  go_wp2
  go_ret
  exact ⟨by simp, rfl⟩

set_option maxHeartbeats 400000 in
theorem Less_calls (x y : ByteArray) (w : World) : Calls Try.prog 67 #[.string x, .string y] w fun e w' => e = .returned (.bool (Tm.less x.data.toList y.data.toList)) ∧ w = w' := by
  have hl : Tm.less x.data.toList y.data.toList = Op.bytesLess x.toList y.toList := by rw [ByteArray.toList_eq, ByteArray.toList_eq]; rfl
  rw [hl]
  clear hl
  go_enter Try.func67, Try.ntmps67
  go_wp2_with (go_at_call 88; refine (cmpNaN_calls _ _).mono ?_; rintro e' w' ⟨rfl, rfl⟩)
  go_ret
  exact ⟨rfl, rfl⟩

/-- What the search tells of a row. -/
def Found (xs : List (List UInt8)) (t : List UInt8) (i : Nat) : Prop :=
  i ≤ xs.length ∧ (0 < i → Tm.less (xs.getD (i - 1) []) t = true) ∧ (i < xs.length → Tm.less (xs.getD i []) t = false)

def Searching (w : World) (xs : List (List UInt8)) (t : List UInt8) (k : Nat) (v7 v8 : Value) (wr : World) : Prop :=
  ∃ i j : Nat, k = j - i ∧ i ≤ j ∧ j ≤ xs.length ∧ v7 = .int .i64 i ∧ v8 = .int .i64 j ∧ (0 < i → Tm.less (xs.getD (i - 1) []) t = true) ∧ (j < xs.length → Tm.less (xs.getD j []) t = false) ∧ wr = w

def SearchOut (w : World) (xs : List (List UInt8)) (t : List UInt8) (e : Ending) (w' : World) : Prop :=
  ∃ (i : Nat) (b : Bool), e = .returned (.tuple #[.int .i64 i, .bool b]) ∧ Found xs t i ∧ w' = w

set_option maxHeartbeats 400000 in
theorem Search_none (t : ByteArray) (w : World) :
    Calls Try.prog 45 #[.slice none 0 0, .string t] w fun e w' => e = .returned (.tuple #[.int .i64 0, .bool false]) ∧ w = w' := by
  go_enter Try.func45, Try.ntmps45
  go_wp2
  go_loopg [7, 8] 1 (fun k v7 v8 wr => v7 = .int .i64 0 ∧ v8 = .int .i64 0 ∧ wr = w)
  case atStart => exact ⟨rfl, rfl, rfl⟩
  case round =>
    obtain ⟨rfl, rfl, rfl⟩ := hrel
    go_wp2
    go_ret2
    exact ⟨rfl, rfl⟩

set_option maxRecDepth 100000 in
set_option maxHeartbeats 1000000 in
theorem Search_calls (xs : List (List UInt8)) (t : ByteArray) (g cap : Nat) (w : World) (hT : Texts w g xs) (hn : xs.length ≤ 40) :
    Calls Try.prog 45 #[.slice (some ⟨g, 0, none⟩) xs.length cap, .string t] w (SearchOut w xs t.data.toList) := by
  have HT := Lib.hid hT
  clear hT
  go_enter Try.func45, Try.ntmps45
  go_wp2
  go_loopg [7, 8] xs.length (fun k v7 v8 wr => Searching w xs t.data.toList k v7 v8 wr)
  case atStart => exact ⟨0, xs.length, by omega, by omega, by omega, rfl, rfl, by omega, by omega, rfl⟩
  case round =>
    obtain ⟨i, j, hk, hij, hj, rfl, rfl, hlo, hhi, rfl⟩ := hrel
    by_cases hlt : i < j
    · obtain ⟨m, hm⟩ : ∃ m, (i + j) / 2 = m := ⟨_, rfl⟩
      have hm1 : i ≤ m := by omega
      have hm2 : m < j := by omega
      obtain ⟨x, hx⟩ : ∃ x, xs[m]? = some x := ⟨_, List.getElem?_eq_getElem (by omega)⟩
      have hcell : wr.cell? ⟨g, m, none⟩ = some (.string ⟨x.toArray⟩) := HT.out m x hx
      have hgd : xs.getD m [] = x := by simp [List.getD, hx]
      have i1 : (i : Int) < (j : Int) := by omega
      have i2 : ((i : Int) + (j : Int)) / 2 = (m : Int) := by omega
      have i3 : (0 : Int) ≤ (m : Int) := by omega
      have i4 : (m : Int) < (xs.length : Int) := by omega
      have i5 : m < xs.length := by omega
      have cL := fun W => Less_calls ⟨x.toArray⟩ t W
      simp only at cL
      obtain ⟨bv, hbv⟩ : ∃ b, Tm.less x t.data.toList = b := ⟨_, rfl⟩
      rw [hbv] at cL
      have HX : Hid (xs.getD m [] = x ∧ Tm.less x t.data.toList = bv ∧ (0 < i → Tm.less (xs.getD (i - 1) []) t.data.toList = true) ∧ (j < xs.length → Tm.less (xs.getD j []) t.data.toList = false)) := ⟨hgd, hbv, hlo, hhi⟩
      have HL := Lib.hid cL
      clear cL hgd hbv hlo hhi hx hm
      cases bv
      · go_wp2_with (go_at_call 67; refine (HL.out _).mono ?_; rintro e' w' ⟨rfl, rfl⟩)
        go_roundg (m - i)
        case measure => omega
        case rel => exact ⟨i, m, rfl, hm1, by omega, rfl, rfl, HX.out.2.2.1, fun _ => by rw [HX.out.1]; exact HX.out.2.1, rfl⟩
      · go_wp2_with (go_at_call 67; refine (HL.out _).mono ?_; rintro e' w' ⟨rfl, rfl⟩)
        go_roundg (j - (m + 1))
        case measure => omega
        case rel => exact ⟨m + 1, j, rfl, by omega, hj, rfl, rfl, fun _ => by rw [Nat.add_sub_cancel, HX.out.1]; exact HX.out.2.1, HX.out.2.2.2, rfl⟩
    · have hij2 : j = i := by omega
      subst hij2
      have i1 : ¬ ((j : Int) < (j : Int)) := by omega
      have HF : Hid (Found xs t.data.toList j) := ⟨hj, hlo, hhi⟩
      clear hlo hhi
      by_cases hn2 : j < xs.length
      · obtain ⟨x, hx⟩ : ∃ x, xs[j]? = some x := ⟨_, List.getElem?_eq_getElem hn2⟩
        have hcell : wr.cell? ⟨g, j, none⟩ = some (.string ⟨x.toArray⟩) := HT.out j x hx
        have i2 : (j : Int) < (xs.length : Int) := by omega
        have i3 : (0 : Int) ≤ (j : Int) := by omega
        have d1 : decide ((j : Int) < (xs.length : Int)) = true := by simpa using i2
        clear hx
        obtain ⟨q, hq⟩ : ∃ q, ((⟨x.toArray⟩ : ByteArray).toList == t.toList) = q := ⟨_, rfl⟩
        have hq2 : (x == t.toList) = q := by rw [← hq, ByteArray.toList_mk x]
        cases q
        · go_wp2_with (go_at_call 68; refine (slNaN_calls _ _).mono ?_; rintro e' w' ⟨rfl, rfl⟩)
          all_goals first
            | (go_ret2; exact ⟨j, _, rfl, HF.out, rfl⟩)
        · go_wp2_with (go_at_call 68; refine (slNaN_calls _ _).mono ?_; rintro e' w' ⟨rfl, rfl⟩)
          all_goals first
            | (go_ret2; exact ⟨j, _, rfl, HF.out, rfl⟩)
      · have d1 : decide ((j : Int) < (xs.length : Int)) = false := by simp; omega
        go_wp2
        all_goals first
          | (go_ret2; exact ⟨j, _, rfl, HF.out, rfl⟩)

end Go.Proofs.Ytloheongiceliaa
