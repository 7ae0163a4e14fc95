/- slices.BinarySearch at a part of a row: where a text stands, or would stand, and whether it is there. A row of texts that can be read. Contract of know.among: is a row found in another one, from the left on? -/
import Derived.Test.YtloheongiceliaaSearch
import Derived.Test.YtloheongiceliaaRef2
import Derived.Test.YtloheongiceliaaAllPure
import Derived.Test.YtloheongiceliaaKnowG
section
namespace Go.Proofs.Ytloheongiceliaa
open Go.ChangeShapes Go.WideShapes Go.ChangeAt Go.RowKit

def TextsAt (w : World) (g off : Nat) (xs : List (List UInt8)) : Prop := ∀ j x, xs[j]? = some x → w.cell? ⟨g, off + j, none⟩ = some (.string ⟨x.toArray⟩)
def SearchFlag (w : World) (xs : List (List UInt8)) (t : List UInt8) (e : Ending) (w' : World) : Prop :=
  ∃ (i : Nat) (b : Bool), e = .returned (.tuple #[.int .i64 i, .bool b]) ∧ Found xs t i ∧ (b = true ↔ xs[i]? = some t) ∧ w' = w

set_option maxRecDepth 100000 in
set_option maxHeartbeats 1000000 in
theorem Search_at (xs : List (List UInt8)) (t : List UInt8) (g off cap : Nat) (w : World) (hT : TextsAt w g off xs) (hn : xs.length ≤ 40) :
    Calls Try.prog 45 #[.slice (some ⟨g, off, none⟩) xs.length cap, .string ⟨t.toArray⟩] w (SearchFlag w xs t) := by
  have HT := Lib.hid hT
  clear hT
  go_enter Try.func45, Try.ntmps45
  go_wp2
  go_loopg [7, 8] xs.length (fun k v7 v8 wr => Searching w xs t k v7 v8 wr)
  case atStart => exact ⟨0, xs.length, by omega, by omega, by omega, rfl, rfl, by omega, by omega, rfl⟩
  case round =>
    obtain ⟨i, j, hk, hij, hj, rfl, rfl, hlo, hhi, rfl⟩ := hrel
    by_cases hlt : i < j
    · obtain ⟨m, hm⟩ : ∃ m, (i + j) / 2 = m := ⟨_, rfl⟩
      have hm1 : i ≤ m := by omega
      have hm2 : m < j := by omega
      obtain ⟨x, hx⟩ : ∃ x, xs[m]? = some x := ⟨_, List.getElem?_eq_getElem (by omega)⟩
      have hcell : wr.cell? ⟨g, off + m, none⟩ = some (.string ⟨x.toArray⟩) := HT.out m x hx
      have hgd : xs.getD m [] = x := by simp [List.getD, hx]
      have i1 : (i : Int) < (j : Int) := by omega
      have i2 : ((i : Int) + (j : Int)) / 2 = (m : Int) := by omega
      have i3 : (0 : Int) ≤ (m : Int) := by omega
      have i4 : (m : Int) < (xs.length : Int) := by omega
      have i5 : m < xs.length := by omega
      have cL := fun W => Less_calls ⟨x.toArray⟩ ⟨t.toArray⟩ W
      simp only at cL
      obtain ⟨bv, hbv⟩ : ∃ b, Tm.less x t = b := ⟨_, rfl⟩
      rw [hbv] at cL
      have HX : Hid (xs.getD m [] = x ∧ Tm.less x t = bv ∧ (0 < i → Tm.less (xs.getD (i - 1) []) t = true) ∧ (j < xs.length → Tm.less (xs.getD j []) t = false)) := ⟨hgd, hbv, hlo, hhi⟩
      have HL := Lib.hid cL
      clear cL hgd hbv hlo hhi hx hm
      cases bv
      · go_wp2_with (go_at_call 67; refine (HL.out _).mono ?_; rintro e' w' ⟨rfl, rfl⟩)
        go_roundg (m - i)
        case measure => omega
        case rel => exact ⟨i, m, rfl, hm1, by omega, rfl, rfl, HX.out.2.2.1, fun _ => by rw [HX.out.1]; exact HX.out.2.1, rfl⟩
      · go_wp2_with (go_at_call 67; refine (HL.out _).mono ?_; rintro e' w' ⟨rfl, rfl⟩)
        go_roundg (j - (m + 1))
        case measure => omega
        case rel => exact ⟨m + 1, j, rfl, by omega, hj, rfl, rfl, fun _ => by rw [Nat.add_sub_cancel, HX.out.1]; exact HX.out.2.1, HX.out.2.2.2, rfl⟩
    · have hij2 : j = i := by omega
      subst hij2
      have i1 : ¬ ((j : Int) < (j : Int)) := by omega
      have HF : Hid (Found xs t j) := ⟨hj, hlo, hhi⟩
      clear hlo hhi
      by_cases hn2 : j < xs.length
      · obtain ⟨x, hx⟩ : ∃ x, xs[j]? = some x := ⟨_, List.getElem?_eq_getElem hn2⟩
        have hcell : wr.cell? ⟨g, off + j, none⟩ = some (.string ⟨x.toArray⟩) := HT.out j x hx
        have i2 : (j : Int) < (xs.length : Int) := by omega
        have i3 : (0 : Int) ≤ (j : Int) := by omega
        have d1 : decide ((j : Int) < (xs.length : Int)) = true := by simpa using i2
        by_cases hxt : x = t
        · subst hxt
          have hq2 : (x == x) = true := by simp
          have HX : Hid (xs[j]? = some x) := hx
          clear hx
          go_wp2_with (go_at_call 68; refine (slNaN_calls _ _).mono ?_; rintro e' w' ⟨rfl, rfl⟩)
          all_goals first
            | (go_ret2; exact ⟨j, true, rfl, HF.out, by simp [HX.out], rfl⟩)
        · have hq2 : (x == t) = false := by simpa using hxt
          have HX : Hid (xs[j]? = some x) := hx
          clear hx
          go_wp2_with (go_at_call 68; refine (slNaN_calls _ _).mono ?_; rintro e' w' ⟨rfl, rfl⟩)
          all_goals first
            | (go_ret2; exact ⟨j, false, rfl, HF.out, by simp [HX.out, hxt], rfl⟩)
      · have d1 : decide ((j : Int) < (xs.length : Int)) = false := by simp; omega
        have HX : Hid (xs[j]? = none) := List.getElem?_eq_none (by omega)
        go_wp2
        all_goals first
          | (go_ret2; exact ⟨j, false, rfl, HF.out, by simp [HX.out], rfl⟩)

end Go.Proofs.Ytloheongiceliaa
end

section
namespace Go.Proofs.Ytloheongiceliaa
open Go.ChangeShapes Go.WideShapes Go.ChangeAt Go.RowKit

/-- A row of texts that can be read. -/
def Reads (w : World) (v : Value) (xs : List (List UInt8)) : Prop :=
  ∃ A c, v = .slice A xs.length c ∧ ∀ j x, xs[j]? = some x → ∃ g, A = some ⟨g, 0, none⟩ ∧ g < w.heap.size ∧ w.cell? ⟨g, j, none⟩ = some (.string ⟨x.toArray⟩)
theorem Reads.below {w w' : World} {v : Value} {xs : List (List UInt8)} (h : Reads w v xs) (hb : Below w.heap.size w w') : Reads w' v xs := by
  obtain ⟨A, c, h1, h2⟩ := h
  refine ⟨A, c, h1, fun j x hx => ?_⟩
  obtain ⟨g, e, hg, hc⟩ := h2 j x hx
  exact ⟨g, e, Nat.lt_of_lt_of_le hg hb.size, (hb.cell (p := ⟨g, j, none⟩) hg).trans hc⟩
theorem reads_of_row {w : World} {B : Nat} {v : Value} {xs : List (List UInt8)} (h : w.ownsRow B 9 1 v xs.length (strs xs)) : Reads w v xs := by
  rcases h.2 with ⟨rfl, h0⟩ | ⟨g, cap, cur, rfl, _⟩
  · have : xs = [] := List.length_eq_zero_iff.1 h0
    subst this
    exact ⟨none, 0, rfl, fun j x hx => by simp at hx⟩
  · exact ⟨_, cap, rfl, fun j x hx => ⟨g, rfl, lt_of_row h, texts_of_row h j x hx⟩⟩

theorem less_of_not {x s : List UInt8} (h1 : Tm.less s x = false) (h2 : x ≠ s) : Tm.less x s = true := by
  cases h : Tm.less x s with
  | true => rfl
  | false => exact absurd (Tm.less_antisymm x s h h1) h2

end Go.Proofs.Ytloheongiceliaa
end

section
namespace Go.Proofs.Ytloheongiceliaa
open Go.ChangeShapes Go.WideShapes Go.ChangeAt Go.RowKit

theorem leq_refl (a : List UInt8) : Tm.leq a a := by
  unfold Tm.leq
  cases hx : Tm.less a a with
  | false => rfl
  | true => have := Tm.less_asymm _ _ hx; rw [hx] at this; cases this
theorem found_ahead {xs : List (List UInt8)} {t : List UInt8} {i : Nat} (hs : xs.Pairwise Tm.leq) (h : Found xs t i) : t ∉ xs.take i := by
  intro hm
  obtain ⟨j, hj, e⟩ := List.getElem_of_mem hm
  rw [List.getElem_take] at e
  rw [List.length_take] at hj
  obtain ⟨h1, h2, h3⟩ := h
  have hi : 0 < i := by omega
  have hl := h2 hi
  have hil : i - 1 < xs.length := by omega
  rw [List.getD_eq_getElem?_getD, List.getElem?_eq_getElem hil, Option.getD_some] at hl
  have hle : Tm.leq xs[j] xs[i - 1] := by
    rcases Nat.lt_or_eq_of_le (show j ≤ i - 1 by omega) with hlt | he
    · exact List.pairwise_iff_getElem.1 hs j (i - 1) (by omega) hil hlt
    · have e2 : xs[j] = xs[i - 1] := by congr 1
      rw [e2]
      exact leq_refl _
  unfold Tm.leq at hle
  rw [e] at hle
  rw [hl] at hle
  cases hle
theorem found_iff {xs : List (List UInt8)} {t : List UInt8} {i : Nat} (hs : xs.Pairwise Tm.leq) (h : Found xs t i) : xs[i]? = some t ↔ t ∈ xs := by
  constructor
  · exact List.mem_of_getElem?
  · intro hm
    have hna := found_ahead hs h
    rw [← List.take_append_drop i xs] at hm
    rcases List.mem_append.1 hm with hm | hm
    · exact absurd hm hna
    · obtain ⟨j, hj, e⟩ := List.getElem_of_mem hm
      rw [List.getElem_drop] at e
      rw [List.length_drop] at hj
      obtain ⟨h1, h2, h3⟩ := h
      have hil : i < xs.length := by omega
      have hl := h3 hil
      rw [List.getD_eq_getElem?_getD, List.getElem?_eq_getElem hil, Option.getD_some] at hl
      rw [List.getElem?_eq_getElem hil]
      by_cases hj0 : j = 0
      · subst hj0
        simp only [Nat.add_zero] at e
        rw [e]
      · have hle := List.pairwise_iff_getElem.1 hs i (i + j) hil (by omega) (by omega)
        rw [e] at hle
        rw [Tm.less_antisymm _ _ hl hle]

/-- A part of a row, as a slice. -/
def PartOf (w : World) (v : Value) (b : List (List UInt8)) : Prop :=
  ∃ B c, v = .slice B b.length c ∧ b.length ≤ c ∧ ∀ j x, b[j]? = some x → ∃ g off, B = some ⟨g, off, none⟩ ∧ w.cell? ⟨g, off + j, none⟩ = some (.string ⟨x.toArray⟩)

set_option maxHeartbeats 400000 in
theorem Search_empty (B : Option Addr) (c : Nat) (t : ByteArray) (w : World) :
    Calls Try.prog 45 #[.slice B 0 c, .string t] w fun e w' => e = .returned (.tuple #[.int .i64 0, .bool false]) ∧ w = w' := by
  go_enter Try.func45, Try.ntmps45
  go_wp2
  go_loopg [7, 8] 1 (fun k v7 v8 wr => v7 = .int .i64 0 ∧ v8 = .int .i64 0 ∧ wr = w)
  case atStart => exact ⟨rfl, rfl, rfl⟩
  case round =>
    obtain ⟨rfl, rfl, rfl⟩ := hrel
    go_wp2
    go_ret2
    exact ⟨rfl, rfl⟩

theorem Search_part (b : List (List UInt8)) (t : List UInt8) (v : Value) (w : World) (h : PartOf w v b) (hn : b.length ≤ 40) (hs : b.Pairwise Tm.leq) :
    Calls Try.prog 45 #[v, .string ⟨t.toArray⟩] w fun e w' => ∃ (i : Nat) (q : Bool), e = .returned (.tuple #[.int .i64 i, .bool q]) ∧ t ∉ b.take i ∧ (q = true ↔ b[i]? = some t) ∧ (q = true ↔ t ∈ b) ∧ w = w' := by
  obtain ⟨B, c, rfl, _, h1⟩ := h
  cases b with
  | nil =>
    refine (Search_empty B c ⟨t.toArray⟩ w).mono ?_
    rintro e w' ⟨rfl, rfl⟩
    exact ⟨0, false, rfl, by simp, by simp, by simp, rfl⟩
  | cons x xs =>
    obtain ⟨g, off, rfl, _⟩ := h1 0 x rfl
    refine (Search_at (x :: xs) t g off c w (fun j y hy => ?_) hn).mono ?_
    · obtain ⟨g2, off2, e, hc⟩ := h1 j y hy
      cases e
      exact hc
    · rintro e w' ⟨i, q, rfl, hf, hq, rfl⟩
      exact ⟨i, q, rfl, found_ahead hs hf, hq, hq.trans (found_iff hs hf), rfl⟩

def AmongOut (w : World) (a b : List (List UInt8)) (e : Ending) (w' : World) : Prop := ∃ r : Bool, e = .returned (.bool r) ∧ (r = true ↔ a.Sublist b) ∧ w = w'
def Amongst (a b : List (List UInt8)) (w : World) (K : Nat) (v1 v11 : Value) (wr : World) : Prop :=
  ∃ (i : Nat) (b' : List (List UInt8)), K + i = a.length ∧ v11 = .int .i64 i ∧ PartOf w v1 b' ∧ b'.length ≤ 40 ∧ b'.Pairwise Tm.leq ∧ ((a.drop i).Sublist b' ↔ a.Sublist b) ∧ wr = w

set_option maxRecDepth 100000 in
set_option maxHeartbeats 2000000 in
theorem among_calls (a b : List (List UInt8)) (va vb : Value) (w : World) (ha : Reads w va a) (hb : PartOf w vb b) (hna : a.length ≤ 40) (hnb : b.length ≤ 40) (hs : b.Pairwise Tm.leq) :
    Calls Try.prog 110 #[va, vb] w (AmongOut w a b) := by
  obtain ⟨A, ca, rfl, ha⟩ := ha
  have HA := Lib.hid ha
  have HB := Lib.hid (And.intro hb hs)
  clear ha hb hs
  go_enter Try.func110, Try.ntmps110
  go_wp2
  go_loopg [1, 11] a.length (fun K v1 v11 wr => Amongst a b w K v1 v11 wr)
  case atStart => exact ⟨0, b, by omega, rfl, HB.out.1, hnb, HB.out.2, by simp, rfl⟩
  case round =>
    obtain ⟨i, b', hK, rfl, hp, hl, hs, hiff, rfl⟩ := hrel
    have HI := Lib.hid hiff
    have HK := Lib.hid hK
    clear hiff hK
    by_cases hi : i < a.length
    · obtain ⟨t, ht⟩ : ∃ t, a[i]? = some t := ⟨_, List.getElem?_eq_getElem hi⟩
      obtain ⟨g, rfl, hg, hc⟩ := HA.out i t ht
      have HT : Hid (a.drop i = t :: a.drop (i + 1)) := by
        show _ = _
        have := List.drop_eq_getElem_cons hi
        rw [this]
        congr 1
        exact (List.getElem?_eq_some_iff.1 ht).2
      have HSe := Lib.hid (Search_part b' t u1 wr hp hl hs)
      have HP := Lib.hid hp
      have HS := Lib.hid hs
      have j1 : (i : Int) < (a.length : Int) := by omega
      have j2 : (0 : Int) ≤ (i : Int) := by omega
      clear ht hp hs
      go_wp2_with fail
      refine HSe.out.mono ?_
      rintro e' w' ⟨p, q, rfl, h1, h2, h3, rfl⟩
      cases q with
      | false =>
        have hno : Hid (¬ a.Sublist b) := fun h => by
          have h4 := HI.out.2 h
          rw [HT.out] at h4
          exact Tm.sub_none (fun hm => by have := h3.2 hm; cases this) h4
        clear h1 h2 h3
        go_wp2
        go_ret
        exact ⟨false, rfl, by simp [hno.out], rfl⟩
      | true =>
        obtain ⟨B, c, hu, hlc, hcells⟩ := HP.out
        subst hu
        have hpt := h2.1 rfl
        have hpl := (List.getElem?_eq_some_iff.1 hpt).1
        have hsplit : b' = b'.take p ++ t :: b'.drop (p + 1) := by
          have h4 := List.drop_eq_getElem_cons hpl
          rw [(List.getElem?_eq_some_iff.1 hpt).2] at h4
          rw [← h4, List.take_append_drop]
        have hnew : Hid ((a.drop (i + 1)).Sublist (b'.drop (p + 1)) ↔ a.Sublist b) := by
          show _ ↔ _
          rw [← HI.out, HT.out, hsplit]
          have := Tm.sub_step (t := t) (a := a.drop (i + 1)) (pre := b'.take p) (post := b'.drop (p + 1)) h1
          rw [← hsplit] at this ⊢
          exact this.symm
        have k1 : ((p : Int) + 1) ≤ (b'.length : Int) := by omega
        have k2 : (0 : Int) ≤ (p : Int) + 1 := by omega
        have k3 : (b'.length : Int) ≤ (c : Int) := by omega
        have k4 : IntKind.i64.wrap ((p : Int) + 1) = (p : Int) + 1 := by rw [IntKind.wrap_i64]; omega
        have HC := Lib.hid hcells
        have HL := Lib.hid (And.intro hpl hlc)
        clear h1 h2 h3 hpt hsplit hcells
        go_wp2
        all_goals
          go_roundg (gk - 1)
          case measure => have := HK.out; omega
          case rel =>
            refine ⟨i + 1, b'.drop (p + 1), by have := HK.out; omega, rfl, ?_, by rw [List.length_drop]; omega, HS.out.drop, hnew.out, rfl⟩
            refine ⟨_, _, by rw [List.length_drop], by rw [List.length_drop]; have := HL.out; omega, fun j x hx => ?_⟩
            rw [List.getElem?_drop] at hx
            obtain ⟨g2, off2, rfl, hcell⟩ := HC.out _ _ hx
            first
              | exact ⟨g2, off2 + (p + 1), rfl, by rw [Nat.add_assoc]; exact hcell⟩
              | (exfalso; have := HL.out; have := (List.getElem?_eq_some_iff.1 hx).1; omega)
    · obtain rfl : i = a.length := by have := HK.out; omega
      have j1 : ¬ ((a.length : Int) < (a.length : Int)) := by omega
      have hyes : Hid (a.Sublist b) := HI.out.1 (by rw [List.drop_length]; exact List.nil_sublist _)
      go_wp2
      go_ret
      exact ⟨true, rfl, by simp [hyes.out], rfl⟩

end Go.Proofs.Ytloheongiceliaa
end
