/- Rows of texts in memory; contracts of the statements' own same (of equal rows) and shown. -/
import Derived.Test.YtonidhpjecohlaaQRest
namespace Go.Proofs.Ytonidhpjecohlaa.L6
open Go.ChangeShapes Go.WideShapes Go.ChangeAt Go.RowKit L5

theorem addr_block (ad : Addr) (i : Nat) : (ad.add i).block = ad.block := by unfold Addr.add; split <;> rfl
/-- A row of texts, as it lies in memory. -/
def SRow (w : World) (v : Value) (zs : List ByteArray) : Prop := ∃ A c, v = .slice A zs.length c ∧ ∀ j x, zs[j]? = some x → ∃ ad : Addr, A = some ad ∧ ad.block < w.heap.size ∧ w.cell? (ad.add j) = some (.string x)
theorem SRow.below {w w' : World} {v : Value} {zs : List ByteArray} (h : SRow w v zs) (hb : Below w.heap.size w w') : SRow w' v zs := by
  obtain ⟨A, c, e, k⟩ := h
  refine ⟨A, c, e, fun j x hx => ?_⟩
  obtain ⟨ad, rfl, h1, h2⟩ := k j x hx
  exact ⟨ad, rfl, Nat.lt_of_lt_of_le h1 hb.size, (hb.cell (p := ad.add j) (by rw [addr_block]; exact h1)).trans h2⟩
theorem SRow.of_own {w : World} {B : Nat} {e : TypeId} {v : Value} {zs : List ByteArray} (h : w.ownsRow B e 1 v zs.length (strV zs)) : SRow w v zs := by
  rcases h.2 with ⟨rfl, h0⟩ | ⟨g, cap, cur, rfl, h1, h2, h3⟩
  · have : zs = [] := List.length_eq_zero_iff.1 h0
    subst this
    exact ⟨none, 0, rfl, fun j x hx => by simp at hx⟩
  · refine ⟨some ⟨g, 0, none⟩, cap, rfl, fun j x hx => ⟨⟨g, 0, none⟩, rfl, (h.lt g rfl).2, ?_⟩⟩
    have hjl := (List.getElem?_eq_some_iff.1 hx).1
    have := h.cellAt j (by omega)
    have e2 : ((⟨g, 0, none⟩ : Addr).add j) = ⟨g, j, none⟩ := by
      simp [Addr.add]
      omega
    rw [e2, this]
    simp [strV, hx]

def SameGo (w : World) (n k : Nat) (v5 : Value) (wr : World) : Prop := ∃ i : Nat, k + i = n ∧ v5 = .int .i64 i ∧ ∃ m, wr = w.drewN m

set_option maxRecDepth 100000 in
set_option maxHeartbeats 1000000 in
theorem same_calls (zs : List ByteArray) (va vb : Value) (w : World) (ha : SRow w va zs) (hb : SRow w vb zs) (hl : zs.length ≤ 100000) : Calls Try.prog 18 #[va, vb] w fun e w' => e = .returned (.bool true) ∧ ∃ m, w' = w.drewN m := by
  obtain ⟨A, c, rfl, hka⟩ := ha
  obtain ⟨B, d, rfl, hkb⟩ := hb
  have HA := Lib.hid hka
  have HB := Lib.hid hkb
  clear hka hkb
  go_enter Try.func18, Try.ntmps18
  go_wp2
  go_loopg [5] zs.length (fun k v5 wr => SameGo w zs.length k v5 wr)
  case atStart => exact ⟨0, rfl, rfl, 0, rfl⟩
  case round =>
    obtain ⟨i, hk, rfl, m, rfl⟩ := hrel
    by_cases hlt : i < zs.length
    · obtain ⟨x, hx⟩ : ∃ x, zs[i]? = some x := ⟨_, List.getElem?_eq_getElem hlt⟩
      obtain ⟨ad, rfl, _, c1⟩ := HA.out i x hx
      obtain ⟨bd, rfl, _, c2⟩ := HB.out i x hx
      have j1 : (i : Int) < (zs.length : Int) := by omega
      have j2 : (0 : Int) ≤ (i : Int) := by omega
      clear hx
      go_wp2
      go_quiet (fail)
      go_wp2
      go_roundg (gk - 1)
      case measure => omega
      case rel => exact ⟨i + 1, by omega, rfl, _, rfl⟩
    · have j1 : ¬ ((i : Int) < (zs.length : Int)) := by omega
      go_wp2
      go_ret
      exact ⟨rfl, _, rfl⟩

set_option maxRecDepth 100000 in
set_option maxHeartbeats 2000000 in
theorem shown_calls (w : World) : Calls Try.prog 7 #[] w (One w (.bool true)) := by
  have HN := Lib.hid (New_calls 1 w)
  go_enter Try.func7, Try.ntmps7
  go_wp2_with fail
  refine HN.out.mono ?_
  rintro e w1 ⟨_, hok⟩
  obtain ⟨rfl, hq, hb, hs⟩ := hok 1 rfl (by omega) (by omega)
  have HP := Lib.hid (Push_room hq (by simp) ⟨#[103]⟩)
  have HB := Lib.hid (And.intro hb hs)
  clear hok hq hb hs
  go_wp2_with fail
  refine HP.out.mono ?_
  rintro e w2 ⟨rfl, hq, hg⟩
  have HB2 := Lib.hid (below_turn HB.out.1 hg (by have := HB.out.2; omega) (Nat.le_refl _))
  have HP2 := Lib.hid (Push_full hq (by simp) ⟨#[104, 103]⟩)
  have HP3 := Lib.hid (Pop_some hq)
  have hlt := hq.lt
  clear HP hq hg
  go_wp2_with fail
  refine HP2.out.mono ?_
  rintro e w3 ⟨rfl, rfl⟩
  go_wp2_with fail
  refine HP3.out.mono ?_
  rintro e w3 ⟨rfl, hq, hg⟩
  have HB3 := Lib.hid (below_turn HB2.out hg hlt.2 (Nat.le_refl _))
  have HP4 := Lib.hid (Pop_none hq)
  clear HP2 HP3 hq hg hlt
  go_wp2_with fail
  refine HP4.out.mono ?_
  rintro e w4 ⟨rfl, rfl⟩
  go_wp2
  go_ret
  exact ⟨rfl, HB3.out⟩

end Go.Proofs.Ytonidhpjecohlaa.L6
