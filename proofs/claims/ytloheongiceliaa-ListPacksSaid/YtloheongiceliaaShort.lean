/- Contract of the laws' short: a message that can be gone through. -/
import Derived.Test.YtloheongiceliaaMsg
namespace Go.Proofs.Ytloheongiceliaa.L4
open Go.ChangeShapes Go.WideShapes Go.ChangeAt Go.RowKit

def ShortOut (w : World) (m : Msg) (e : Ending) (w' : World) : Prop := ∃ b, e = .returned (.bool b) ∧ (b = true → m.mem.length < 20 ∧ m.terms.length < 200) ∧ Below w.heap.size w w'
def Shorting (W0 : World) (n K : Nat) (v3 v4 : Value) (wr : World) : Prop := ∃ (i : Nat) (s : Int), K + i = n ∧ v4 = .int .i64 i ∧ v3 = .int .i64 s ∧ W0 = wr
/-- The cells of a message that was boxed. -/
def Boxed (W : World) (b : Nat) (m : Msg) (vm vt : Value) : Prop := W.cell? ⟨b, 0, none⟩ = some (.int .i64 m.kind) ∧ W.cell? ⟨b, 1, none⟩ = some (.int .i64 m.e1) ∧ W.cell? ⟨b, 2, none⟩ = some (.int .i64 m.c1) ∧ W.cell? ⟨b, 3, none⟩ = some (.int .i64 m.e2) ∧ W.cell? ⟨b, 4, none⟩ = some (.int .i64 m.c2) ∧ W.cell? ⟨b, 5, none⟩ = some (.int .i64 m.num) ∧ W.cell? ⟨b, 6, none⟩ = some vm ∧ W.cell? ⟨b, 7, none⟩ = some vt
theorem boxed_new (w : World) (m : Msg) (vm vt : Value) (t : TypeId) : Boxed (w.alloc (.cells (msgCells m vm vt) t)) w.heap.size m vm vt := by
  have hcs : ∀ j, (w.alloc (.cells (msgCells m vm vt) t)).cell? ⟨w.heap.size, j, none⟩ = (msgCells m vm vt)[j]? := fun j => by
    simp only [World.cell?]
    rw [World.alloc_heap_new]
    rfl
  exact ⟨hcs 0, hcs 1, hcs 2, hcs 3, hcs 4, hcs 5, hcs 6, hcs 7⟩
theorem Boxed.below {W W' : World} {b : Nat} {m : Msg} {vm vt : Value} (h : Boxed W b m vm vt) {B : Nat} (hb : Below B W W') (hlt : b < B) : Boxed W' b m vm vt := by
  obtain ⟨h0, h1, h2, h3, h4, h5, h6, h7⟩ := h
  have k : ∀ j, W'.cell? ⟨b, j, none⟩ = W.cell? ⟨b, j, none⟩ := fun j => hb.cell (p := ⟨b, j, none⟩) hlt
  exact ⟨(k 0).trans h0, (k 1).trans h1, (k 2).trans h2, (k 3).trans h3, (k 4).trans h4, (k 5).trans h5, (k 6).trans h6, (k 7).trans h7⟩

set_option maxRecDepth 100000 in
set_option maxHeartbeats 4000000 in
theorem short_calls (m : Msg) (vm vt : Value) (w : World) (h : MsgA w m vm vt) : Calls Try.prog 27 #[.agg (msgCells m vm vt)] w (ShortOut w m) := by
  obtain ⟨A5, c5, rfl⟩ : ∃ A c, vm = .slice A m.mem.length c := by obtain ⟨⟨A, c, e, k⟩, f⟩ := h.mem; exact ⟨A, c, e⟩
  obtain ⟨A6, c6, rfl⟩ : ∃ A c, vt = .slice A m.terms.length c := by obtain ⟨⟨A, c, e, k⟩, f⟩ := h.terms; exact ⟨A, c, e⟩
  have hbx := boxed_new w m (.slice A5 m.mem.length c5) (.slice A6 m.terms.length c6) 51
  unfold msgCells at hbx ⊢
  obtain ⟨W0, hW0⟩ : ∃ W0, w.alloc (.cells #[.int .i64 m.kind, .int .i64 m.e1, .int .i64 m.c1, .int .i64 m.e2, .int .i64 m.c2, .int .i64 m.num, .slice A5 m.mem.length c5, .slice A6 m.terms.length c6] 51) = W0 := ⟨_, rfl⟩
  have hB : Below w.heap.size w W0 := by rw [← hW0]; exact (Below.refl _ w).alloc (Nat.le_refl _) _
  rw [hW0] at hbx
  obtain ⟨y0, y1, y2, y3, y4, y5, y6, y7⟩ := hbx
  have HT : Hid (∀ j z, m.terms[j]? = some z → z.length ≤ 9223372036854775807 ∧ ∃ ad : Addr, A6 = some ad ∧ W0.cell? (ad.add j) = some (.string ⟨z.toArray⟩)) := by
    intro j z hz
    have hsh := h.terms.short z (List.mem_of_getElem? hz)
    obtain ⟨A, c, e, k⟩ := h.terms.reads
    cases e
    obtain ⟨ad, e2, b1, _, b2⟩ := k j z hz
    exact ⟨by unfold maxLen at hsh; exact hsh, ad, e2, (hB.cell (p := ad.add j) (by rw [addr_block]; exact b1)).trans b2⟩
  have f5 := h.mem.few
  have f6 := h.terms.few
  unfold maxLen at f5 f6
  have HB := Lib.hid hB
  clear hB h y0 y1 y2 y3 y4 y5
  go_enter Try.func27, Try.ntmps27
  go_wp2
  clear hW0
  go_loopg [3, 4] m.terms.length (fun k v3 v4 wr => Shorting W0 m.terms.length k v3 v4 wr)
  case atStart => exact ⟨0, 0, rfl, rfl, rfl, rfl⟩
  case round =>
    obtain ⟨i, s, hk, rfl, rfl, rfl⟩ := hrel
    by_cases hlt : i < m.terms.length
    · obtain ⟨z, hz⟩ : ∃ z, m.terms[i]? = some z := ⟨_, List.getElem?_eq_getElem hlt⟩
      obtain ⟨hzl, ad, rfl, a4⟩ := HT.out i z hz
      have j1 : (i : Int) < (m.terms.length : Int) := by omega
      have j2 : (0 : Int) ≤ (i : Int) := by omega
      have HK := Lib.hid hk
      clear hk hz
      go_wp2
      go_roundg (m.terms.length - (i + 1))
      case measure => have := HK.out; omega
      case rel => exact ⟨i + 1, _, by omega, by simp, rfl, rfl⟩
    · have j1 : ¬ ((i : Int) < (m.terms.length : Int)) := by omega
      by_cases h20 : m.mem.length < 20
      · have j2 : (m.mem.length : Int) < 20 := by omega
        by_cases h200 : m.terms.length < 200
        · have j3 : (m.terms.length : Int) < 200 := by omega
          clear hk
          go_wp2
          go_ret
          exact ⟨_, rfl, fun _ => ⟨h20, h200⟩, HB.out⟩
        · have j3 : ¬ ((m.terms.length : Int) < 200) := by omega
          clear hk
          go_wp2
          go_ret
          exact ⟨false, rfl, (fun h => nomatch h), HB.out⟩
      · have j2 : ¬ ((m.mem.length : Int) < 20) := by omega
        clear hk
        go_wp2
        go_ret
        exact ⟨false, rfl, (fun h => nomatch h), HB.out⟩

end Go.Proofs.Ytloheongiceliaa.L4
