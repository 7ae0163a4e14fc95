/- Contract of the laws' short: a message that can be gone through. -/
import Derived.Test.YtkhiconkoldllaaMsg
namespace Go.Proofs.Ytkhiconkoldllaa.L4
open Go.ChangeShapes Go.WideShapes Go.ChangeAt Go.RowKit

def ShortOut (w : World) (m : Msg) (e : Ending) (w' : World) : Prop := ∃ b, e = .returned (.bool b) ∧ (b = true → m.mem.length < 20 ∧ m.terms.length < 200) ∧ Below w.heap.size w w'
def Shorting (W0 : World) (n K : Nat) (v3 v4 : Value) (wr : World) : Prop := ∃ (i : Nat) (s : Int), K + i = n ∧ v4 = .int .i64 i ∧ v3 = .int .i64 s ∧ W0 = wr
/-- The cells of a message that was boxed. -/
def Boxed (W : World) (b : Nat) (m : Msg) (vm vt : Value) : Prop := W.cell? ⟨b, 0, none⟩ = some (.int .i64 m.kind) ∧ W.cell? ⟨b, 1, none⟩ = some (.int .i64 m.e1) ∧ W.cell? ⟨b, 2, none⟩ = some (.int .i64 m.c1) ∧ W.cell? ⟨b, 3, none⟩ = some (.int .i64 m.e2) ∧ W.cell? ⟨b, 4, none⟩ = some (.int .i64 m.c2) ∧ W.cell? ⟨b, 5, none⟩ = some (.int .i64 m.num) ∧ W.cell? ⟨b, 6, none⟩ = some vm ∧ W.cell? ⟨b, 7, none⟩ = some vt
theorem boxed_new (w : World) (m : Msg) (vm vt : Value) (t : TypeId) : Boxed (w.alloc (.cells (msgCells m vm vt) t)) w.heap.size m vm vt := by
  have hcs : ∀ j, (w.alloc (.cells (msgCells m vm vt) t)).cell? ⟨w.heap.size, j, none⟩ = (msgCells m vm vt)[j]? := fun j => by
    simp only [World.cell?]
    rw [World.alloc_heap_new]
    rfl
  exact ⟨hcs 0, hcs 1, hcs 2, hcs 3, hcs 4, hcs 5, hcs 6, hcs 7⟩
theorem Boxed.below {W W' : World} {b : Nat} {m : Msg} {vm vt : Value} (h : Boxed W b m vm vt) {B : Nat} (hb : Below B W W') (hlt : b < B) : Boxed W' b m vm vt := by
  obtain ⟨h0, h1, h2, h3, h4, h5, h6, h7⟩ := h
  have k : ∀ j, W'.cell? ⟨b, j, none⟩ = W.cell? ⟨b, j, none⟩ := fun j => hb.cell (p := ⟨b, j, none⟩) hlt
  exact ⟨(k 0).trans h0, (k 1).trans h1, (k 2).trans h2, (k 3).trans h3, (k 4).trans h4, (k 5).trans h5, (k 6).trans h6, (k 7).trans h7⟩

end Go.Proofs.Ytkhiconkoldllaa.L4
