/- A raw number speaks of a term of the row that made makes; steps stay in memory. -/
import Derived.Test.YtfbkebdlioibpaaOpenK4
import Derived.Test.YtfbkebdlioibpaaFine
namespace Go.Proofs.Ytfbkebdlioibpaa.L4
open Go.ChangeShapes Go.WideShapes Go.ChangeAt Go.RowKit

/-- A raw number speaks of a term of the row. -/
theorem pick_at {V : World} {B g cap : Nat} {ts : List (List UInt8)} (hrow : V.ownsRow B 28 1 (.slice (some ⟨g, 0, none⟩) ts.length cap) ts.length (strs ts)) (h2 : 2 ≤ ts.length) (h42 : ts.length ≤ 42) (hg : ∀ t ∈ ts, Tm.Good 41 600 t) {v : Int} (hv : isInt v) :
    ∃ (p : Nat) (x : List UInt8), (Calls Try.prog 72 #[.int .i64 v, .int .i64 ts.length] V fun e w' => e = .returned (.int .i64 p) ∧ V = w') ∧ (p : Int) < (ts.length : Int) ∧ V.cell? ⟨g, p, none⟩ = some (.string ⟨x.toArray⟩) ∧ Tm.Good 41 600 x := by
  have hl := Tm.pickN_lt v ts.length (by omega)
  obtain ⟨x, hx⟩ : ∃ x, ts[Tm.pickN v ts.length]? = some x := ⟨_, List.getElem?_eq_getElem hl⟩
  exact ⟨_, x, pick_calls v ts.length hv.1 hv.2 (by omega) (by omega) V, by omega, texts_of_row hrow _ _ hx, hg x (List.mem_of_getElem? hx)⟩

theorem steps_below {w w0 : World} {A : Option Addr} {n : Nat} (h : Steps w A n) (B0 : Below w.heap.size w w0) : Steps w0 A n := by
  intro q hq
  obtain ⟨ad, o, x, y, z, h1, h2, r0, r1, r2, r3, c0, c1, c2, c3⟩ := h q hq
  exact ⟨ad, o, x, y, z, h1, Nat.lt_of_lt_of_le h2 B0.size, r0, r1, r2, r3, (B0.cell (by rw [block_add]; exact h2)).trans c0, (B0.cell (by rw [block_add]; exact h2)).trans c1, (B0.cell (by rw [block_add]; exact h2)).trans c2, (B0.cell (by rw [block_add]; exact h2)).trans c3⟩

end Go.Proofs.Ytfbkebdlioibpaa.L4
