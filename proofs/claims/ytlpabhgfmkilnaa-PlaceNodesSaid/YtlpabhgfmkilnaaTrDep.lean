/- Contracts of depths: how deep the highest leaf of a tree is, and its lowest one. -/
import Derived.Test.YtlpabhgfmkilnaaTrMem
namespace Go.Proofs.Ytlpabhgfmkilnaa.L13
open Go.ChangeShapes Go.WideShapes Go.ChangeAt Go.RowKit Go.Deep

theorem TreeAt.cells12 {w : World} {l r : Tr} {a : Nat} {F : List Nat} (h : TreeAt w (.node l r) a F) : ∃ b c G H, w.cell? ⟨a, 0, none⟩ = some (.int .i64 0) ∧ w.cell? ⟨a, 1, none⟩ = some (.pointer (some ⟨b, 0, none⟩)) ∧ w.cell? ⟨a, 2, none⟩ = some (.pointer (some ⟨c, 0, none⟩)) ∧ TreeAt w l b G ∧ TreeAt w r c H ∧ F = a :: (G ++ H) := by
  obtain ⟨b, c, G, H, h, h1, h2, rfl⟩ := h
  exact ⟨b, c, G, H, by rw [cells_of h]; rfl, by rw [cells_of h]; rfl, by rw [cells_of h]; rfl, h1, h2, rfl⟩
theorem TreeAt.drewN {w : World} {t : Tr} {a : Nat} {F : List Nat} (h : TreeAt w t a F) (q : Nat) : TreeAt (w.drewN q) t a F := h.same (fun _ _ => rfl)
def DepOut (t : Tr) (w : World) (e : Ending) (w' : World) : Prop := e = .returned (.tuple #[.int .i64 (t.least : Int), .int .i64 (t.deep : Int)]) ∧ ∃ q, w' = w.drewN q

theorem store_func13 {P : Program} {w : World} {a : Addr} {m : Mode} (fn : Fn) (first captured : Array Value) : (store a (.func fn first captured) m).run P w = stored P w a (.func fn first captured) m := run_store P w a _ m rfl
attribute [local go_sem] store_func13
theorem func_new (w : World) (v : Value) (T : TypeId) : (w.alloc (.cells #[v] T)).cell? ⟨w.heap.size, 0, none⟩ = some v := by
  simp only [World.cell?]
  rw [World.alloc_heap_new]
  rfl
end Go.Proofs.Ytlpabhgfmkilnaa.L13
