/- Contracts of ahead, Merge and Build. -/
import Derived.Test.YtlpabhgfmkilnaaTrTopJ
namespace Go.Proofs.Ytlpabhgfmkilnaa.L13
open Go.ChangeShapes Go.WideShapes Go.ChangeAt Go.RowKit Go.Deep
open Go.Proofs.Ytlpabhgfmkilnaa.L5 (One)

/-- Whose tree is the left one of both. -/
def aheadB (a b : Tr) : Bool :=
  if a.deep ≠ b.deep then decide (b.deep < a.deep) else if a.procs.length ≠ b.procs.length then decide (b.procs.length < a.procs.length) else decide (a.mems.headD 0 < b.mems.headD 0)
theorem mems_cons (t : Tr) : ∃ m r, t.mems = m :: r := by
  have h1 := mems_len t
  have h2 := t.procs_pos
  cases h : t.mems with
  | nil => rw [h, List.length_nil] at h1; omega
  | cons m r => exact ⟨m, r, rfl⟩
theorem head_cell {w : World} {v : Value} {t : Tr} (h : IntsA w v t.mems) : ∃ ad c, v = .slice (some ad) t.procs.length c ∧ ad.block < w.heap.size ∧ ∀ V, Below w.heap.size w V → V.cell? ad = some (.int .i64 (t.mems.headD 0)) := by
  obtain ⟨A, c, rfl, hr⟩ := h.reads
  obtain ⟨m, r, e⟩ := mems_cons t
  obtain ⟨ad, rfl, h1, h2⟩ := hr 0 m (by rw [e]; rfl)
  refine ⟨ad, c, by rw [mems_len], h1, fun V hb => ?_⟩
  have e0 : ad.add 0 = ad := by unfold Addr.add; rw [if_pos rfl]
  rw [e0] at h2
  rw [e]
  exact (hb.cell h1).trans h2
/-- What two trees are merged to. -/
def Tr.merge (a b : Tr) : Tr := if aheadB a b then .node a b else .node b a
def sharedL (a b : Tr) : List Int := a.mems.filter (fun p => b.mems.contains p)
def mergeX (x y : List UInt8) : List UInt8 × Int :=
  match readT x, readT y with
  | some a, some b => if 0 < (sharedL a b).length then ([], 1) else ((a.merge b).text, 0)
  | _, _ => ([], 1)
end Go.Proofs.Ytlpabhgfmkilnaa.L13
