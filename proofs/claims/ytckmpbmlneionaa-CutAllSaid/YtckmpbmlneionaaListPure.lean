/- Rows of terms as terms: without memory. -/
import Derived.Test.YtckmpbmlneionaaPieces
import Derived.Test.YtckmpbmlneionaaPFnP
namespace Go.Proofs.Ytckmpbmlneionaa
open Go.ChangeShapes Go.WideShapes Go.ChangeAt Go.RowKit

namespace Tm
theorem num0_len : num0.length = 9 := rfl
theorem rowL_cons (z : List UInt8) (zs : List (List UInt8)) : rowL (z :: zs) = 112 :: (z ++ rowL zs) := by simp [rowL]
theorem rowL_len_snoc (zs : List (List UInt8)) (z : List UInt8) : (rowL (zs ++ [z])).length = (rowL zs).length + (1 + z.length) := by
  simp [rowL]; omega
theorem rowL_len_nil : (rowL []).length = 9 := rfl
theorem rowL_len_mono (zs ys : List (List UInt8)) : (rowL zs).length ≤ (rowL (zs ++ ys)).length := by
  simp [rowL]
/-- How deep a row's term is, as it is reckoned from the left. -/
def deepR (zs : List (List UInt8)) : Nat := (zs.zipIdx).foldl (fun m p => max m (depthOf p.1 + p.2 + 1)) 1
theorem deepR_snoc (zs : List (List UInt8)) (z : List UInt8) : deepR (zs ++ [z]) = max (deepR zs) (depthOf z + zs.length + 1) := by
  simp [deepR, List.zipIdx_append]
theorem deepR_nil : deepR [] = 1 := rfl
theorem deepR_le (zs : List (List UInt8)) : deepR zs ≤ zs.length + 401 := by
  suffices ∀ n (l : List (List UInt8)), l.length = n → deepR l ≤ n + 401 from this _ zs rfl
  intro n
  induction n with
  | zero => intro l hl; rw [List.length_eq_zero_iff.1 hl]; decide
  | succ n ih =>
    intro l hl
    have hne : l ≠ [] := fun e => by rw [e] at hl; cases hl
    have e : l = l.dropLast ++ [l.getLast hne] := (List.dropLast_concat_getLast hne).symm
    have h1 : l.dropLast.length = n := by rw [List.length_dropLast]; omega
    rw [e, deepR_snoc, h1]
    have h2 := ih _ h1
    have h3 := depthOf_le (l.getLast hne)
    omega
theorem depthOf_short {z : List UInt8} (h : ¬ depthOf z = 0) : z.length ≤ 20000 := by
  unfold depthOf at h
  by_cases hl : 20000 < z.length
  · rw [if_pos hl] at h; exact absurd rfl h
  · omega
def wrongIn (zs : List (List UInt8)) : Bool := zs.any (fun z => depthOf z == 0)
theorem wrongIn_snoc (zs : List (List UInt8)) (z : List UInt8) : wrongIn (zs ++ [z]) = (wrongIn zs || (depthOf z == 0)) := by simp [wrongIn]
def measureL (zs : List (List UInt8)) : Nat × Nat :=
  if 150 < zs.length ∨ wrongIn zs = true then (0, 1) else if 20000 < (rowL zs).length then (0, 3) else if 400 < deepR zs then (0, 4) else ((rowL zs).length, 0)
def putRow (zs : List (List UInt8)) : List UInt8 × Nat := if (measureL zs).2 = 0 then (rowL zs, 0) else ([], (measureL zs).2)
end Tm

/-- A row of the call's own: where its block lies as it lay, so does it. -/
theorem own_same {W W' : World} {B : Nat} {e : TypeId} {size n : Nat} {v : Value} {xs : List Value} (h : W.ownsRow B e size v n xs) (hs : ∀ g, v.ownBlock = some g → W'.heap[g]? = W.heap[g]?) : W'.ownsRow B e size v n xs := by
  refine ⟨h.1, ?_⟩
  rcases h.2 with hn | ⟨g, cap, cur, rfl, h1, h2, h3⟩
  · exact .inl hn
  · exact .inr ⟨g, cap, cur, rfl, h1, (hs g rfl).trans h2, h3⟩
theorem own_below {W W' : World} {B : Nat} {e : TypeId} {size n : Nat} {v : Value} {xs : List Value} (h : W.ownsRow B e size v n xs) (hb : Below W.heap.size W W') : W'.ownsRow B e size v n xs := own_same h (fun q e => hb.block q (h.lt q e).2)
theorem own_slice {W : World} {B : Nat} {e : TypeId} {size n : Nat} {v : Value} {xs : List Value} (h : W.ownsRow B e size v n xs) : ∃ A c, v = .slice A n c := by
  rcases h.2 with ⟨rfl, rfl⟩ | ⟨g, cap, cur, rfl, _⟩
  · exact ⟨none, 0, rfl⟩
  · exact ⟨_, cap, rfl⟩
theorem grow_trans {a w w' : World} {row : Option Nat} (h : a.grownBy w row) (k : w.grownBy w' row) : a.grownBy w' row :=
  ⟨k.os.trans h.os, k.tape.trans h.tape, k.output.trans h.output, Nat.le_trans h.size k.size, fun q hq hr => (k.block q (Nat.lt_of_lt_of_le hq h.size) hr).trans (h.block q hq hr)⟩
end Go.Proofs.Ytckmpbmlneionaa
