/- Contract of exponentsOf: the exponents of an element, one behind the other, in a row with room for thirty-two. -/
import Derived.Test.YtckmpbmlneionaaOf
namespace Go.Proofs.Ytckmpbmlneionaa
open Go.ChangeShapes Go.WideShapes Go.ChangeAt Go.RowKit

namespace Tm
def exps : Nat → List UInt8 → List (List UInt8)
  | 0, _ => []
  | n + 1, r => r.take (read r).1 :: exps n (r.drop (read r).1)
theorem exps_length (n : Nat) (r : List UInt8) : (exps n r).length = n := by
  induction n generalizing r with
  | zero => rfl
  | succ n ih => simp [exps, ih]
end Tm

def strs (xs : List (List UInt8)) : List Value := xs.map fun x => Value.string ⟨x.toArray⟩
theorem strs_length (xs : List (List UInt8)) : (strs xs).length = xs.length := by simp [strs]

theorem info_term : (Try.prog.info? 31).map (fun i => (i.zero, i.size, i.bytes)) = some (some (.string ⟨#[]⟩), 1, 16) := by kernel_rfl

/-- A row of texts that the call itself made, with room for thirty-two. -/
def Row32 (B g : Nat) (xs : List (List UInt8)) (w : World) : Prop :=
  w.ownsRow B 31 1 (.slice (some ⟨g, 0, none⟩) xs.length 32) xs.length (strs xs)

theorem ownsRow_below {w w' : World} {base : Nat} {e : TypeId} {size n : Nat} {v : Value} {xs : List Value} (h : w.ownsRow base e size v n xs) (hb : Below w.heap.size w w') : w'.ownsRow base e size v n xs := by
  refine ⟨h.1, ?_⟩
  rcases h.2 with h0 | ⟨g, cap, cur, h1, h2, h3, h4⟩
  · exact .inl h0
  · exact .inr ⟨g, cap, cur, h1, h2, (hb.block g (Array.getElem?_eq_some_iff.1 h3).1).trans h3, h4⟩

def Listing (w : World) (g c : Nat) (r0 : List UInt8) (k : Nat) (v3 v4 v17 : Value) (wr : World) : Prop :=
  ∃ (i : Nat) (acc : List (List UInt8)) (r : ByteArray), k + i = c ∧ v17 = .int .i64 i ∧ v3 = .string r ∧ r.size ≤ maxLen ∧ v4 = .slice (some ⟨g, 0, none⟩) acc.length 32 ∧ acc.length = i ∧
    Row32 w.heap.size g acc wr ∧ Below w.heap.size w wr ∧ acc ++ Tm.exps (c - i) r.data.toList = Tm.exps c r0

def RowOut (w : World) (xs : List (List UInt8)) (e : Ending) (w' : World) : Prop :=
  ∃ g, e = .returned (.slice (some ⟨g, 0, none⟩) xs.length 32) ∧ Row32 w.heap.size g xs w' ∧ Below w.heap.size w w'

end Go.Proofs.Ytckmpbmlneionaa
