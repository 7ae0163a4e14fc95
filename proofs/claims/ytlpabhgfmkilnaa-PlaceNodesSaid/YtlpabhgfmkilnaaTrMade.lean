/- The laws' made: a tree, by raw numbers. -/
import Derived.Test.YtlpabhgfmkilnaaTrLaw
namespace Go.Proofs.Ytlpabhgfmkilnaa.L13
open Go.ChangeShapes Go.WideShapes Go.ChangeAt Go.RowKit Go.Deep
open Go.Proofs.Ytlpabhgfmkilnaa.L5 (One)

/-- A tree's text. -/
def MadeOut (w : World) (e : Ending) (w' : World) : Prop := ∃ t : Tr, t.ok ∧ e = .returned (.string ⟨t.text.toArray⟩) ∧ Below w.heap.size w w'
def MadeRel (w : World) (n k : Nat) (v3 v4 : Value) (wr : World) : Prop := ∃ (i : Nat) (t : Tr), k + i = n ∧ i ≤ 40 ∧ v4 = .int .i64 i ∧ t.ok ∧ v3 = .string ⟨t.text.toArray⟩ ∧ Below w.heap.size w wr
theorem leaf_is {p : Int} (h1 : 1 ≤ p) (h8 : p ≤ 8) : ∃ u : Tr, u.ok ∧ leafX p = (u.text, 0) := ⟨.leaf p.toNat, Tr.ok.leaf (by omega) (by omega), by unfold leafX; rw [if_pos ⟨h1, h8⟩]⟩
theorem ints_at {w : World} {A : Option Addr} {c : Nat} {xs : List Int} (h : IntsA w (.slice A xs.length c) xs) : ∀ (j : Nat) (x : Int), xs[j]? = some x → (-9223372036854775808 ≤ x ∧ x ≤ 9223372036854775807) ∧ ∃ ad : Addr, A = some ad ∧ ∀ V, Below w.heap.size w V → V.cell? (ad.add j) = some (.int .i64 x) := fun j x hx => by
  obtain ⟨A', c', e, hr⟩ := h.reads
  cases e
  obtain ⟨ad, e, h1, h2⟩ := hr j x hx
  exact ⟨h.fit x (List.mem_of_getElem? hx), ad, e, fun V hb => (hb.cell (p := ad.add j) (by rw [addr_block]; exact h1)).trans h2⟩
theorem fine_two {r : List UInt8 × Int} (h : FineX r) : (r.2 = 0 ∧ ∃ u : Tr, u.ok ∧ r.1 = u.text) ∨ (r.2 == 0) = false := by
  rcases h with ⟨u, hu, rfl⟩ | ⟨y, rfl⟩ | ⟨y, rfl⟩
  · exact .inl ⟨rfl, u, hu, rfl⟩
  · exact .inr rfl
  · exact .inr rfl
set_option maxRecDepth 100000 in
/-- A row of numbers that a law is handed: how it lies, and that it has the room that it says. -/
theorem open_irow13 {H : Type} {enc : TypeId × Value → H} {W : World} {base : Nat} {v : Value} {d : DataW H} {ps : List MemPlace} (hval : Value.okWide Try.prog W .any base 49 v) (h : DataW.Trod enc Try.prog W 0 (fun _ => true) true 49 v d ps) :
    ∃ zs, IntsA W v zs ∧ ∀ A n c, v = .slice A n c → n ≤ c ∨ n = 0 := by
  obtain ⟨zs, hI⟩ := L10.open_irow hval h
  refine ⟨zs, hI, fun A n c e => ?_⟩
  subst e
  obtain ⟨fuel, hf⟩ := h
  rcases open_ints Try.underlying49 Try.underlying3 (by kernel_rfl) hf with ⟨h0, _⟩ | ⟨a, len, cap, ss, hcs, h1, hl, hm, hsl, _⟩
  · cases h0
    exact .inr rfl
  · cases hcs
    exact .inl (by omega)
end Go.Proofs.Ytlpabhgfmkilnaa.L13
