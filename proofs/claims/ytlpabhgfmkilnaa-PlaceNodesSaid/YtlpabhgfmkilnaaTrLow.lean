/- The law TreeLow. -/
import Derived.Test.YtlpabhgfmkilnaaTrBk
namespace Go.Proofs.Ytlpabhgfmkilnaa.L13
open Go.ChangeShapes Go.WideShapes Go.ChangeAt Go.RowKit Go.Deep
open Go.Proofs.Ytlpabhgfmkilnaa.L5 (One)

/-- Rising numbers of 1 to n. -/
def Rises (n : Nat) (ks : List Int) : Prop := ks.Pairwise (· < ·) ∧ ∀ k ∈ ks, 1 ≤ k ∧ k ≤ n
def LowRel (w : World) (k : Nat) (v8 v9 : Value) (wr : World) : Prop :=
  ∃ (q : Nat) (ks : List Int), k + q = 9 ∧ 1 ≤ q ∧ v9 = .int .i64 q ∧ Rises (q - 1) ks ∧ ks.length ≤ q - 1 ∧ wr.ownsRow w.heap.size 3 1 v8 ks.length (ks.map (Value.int .i64)) ∧ Below w.heap.size w wr
theorem own_cap {W : World} {B : Nat} {e : TypeId} {size n : Nat} {v : Value} {xs : List Value} (h : W.ownsRow B e size v n xs) : match v with | .slice _ n c => n ≤ c | _ => True := by
  rcases h.2 with ⟨rfl, _⟩ | ⟨g, cap, cur, rfl, _, _, h1, _⟩
  · exact Nat.le_refl _
  · exact h1
theorem rises_ints {ks : List Int} {n : Nat} (h : Rises n ks) {w : World} {v : Value} {B : Nat} (ho : w.ownsRow B 3 1 v ks.length (ks.map (Value.int .i64))) (hn : n ≤ 1000) (hl : ks.length ≤ 1000000 := by omega) : IntsA w v ks :=
  L10.ints_own10 ho (fun x hx => by have := h.2 x hx; omega) hl
theorem rise_of : ∀ (ks : List Int) (a : Int), ks.Pairwise (· < ·) → (∀ k ∈ ks, a + 1 ≤ k ∧ k ≤ 8) → riseB a ks = true := by
  intro ks
  induction ks with
  | nil => intro a _ _; rfl
  | cons k ks ih =>
    intro a hp ha
    have h1 := List.pairwise_cons.1 hp
    have hk := ha k (by simp)
    simp only [riseB, Bool.and_eq_true]
    refine ⟨(withinB_iff _ _ _).2 hk, ih k h1.2 (fun y hy => ?_)⟩
    have := h1.1 y hy
    have := ha y (by simp [hy])
    omega
theorem rises_row {k : Int} {ks : List Int} (h : Rises 8 (k :: ks)) : L10.rowB (k :: ks) = true := by
  unfold L10.rowB
  rw [rise_of _ 0 h.1 (fun y hy => by have := h.2 y hy; omega)]
  rfl
theorem joins_procs : ∀ (ks : List Int) (t : Tr), (joins t ks).procs.Perm (ks.map Int.toNat ++ t.procs) := by
  intro ks
  induction ks with
  | nil => intro t; exact List.Perm.refl _
  | cons k ks ih =>
    intro t
    show (joins (t.put k.toNat) ks).procs.Perm _
    refine (ih _).trans ?_
    refine (List.Perm.append_left _ (t.put_procs _)).trans ?_
    exact List.perm_middle
theorem build_mems {k : Int} {ks : List Int} (h : Rises 8 (k :: ks)) : (buildT (k :: ks)).mems = k :: ks := by
  refine sorted_unique _ _ (L10.sortL_sorted _) (h.1.imp (fun h => Int.le_of_lt h)) ?_
  refine (sortL_perm _).trans ?_
  unfold Tr.ints
  refine ((joins_procs ks (.leaf k.toNat)).map _).trans ?_
  have e : ∀ (l : List Int), (∀ y ∈ l, 1 ≤ y) → (l.map Int.toNat).map (fun p : Nat => (p : Int)) = l := by
    intro l
    induction l with
    | nil => intro _; rfl
    | cons y l ih =>
      intro hy
      have h1 := hy y (by simp)
      simp only [List.map_cons]
      rw [ih (fun z hz => hy z (by simp [hz])), Int.toNat_of_nonneg (by omega)]
  rw [List.map_append, e ks (fun y hy => (h.2 y (by simp [hy])).1)]
  have hk := h.2 k (by simp)
  simp only [Tr.procs, List.map_cons, List.map_nil]
  rw [Int.toNat_of_nonneg (by omega)]
  exact List.perm_append_singleton k ks
theorem build_low : ∀ (ks : List Int), ks ≠ [] → ks.length ≤ 8 → ks.length ≤ 2 ^ (buildT ks).deep ∧ (0 < (buildT ks).deep → 2 ^ ((buildT ks).deep - 1) < ks.length) ∧ (buildT ks).deep ≤ 3
  | [], h, _ => absurd rfl h
  | [a], _, _ => by rw [show (buildT [a]).deep = 0 from rfl]; simp
  | [a, b], _, _ => by rw [show (buildT [a, b]).deep = 1 from rfl]; simp
  | [a, b, c], _, _ => by rw [show (buildT [a, b, c]).deep = 2 from rfl]; simp
  | [a, b, c, d], _, _ => by rw [show (buildT [a, b, c, d]).deep = 2 from rfl]; simp
  | [a, b, c, d, e], _, _ => by rw [show (buildT [a, b, c, d, e]).deep = 3 from rfl]; simp
  | [a, b, c, d, e, f], _, _ => by rw [show (buildT [a, b, c, d, e, f]).deep = 3 from rfl]; simp
  | [a, b, c, d, e, f, g], _, _ => by rw [show (buildT [a, b, c, d, e, f, g]).deep = 3 from rfl]; simp
  | [a, b, c, d, e, f, g, h], _, _ => by rw [show (buildT [a, b, c, d, e, f, g, h]).deep = 3 from rfl]; simp
  | a :: b :: c :: d :: e :: f :: g :: h :: i :: l, _, hl => by simp at hl
end Go.Proofs.Ytlpabhgfmkilnaa.L13
