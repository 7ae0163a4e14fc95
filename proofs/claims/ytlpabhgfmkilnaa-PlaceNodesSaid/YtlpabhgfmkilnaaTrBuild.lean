/- Contract of tree.Build. -/
import Derived.Test.YtlpabhgfmkilnaaTrTopM
namespace Go.Proofs.Ytlpabhgfmkilnaa.L13
open Go.ChangeShapes Go.WideShapes Go.ChangeAt Go.RowKit Go.Deep
open Go.Proofs.Ytlpabhgfmkilnaa.L5 (One)

def joins (t : Tr) (xs : List Int) : Tr := xs.foldl (fun t p => t.put p.toNat) t
def buildT : List Int → Tr
  | [] => .leaf 0
  | x :: xs => joins (.leaf x.toNat) xs
def buildX (xs : List Int) : List UInt8 × Int := if L10.rowB xs then ((buildT xs).text, 0) else ([], 1)
theorem rise_mem : ∀ (xs : List Int) (a : Int), riseB a xs = true → (∀ x ∈ xs, a + 1 ≤ x ∧ x ≤ 8) ∧ xs.Nodup := by
  intro xs
  induction xs with
  | nil => intro a _; simp
  | cons x xs ih =>
    intro a h
    simp only [riseB, Bool.and_eq_true] at h
    have h1 := (withinB_iff _ _ _).1 h.1
    obtain ⟨h2, h3⟩ := ih x h.2
    refine ⟨fun y hy => ?_, List.nodup_cons.2 ⟨fun hx => ?_, h3⟩⟩
    · rcases List.mem_cons.1 hy with rfl | hy
      · exact h1
      · have := h2 y hy; omega
    · have := h2 x hx; omega
theorem joins_ok : ∀ (xs : List Int) (t : Tr), t.ok → (∀ x ∈ xs, 1 ≤ x ∧ x ≤ 8) → xs.Nodup → (∀ x ∈ xs, x.toNat ∉ t.procs) → (joins t xs).ok := by
  intro xs
  induction xs with
  | nil => intro t h _ _ _; exact h
  | cons x xs ih =>
    intro t h h1 hn hd
    have hx := h1 x (by simp)
    obtain ⟨n1, n2⟩ := List.nodup_cons.1 hn
    refine ih (t.put x.toNat) (h.put (by omega) (hd x (by simp))) (fun y hy => h1 y (by simp [hy])) n2 (fun y hy hm => ?_)
    rcases (t.put_mem _ _).1 hm with e | e
    · have hy1 := h1 y (by simp [hy])
      have : y = x := by omega
      exact n1 (this ▸ hy)
    · exact hd y (by simp [hy]) e
theorem joins_take {xs : List Int} {t : Tr} {i : Nat} {x : Int} (h : xs[i]? = some x) : joins t (xs.take (i + 1)) = (joins t (xs.take i)).put x.toNat := by
  rw [L10.take_next xs h]
  unfold joins
  rw [List.foldl_append]
  rfl
theorem row_ok {x : Int} {xs : List Int} (h : L10.rowB (x :: xs) = true) (i : Nat) : (joins (.leaf x.toNat) (xs.take i)).ok := by
  unfold L10.rowB at h
  rw [Bool.and_eq_true] at h
  obtain ⟨h1, h2⟩ := rise_mem _ _ h.1
  have hx := h1 x (by simp)
  obtain ⟨n1, n2⟩ := List.nodup_cons.1 h2
  refine joins_ok _ _ (Tr.ok.leaf (by omega) (by omega)) (fun y hy => ?_) (n2.sublist (List.take_sublist _ _)) (fun y hy hm => ?_)
  · have := h1 y (by simp [List.mem_of_mem_take hy]); omega
  · simp only [Tr.procs, List.mem_singleton] at hm
    have hy' := List.mem_of_mem_take hy
    have := h1 y (by simp [hy'])
    have : y = x := by omega
    exact n1 (this ▸ hy')
def BuildRel (w : World) (xs : List Int) (p a k : Nat) (v18 : Value) (wr : World) : Prop :=
  ∃ i : Nat, k + i = xs.length ∧ v18 = .int .i64 i ∧ ∃ F, TreeAt wr (joins (.leaf p) (xs.take i)) a F ∧ F.Nodup ∧ (∀ q ∈ F, w.heap.size ≤ q) ∧ Below w.heap.size w wr
end Go.Proofs.Ytlpabhgfmkilnaa.L13
