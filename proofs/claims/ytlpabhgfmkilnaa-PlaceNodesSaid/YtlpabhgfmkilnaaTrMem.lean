/- Trees in memory, and the small functions of package tree. -/
import Derived.Test.YtlpabhgfmkilnaaTrBase
import Derived.Test.YtlpabhgfmkilnaaTrPure
namespace Go.Proofs.Ytlpabhgfmkilnaa.L13
open Go.ChangeShapes Go.WideShapes Go.ChangeAt Go.RowKit Go.Deep

/-- A tree whose root lies at block a; F: the blocks in which it lies. -/
def TreeAt (w : World) : Tr → Nat → List Nat → Prop
  | .leaf p, a, F => w.heap[a]? = some (.cells #[.int .i64 p, .pointer none, .pointer none] 71 (0, 0)) ∧ (1 ≤ p ∧ p ≤ 8) ∧ F = [a]
  | .node l r, a, F => ∃ b c G H, w.heap[a]? = some (.cells #[.int .i64 0, .pointer (some ⟨b, 0, none⟩), .pointer (some ⟨c, 0, none⟩)] 71 (0, 0)) ∧ TreeAt w l b G ∧ TreeAt w r c H ∧ F = a :: (G ++ H)
theorem TreeAt.same {w W : World} : ∀ {t : Tr} {a : Nat} {F : List Nat}, TreeAt w t a F → (∀ q ∈ F, W.heap[q]? = w.heap[q]?) → TreeAt W t a F := by
  intro t
  induction t with
  | leaf p =>
    rintro a F ⟨h, hp, rfl⟩ hs
    exact ⟨(hs a (by simp)).trans h, hp, rfl⟩
  | node l r hl hr =>
    rintro a F ⟨b, c, G, H, h, h1, h2, rfl⟩ hs
    exact ⟨b, c, G, H, (hs a (by simp)).trans h, hl h1 (fun q hq => hs q (by simp [hq])), hr h2 (fun q hq => hs q (by simp [hq])), rfl⟩
theorem TreeAt.lt {w : World} : ∀ {t : Tr} {a : Nat} {F : List Nat}, TreeAt w t a F → ∀ q ∈ F, q < w.heap.size := by
  intro t
  induction t with
  | leaf p =>
    rintro a F ⟨h, hp, rfl⟩ q hq
    obtain rfl := List.mem_singleton.1 hq
    exact (Array.getElem?_eq_some_iff.1 h).1
  | node l r hl hr =>
    rintro a F ⟨b, c, G, H, h, h1, h2, rfl⟩ q hq
    rcases List.mem_cons.1 hq with rfl | hq
    · exact (Array.getElem?_eq_some_iff.1 h).1
    · rcases List.mem_append.1 hq with hq | hq
      · exact hl h1 q hq
      · exact hr h2 q hq
theorem TreeAt.head {w : World} {t : Tr} {a : Nat} {F : List Nat} (h : TreeAt w t a F) : a ∈ F := by
  cases t with
  | leaf p => obtain ⟨_, _, rfl⟩ := h; simp
  | node l r => obtain ⟨b, c, G, H, _, _, _, rfl⟩ := h; simp
theorem TreeAt.below {B : Nat} {w W : World} {t : Tr} {a : Nat} {F : List Nat} (h : TreeAt w t a F) (hb : Below B w W) (hF : ∀ q ∈ F, q < B) : TreeAt W t a F := h.same (fun q hq => hb.block q (hF q hq))
theorem TreeAt.later {w W : World} {t : Tr} {a : Nat} {F : List Nat} (h : TreeAt w t a F) (hb : Below w.heap.size w W) : TreeAt W t a F := h.below hb h.lt

def Tr.isLeaf : Tr → Bool
  | .leaf _ => true
  | .node _ _ => false
theorem cells_of {w : World} {a : Nat} {cs : Array Value} {T : TypeId} (h : w.heap[a]? = some (.cells cs T (0, 0))) (j : Nat) : w.cell? ⟨a, j, none⟩ = cs[j]? := by
  simp only [World.cell?]
  rw [h]
  rfl
theorem TreeAt.cell0 {w : World} {t : Tr} {a : Nat} {F : List Nat} (h : TreeAt w t a F) : ∃ n : Nat, w.cell? ⟨a, 0, none⟩ = some (.int .i64 n) ∧ ((n : Int) == 0) = !t.isLeaf ∧ n ≤ 8 := by
  cases t with
  | leaf p => exact ⟨p, by rw [cells_of h.1]; rfl, by have := h.2.1; simp [Tr.isLeaf]; omega, h.2.1.2⟩
  | node l r =>
    obtain ⟨b, c, G, H, h, _⟩ := h
    exact ⟨0, by rw [cells_of h]; rfl, rfl, by omega⟩

set_option maxHeartbeats 400000 in
theorem leaf_calls {w : World} {t : Tr} {a : Nat} {F : List Nat} (h : TreeAt w t a F) : Calls Try.prog 47 #[.pointer (some ⟨a, 0, none⟩)] w fun e w' => e = .returned (.bool t.isLeaf) ∧ w' = w := by
  obtain ⟨n, h0, h1, _⟩ := h.cell0
  have h2 : (Int.ofNat n != 0) = t.isLeaf := by rw [bne, show (Int.ofNat n == 0) = !t.isLeaf from h1, Bool.not_not]
  clear h
  generalize t.isLeaf = b at *
  go_enter Try.func47, Try.ntmps47
  go_wp2
  go_ret
  exact ⟨by simpa using h2, rfl⟩
set_option maxHeartbeats 400000 in
theorem isProc_calls (p : Int) (w : World) : Calls Try.prog 41 #[.int .i64 p] w fun e w' => e = .returned (.bool (decide (1 ≤ p ∧ p ≤ 8))) ∧ w' = w := by
  by_cases h1 : 1 ≤ p
  · by_cases h8 : p ≤ 8
    · rw [decide_eq_true (show 1 ≤ p ∧ p ≤ 8 from ⟨h1, h8⟩)]
      go_enter Try.func41, Try.ntmps41
      go_wp2
      go_ret
      exact ⟨rfl, rfl⟩
    · rw [decide_eq_false (show ¬ (1 ≤ p ∧ p ≤ 8) from fun h => h8 h.2)]
      go_enter Try.func41, Try.ntmps41
      go_wp2
      go_ret
      exact ⟨rfl, rfl⟩
  · rw [decide_eq_false (show ¬ (1 ≤ p ∧ p ≤ 8) from fun h => h1 h.1)]
    go_enter Try.func41, Try.ntmps41
    go_wp2
    go_ret
    exact ⟨rfl, rfl⟩
set_option maxHeartbeats 400000 in
theorem above_calls (u v : Option Addr) (w : World) : Calls Try.prog 42 #[.pointer u, .pointer v] w fun e w' => e = .returned (.pointer (some ⟨w.heap.size, 0, none⟩)) ∧ w' = w.alloc (.cells #[.int .i64 0, .pointer u, .pointer v] 71) := by
  go_enter Try.func42, Try.ntmps42
  go_wp2
  go_ret
  exact ⟨rfl, rfl⟩
end Go.Proofs.Ytlpabhgfmkilnaa.L13
