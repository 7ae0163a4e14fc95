/- Contracts of depths: how deep the highest leaf of a tree is, and its lowest one. -/
import Derived.Test.YtlpabhgfmkilnaaGreatDoorTrMem
namespace Go.Proofs.YtlpabhgfmkilnaaGreatDoor.L13
open Go.ChangeShapes Go.WideShapes Go.ChangeAt Go.RowKit Go.Deep

theorem TreeAt.cells12 {w : World} {l r : Tr} {a : Nat} {F : List Nat} (h : TreeAt w (.node l r) a F) : ∃ b c G H, w.cell? ⟨a, 0, none⟩ = some (.int .i64 0) ∧ w.cell? ⟨a, 1, none⟩ = some (.pointer (some ⟨b, 0, none⟩)) ∧ w.cell? ⟨a, 2, none⟩ = some (.pointer (some ⟨c, 0, none⟩)) ∧ TreeAt w l b G ∧ TreeAt w r c H ∧ F = a :: (G ++ H) := by
  obtain ⟨b, c, G, H, h, h1, h2, rfl⟩ := h
  exact ⟨b, c, G, H, by rw [cells_of h]; rfl, by rw [cells_of h]; rfl, by rw [cells_of h]; rfl, h1, h2, rfl⟩
theorem TreeAt.drewN {w : World} {t : Tr} {a : Nat} {F : List Nat} (h : TreeAt w t a F) (q : Nat) : TreeAt (w.drewN q) t a F := h.same (fun _ _ => rfl)
def DepOut (t : Tr) (w : World) (e : Ending) (w' : World) : Prop := e = .returned (.tuple #[.int .i64 (t.least : Int), .int .i64 (t.deep : Int)]) ∧ ∃ q, w' = w.drewN q

set_option maxRecDepth 100000 in
set_option maxHeartbeats 4000000 in
theorem depths1_calls (k : Nat) : ∀ (t : Tr), t.deep ≤ 1000 → ∀ (w : World) (a : Nat) (F : List Nat), TreeAt w t a F → w.cell? ⟨k, 0, none⟩ = some (.func (.func 70) #[] #[.pointer (some ⟨k, 0, none⟩)]) →
    Calls Tryz.prog 70 #[.pointer (some ⟨a, 0, none⟩), .pointer (some ⟨k, 0, none⟩)] w (DepOut t w) := by
  intro t
  induction t with
  | leaf p =>
    intro _ w a F h hk
    have hL := leaf_calls h
    rw [show Tr.isLeaf (.leaf p) = true from rfl] at hL
    clear h
    go_enter Tryz.func70, Tryz.ntmps70
    go_wp2_with (go_at_call 34; refine hL.mono ?_; rintro e w1 ⟨rfl, rfl⟩)
    go_ret2
    exact ⟨rfl, 0, rfl⟩
  | node l r ihl ihr =>
    intro hd w a F h hk
    have hL := leaf_calls h
    rw [show Tr.isLeaf (.node l r) = false from rfl] at hL
    obtain ⟨b, c, G, H, c0, c1, c2, tl, tr, _⟩ := h.cells12
    have hdl : l.deep ≤ 999 := by simp only [Tr.deep] at hd; omega
    have hdr : r.deep ≤ 999 := by simp only [Tr.deep] at hd; omega
    have hll := l.least_le
    have hlr := r.least_le
    have HT := Lib.hid (And.intro tl tr)
    have HK := Lib.hid hk
    have H1 := Lib.hid (fun q => ihl (by omega) (w.drewN q) b G (tl.drewN q) hk)
    have H2 := Lib.hid (fun q q' => ihr (by omega) ((w.drewN q).drewN q') c H ((tr.drewN q).drewN q') hk)
    clear h tl tr ihl ihr
    go_enter Tryz.func70, Tryz.ntmps70
    go_wp2_with (go_at_call 34; refine hL.mono ?_; rintro e w1 ⟨rfl, rfl⟩)
    go_wp2
    go_quiet (refine Calls.quiet_of (H1.out _))
    go_wp2_with fail
    generalize nq = nq1 at *
    have H3 := Lib.hid (fun q => H2.out nq1 q)
    have c2' : (w1.drewN nq1).cell? ⟨a, 2, none⟩ = some (.pointer (some ⟨c, 0, none⟩)) := c2
    have hk' : (w1.drewN nq1).cell? ⟨k, 0, none⟩ = some (.func (.func 70) #[] #[.pointer (some ⟨k, 0, none⟩)]) := hk
    clear H1 H2 c0 c1 c2 hk HT HK
    obtain ⟨W1, hW1⟩ : ∃ W1, w1.drewN nq1 = W1 := ⟨_, rfl⟩
    rw [hW1] at H3 c2' hk' ⊢
    have HW := Lib.hid hW1
    clear hW1
    go_quiet (refine Calls.quiet_of (H3.out _))
    have HE : Hid ((Tr.node l r).least = 1 + min l.least r.least ∧ (Tr.node l r).deep = 1 + max l.deep r.deep) := ⟨rfl, rfl⟩
    generalize l.least = n1 at *
    generalize l.deep = n2 at *
    generalize r.least = n3 at *
    generalize r.deep = n4 at *
    go_wp2
    go_ret2
    refine ⟨?_, nq1 + nq, ?_⟩
    · rw [HE.out.1, HE.out.2, show ((1 + min n1 n3 : Nat) : Int) = 1 + min (n1 : Int) n3 by omega, show ((1 + max n2 n4 : Nat) : Int) = 1 + max (n2 : Int) n4 by omega]
      rfl
    · rw [← HW.out, World.drewN_drewN]
theorem store_func13 {P : Program} {w : World} {a : Addr} {m : Mode} (fn : Fn) (first captured : Array Value) : (store a (.func fn first captured) m).run P w = stored P w a (.func fn first captured) m := run_store P w a _ m rfl
attribute [local go_sem] store_func13
theorem func_new (w : World) (v : Value) (T : TypeId) : (w.alloc (.cells #[v] T)).cell? ⟨w.heap.size, 0, none⟩ = some v := by
  simp only [World.cell?]
  rw [World.alloc_heap_new]
  rfl
set_option maxHeartbeats 400000 in
theorem depths_calls {w : World} {t : Tr} {a : Nat} {F : List Nat} (h : TreeAt w t a F) (hd : t.deep ≤ 1000) : Calls Tryz.prog 58 #[.pointer (some ⟨a, 0, none⟩)] w fun e w' => e = .returned (.tuple #[.int .i64 (t.least : Int), .int .i64 (t.deep : Int)]) ∧ Below w.heap.size w w' := by
  have HC := Lib.hid (fun (V : World) (hb : Below w.heap.size w V) k hk => depths1_calls k t hd V a F (h.later hb) hk)
  clear h
  have hB : Below w.heap.size w (w.alloc (.cells #[.func (.func 70) #[] #[.pointer (some ⟨w.heap.size, 0, none⟩)]] 93)) := (Below.refl _ _).alloc (Nat.le_refl _) _
  have hC := HC.out _ hB w.heap.size (func_new _ _ _)
  have HB := Lib.hid hB
  clear hB
  go_enter Tryz.func58, Tryz.ntmps58
  go_wp2_with (go_at_call 70; refine hC.mono ?_; rintro e w1 ⟨rfl, q, rfl⟩)
  go_ret2
  exact ⟨rfl, HB.out.trans (L5.below_drewN (Below.refl _ _) q)⟩
end Go.Proofs.YtlpabhgfmkilnaaGreatDoor.L13
