/- Contract of net.Double. -/
import Derived.Test.YtildapcdkipakaaNtSend
namespace Go.Proofs.Ytildapcdkipakaa.L8
open Go.ChangeShapes Go.WideShapes Go.ChangeAt Go.RowKit Go.Deep

theorem add_zero8 (g j : Nat) : (⟨g, 0, none⟩ : Addr).add j = ⟨g, j, none⟩ := by
  unfold Addr.add
  split
  · rename_i h; subst h; rfl
  · simp
theorem dg_cells {w : World} {B g cap : Nat} {l : List Dg} (r : w.ownsRow B 36 3 (.slice (some ⟨g, 0, none⟩) l.length cap) l.length (flat l)) {i : Nat} {d : Dg} (hd : l[i]? = some d) :
    w.cell? ⟨g, i * 3, none⟩ = some (.int .i64 d.src) ∧ w.cell? ⟨g, i * 3 + 1, none⟩ = some (.int .i64 d.dst) ∧ w.cell? ⟨g, i * 3 + 2, none⟩ = some (.string ⟨d.fr.toArray⟩) := by
  have key : ∀ j u, (flat l)[j]? = some u → w.cell? ⟨g, j, none⟩ = some u := fun j u hu => by
    have := r.cells (g := g) rfl j u hu
    rw [add_zero8] at this
    exact this
  exact ⟨key _ _ (flat_get hd 0 (by omega)), key _ _ (flat_get hd 1 (by omega)), key _ _ (flat_get hd 2 (by omega))⟩
theorem dg_shape {w : World} {B : Nat} {l : List Dg} {v : Value} (r : w.ownsRow B 36 3 v l.length (flat l)) (h : 0 < l.length) : ∃ g cap, v = .slice (some ⟨g, 0, none⟩) l.length cap ∧ g < w.heap.size ∧ l.length ≤ cap ∧ B ≤ g ∧ cap ≤ maxLen := by
  have r' := r
  rcases r.2 with ⟨_, h0⟩ | ⟨g, cap, cur, rfl, h2, _, h4, h5, _⟩
  · omega
  · exact ⟨g, cap, rfl, (r'.lt g rfl).2, h4, h2, h5⟩
section
variable {w : World} {B h : Nat} {l : List Dg} {v : Value} {b n : Nat} {hs : List Bytes}
def DoubleNo (w : World) (e : Ending) (w' : World) : Prop := e = .returned (.int .i64 8) ∧ w = w'
set_option maxHeartbeats 1000000 in
theorem double_no (a : NtAt w B h l v b n hs) {i : Int} (hi : ¬ (0 ≤ i ∧ i < l.length)) : Calls Try.prog 12 #[.pointer (some ⟨h, 0, none⟩), .int .i64 i] w (DoubleNo w) := by
  have HL := lies_calls a i
  rw [decide_eq_false hi] at HL
  have HL := Lib.hid HL
  clear a hi
  go_enter Try.func12, Try.ntmps12
  go_wp2_with fail
  refine HL.out.mono ?_
  rintro e w' ⟨rfl, rfl⟩
  go_wp2
  go_ret
  exact ⟨rfl, rfl⟩
set_option maxRecDepth 100000 in
set_option maxHeartbeats 1000000 in
theorem double_yes (a : NtAt w B h l v b n hs) (hB : B ≤ w.heap.size) {i : Nat} {d : Dg} (hd : l[i]? = some d) (hl : l.length ≤ 1000000) : Calls Try.prog 12 #[.pointer (some ⟨h, 0, none⟩), .int .i64 i] w (LayOut w B h l v b n hs d) := by
  have hil := (List.getElem?_eq_some_iff.1 hd).1
  have HL := lies_calls a i
  rw [decide_eq_true (by omega)] at HL
  have HL := Lib.hid HL
  have HY := lay_calls a hB d hl
  unfold Dg.val at HY
  have HY := Lib.hid HY
  obtain ⟨c0, _, _⟩ := a.cells
  obtain ⟨g, cap, rfl, hg, hc, _⟩ := dg_shape a.row (by omega)
  obtain ⟨x0, x1, x2⟩ := dg_cells a.row hd
  have s1 : (0 : Int) ≤ (i : Int) := by omega
  have s2 : (i : Int) < (l.length : Int) := by omega
  clear a hd hil hB hl hc
  go_enter Try.func12, Try.ntmps12
  go_wp2_with fail
  refine HL.out.mono ?_
  rintro e w' ⟨rfl, rfl⟩
  clear HL
  go_wp2_with fail
  refine HY.out.mono ?_
  rintro e w' ⟨rfl, k⟩
  have HK := Lib.hid k
  clear k HY
  go_wp2
  go_ret
  exact ⟨rfl, HK.out⟩
end
end Go.Proofs.Ytildapcdkipakaa.L8
