/- Contracts of watch.New where there is a watch. -/
import Derived.Test.YtildapcdkipakaaWtNewA
import Derived.Laws.ResultCell
namespace Go.Proofs.Ytildapcdkipakaa.L9
open Go.ChangeShapes Go.WideShapes Go.ChangeAt Go.RowKit Go.Deep

set_option maxRecDepth 100000 in
set_option maxHeartbeats 2000000 in
theorem New_yes (me lim : Int) (w : World) (m1 : 1 ≤ me) (m2 : me ≤ 8) (l1 : 1 ≤ lim) (l2 : lim ≤ 100) : Calls Try.prog 20 #[.int .i64 me, .int .i64 lim] w (NewYes w me lim) := by
  have hn : (w.alloc (.cells #[.int .i64 0, .int .i64 0, .slice none 0 0] 55)).heap[w.heap.size]? = some (.cells #[.int .i64 0, .int .i64 0, .slice none 0 0] 55 (0, 0)) := heap_alloc_new _ _
  have hB : Below w.heap.size w (w.alloc (.cells #[.int .i64 0, .int .i64 0, .slice none 0 0] 55)) := (Below.refl _ w).alloc (Nat.le_refl _) _
  have hs : (w.alloc (.cells #[.int .i64 0, .int .i64 0, .slice none 0 0] 55)).heap.size = w.heap.size + 1 := by simp
  obtain ⟨W0, hW0⟩ : ∃ W0, w.alloc (.cells #[.int .i64 0, .int .i64 0, .slice none 0 0] 55) = W0 := ⟨_, rfl⟩
  rw [hW0] at hn hB hs
  have hn1 : (W0.alloc (.cells #[.int .i64 (lim + 1)] 3)).cell? ((⟨W0.heap.size, 0, none⟩ : Addr).add 0) = some (.int .i64 (lim + 1)) := by
    rw [addr_at]
    simp only [World.cell?]
    rw [heap_alloc_new]
    rfl
  have hB1 : Below W0.heap.size W0 (W0.alloc (.cells #[.int .i64 (lim + 1)] 3)) := (Below.refl _ W0).alloc (Nat.le_refl _) _
  have hs1 : (W0.alloc (.cells #[.int .i64 (lim + 1)] 3)).heap.size = W0.heap.size + 1 := by simp
  obtain ⟨W1, hW1⟩ : ∃ W1, W0.alloc (.cells #[.int .i64 (lim + 1)] 3) = W1 := ⟨_, rfl⟩
  rw [hW1] at hn1 hB1 hs1
  have HR := Lib.hid (Repeat_calls (lim + 1) 1 ⟨W0.heap.size, 0, none⟩ W1 (by show W0.heap.size < _; omega) hn1)
  have hb1 : Below w.heap.size w W1 := hB.trans (hB1.mono (by omega))
  have hn2 := (hB1.block w.heap.size (by omega)).trans hn
  have hsz : W1.heap.size = w.heap.size + 2 := by omega
  have HW := Lib.hid (And.intro hb1 (And.intro hn2 hsz))
  have hwl : IntKind.i64.wrap (lim + 1) = lim + 1 := by rw [IntKind.wrap_i64]; omega
  have k1 : ¬ me < 1 := by omega
  have k2 : ¬ 8 < me := by omega
  have k3 : ¬ lim < 1 := by omega
  have k4 : ¬ 100 < lim := by omega
  have HM : Hid (isInt me) := (by unfold isInt; omega : isInt me)
  clear hn hn1 hn2 hB hB1 hs hs1 hb1 m1 m2 l1 l2 hsz
  go_enter Try.func20, Try.ntmps20
  go_wp2_with fail
  refine HR.out.mono ?_
  rintro e w2 ⟨v, rfl, hown, b2⟩
  have ho2 : w2.ownsRow W1.heap.size 3 1 v 8 (ints (List.replicate 8 (lim + 1))) := hown
  obtain ⟨q2, c2, rfl, _⟩ := own_eight ho2
  have hb2 := HW.out.1.trans (b2.mono HW.out.1.size)
  have hn2 := (b2.block w.heap.size (by have := HW.out.2.2; omega)).trans HW.out.2.1
  have h3 : (w2.alloc (.cells #[.int .i64 me, .int .i64 lim, .slice (some ⟨q2, 0, none⟩) 8 c2] 55)).heap[w2.heap.size]? = some (.cells #[.int .i64 me, .int .i64 lim, .slice (some ⟨q2, 0, none⟩) 8 c2] 55 (0, 0)) := heap_alloc_new _ _
  have hB3 : Below w2.heap.size w2 (w2.alloc (.cells #[.int .i64 me, .int .i64 lim, .slice (some ⟨q2, 0, none⟩) 8 c2] 55)) := (Below.refl _ w2).alloc (Nat.le_refl _) _
  obtain ⟨W3, hW3⟩ : ∃ W3, w2.alloc (.cells #[.int .i64 me, .int .i64 lim, .slice (some ⟨q2, 0, none⟩) 8 c2] 55) = W3 := ⟨_, rfl⟩
  rw [hW3] at h3 hB3
  have hb3 := hb2.trans (hB3.mono hb2.size)
  have hlt : w.heap.size < w2.heap.size := (Array.getElem?_eq_some_iff.1 hn2).1
  have hn3 := (hB3.block w.heap.size hlt).trans hn2
  have hlt3 : w.heap.size < W3.heap.size := (Array.getElem?_eq_some_iff.1 hn3).1
  have HH := Lib.hid (Hear_calls W1.heap.size me lim me (.slice (some ⟨q2, 0, none⟩) 8 c2) (List.replicate 8 (lim + 1)) W3 (by simp) (L5.own_below ho2 hB3) HM.out)
  have HF := Lib.hid (And.intro hb3 (And.intro hn3 hlt3))
  obtain ⟨x0, x1, x2, _, _, _⟩ := cells3 h3
  clear hown b2 hn2 h3 hB3 hb3 hn3 hlt HR HW ho2 hb2 hlt3
  go_wp2_with fail
  refine HH.out.mono ?_
  rintro e w4 ⟨v4, rfl, hown, b4⟩
  obtain ⟨q4, c4, rfl, _⟩ := own_eight hown
  obtain ⟨u1, u2, u3, ⟨m1, m2, m3⟩, ⟨m4, m5, m6⟩, ⟨m7, m8, m9⟩, hlast, hbl, hk⟩ := store3 (.int .i64 me) (.int .i64 lim) (.slice (some ⟨q4, 0, none⟩) 8 c4) ((b4.block _ HF.out.2.2).trans HF.out.2.1)
  have HLast := Lib.hid hlast
  have HE : Hid (NewYes w me lim (.returned (.tuple #[.agg #[.int .i64 me, .int .i64 lim, .slice (some ⟨q4, 0, none⟩) 8 c4], .int .i64 0])) u3) := by
    refine ⟨_, rfl, L5.own_same (own_base hown HF.out.1.size) (fun q hq => hk q ?_), (HF.out.1.trans (b4.mono HF.out.1.size)).trans hbl⟩
    obtain ⟨q', c, e, h1, _⟩ := own_eight hown
    cases e
    cases hq
    have := HF.out.2.2
    show q4 ≠ _
    omega
  clear hlast hbl hk hown b4 HH HF x0 x1 x2
  go_wp2
  refine bodyPost_ret (results_both rfl _ _ w.heap.size 55 _ (0, 0) _ rfl HLast.out Try.underlying55 rfl (by kernel_rfl)) rfl ?_
  exact HE.out
end Go.Proofs.Ytildapcdkipakaa.L9
