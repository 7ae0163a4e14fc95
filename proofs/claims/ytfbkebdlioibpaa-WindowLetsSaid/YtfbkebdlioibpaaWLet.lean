/- Contracts of window.Seen and window.Let. -/
import Derived.Test.YtfbkebdlioibpaaWWith
import Derived.Deep.RegionHeld3
namespace Go.Proofs.Ytfbkebdlioibpaa.L5
open Go.ChangeShapes Go.WideShapes Go.ChangeAt Go.RowKit

theorem set_blk {W : World} {b i : Nat} {cs : Array Value} {t : TypeId} {fr : Nat × Nat} (h : W.heap[b]? = some (.cells cs t fr)) (v : Value) : (W.setCell ⟨b, i, none⟩ v).heap[b]? = some (.cells (cs.setIfInBounds i v) t fr) := by
  obtain ⟨hlt, hk⟩ := Array.getElem?_eq_some_iff.1 h
  show (W.heap.modify b _)[b]? = _
  rw [Array.getElem?_eq_getElem (by rw [Array.size_modify]; exact hlt), Array.getElem_modify_self, hk]
  rfl
/-- A window in memory. -/
def WinAt (W : World) (g t b : Nat) : Prop := W.heap[g]? = some (.cells #[.int .u64 t, .int .u64 b] 68 (0, 0))
theorem WinAt.cells {W : World} {g t b : Nat} (h : WinAt W g t b) : W.cell? ⟨g, 0, none⟩ = some (.int .u64 t) ∧ W.cell? ⟨g, 1, none⟩ = some (.int .u64 b) ∧ W.frozen? ⟨g, 0, none⟩ = false ∧ W.frozen? ⟨g, 1, none⟩ = false := by
  unfold WinAt at h
  refine ⟨?_, ?_, by simp [World.frozen?, h], by simp [World.frozen?, h]⟩
  all_goals
    simp only [World.cell?]
    rw [h]
    rfl
theorem WinAt.lt {W : World} {g t b : Nat} (h : WinAt W g t b) : g < W.heap.size := (Array.getElem?_eq_some_iff.1 h).1
theorem WinAt.below {W W' : World} {g t b B : Nat} (h : WinAt W g t b) (hb : Below B W W') (hg : g < B) : WinAt W' g t b := (hb.block g hg).trans h
theorem WinAt.new (W : World) (t b : Nat) : WinAt (W.alloc (.cells #[.int .u64 t, .int .u64 b] 68)) W.heap.size t b := heap_alloc_new _ _
/-- Another window is stored there. -/
theorem WinAt.store {W : World} {g t b : Nat} (h : WinAt W g t b) (t' b' : Nat) : ∃ u1 u2 : World, W.setCell ⟨g, 0, none⟩ (.int .u64 t') = u1 ∧ u1.cell? ⟨g, 1, none⟩ = some (.int .u64 b) ∧ u1.frozen? ⟨g, 1, none⟩ = false ∧ u1.setCell ⟨g, 1, none⟩ (.int .u64 b') = u2 ∧ WinAt u2 g t' b' ∧ u2.heap.size = W.heap.size ∧ (∀ B, B ≤ g → Below B W u2) ∧ ∀ q, q ≠ g → u2.heap[q]? = W.heap[q]? := by
  have h1 : WinAt (W.setCell ⟨g, 0, none⟩ (.int .u64 t')) g t' b := set_blk h _
  have h2 : WinAt ((W.setCell ⟨g, 0, none⟩ (.int .u64 t')).setCell ⟨g, 1, none⟩ (.int .u64 b')) g t' b' := set_blk h1 _
  have k1 : ∀ q, q ≠ g → (W.setCell ⟨g, 0, none⟩ (.int .u64 t')).heap[q]? = W.heap[q]? := fun q hq => Below.heap_setCell _ _ _ _ (by simpa using hq)
  have k2 : ∀ q, q ≠ g → ((W.setCell ⟨g, 0, none⟩ (.int .u64 t')).setCell ⟨g, 1, none⟩ (.int .u64 b')).heap[q]? = W.heap[q]? := fun q hq => (Below.heap_setCell _ _ _ _ (by simpa using hq)).trans (k1 q hq)
  have k3 : ∀ B, B ≤ g → Below B W ((W.setCell ⟨g, 0, none⟩ (.int .u64 t')).setCell ⟨g, 1, none⟩ (.int .u64 b')) := fun B hB => ((Below.refl B W).setCell (by simpa using hB) _).setCell (by simpa using hB) _
  exact ⟨_, _, rfl, h1.cells.2.1, h1.cells.2.2.2, rfl, h2, by simp [World.setCell], k3, k2⟩

set_option maxRecDepth 100000 in
set_option maxHeartbeats 1000000 in
theorem Seen_calls {t b : Nat} {L : List Nat} (h : Inv t b L) (n : Nat) (hn : n < 18446744073709551616) (w : World) :
    Calls Try.prog 38 #[.agg #[.int .u64 t, .int .u64 b], .int .u64 n] w (One w (.bool (seenS L n))) := by
  have HT := Lib.hid (fun V => trimmed_calls h V)
  have HW := Lib.hid (fun V => with_calls h n hn V)
  clear h hn
  go_enter Try.func38, Try.ntmps38
  go_wp2_with fail
  refine (HT.out _).mono ?_
  rintro e w1 ⟨rfl, b1⟩
  have hsz : (w.alloc (.cells #[.int .u64 t, .int .u64 b] 68)).heap.size = w.heap.size + 1 := by simp
  have hA := (WinAt.new w t b).below b1 (by omega)
  obtain ⟨c0, c1, f0, f1⟩ := hA.cells
  obtain ⟨u1, u2, e1, d1, g1, e2, hA2, hs2, hB2, _⟩ := hA.store t b
  have hB : Below w.heap.size w u2 := (((Below.refl _ w).alloc (Nat.le_refl _) _).trans (b1.mono (by omega))).trans (hB2 _ (Nat.le_refl _))
  obtain ⟨x0, x1, _, _⟩ := hA2.cells
  have HB := Lib.hid (And.intro hB hA2)
  have hlt := hA2.lt
  have HLt := Lib.hid hlt
  have HC : Hid (Calls Try.prog 76 #[.agg #[.int .u64 t, .int .u64 b], .int .u64 n] u2.drew fun e w2 => ∃ t' b' : Nat, e = .returned (.agg #[.int .u64 t', .int .u64 b']) ∧ w2.cell? ⟨w.heap.size, 0, none⟩ = some (.int .u64 t) ∧ w2.cell? ⟨w.heap.size, 1, none⟩ = some (.int .u64 b) ∧ (seenS L n = true → t' = t ∧ b' = b) ∧ (seenS L n = false → (t < n → t' ≠ t) ∧ (¬ t < n → t' = t ∧ b' ≠ b)) ∧ Below w.heap.size w w2) := by
    refine (HW.out _).mono ?_
    rintro e w2 ⟨t', b', rfl, y1, y2, b2⟩
    have b2' : Below u2.heap.size u2 w2 := Below.trans (below_drewN (Below.refl u2.heap.size u2) 1) b2
    obtain ⟨z0, z1, _, _⟩ := (hA2.below b2' hlt).cells
    exact ⟨t', b', rfl, z0, z1, y1, fun hs => (y2 hs).2, hB.trans (b2'.mono hB.size)⟩
  clear b1 hsz hA hA2 hB2 hB HW HT hs2 hlt
  cases hs : seenS L n with
  | true =>
    have HC2 : Hid (Calls Try.prog 76 #[.agg #[.int .u64 t, .int .u64 b], .int .u64 n] u2.drew fun e w2 => e = .returned (.agg #[.int .u64 t, .int .u64 b]) ∧ w2.cell? ⟨w.heap.size, 0, none⟩ = some (.int .u64 t) ∧ w2.cell? ⟨w.heap.size, 1, none⟩ = some (.int .u64 b) ∧ Hid (Below w.heap.size w w2)) := by
      refine HC.out.mono ?_
      rintro e w2 ⟨t', b', rfl, q1, q2, q3, q4, q5⟩
      obtain ⟨rfl, rfl⟩ := q3 hs
      exact ⟨rfl, q1, q2, q5⟩
    have HS := Lib.hid hs
    clear HC hs
    go_wp2
    clear e1 e2 c0 c1 f0 f1 d1 g1
    go_region_held3 (fun w' => w'.cell? ⟨w.heap.size, 0, none⟩ = some (.int .u64 t) ∧ w'.cell? ⟨w.heap.size, 1, none⟩ = some (.int .u64 b)) (go_keep) (first
      | (go_at_call 76; refine HC2.out.mono ?_; rintro e' w2 ⟨rfl, hq1, hq2, HO⟩))
    go_wp2
    go_ret
    exact ⟨by rw [HS.out]; rfl, HO.out⟩
  | false =>
    by_cases hu : t < n
    · have HC2 : Hid (Calls Try.prog 76 #[.agg #[.int .u64 t, .int .u64 b], .int .u64 n] u2.drew fun e w2 => ∃ t' b' : Nat, e = .returned (.agg #[.int .u64 t', .int .u64 b']) ∧ w2.cell? ⟨w.heap.size, 0, none⟩ = some (.int .u64 t) ∧ w2.cell? ⟨w.heap.size, 1, none⟩ = some (.int .u64 b) ∧ (((t' : Int) == (t : Int)) = false) ∧ (¬ (t' : Int) = (t : Int)) ∧ Hid (Below w.heap.size w w2)) := by
        refine HC.out.mono ?_
        rintro e w2 ⟨t', b', rfl, q1, q2, q3, q4, q5⟩
        have := (q4 hs).1 hu
        exact ⟨t', b', rfl, q1, q2, by rw [beq_eq_false_iff_ne]; omega, by omega, q5⟩
      have HS := Lib.hid hs
      clear HC hs hu
      go_wp2
      clear e1 e2 c0 c1 f0 f1 d1 g1
      go_region_held3 (fun w' => w'.cell? ⟨w.heap.size, 0, none⟩ = some (.int .u64 t) ∧ w'.cell? ⟨w.heap.size, 1, none⟩ = some (.int .u64 b)) (go_keep) (first
        | (go_at_call 76; refine HC2.out.mono ?_; rintro e' w2 ⟨t', b', rfl, hq1, hq2, hq3, hq4, HO⟩))
      go_wp2
      go_ret
      exact ⟨by rw [HS.out]; rfl, HO.out⟩
    · have HC2 : Hid (Calls Try.prog 76 #[.agg #[.int .u64 t, .int .u64 b], .int .u64 n] u2.drew fun e w2 => ∃ b' : Nat, e = .returned (.agg #[.int .u64 t, .int .u64 b']) ∧ w2.cell? ⟨w.heap.size, 0, none⟩ = some (.int .u64 t) ∧ w2.cell? ⟨w.heap.size, 1, none⟩ = some (.int .u64 b) ∧ (((b' : Int) == (b : Int)) = false) ∧ (¬ (b' : Int) = (b : Int)) ∧ Hid (Below w.heap.size w w2)) := by
        refine HC.out.mono ?_
        rintro e w2 ⟨t', b', rfl, q1, q2, q3, q4, q5⟩
        obtain ⟨rfl, hb'⟩ := (q4 hs).2 hu
        exact ⟨b', rfl, q1, q2, by rw [beq_eq_false_iff_ne]; omega, by omega, q5⟩
      have HS := Lib.hid hs
      clear HC hs hu
      go_wp2
      clear e1 e2 c0 c1 f0 f1 d1 g1
      go_region_held3 (fun w' => w'.cell? ⟨w.heap.size, 0, none⟩ = some (.int .u64 t) ∧ w'.cell? ⟨w.heap.size, 1, none⟩ = some (.int .u64 b)) (go_keep) (first
        | (go_at_call 76; refine HC2.out.mono ?_; rintro e' w2 ⟨b', rfl, hq1, hq2, hq3, hq4, HO⟩))
      go_wp2
      go_ret
      exact ⟨by rw [HS.out]; rfl, HO.out⟩

theorem results_both {P : Program} {fn : Func} {p u : Tmp} {ty : TypeId} (h : fn.results = #[.cell p ty, .tmp u]) (tmps : Array Value) (w : World) (g : Nat) (t : TypeId) (cs : Array Value) (fr : Nat × Nat) (d : TypeDesc)
    (hp : tmps.getD p undef = .pointer (some ⟨g, 0, none⟩)) (hg : w.heap[g]? = some (.cells cs t fr))
    (hu : P.underlying ty = some d) (hd : (match d with | .struct _ | .array _ _ => true | _ => false) = true) (hi : (P.info? ty).map (·.size) = some cs.size) :
    (results fn tmps).run P w = .ok (.tuple #[.agg cs, tmps.getD u undef]) w := by
  rw [results_cell_tmp h, hp]
  simp [asAddr, run_loadVar_row w g t ty cs fr d hg hu hd hi, Result.andThen]

/-- What Let tells. -/
def LetOut (w : World) (L : List Nat) (n : Nat) (e : Ending) (w' : World) : Prop :=
  Below w.heap.size w w' ∧ ((seenS L n = true ∧ e = .returned (.tuple #[.agg #[.int .u64 0, .int .u64 0], .int .i64 7])) ∨
    (seenS L n = false ∧ ∃ t' b' : Nat, Inv t' b' (L ++ [n]) ∧ e = .returned (.tuple #[.agg #[.int .u64 t', .int .u64 b'], .int .i64 0])))

set_option maxRecDepth 100000 in
set_option maxHeartbeats 1000000 in
theorem Let_calls {t b : Nat} {L : List Nat} (h : Inv t b L) (n : Nat) (hn : n < 18446744073709551616) (w : World) :
    Calls Try.prog 40 #[.agg #[.int .u64 t, .int .u64 b], .int .u64 n] w (LetOut w L n) := by
  have HT := Lib.hid (fun V => trimmed_calls h V)
  have HW := Lib.hid (fun V => with_calls h n hn V)
  clear h hn
  have hn0 := WinAt.new w t b
  obtain ⟨wa, ha⟩ : ∃ wa, w.alloc (.cells #[.int .u64 t, .int .u64 b] 68) = wa := ⟨_, rfl⟩
  have hsa : wa.heap.size = w.heap.size + 1 := by rw [← ha]; simp
  have hBa : Below w.heap.size w wa := by rw [← ha]; exact (Below.refl _ w).alloc (Nat.le_refl _) _
  rw [ha] at hn0
  have hn1 := WinAt.new wa 0 0
  obtain ⟨wb, hb⟩ : ∃ wb, wa.alloc (.cells #[.int .u64 ((0 : Nat) : Int), .int .u64 ((0 : Nat) : Int)] 68) = wb := ⟨_, rfl⟩
  have hb' : wa.alloc (.cells #[.int .u64 0, .int .u64 0] 68) = wb := hb
  have hsb : wb.heap.size = w.heap.size + 2 := by rw [← hb]; simp; omega
  have hBb : Below wa.heap.size wa wb := by rw [← hb]; exact (Below.refl _ wa).alloc (Nat.le_refl _) _
  rw [hb] at hn1
  have hn0b := hn0.below hBb (by omega)
  have hBw : Below w.heap.size w wb := hBa.trans (hBb.mono (by omega))
  obtain ⟨c0, c1, f0, f1⟩ := hn0b.cells
  have H1 := Lib.hid (And.intro hn0b (And.intro hn1 (And.intro hBw (And.intro hsb hsa))))
  clear hn0 hn1 hsa hBa hBb hn0b hBw hsb hb
  go_enter Try.func40, Try.ntmps40
  go_wp2_with fail
  refine (HT.out _).mono ?_
  rintro e w1 ⟨rfl, b1⟩
  obtain ⟨k1, k2, k3, k4, k5⟩ := H1.out
  have k1' := k1.below b1 (by omega)
  have k2' := k2.below b1 (by omega)
  clear c0 c1 f0 f1
  obtain ⟨c0, c1, f0, f1⟩ := k1'.cells
  obtain ⟨u1, u2, e1, d1, g1, e2, hA2, hs2, hB2, hq2⟩ := k1'.store t b
  have hB : Below w.heap.size w u2 := (k3.trans (b1.mono (by omega))).trans (hB2 _ (Nat.le_refl _))
  have k2u : WinAt u2 wa.heap.size 0 0 := (hq2 _ (by omega)).trans k2'
  obtain ⟨x0, x1, _, _⟩ := hA2.cells
  have hsu : wb.heap.size ≤ u2.heap.size := by rw [hs2]; exact b1.size
  have H2 := Lib.hid (And.intro hA2 (And.intro k2u hB))
  have HS := Lib.hid (And.intro k4 (And.intro k5 hsu))
  clear k1 k2 k3 k4 k5 k1' k2' b1 hA2 k2u hB hs2 hB2 hq2 H1 hsu HT
  go_wp2_with fail
  refine (HW.out _).mono ?_
  rintro e w2 ⟨t', b', rfl, y1, y2, b2⟩
  obtain ⟨u3, hu3⟩ : ∃ u3, w2.alloc (.cells #[.int .u64 t', .int .u64 b'] 68) = u3 := ⟨_, rfl⟩
  have hN := WinAt.new w2 t' b'
  rw [hu3] at hN
  have hB3 : Below w2.heap.size w2 u3 := by rw [← hu3]; exact (Below.refl _ w2).alloc (Nat.le_refl _) _
  obtain ⟨q1, q2, q3⟩ := H2.out
  obtain ⟨q4, q5, q6⟩ := HS.out
  have b23 : Below u2.heap.size u2 u3 := b2.trans (hB3.mono b2.size)
  have r1 := q1.below b23 q1.lt
  have r2 := q2.below b23 q2.lt
  have hB : Below w.heap.size w u3 := q3.trans (b23.mono q3.size)
  clear x0 x1 c0 c1 f0 f1 d1 g1 e1 e2
  obtain ⟨x0, x1, _, _⟩ := r1.cells
  obtain ⟨n0, n1, _, _⟩ := hN.cells
  obtain ⟨m0, m1, o0, o1⟩ := r2.cells
  obtain ⟨s1, s2, i1, i2, i3, i4, i5, _, i6, _⟩ := r2.store 0 0
  obtain ⟨s1', s2', i1', i2', i3', i4', i5', _, i6', _⟩ := r2.store t' b'
  have i1z : u3.setCell ⟨wa.heap.size, 0, none⟩ (.int .u64 0) = s1 := i1
  have i4z : s1.setCell ⟨wa.heap.size, 1, none⟩ (.int .u64 0) = s2 := i4
  have i2z : s1.cell? ⟨wa.heap.size, 1, none⟩ = some (.int .u64 0) := i2
  have i2z' : s1'.cell? ⟨wa.heap.size, 1, none⟩ = some (.int .u64 0) := i2'
  have m0z : u3.cell? ⟨wa.heap.size, 0, none⟩ = some (.int .u64 0) := m0
  have m1z : u3.cell? ⟨wa.heap.size, 1, none⟩ = some (.int .u64 0) := m1
  have HF := Lib.hid (hB.trans (i6 w.heap.size (by omega)))
  have HF' := Lib.hid (hB.trans (i6' w.heap.size (by omega)))
  have HI := Lib.hid i5
  have HI' := Lib.hid i5'
  have Y1 := Lib.hid y1
  have Y2 := Lib.hid y2
  clear hN hB3 q1 q2 q3 q4 q5 q6 b23 r1 r2 hB i6 i6' i5 i5' b2 H2 HS HW y1 y2 i1 i4 i2 i2' m0 m1 ha hb'
  cases hs : seenS L n with
  | true =>
    obtain ⟨rfl, rfl⟩ := Y1.out hs
    have HS := Lib.hid hs
    clear hs
    go_wp2
    refine bodyPost_ret (results_both rfl _ _ wa.heap.size 68 _ (0, 0) _ rfl HI.out Try.underlying68 rfl (by kernel_rfl)) rfl ?_
    exact ⟨HF.out, .inl ⟨HS.out, rfl⟩⟩
  | false =>
    obtain ⟨y3, y4, y5⟩ := Y2.out hs
    have HIn := Lib.hid y3
    have HS := Lib.hid hs
    by_cases hu : t < n
    · have e5 := y4 hu
      have e6 : ((t' : Int) == (t : Int)) = false := by rw [beq_eq_false_iff_ne]; omega
      have e7 : ¬ (t' : Int) = (t : Int) := by omega
      clear hs y3 y4 y5 hu e5
      go_wp2
      refine bodyPost_ret (results_both rfl _ _ wa.heap.size 68 _ (0, 0) _ rfl HI'.out Try.underlying68 rfl (by kernel_rfl)) rfl ?_
      exact ⟨HF'.out, .inr ⟨HS.out, t', b', HIn.out, rfl⟩⟩
    · obtain ⟨rfl, e5⟩ := y5 hu
      have e6 : ((b' : Int) == (b : Int)) = false := by rw [beq_eq_false_iff_ne]; omega
      have e7 : ¬ (b' : Int) = (b : Int) := by omega
      clear hs y3 y4 y5 hu e5
      go_wp2
      refine bodyPost_ret (results_both rfl _ _ wa.heap.size 68 _ (0, 0) _ rfl HI'.out Try.underlying68 rfl (by kernel_rfl)) rfl ?_
      exact ⟨HF'.out, .inr ⟨HS.out, t', b', HIn.out, rfl⟩⟩

end Go.Proofs.Ytfbkebdlioibpaa.L5
