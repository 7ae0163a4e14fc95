/- Contract of net.Take. -/
import Derived.Test.YtildapcdkipakaaNtDel
namespace Go.Proofs.Ytildapcdkipakaa.L8
open Go.ChangeShapes Go.WideShapes Go.ChangeAt Go.RowKit Go.Deep

theorem results_both8 {P : Program} {fn : Func} {p u : Tmp} {ty : TypeId} (h : fn.results = #[.cell p ty, .tmp u]) (tmps : Array Value) (w : World) (g : Nat) (t : TypeId) (cs : Array Value) (fr : Nat × Nat) (d : TypeDesc)
    (hp : tmps.getD p undef = .pointer (some ⟨g, 0, none⟩)) (hg : w.heap[g]? = some (.cells cs t fr))
    (hu : P.underlying ty = some d) (hd : (match d with | .struct _ | .array _ _ => true | _ => false) = true) (hi : (P.info? ty).map (·.size) = some cs.size) :
    (results fn tmps).run P w = .ok (.tuple #[.agg cs, tmps.getD u undef]) w := by
  rw [results_cell_tmp h, hp]
  simp [asAddr, run_loadVar_row w g t ty cs fr d hg hu hd hi, Result.andThen]
theorem blk_cell8 {W : World} {b i : Nat} {cs : Array Value} {t : TypeId} (h : W.heap[b]? = some (.cells cs t (0, 0))) : W.cell? ⟨b, i, none⟩ = cs[i]? := by
  simp only [World.cell?]
  rw [h]
  rfl
theorem blk_frozen8 {W : World} {b i : Nat} {cs : Array Value} {t : TypeId} (h : W.heap[b]? = some (.cells cs t (0, 0))) : W.frozen? ⟨b, i, none⟩ = false := by simp [World.frozen?, h]
/-- Three stores into one block. -/
theorem store3 {W : World} {b : Nat} {t : TypeId} {o0 o1 o2 : Value} (n0 n1 n2 : Value) (h : W.heap[b]? = some (.cells #[o0, o1, o2] t (0, 0))) :
    ∃ u1 u2 u3 : World, (W.setCell ⟨b, 0, none⟩ n0 = u1 ∧ W.cell? ⟨b, 0, none⟩ = some o0 ∧ W.frozen? ⟨b, 0, none⟩ = false) ∧ (u1.setCell ⟨b, 1, none⟩ n1 = u2 ∧ u1.cell? ⟨b, 1, none⟩ = some o1 ∧ u1.frozen? ⟨b, 1, none⟩ = false) ∧ (u2.setCell ⟨b, 2, none⟩ n2 = u3 ∧ u2.cell? ⟨b, 2, none⟩ = some o2 ∧ u2.frozen? ⟨b, 2, none⟩ = false) ∧
      u3.heap[b]? = some (.cells #[n0, n1, n2] t (0, 0)) ∧ Below b W u3 ∧ ∀ k, k ≠ b → u3.heap[k]? = W.heap[k]? := by
  have h1 : (W.setCell ⟨b, 0, none⟩ n0).heap[b]? = some (.cells #[n0, o1, o2] t (0, 0)) := blk_setj h n0
  have hB1 : Below b W (W.setCell ⟨b, 0, none⟩ n0) := (Below.refl b W).setCell (by simp) n0
  have hk1 : ∀ k, k ≠ b → (W.setCell ⟨b, 0, none⟩ n0).heap[k]? = W.heap[k]? := fun k hk => (Below.heap_setCell _ _ _ _ (by simpa using hk))
  obtain ⟨x1, hx1⟩ : ∃ x, W.setCell ⟨b, 0, none⟩ n0 = x := ⟨_, rfl⟩
  rw [hx1] at h1 hB1 hk1
  have h2 : (x1.setCell ⟨b, 1, none⟩ n1).heap[b]? = some (.cells #[n0, n1, o2] t (0, 0)) := blk_setj h1 n1
  have hB2 : Below b W (x1.setCell ⟨b, 1, none⟩ n1) := hB1.setCell (by simp) n1
  have hk2 : ∀ k, k ≠ b → (x1.setCell ⟨b, 1, none⟩ n1).heap[k]? = W.heap[k]? := fun k hk => (Below.heap_setCell _ _ _ _ (by simpa using hk)).trans (hk1 k hk)
  obtain ⟨x2, hx2⟩ : ∃ x, x1.setCell ⟨b, 1, none⟩ n1 = x := ⟨_, rfl⟩
  rw [hx2] at h2 hB2 hk2
  have h3 : (x2.setCell ⟨b, 2, none⟩ n2).heap[b]? = some (.cells #[n0, n1, n2] t (0, 0)) := blk_setj h2 n2
  have hB3 : Below b W (x2.setCell ⟨b, 2, none⟩ n2) := hB2.setCell (by simp) n2
  have hk3 : ∀ k, k ≠ b → (x2.setCell ⟨b, 2, none⟩ n2).heap[k]? = W.heap[k]? := fun k hk => (Below.heap_setCell _ _ _ _ (by simpa using hk)).trans (hk2 k hk)
  obtain ⟨x3, hx3⟩ : ∃ x, x2.setCell ⟨b, 2, none⟩ n2 = x := ⟨_, rfl⟩
  rw [hx3] at h3 hB3 hk3
  exact ⟨x1, x2, x3, ⟨hx1, blk_cell8 h, blk_frozen8 h⟩, ⟨hx2, blk_cell8 h1, blk_frozen8 h1⟩, ⟨hx3, blk_cell8 h2, blk_frozen8 h2⟩, h3, hB3, hk3⟩
section
variable {w : World} {B h : Nat} {l : List Dg} {v : Value} {b n : Nat} {hs : List Bytes}
def TakeNo (w : World) (e : Ending) (w' : World) : Prop := e = .returned (.tuple #[.agg #[.int .i64 0, .int .i64 0, .string ⟨#[]⟩], .int .i64 8]) ∧ Below w.heap.size w w'
set_option maxHeartbeats 1000000 in
theorem take_no (a : NtAt w B h l v b n hs) {i : Int} (hi : ¬ (0 ≤ i ∧ i < l.length)) : Calls Try.prog 10 #[.pointer (some ⟨h, 0, none⟩), .int .i64 i] w (TakeNo w) := by
  have bA : Below w.heap.size w (w.alloc (.cells #[.int .i64 0, .int .i64 0, .string ⟨#[]⟩] 36)) := (Below.refl _ w).alloc (Nat.le_refl _) _
  have HNew := Lib.hid (heap_alloc_new w (.cells #[.int .i64 0, .int .i64 0, .string ⟨#[]⟩] 36))
  have HL := lies_calls (a.below bA) i
  rw [decide_eq_false hi] at HL
  have HL := Lib.hid HL
  have HB := Lib.hid bA
  clear a hi bA
  go_enter Try.func10, Try.ntmps10
  go_wp2_with fail
  refine HL.out.mono ?_
  rintro e w' ⟨rfl, rfl⟩
  go_wp2
  refine bodyPost_ret (results_both8 rfl _ _ w.heap.size 36 _ (0, 0) _ rfl HNew.out Try.underlying36 rfl (by kernel_rfl)) rfl ?_
  exact ⟨rfl, HB.out⟩
def TakeYes (w : World) (B h : Nat) (l : List Dg) (v : Value) (b n : Nat) (hs : List Bytes) (i : Nat) (d : Dg) (e : Ending) (w' : World) : Prop :=
  e = .returned (.tuple #[d.val, .int .i64 0]) ∧ Ntd w B h v b (l.take i ++ l.drop (i + 1)) n hs w'
set_option maxRecDepth 100000 in
set_option maxHeartbeats 4000000 in
theorem take_yes (a : NtAt w B h l v b n hs) {i : Nat} {d : Dg} (hd : l[i]? = some d) (hl : l.length ≤ 1000000) : Calls Try.prog 10 #[.pointer (some ⟨h, 0, none⟩), .int .i64 i] w (TakeYes w B h l v b n hs i d) := by
  have hil := (List.getElem?_eq_some_iff.1 hd).1
  have bA : Below w.heap.size w (w.alloc (.cells #[.int .i64 0, .int .i64 0, .string ⟨#[]⟩] 36)) := (Below.refl _ w).alloc (Nat.le_refl _) _
  have bC : Below w.heap.size w ((w.alloc (.cells #[.int .i64 0, .int .i64 0, .string ⟨#[]⟩] 36)).alloc (.cells #[.int .i64 d.src, .int .i64 d.dst, .string ⟨d.fr.toArray⟩] 36)) := bA.alloc (by simp) _
  have n1 := heap_alloc_new (w.alloc (.cells #[.int .i64 0, .int .i64 0, .string ⟨#[]⟩] 36)) (.cells #[.int .i64 d.src, .int .i64 d.dst, .string ⟨d.fr.toArray⟩] 36)
  rw [World.size_alloc] at n1
  have n0 : ((w.alloc (.cells #[.int .i64 0, .int .i64 0, .string ⟨#[]⟩] 36)).alloc (.cells #[.int .i64 d.src, .int .i64 d.dst, .string ⟨d.fr.toArray⟩] 36)).heap[w.heap.size]? = some (.cells #[.int .i64 0, .int .i64 0, .string ⟨#[]⟩] 36 (0, 0)) := (Below.heap_alloc _ _ _ (by simp)).trans (heap_alloc_new w _)
  have nz : ((w.alloc (.cells #[.int .i64 0, .int .i64 0, .string ⟨#[]⟩] 36)).alloc (.cells #[.int .i64 d.src, .int .i64 d.dst, .string ⟨d.fr.toArray⟩] 36)).heap.size = w.heap.size + 2 := by simp
  have HL := lies_calls (a.below bA) i
  rw [decide_eq_true (by omega)] at HL
  have HL := Lib.hid HL
  obtain ⟨c0, _, _⟩ := a.cells
  obtain ⟨g, cap, rfl, hg, hc, _⟩ := dg_shape a.row (by omega)
  obtain ⟨x0, x1, x2⟩ := dg_cells a.row hd
  have s1 : (0 : Int) ≤ (i : Int) := by omega
  have s2 : (i : Int) < (l.length : Int) := by omega
  have hhl := a.lt
  have k0 := (bA.cell (p := ⟨h, 0, none⟩) hhl).trans c0
  have HA := Lib.hid a
  have HD := Lib.hid hd
  have HIl := Lib.hid hil
  clear a hd hil bA
  go_enter Try.func10, Try.ntmps10
  go_wp2_with fail
  refine HL.out.mono ?_
  rintro e w' ⟨rfl, rfl⟩
  clear HL
  go_wp2_with fail
  obtain ⟨W2, hW2⟩ : ∃ W2, (w.alloc (.cells #[.int .i64 0, .int .i64 0, .string ⟨#[]⟩] 36)).alloc (.cells #[.int .i64 d.src, .int .i64 d.dst, .string ⟨d.fr.toArray⟩] 36) = W2 := ⟨_, rfl⟩
  rw [hW2] at bC n0 n1 nz ⊢
  have HB2 := Lib.hid bC
  have HA2 := Lib.hid (HA.out.below bC)
  have HDl := Lib.hid (Delete_calls HA2.out.row HIl.out hl)
  clear bC hW2 k0 x0 x1 x2 c0
  refine HDl.out.mono ?_
  rintro e w3 ⟨rfl, k1, k2⟩
  obtain ⟨p1, p2, p3⟩ := HA2.out.apart
  have hgh : h ≠ g := fun e => p2 (by rw [e]; rfl)
  have hgb : b ≠ g := fun e => p3 (by rw [e]; rfl)
  have o3 : w3.heap[h]? = some (.cells #[.slice (some ⟨g, 0, none⟩) l.length cap, .map (some b)] 76 (0, 0)) := (k2.block h HA2.out.lt (fun e => hgh (by cases e; rfl))).trans HA2.out.own
  have z0 : w3.heap[w.heap.size]? = some (.cells #[.int .i64 0, .int .i64 0, .string ⟨#[]⟩] 36 (0, 0)) := (k2.block _ (by omega) (fun e => by cases e; omega)).trans n0
  have z1 : w3.heap[w.heap.size + 1]? = some (.cells #[.int .i64 d.src, .int .i64 d.dst, .string ⟨d.fr.toArray⟩] 36 (0, 0)) := (k2.block _ (by omega) (fun e => by cases e; omega)).trans n1
  have q0 : w3.cell? ⟨h, 0, none⟩ = some (.slice (some ⟨g, 0, none⟩) l.length cap) := blk_cell8 o3
  have q1 : w3.frozen? ⟨h, 0, none⟩ = false := blk_frozen8 o3
  obtain ⟨w4, hw4⟩ : ∃ w4, w3.setCell ⟨h, 0, none⟩ (.slice (some ⟨g, 0, none⟩) (l.length - 1) cap) = w4 := ⟨_, rfl⟩
  have kk : ∀ q, q ≠ h → w4.heap[q]? = w3.heap[q]? := fun q hq => by rw [← hw4]; exact Below.heap_setCell _ _ _ _ (by show q ≠ h; exact hq)
  have o4 : w4.heap[h]? = some (.cells #[.slice (some ⟨g, 0, none⟩) (l.length - 1) cap, .map (some b)] 76 (0, 0)) := by
    have := blk_setj (j := 0) o3 (.slice (some ⟨g, 0, none⟩) (l.length - 1) cap)
    rw [pair_set0, hw4] at this
    exact this
  have y0 := (kk w.heap.size (by omega)).trans z0
  have y1 := (kk (w.heap.size + 1) (by omega)).trans z1
  have r0 : w4.cell? ⟨w.heap.size + 1, 0, none⟩ = some (.int .i64 d.src) := blk_cell8 y1
  have r1 : w4.cell? ⟨w.heap.size + 1, 1, none⟩ = some (.int .i64 d.dst) := blk_cell8 y1
  have r2 : w4.cell? ⟨w.heap.size + 1, 2, none⟩ = some (.string ⟨d.fr.toArray⟩) := blk_cell8 y1
  obtain ⟨u1, u2, u3, ⟨e1, d1, f1⟩, ⟨e2, d2, f2⟩, ⟨e3, d3, f3⟩, hlast, hBl, hkl⟩ := store3 (.int .i64 d.src) (.int .i64 d.dst) (.string ⟨d.fr.toArray⟩) y0
  have HLast := Lib.hid hlast
  have HF : Hid (TakeYes w B h l (.slice (some ⟨g, 0, none⟩) l.length cap) b n hs i d (.returned (.tuple #[d.val, .int .i64 0])) u3) := by
    have oW : Only (NtIn h (.slice (some ⟨g, 0, none⟩) l.length cap) b) w w4 := by
      rw [← hw4]
      exact ((Only.of_below HB2.out).onto (Only.of_grown (F := NtIn h (.slice (some ⟨g, 0, none⟩) l.length cap) b) k2 (fun k e => .inr (.inr (by cases e; rfl)))) (fun q e => .inl e)).setCell (.inl (.inl rfl)) _
    have o5 : Only (NtIn h (.slice (some ⟨g, 0, none⟩) l.length cap) b) w u3 := ⟨hBl.os.trans oW.os, hBl.tape.trans oW.tape, hBl.output.trans oW.output, Nat.le_trans oW.size hBl.size, fun k hk hn => (hkl k (by omega)).trans (oW.block k hk hn)⟩
    have hlen : (l.take i ++ l.drop (i + 1)).length = l.length - 1 := by have := HIl.out; simp; omega
    refine ⟨rfl, .slice (some ⟨g, 0, none⟩) (l.length - 1) cap, ⟨(hkl h (by omega)).trans o4, HA2.out.base, ?_, ?_⟩, o5, fun q hq => .inl ?_⟩
    · rw [hlen]
      exact L5.own_same k1 (fun q e => by
        cases e
        exact (hkl g (by omega)).trans (kk g (fun e => hgh e.symm)))
    · exact HA2.out.map.same ((hkl b (by have := HA.out.map.lt; omega)).trans ((kk b (fun e => p1 e.symm)).trans (k2.block b HA2.out.map.lt (fun e => hgb (by cases e; rfl)))))
    · rcases hq with e | e | e
      · exact .inl e
      · exact .inr (.inl e)
      · exact .inr (.inr e)
  clear k1 k2 p1 p2 p3 o3 z0 z1 kk o4 y0 y1 hlast hBl hkl HDl HA HA2 HD HIl HB2 n0 n1 nz hgh hgb
  go_wp2
  refine bodyPost_ret (results_both8 rfl _ _ w.heap.size 36 _ (0, 0) _ rfl HLast.out Try.underlying36 rfl (by kernel_rfl)) rfl ?_
  exact HF.out
end
end Go.Proofs.Ytildapcdkipakaa.L8
