/- both.does: all that is open is sent again. both.does: a text comes; nothing lies in the net. both.does: a frame is doubled, or lost. both.does: a frame that lies in the net comes. both.does: every act. made: both ends of the program, the document's two, and an empty net. -/
import Derived.Test.YtiodphkmllcjdaaGreatLkCm
import Derived.Test.YtiodphkmllcjdaaGreatLkRG
import Derived.Test.YtiodphkmllcjdaaGreatLkD
import Derived.Test.YtiodphkmllcjdaaGreatLkDA
section
namespace Go.Proofs.YtiodphkmllcjdaaGreat.L7
open Go.ChangeShapes Go.WideShapes Go.ChangeAt Go.RowKit L6

set_option maxRecDepth 100000 in
set_option maxHeartbeats 8000000 in
theorem does_again {w : World} {B z : Nat} {x y : Blk} {gx gy n m : Nat} {s t : St} {rx ry : RSt} {vox vwx voy vwy : Value} {tos : List Nat} {fs : List Bytes} {vt vl : Value} {c : Nat} (h : BothAt w B z x y gx gy n m s t rx ry vox vwx voy vwy tos fs vt vl) (hf : Alike s t rx ry fs n m c) (ht : ∀ k ∈ tos, k = 1 ∨ k = 2) (_hc : c ≤ 399) (hfl : fs.length ≤ 90000) (op nn : Int) (txt : Bytes) (hop : isInt op) (_hnn : isInt nn) (hk : pickN op 13 = 11) :
    Calls Tryz.prog 7 #[.pointer (some ⟨z, 0, none⟩), .agg #[.int .i64 op, .int .i64 nn, .string ⟨txt.toArray⟩]] w (DidOut w B z x y gx gy (fs.length + 200) (c + 1)) := by
  obtain ⟨Al, cl, hvl⟩ := L5.own_slice h.net.l
  subst hvl
  obtain ⟨At, ct, hvt⟩ := L5.own_slice h.net.to
  subst hvt
  have hbx : (w.alloc (.cells #[.int .i64 op, .int .i64 nn, .string ⟨txt.toArray⟩] 28)).heap[w.heap.size]? = some (.cells #[.int .i64 op, .int .i64 nn, .string ⟨txt.toArray⟩] 28 (0, 0)) := World.alloc_heap_new w _
  have hB0 : Below w.heap.size w (w.alloc (.cells #[.int .i64 op, .int .i64 nn, .string ⟨txt.toArray⟩] 28)) := (Below.refl _ w).alloc (Nat.le_refl _) _
  have hs0 : (w.alloc (.cells #[.int .i64 op, .int .i64 nn, .string ⟨txt.toArray⟩] 28)).heap.size = w.heap.size + 1 := by simp
  obtain ⟨W0, hW0⟩ : ∃ W0, w.alloc (.cells #[.int .i64 op, .int .i64 nn, .string ⟨txt.toArray⟩] 28) = W0 := ⟨_, rfl⟩
  rw [hW0] at hbx hB0 hs0
  have h0 := h.below hB0
  have y0 : W0.cell? ⟨w.heap.size, 0, none⟩ = some (.int .i64 op) := by simp only [World.cell?]; rw [hbx]; rfl
  have y1 : W0.cell? ⟨w.heap.size, 1, none⟩ = some (.int .i64 nn) := by simp only [World.cell?]; rw [hbx]; rfl
  have y2 : W0.cell? ⟨w.heap.size, 2, none⟩ = some (.string ⟨txt.toArray⟩) := by simp only [World.cell?]; rw [hbx]; rfl
  obtain ⟨z0, z1, z2, z3, z4, z5⟩ := h0.cells
  unfold ptrAt at z0 z1 z2 z3
  have HP := Lib.hid (pick_is hop (n := 13) (by decide) (by decide) W0)
  have H0 := Lib.hid h0
  have HF := Lib.hid hf
  have HTo := Lib.hid ht
  have HB0 := Lib.hid hB0
  have HBw := Lib.hid h.base
  have HHi := Lib.hid h.highs
  have HLo := Lib.hid h.lows
  have HS0 := Lib.hid hs0
  clear h hf ht hbx hB0 hs0 h0
  go_enter Tryz.func7, Tryz.ntmps7
  go_wp2_with fail
  refine HP.out.mono ?_
  rintro e w1 ⟨rfl, rfl⟩
  rw [hk]
  have hAx := again_calls H0.out.one
  have HOx := Lib.hid H0.out.one.ok
  have HOy := Lib.hid H0.out.two.ok
  have HAx := Lib.hid hAx
  clear hAx
  go_wp2_with fail
  refine HAx.out.mono ?_
  rintro e w2 ⟨v2, rfl, r2, e2, o2⟩
  have HA2 := Lib.hid (H0.out.left e2 o2)
  have HR2 := Lib.hid r2
  have HO2 := Lib.hid o2
  have HAy := Lib.hid (again_calls HA2.out.two)
  obtain ⟨z0, z1, z2, z3, z4, z5⟩ := HA2.out.cells
  unfold ptrAt at z0 z1 z2 z3
  clear r2 e2 o2 HAx
  go_wp2_with fail
  refine HAy.out.mono ?_
  rintro e w3 ⟨v3, rfl, r3, e3, o3⟩
  have HA3 := Lib.hid (HA2.out.right e3 o3)
  have HO3 := Lib.hid o3
  obtain ⟨A2, c2, hv2⟩ := L5.own_slice HR2.out
  obtain ⟨A3, c3, hv3⟩ := L5.own_slice r3
  subst hv2 hv3
  have r2' : w3.ownsRow W0.heap.size 46 1 (.slice A2 s.opens.length c2) s.opens.length (strs s.opens) := row_only HR2.out o3 (fun q e e' => by
    have k1 := (HR2.out.lt q e).1
    have k2 := HHi.out.2.2.1 q e'
    have := HS0.out
    omega)
  have hsr2 := srow_row r2'
  have HAdd := Lib.hid (E.add_calls HA3.out.net HA3.out.base 2 s.opens hsr2 (fun ad e e' => by
    have k2 := HHi.out.1 _ e'
    subst e
    have := (r2'.lt ad.block rfl).1
    have := HS0.out
    omega) (by have := HOx.out.room; omega))
  have HR3 := Lib.hid (And.intro r2' r3)
  obtain ⟨z0, z1, z2, z3, z4, z5⟩ := HA3.out.cells
  unfold ptrAt at z0 z1 z2 z3
  clear r3 e3 o3 HAy r2' hsr2
  go_wp2_with fail
  refine HAdd.out.mono ?_
  rintro e w4 ⟨rfl, vt4, vl4, hn4, o4, hf4⟩
  have HA4 := Lib.hid (HA3.out.nets hn4 o4 hf4)
  have HO4 := Lib.hid o4
  have HF4 := Lib.hid hf4
  have hnot3 : ∀ q, w.heap.size ≤ q → ¬ E.NIn z (.slice At tos.length ct) (.slice Al fs.length cl) q := fun q hq e' => by
    have := HHi.out.1 q e'
    omega
  have hz23 : w.heap.size ≤ W0.heap.size ∧ W0.heap.size ≤ w2.heap.size ∧ w2.heap.size ≤ w3.heap.size ∧ w3.heap.size ≤ w4.heap.size := ⟨by have := HS0.out; omega, HO2.out.size, HO3.out.size, o4.size⟩
  have HZ := Lib.hid hz23
  have r2'' : w4.ownsRow W0.heap.size 46 1 (.slice A2 s.opens.length c2) s.opens.length (strs s.opens) := row_only HR3.out.1 o4 (fun q e => hnot3 q (by have := (HR3.out.1.lt q e).1; omega))
  have r3'' : w4.ownsRow w2.heap.size 46 1 (.slice A3 t.opens.length c3) t.opens.length (strs t.opens) := row_only HR3.out.2 o4 (fun q e => hnot3 q (by have := (HR3.out.2.lt q e).1; omega))
  have hnot4 : ∀ q, ((Value.slice A2 s.opens.length c2).ownBlock = some q ∨ (Value.slice A3 t.opens.length c3).ownBlock = some q) → ¬ E.NIn z vt4 vl4 q := fun q hq e' => by
    rcases hf4 q e' with e4 | e4
    · rcases hq with hq | hq
      · exact hnot3 q (by have := (HR3.out.1.lt q hq).1; omega) e4
      · exact hnot3 q (by have := (HR3.out.2.lt q hq).1; omega) e4
    · rcases hq with hq | hq
      · have := (HR3.out.1.lt q hq).2; omega
      · have := (HR3.out.2.lt q hq).2; omega
  have hl1 : (E.laid s.opens).length ≤ 64 := by unfold E.laid; exact Nat.le_trans (List.length_filter_le _ _) HOx.out.room
  have hl2 : (E.laid t.opens).length ≤ 64 := by unfold E.laid; exact Nat.le_trans (List.length_filter_le _ _) HOy.out.room
  have HL12 := Lib.hid (And.intro hl1 hl2)
  have HAdd2 := Lib.hid (E.add_calls HA4.out.net HA4.out.base 1 t.opens (srow_row r3'') (fun ad e e' => by
    subst e
    exact hnot4 ad.block (.inr rfl) e') (by rw [List.length_append]; have := HOy.out.room; omega))
  have HR4 := Lib.hid (And.intro r2'' (And.intro r3'' hnot4))
  obtain ⟨z0, z1, z2, z3, z4, z5⟩ := HA4.out.cells
  unfold ptrAt at z0 z1 z2 z3
  clear hn4 o4 hf4 HAdd r2'' r3'' hnot3 hnot4 hz23 hl1 hl2
  go_wp2_with fail
  refine HAdd2.out.mono ?_
  rintro e w5 ⟨rfl, vt5, vl5, hn5, o5, hf5⟩
  have HA5 := Lib.hid (HA4.out.nets hn5 o5 hf5)
  have r2a : w5.ownsRow W0.heap.size 46 1 (.slice A2 s.opens.length c2) s.opens.length (strs s.opens) := row_only HR4.out.1 o5 (fun q e => HR4.out.2.2 q (.inl e))
  have r3a : w5.ownsRow w2.heap.size 46 1 (.slice A3 t.opens.length c3) t.opens.length (strs t.opens) := row_only HR4.out.2.1 o5 (fun q e => HR4.out.2.2 q (.inr e))
  have HR5 := Lib.hid (And.intro r2a r3a)
  have hB5 : Below B w w5 := by
    have b0 : Below B w W0 := HB0.out.mono HBw.out
    have b2 := Only.below b0 HO2.out (Nat.le_trans HBw.out b0.size) HLo.out.2.1
    have b3 := Only.below b2 HO3.out (Nat.le_trans HBw.out b2.size) HLo.out.2.2.1
    have b4 := Only.below b3 HO4.out (Nat.le_trans HBw.out b3.size) HLo.out.1
    exact Only.below b4 o5 (Nat.le_trans HBw.out b4.size) (fun q hq => by
      rcases HF4.out q hq with e | e
      · exact HLo.out.1 q e
      · have := HZ.out; have := HBw.out; omega)
  have HB5 := Lib.hid hB5
  have HRx := Lib.hid (ragain_calls HA5.out.ref (by rw [← HF.out.one.me]; exact HOx.out.me1) (by rw [← HF.out.one.me]; exact HOx.out.me8) (by rw [← HF.out.one.peer]; exact HOx.out.peer8) (by rw [← HF.out.one.len]; exact HOx.out.room) (fun i hi => ⟨by have := pack_short rx.peer 1 i.1 i.2; have := HF.out.b1 i hi; omega, by have := HF.out.b1 i hi; omega⟩))
  obtain ⟨z0, z1, z2, z3, z4, z5⟩ := HA5.out.cells
  unfold ptrAt at z0 z1 z2 z3
  clear hn5 o5 hf5 HAdd2 r2a r3a hB5
  go_wp2_with fail
  refine HRx.out.mono ?_
  rintro e w6 ⟨v6, rfl, r6, b6⟩
  have hs1 := same_calls (ba s.opens) (.slice A2 s.opens.length c2) v6 w6 (srow_row (L5.own_below HR5.out.1 b6)) (by
    have := srow_row (zs := rx.opens.map (frI rx)) (by rw [List.length_map]; exact r6)
    rw [HF.out.one.opens]
    exact this) (by rw [ba_length]; have := HOx.out.room; omega)
  have HS1 := Lib.hid hs1
  have HB6 := Lib.hid b6
  clear r6 b6 hs1 HRx
  go_wp2_with fail
  refine HS1.out.mono ?_
  rintro e w7 ⟨rfl, k7, rfl⟩
  have hb7 : Below w5.heap.size w5 (w6.drewN k7) := L5.below_drewN HB6.out k7
  have HA7 := Lib.hid (HA5.out.below hb7)
  have HRy := Lib.hid (ragain_calls HA7.out.fer (by rw [← HF.out.two.me]; exact HOy.out.me1) (by rw [← HF.out.two.me]; exact HOy.out.me8) (by rw [← HF.out.two.peer]; exact HOy.out.peer8) (by rw [← HF.out.two.len]; exact HOy.out.room) (fun i hi => ⟨by have := pack_short ry.peer 1 i.1 i.2; have := HF.out.b2 i hi; omega, by have := HF.out.b2 i hi; omega⟩))
  have HB7 := Lib.hid hb7
  obtain ⟨z0, z1, z2, z3, z4, z5⟩ := HA7.out.cells
  unfold ptrAt at z0 z1 z2 z3
  obtain ⟨w8, hw8⟩ : ∃ w8, w6.drewN k7 = w8 := ⟨_, rfl⟩
  rw [hw8] at HRy HB7 HA7 z0 z1 z2 z3 z4 z5 ⊢
  clear hb7 hw8 HS1
  go_wp2_with fail
  refine HRy.out.mono ?_
  rintro e w9 ⟨v9, rfl, r9, b9⟩
  have hs2 := same_calls (ba t.opens) (.slice A3 t.opens.length c3) v9 w9 (srow_row (L5.own_below (L5.own_below HR5.out.2 HB7.out) b9)) (by
    have := srow_row (zs := ry.opens.map (frI ry)) (by rw [List.length_map]; exact r9)
    rw [HF.out.two.opens]
    exact this) (by rw [ba_length]; have := HOy.out.room; omega)
  have HS2 := Lib.hid hs2
  have hb9 : Below w5.heap.size w5 w9 := HB7.out.trans (b9.mono HB7.out.size)
  have htos : ∀ k ∈ (tos ++ E.tosOf 2 s.opens) ++ E.tosOf 1 t.opens, k = 1 ∨ k = 2 := by
    intro k hk
    rcases List.mem_append.1 hk with hk | hk
    · rcases List.mem_append.1 hk with hk | hk
      · exact HTo.out k hk
      · unfold E.tosOf at hk
        obtain ⟨_, _, rfl⟩ := List.mem_map.1 hk
        exact .inr rfl
    · unfold E.tosOf at hk
      obtain ⟨_, _, rfl⟩ := List.mem_map.1 hk
      exact .inl rfl
  have hal : Alike s t rx ry ((fs ++ E.laid s.opens) ++ E.laid t.opens) n m (c + 1) := by
    obtain ⟨a1, a2, a3, a4, a5, a6, a7, t1, t2, a8, a9, a10⟩ := HF.out
    refine ⟨a1, a2, ?_, by omega, by omega, by omega, by omega, by omega, by omega, a8, a9, a10⟩
    intro g hg
    rcases List.mem_append.1 hg with hg | hg
    · rcases List.mem_append.1 hg with hg | hg
      · exact a3 g hg
      · exact HOx.out.few g (List.mem_filter.1 hg).1
    · exact HOy.out.few g (List.mem_filter.1 hg).1
  have HFin : Hid (∀ k, DidOut w B z x y gx gy (fs.length + 200) (c + 1) (.returned (.bool true)) (w9.drewN k)) := fun k =>
    ⟨rfl, L5.below_drewN (HB5.out.trans (hb9.mono (Nat.le_trans HBw.out HB5.out.size))) k, _, _, _, _, _, _, _, _, _, _, _, _, _, _, (HA5.out.below hb9).below (L5.below_drewN (Below.refl _ _) k), hal, by rw [List.length_append, List.length_append]; have := HL12.out; omega, htos⟩
  clear r9 b9 hs2 HRy hb9 htos hal
  go_wp2_with fail
  refine HS2.out.mono ?_
  rintro e w10 ⟨rfl, k10, rfl⟩
  have HF2 := Lib.hid (HFin.out k10)
  clear HFin HS2
  go_wp2
  go_ret
  exact HF2.out
end Go.Proofs.YtiodphkmllcjdaaGreat.L7
end

section
namespace Go.Proofs.YtiodphkmllcjdaaGreat.L7
open Go.ChangeShapes Go.WideShapes Go.ChangeAt Go.RowKit L6

set_option maxHeartbeats 400000 in
theorem pick_big_calls (c : Int) (n : Nat) (h1 : -9223372036854775808 ≤ c) (h2 : c ≤ 9223372036854775807) (hn : 0 < n) (hn2 : n ≤ 100000) (w : World) :
    Calls Tryz.prog 10 #[.int .i64 c, .int .i64 n] w fun e w' => ∃ m : Nat, m < n ∧ m = (if c < 0 then -(c + 1) else c).toNat % n ∧ e = .returned (.int .i64 m) ∧ w = w' := by
  have hz : ((n : Int) == 0) = false := by simp; omega
  have hz2 : ¬ (n : Int) = 0 := by omega
  by_cases hc : c < 0
  · obtain ⟨m, hm⟩ : ∃ m : Nat, -(c + 1) = m := ⟨(-(c + 1)).toNat, by omega⟩
    rw [if_pos hc, hm]
    have k1 : (0 : Int) ≤ (m : Int) := by omega
    have k2 : (m : Int) ≤ 9223372036854775807 := by omega
    have hcc : c = -(m : Int) - 1 := by omega
    have HN := Lib.hid (Nat.mod_lt m hn)
    clear hm
    subst hcc
    go_enter Tryz.func10, Tryz.ntmps10
    go_wp2
    all_goals first | omega | (go_ret; exact ⟨m % n, HN.out, rfl, by simp, rfl⟩)
  · obtain ⟨m, rfl⟩ : ∃ m : Nat, c = m := ⟨c.toNat, by omega⟩
    rw [if_neg hc]
    have HN := Lib.hid (Nat.mod_lt m hn)
    go_enter Tryz.func10, Tryz.ntmps10
    go_wp2
    all_goals first | omega | (go_ret; exact ⟨m % n, HN.out, rfl, by simp, rfl⟩)
theorem pick_big {c : Int} {n : Nat} (hc : isInt c) (hn : 0 < n) (hn2 : n ≤ 100000) (w : World) : Calls Tryz.prog 10 #[.int .i64 c, .int .i64 n] w fun e w' => e = .returned (.int .i64 (pickN c n)) ∧ w = w' := by
  refine (pick_big_calls c n hc.1 hc.2 hn hn2 w).mono ?_
  rintro e w' ⟨m, _, hm, he, hw⟩
  exact ⟨by rw [he, hm]; rfl, hw⟩
theorem DidOut.frm {w W : World} {B z : Nat} {x y : Blk} {gx gy len len' c : Nat} {e : Ending} {w' : World} (h : DidOut W B z x y gx gy len c e w') (hb : Below B w W) (hl : len ≤ len') : DidOut w B z x y gx gy len' c e w' := by
  obtain ⟨h1, h2, n, m, s, t, rx, ry, vox, vwx, voy, vwy, tos, fs, vt, vl, k1, k2, k3, k4⟩ := h
  exact ⟨h1, hb.trans h2, n, m, s, t, rx, ry, vox, vwx, voy, vwy, tos, fs, vt, vl, k1, k2, Nat.le_trans k3 hl, k4⟩
theorem Alike.more {s t : St} {rx ry : RSt} {fs fs' : List Bytes} {n m c : Nat} (h : Alike s t rx ry fs n m c) (hf : ∀ f ∈ fs', f ∈ fs) : Alike s t rx ry fs' n m (c + 1) := by
  obtain ⟨a1, a2, a3, a4, a5, a6, a7, t1, t2, a8, a9, a10⟩ := h
  exact ⟨a1, a2, fun f hf' => a3 f (hf f hf'), by omega, by omega, by omega, by omega, by omega, by omega, a8, a9, a10⟩
theorem Alike.down {s t : St} {rx ry : RSt} {fs fs' : List Bytes} {n m c : Nat} (h : Alike s t rx ry fs n m c) (hf : ∀ f ∈ fs', f ∈ fs) : Alike s t rx ry fs' n m c := by
  obtain ⟨a1, a2, a3, a4, a5, a6, a7, t1, t2, a8, a9, a10⟩ := h
  exact ⟨a1, a2, fun f hf' => a3 f (hf f hf'), a4, a5, a6, a7, t1, t2, a8, a9, a10⟩
set_option maxRecDepth 100000 in
set_option maxHeartbeats 8000000 in
theorem does_text {w : World} {B z : Nat} {x y : Blk} {gx gy n m : Nat} {s t : St} {rx ry : RSt} {vox vwx voy vwy : Value} {tos : List Nat} {fs : List Bytes} {vt vl : Value} {c : Nat} (h : BothAt w B z x y gx gy n m s t rx ry vox vwx voy vwy tos fs vt vl) (hf : Alike s t rx ry fs n m c) (ht : ∀ k ∈ tos, k = 1 ∨ k = 2) (hc : c ≤ 399) (hfl : fs.length ≤ 90000) (op nn : Int) (txt : Bytes) (hop : isInt op) (hnn : isInt nn) (htx : txt.length ≤ 20000) (hk : pickN op 13 = 12) :
    Calls Tryz.prog 7 #[.pointer (some ⟨z, 0, none⟩), .agg #[.int .i64 op, .int .i64 nn, .string ⟨txt.toArray⟩]] w (DidOut w B z x y gx gy (fs.length + 200) (c + 1)) := by
  obtain ⟨Al, cl, hvl⟩ := L5.own_slice h.net.l
  subst hvl
  obtain ⟨At, ct, hvt⟩ := L5.own_slice h.net.to
  subst hvt
  have hbx : (w.alloc (.cells #[.int .i64 op, .int .i64 nn, .string ⟨txt.toArray⟩] 28)).heap[w.heap.size]? = some (.cells #[.int .i64 op, .int .i64 nn, .string ⟨txt.toArray⟩] 28 (0, 0)) := World.alloc_heap_new w _
  have hB0 : Below w.heap.size w (w.alloc (.cells #[.int .i64 op, .int .i64 nn, .string ⟨txt.toArray⟩] 28)) := (Below.refl _ w).alloc (Nat.le_refl _) _
  have hs0 : (w.alloc (.cells #[.int .i64 op, .int .i64 nn, .string ⟨txt.toArray⟩] 28)).heap.size = w.heap.size + 1 := by simp
  obtain ⟨W0, hW0⟩ : ∃ W0, w.alloc (.cells #[.int .i64 op, .int .i64 nn, .string ⟨txt.toArray⟩] 28) = W0 := ⟨_, rfl⟩
  rw [hW0] at hbx hB0 hs0
  have h0 := h.below hB0
  have y0 : W0.cell? ⟨w.heap.size, 0, none⟩ = some (.int .i64 op) := by simp only [World.cell?]; rw [hbx]; rfl
  have y1 : W0.cell? ⟨w.heap.size, 1, none⟩ = some (.int .i64 nn) := by simp only [World.cell?]; rw [hbx]; rfl
  have y2 : W0.cell? ⟨w.heap.size, 2, none⟩ = some (.string ⟨txt.toArray⟩) := by simp only [World.cell?]; rw [hbx]; rfl
  obtain ⟨z0, z1, z2, z3, z4, z5⟩ := h0.cells
  unfold ptrAt at z0 z1 z2 z3
  have HP := Lib.hid (pick_is hop (n := 13) (by decide) (by decide) W0)
  have H0 := Lib.hid h0
  have HF := Lib.hid hf
  have HTo := Lib.hid ht
  have HB0 := Lib.hid hB0
  have HBw := Lib.hid h.base
  have HHi := Lib.hid h.highs
  have HLo := Lib.hid h.lows
  have HS0 := Lib.hid hs0
  clear h hf ht hbx hB0 hs0 h0
  go_enter Tryz.func7, Tryz.ntmps7
  go_wp2_with fail
  refine HP.out.mono ?_
  rintro e w1 ⟨rfl, rfl⟩
  rw [hk]
  have HPk := Lib.hid (pick_is hnn (n := 2) (by decide) (by decide) W0.drew)
  have hbd : Below W0.heap.size W0 W0.drew := (Below.refl _ _).drew
  have hD := H0.out.below hbd
  have HB := Lib.hid ((HB0.out.mono HBw.out).trans (hbd.mono (Nat.le_trans HBw.out HB0.out.size)))
  have hk2 : pickN nn 2 < 2 := pickN_lt nn (by decide)
  obtain ⟨k2, hk2e⟩ : ∃ k2, pickN nn 2 = k2 := ⟨_, rfl⟩
  rw [hk2e] at hk2 HPk
  clear hk2e
  rcases (show k2 = 0 ∨ k2 = 1 by omega) with rfl | rfl
  · have HC := Lib.hid (come_one hD HF.out HTo.out (by omega) (by omega) txt htx)
    clear hD hbd
    go_wp2
    go_region_law (first
      | (go_simp; go_at_call 10; refine HPk.out.mono ?_; rintro e w2 ⟨rfl, rfl⟩)
      | (go_simp; go_at_call 24; refine HC.out.mono ?_; rintro e w3 hdid; have HD3 := Lib.hid (hdid.frm HB.out (show fs.length + 1 ≤ fs.length + 200 by omega)); obtain rfl := hdid.1; clear hdid))
    all_goals
      go_wp2
      go_ret
      exact HD3.out
  · have HC := Lib.hid (come_two hD HF.out HTo.out (by omega) (by omega) txt htx)
    clear hD hbd
    go_wp2
    go_region_law (first
      | (go_simp; go_at_call 10; refine HPk.out.mono ?_; rintro e w2 ⟨rfl, rfl⟩)
      | (go_simp; go_at_call 24; refine HC.out.mono ?_; rintro e w3 hdid; have HD3 := Lib.hid (hdid.frm HB.out (show fs.length + 1 ≤ fs.length + 200 by omega)); obtain rfl := hdid.1; clear hdid))
    all_goals
      go_wp2
      go_ret
      exact HD3.out
set_option maxRecDepth 100000 in
set_option maxHeartbeats 8000000 in
theorem does_none {w : World} {B z : Nat} {x y : Blk} {gx gy n m : Nat} {s t : St} {rx ry : RSt} {vox vwx voy vwy : Value} {tos : List Nat} {fs : List Bytes} {vt vl : Value} {c : Nat} (h : BothAt w B z x y gx gy n m s t rx ry vox vwx voy vwy tos fs vt vl) (hf : Alike s t rx ry fs n m c) (ht : ∀ k ∈ tos, k = 1 ∨ k = 2) (_hc : c ≤ 399) (_hfl : fs.length ≤ 90000) (op nn : Int) (txt : Bytes) (hop : isInt op) (_hnn : isInt nn) (k : Nat) (hk : pickN op 13 = k) (hk4 : 4 ≤ k ∧ k ≤ 10) (hno : fs.length = 0) :
    Calls Tryz.prog 7 #[.pointer (some ⟨z, 0, none⟩), .agg #[.int .i64 op, .int .i64 nn, .string ⟨txt.toArray⟩]] w (DidOut w B z x y gx gy (fs.length + 200) (c + 1)) := by
  obtain ⟨Al, cl, hvl⟩ := L5.own_slice h.net.l
  subst hvl
  obtain ⟨At, ct, hvt⟩ := L5.own_slice h.net.to
  subst hvt
  have hbx : (w.alloc (.cells #[.int .i64 op, .int .i64 nn, .string ⟨txt.toArray⟩] 28)).heap[w.heap.size]? = some (.cells #[.int .i64 op, .int .i64 nn, .string ⟨txt.toArray⟩] 28 (0, 0)) := World.alloc_heap_new w _
  have hB0 : Below w.heap.size w (w.alloc (.cells #[.int .i64 op, .int .i64 nn, .string ⟨txt.toArray⟩] 28)) := (Below.refl _ w).alloc (Nat.le_refl _) _
  have hs0 : (w.alloc (.cells #[.int .i64 op, .int .i64 nn, .string ⟨txt.toArray⟩] 28)).heap.size = w.heap.size + 1 := by simp
  obtain ⟨W0, hW0⟩ : ∃ W0, w.alloc (.cells #[.int .i64 op, .int .i64 nn, .string ⟨txt.toArray⟩] 28) = W0 := ⟨_, rfl⟩
  rw [hW0] at hbx hB0 hs0
  have h0 := h.below hB0
  have y0 : W0.cell? ⟨w.heap.size, 0, none⟩ = some (.int .i64 op) := by simp only [World.cell?]; rw [hbx]; rfl
  have y1 : W0.cell? ⟨w.heap.size, 1, none⟩ = some (.int .i64 nn) := by simp only [World.cell?]; rw [hbx]; rfl
  have y2 : W0.cell? ⟨w.heap.size, 2, none⟩ = some (.string ⟨txt.toArray⟩) := by simp only [World.cell?]; rw [hbx]; rfl
  obtain ⟨z0, z1, z2, z3, z4, z5⟩ := h0.cells
  unfold ptrAt at z0 z1 z2 z3
  have HP := Lib.hid (pick_is hop (n := 13) (by decide) (by decide) W0)
  have H0 := Lib.hid h0
  have HF := Lib.hid hf
  have HTo := Lib.hid ht
  have HB0 := Lib.hid hB0
  have HBw := Lib.hid h.base
  have HHi := Lib.hid h.highs
  have HLo := Lib.hid h.lows
  have HS0 := Lib.hid hs0
  clear h hf ht hbx hB0 hs0 h0
  go_enter Tryz.func7, Tryz.ntmps7
  go_wp2_with fail
  refine HP.out.mono ?_
  rintro e w1 ⟨rfl, rfl⟩
  rw [hk]
  obtain ⟨g0, g1, g2, g3, g11, g12⟩ : ((k : Int) == 0) = false ∧ ((k : Int) == 1) = false ∧ ((k : Int) == 2) = false ∧ ((k : Int) == 3) = false ∧ ((k : Int) == 11) = false ∧ ((k : Int) == 12) = false := by
    refine ⟨?_, ?_, ?_, ?_, ?_, ?_⟩ <;> (rw [beq_eq_false_iff_ne]; omega)
  have hl0 : ((fs.length : Int) == 0) = true := by rw [beq_iff_eq]; omega
  have HFin : Hid (DidOut w B z x y gx gy (fs.length + 200) (c + 1) (.returned (.bool true)) W0) :=
    ⟨rfl, HB0.out.mono HBw.out, _, _, _, _, _, _, _, _, _, _, _, _, _, _, H0.out, HF.out.more (fun _ h => h), by omega, HTo.out⟩
  clear hk4 hno
  go_wp2
  go_ret
  exact HFin.out
end Go.Proofs.YtiodphkmllcjdaaGreat.L7
end

section
namespace Go.Proofs.YtiodphkmllcjdaaGreat.L7
open Go.ChangeShapes Go.WideShapes Go.ChangeAt Go.RowKit L6

set_option maxRecDepth 100000 in
set_option maxHeartbeats 8000000 in
theorem does_double {w : World} {B z : Nat} {x y : Blk} {gx gy n m : Nat} {s t : St} {rx ry : RSt} {vox vwx voy vwy : Value} {tos : List Nat} {fs : List Bytes} {vt vl : Value} {c : Nat} (h : BothAt w B z x y gx gy n m s t rx ry vox vwx voy vwy tos fs vt vl) (hf : Alike s t rx ry fs n m c) (ht : ∀ k ∈ tos, k = 1 ∨ k = 2) (_hc : c ≤ 399) (hfl : fs.length ≤ 90000) (op nn : Int) (txt : Bytes) (hop : isInt op) (hnn : isInt nn) (hno : 0 < fs.length) (hk : pickN op 13 = 10) :
    Calls Tryz.prog 7 #[.pointer (some ⟨z, 0, none⟩), .agg #[.int .i64 op, .int .i64 nn, .string ⟨txt.toArray⟩]] w (DidOut w B z x y gx gy (fs.length + 200) (c + 1)) := by
  obtain ⟨Al, cl, hvl⟩ := L5.own_slice h.net.l
  subst hvl
  obtain ⟨At, ct, hvt⟩ := L5.own_slice h.net.to
  subst hvt
  have hbx : (w.alloc (.cells #[.int .i64 op, .int .i64 nn, .string ⟨txt.toArray⟩] 28)).heap[w.heap.size]? = some (.cells #[.int .i64 op, .int .i64 nn, .string ⟨txt.toArray⟩] 28 (0, 0)) := World.alloc_heap_new w _
  have hB0 : Below w.heap.size w (w.alloc (.cells #[.int .i64 op, .int .i64 nn, .string ⟨txt.toArray⟩] 28)) := (Below.refl _ w).alloc (Nat.le_refl _) _
  have hs0 : (w.alloc (.cells #[.int .i64 op, .int .i64 nn, .string ⟨txt.toArray⟩] 28)).heap.size = w.heap.size + 1 := by simp
  obtain ⟨W0, hW0⟩ : ∃ W0, w.alloc (.cells #[.int .i64 op, .int .i64 nn, .string ⟨txt.toArray⟩] 28) = W0 := ⟨_, rfl⟩
  rw [hW0] at hbx hB0 hs0
  have h0 := h.below hB0
  have y0 : W0.cell? ⟨w.heap.size, 0, none⟩ = some (.int .i64 op) := by simp only [World.cell?]; rw [hbx]; rfl
  have y1 : W0.cell? ⟨w.heap.size, 1, none⟩ = some (.int .i64 nn) := by simp only [World.cell?]; rw [hbx]; rfl
  have y2 : W0.cell? ⟨w.heap.size, 2, none⟩ = some (.string ⟨txt.toArray⟩) := by simp only [World.cell?]; rw [hbx]; rfl
  obtain ⟨z0, z1, z2, z3, z4, z5⟩ := h0.cells
  unfold ptrAt at z0 z1 z2 z3
  have HP := Lib.hid (pick_is hop (n := 13) (by decide) (by decide) W0)
  have H0 := Lib.hid h0
  have HF := Lib.hid hf
  have HTo := Lib.hid ht
  have HB0 := Lib.hid hB0
  have HBw := Lib.hid h.base
  have HHi := Lib.hid h.highs
  have HLo := Lib.hid h.lows
  have HS0 := Lib.hid hs0
  clear h hf ht hbx hB0 hs0 h0
  go_enter Tryz.func7, Tryz.ntmps7
  go_wp2_with fail
  refine HP.out.mono ?_
  rintro e w1 ⟨rfl, rfl⟩
  rw [hk]
  have hl0 : ((fs.length : Int) == 0) = false := by rw [beq_eq_false_iff_ne]; omega
  have hl0' : ¬ (fs.length : Int) = 0 := by omega
  obtain ⟨i, hi⟩ : ∃ i, pickN nn fs.length = i := ⟨_, rfl⟩
  have hil : i < fs.length := by rw [← hi]; exact pickN_lt nn hno
  have HP2 := pick_big hnn hno (by omega) W0
  rw [hi] at HP2
  have HP2 := Lib.hid HP2
  have HPk := HP.out
  rw [hk] at HPk
  have HPk := Lib.hid HPk
  obtain ⟨f, hfi⟩ : ∃ f, fs[i]? = some f := ⟨_, List.getElem?_eq_getElem hil⟩
  have hlen := H0.out.net.len
  obtain ⟨dd, hti⟩ : ∃ dd, tos[i]? = some dd := ⟨_, List.getElem?_eq_getElem (by omega)⟩
  have HMf := Lib.hid (List.mem_of_getElem? hfi)
  have HMt := Lib.hid (HTo.out dd (List.mem_of_getElem? hti))
  obtain ⟨gl, cl', hvl, _⟩ := row_shape H0.out.net.l (by omega)
  obtain ⟨gt, ct', hvt, _⟩ := row_shape H0.out.net.to (by omega)
  have q5 := H0.out.net.l.cells (g := gl) (by rw [hvl]; rfl) i (.string ⟨f.toArray⟩) (by simp [strs, hfi])
  have q4 := H0.out.net.to.cells (g := gt) (by rw [hvt]; rfl) i (.int .i64 dd) (by simp [E.nums, hti])
  rw [add_zero_at] at q5 q4
  rw [hvl] at z5
  rw [hvt] at z4
  have i0 : (0 : Int) ≤ (i : Int) := by omega
  have i1 : (i : Int) < (fs.length : Int) := by omega
  have i2 : (i : Int) < (tos.length : Int) := by omega
  have HIl := Lib.hid (And.intro hil hlen)
  clear hi hfi hti hlen hvl hvt hil
  go_wp2_with fail
  refine HP2.out.mono ?_
  rintro e w2 ⟨rfl, rfl⟩
  go_wp2_with fail
  refine HPk.out.mono ?_
  rintro e w2 ⟨rfl, rfl⟩
  have hbA : Below W0.heap.size W0 (W0.alloc (.cells #[.string ⟨f.toArray⟩] 46)) := (Below.refl _ W0).alloc (Nat.le_refl _) _
  have hA := H0.out.below hbA
  have HAdd := Lib.hid (E.add_calls hA.net hA.base dd [f] (srow_one (World.alloc_heap_new W0 (.cells #[.string ⟨f.toArray⟩] 46))) (fun ad e e' => by
    cases e
    have := (H0.out.net.inlt e').2
    exact Nat.lt_irrefl _ this) (by simp; omega))
  have HA := Lib.hid (And.intro hA hbA)
  clear hA hbA
  go_wp2_with fail
  refine HAdd.out.mono ?_
  rintro e w6 ⟨rfl, vt', vl', hn6, o6, hf6⟩
  have h6 := HA.out.1.nets hn6 o6 hf6
  have hB6 : Below B w w6 := by
    have b0 : Below B w W0 := HB0.out.mono HBw.out
    exact Only.below (b0.trans (HA.out.2.mono (Nat.le_trans HBw.out b0.size))) o6 HA.out.1.base HLo.out.1
  have hfs6 : (fs ++ E.laid [f]).length ≤ fs.length + 200 := by
    rw [List.length_append]
    have : (E.laid [f]).length ≤ 1 := by unfold E.laid; exact Nat.le_trans (List.length_filter_le _ _) (by simp)
    omega
  have htos : ∀ k ∈ tos ++ E.tosOf dd [f], k = 1 ∨ k = 2 := by
    intro k hk
    rcases List.mem_append.1 hk with hk | hk
    · exact HTo.out k hk
    · unfold E.tosOf at hk
      obtain ⟨_, _, rfl⟩ := List.mem_map.1 hk
      exact HMt.out
  have hal : Alike s t rx ry (fs ++ E.laid [f]) n m (c + 1) := HF.out.more (fun g hg => by
    rcases List.mem_append.1 hg with hg | hg
    · exact hg
    · have hm : g ∈ [f] := (List.mem_filter.1 hg).1
      rw [List.mem_singleton] at hm
      rw [hm]
      exact HMf.out)
  have HFin : Hid (DidOut w B z x y gx gy (fs.length + 200) (c + 1) (.returned (.bool true)) w6) :=
    ⟨rfl, hB6, _, _, _, _, _, _, _, _, _, _, _, _, _, _, h6, hal, hfs6, htos⟩
  clear h6 hB6 hfs6 htos hal hn6 o6 hf6 HA HAdd
  go_wp2
  go_ret
  exact HFin.out
set_option maxRecDepth 100000 in
set_option maxHeartbeats 8000000 in
theorem does_lose {w : World} {B z : Nat} {x y : Blk} {gx gy n m : Nat} {s t : St} {rx ry : RSt} {vox vwx voy vwy : Value} {tos : List Nat} {fs : List Bytes} {vt vl : Value} {c : Nat} (h : BothAt w B z x y gx gy n m s t rx ry vox vwx voy vwy tos fs vt vl) (hf : Alike s t rx ry fs n m c) (ht : ∀ k ∈ tos, k = 1 ∨ k = 2) (_hc : c ≤ 399) (hfl : fs.length ≤ 90000) (op nn : Int) (txt : Bytes) (hop : isInt op) (hnn : isInt nn) (hno : 0 < fs.length) (hk : pickN op 13 = 9) :
    Calls Tryz.prog 7 #[.pointer (some ⟨z, 0, none⟩), .agg #[.int .i64 op, .int .i64 nn, .string ⟨txt.toArray⟩]] w (DidOut w B z x y gx gy (fs.length + 200) (c + 1)) := by
  obtain ⟨Al, cl, hvl⟩ := L5.own_slice h.net.l
  subst hvl
  obtain ⟨At, ct, hvt⟩ := L5.own_slice h.net.to
  subst hvt
  have hbx : (w.alloc (.cells #[.int .i64 op, .int .i64 nn, .string ⟨txt.toArray⟩] 28)).heap[w.heap.size]? = some (.cells #[.int .i64 op, .int .i64 nn, .string ⟨txt.toArray⟩] 28 (0, 0)) := World.alloc_heap_new w _
  have hB0 : Below w.heap.size w (w.alloc (.cells #[.int .i64 op, .int .i64 nn, .string ⟨txt.toArray⟩] 28)) := (Below.refl _ w).alloc (Nat.le_refl _) _
  have hs0 : (w.alloc (.cells #[.int .i64 op, .int .i64 nn, .string ⟨txt.toArray⟩] 28)).heap.size = w.heap.size + 1 := by simp
  obtain ⟨W0, hW0⟩ : ∃ W0, w.alloc (.cells #[.int .i64 op, .int .i64 nn, .string ⟨txt.toArray⟩] 28) = W0 := ⟨_, rfl⟩
  rw [hW0] at hbx hB0 hs0
  have h0 := h.below hB0
  have y0 : W0.cell? ⟨w.heap.size, 0, none⟩ = some (.int .i64 op) := by simp only [World.cell?]; rw [hbx]; rfl
  have y1 : W0.cell? ⟨w.heap.size, 1, none⟩ = some (.int .i64 nn) := by simp only [World.cell?]; rw [hbx]; rfl
  have y2 : W0.cell? ⟨w.heap.size, 2, none⟩ = some (.string ⟨txt.toArray⟩) := by simp only [World.cell?]; rw [hbx]; rfl
  obtain ⟨z0, z1, z2, z3, z4, z5⟩ := h0.cells
  unfold ptrAt at z0 z1 z2 z3
  have HP := Lib.hid (pick_is hop (n := 13) (by decide) (by decide) W0)
  have H0 := Lib.hid h0
  have HF := Lib.hid hf
  have HTo := Lib.hid ht
  have HB0 := Lib.hid hB0
  have HBw := Lib.hid h.base
  have HHi := Lib.hid h.highs
  have HLo := Lib.hid h.lows
  have HS0 := Lib.hid hs0
  clear h hf ht hbx hB0 hs0 h0
  go_enter Tryz.func7, Tryz.ntmps7
  go_wp2_with fail
  refine HP.out.mono ?_
  rintro e w1 ⟨rfl, rfl⟩
  rw [hk]
  have hl0 : ((fs.length : Int) == 0) = false := by rw [beq_eq_false_iff_ne]; omega
  have hl0' : ¬ (fs.length : Int) = 0 := by omega
  obtain ⟨i, hi⟩ : ∃ i, pickN nn fs.length = i := ⟨_, rfl⟩
  have hil : i < fs.length := by rw [← hi]; exact pickN_lt nn hno
  have HP2 := pick_big hnn hno (by omega) W0
  rw [hi] at HP2
  have HP2 := Lib.hid HP2
  have HPk := HP.out
  rw [hk] at HPk
  have HPk := Lib.hid HPk
  obtain ⟨f, hfi⟩ : ∃ f, fs[i]? = some f := ⟨_, List.getElem?_eq_getElem hil⟩
  have hlen := H0.out.net.len
  obtain ⟨dd, hti⟩ : ∃ dd, tos[i]? = some dd := ⟨_, List.getElem?_eq_getElem (by omega)⟩
  have HMf := Lib.hid (List.mem_of_getElem? hfi)
  have HMt := Lib.hid (HTo.out dd (List.mem_of_getElem? hti))
  obtain ⟨gl, cl', hvl, _⟩ := row_shape H0.out.net.l (by omega)
  obtain ⟨gt, ct', hvt, _⟩ := row_shape H0.out.net.to (by omega)
  have q5 := H0.out.net.l.cells (g := gl) (by rw [hvl]; rfl) i (.string ⟨f.toArray⟩) (by simp [strs, hfi])
  have q4 := H0.out.net.to.cells (g := gt) (by rw [hvt]; rfl) i (.int .i64 dd) (by simp [E.nums, hti])
  rw [add_zero_at] at q5 q4
  rw [hvl] at z5
  rw [hvt] at z4
  have i0 : (0 : Int) ≤ (i : Int) := by omega
  have i1 : (i : Int) < (fs.length : Int) := by omega
  have i2 : (i : Int) < (tos.length : Int) := by omega
  have HIl := Lib.hid (And.intro hil hlen)
  clear hi hfi hti hlen hvl hvt hil
  go_wp2_with fail
  refine HP2.out.mono ?_
  rintro e w2 ⟨rfl, rfl⟩
  go_wp2_with fail
  refine HPk.out.mono ?_
  rintro e w2 ⟨rfl, rfl⟩
  have HOut := Lib.hid (E.out_calls H0.out.net H0.out.base (i := i) HIl.out.1 (by omega))
  go_wp2_with fail
  refine HOut.out.mono ?_
  rintro e w6 ⟨rfl, vt', vl', hn6, o6, hf6⟩
  have H6 := Lib.hid (H0.out.nets hn6 o6 hf6)
  have hB6 : Below B w w6 := Only.below (HB0.out.mono HBw.out) o6 H0.out.base HLo.out.1
  have HB6 := Lib.hid hB6
  have htos : ∀ k ∈ tos.take i ++ tos.drop (i + 1), k = 1 ∨ k = 2 := fun k hk => by
    rcases List.mem_append.1 hk with hk | hk
    · exact HTo.out k (List.mem_of_mem_take hk)
    · exact HTo.out k (List.mem_of_mem_drop hk)
  have hsub : ∀ g ∈ fs.take i ++ fs.drop (i + 1), g ∈ fs := fun g hg => by
    rcases List.mem_append.1 hg with hg | hg
    · exact List.mem_of_mem_take hg
    · exact List.mem_of_mem_drop hg
  have hlen6 : (fs.take i ++ fs.drop (i + 1)).length ≤ fs.length := by rw [List.length_append, List.length_take, List.length_drop]; omega
  have HPk6 := pick_is hop (n := 13) (by decide) (by decide) w6
  rw [hk] at HPk6
  have HPk6 := Lib.hid HPk6
  have y0' : w6.cell? ⟨w.heap.size, 0, none⟩ = some (.int .i64 op) := (World.cell?_of_block (w := W0) (o6.block w.heap.size (by have := HS0.out; omega) (fun e => absurd (HHi.out.1 _ e) (Nat.lt_irrefl _)))).trans y0
  have HFin : Hid (DidOut w B z x y gx gy (fs.length + 200) (c + 1) (.returned (.bool true)) w6) :=
    ⟨rfl, HB6.out, _, _, _, _, _, _, _, _, _, _, _, _, _, _, H6.out, HF.out.more hsub, by omega, htos⟩
  clear htos hsub hlen6 hn6 o6 hf6 hB6 HOut
  go_wp2_with fail
  refine HPk6.out.mono ?_
  rintro e w7 ⟨rfl, rfl⟩
  go_wp2
  go_ret
  exact HFin.out
end Go.Proofs.YtiodphkmllcjdaaGreat.L7
end

section
namespace Go.Proofs.YtiodphkmllcjdaaGreat.L7
open Go.ChangeShapes Go.WideShapes Go.ChangeAt Go.RowKit L6

set_option maxRecDepth 100000 in
set_option maxHeartbeats 8000000 in
theorem does_comes {w : World} {B z : Nat} {x y : Blk} {gx gy n m : Nat} {s t : St} {rx ry : RSt} {vox vwx voy vwy : Value} {tos : List Nat} {fs : List Bytes} {vt vl : Value} {c : Nat} (h : BothAt w B z x y gx gy n m s t rx ry vox vwx voy vwy tos fs vt vl) (hf : Alike s t rx ry fs n m c) (ht : ∀ k ∈ tos, k = 1 ∨ k = 2) (hc : c ≤ 399) (hfl : fs.length ≤ 90000) (op nn : Int) (txt : Bytes) (hop : isInt op) (hnn : isInt nn) (hno : 0 < fs.length) (k : Nat) (hk : pickN op 13 = k) (hk4 : 4 ≤ k ∧ k ≤ 8) :
    Calls Tryz.prog 7 #[.pointer (some ⟨z, 0, none⟩), .agg #[.int .i64 op, .int .i64 nn, .string ⟨txt.toArray⟩]] w (DidOut w B z x y gx gy (fs.length + 200) (c + 1)) := by
  obtain ⟨Al, cl, hvl⟩ := L5.own_slice h.net.l
  subst hvl
  obtain ⟨At, ct, hvt⟩ := L5.own_slice h.net.to
  subst hvt
  have hbx : (w.alloc (.cells #[.int .i64 op, .int .i64 nn, .string ⟨txt.toArray⟩] 28)).heap[w.heap.size]? = some (.cells #[.int .i64 op, .int .i64 nn, .string ⟨txt.toArray⟩] 28 (0, 0)) := World.alloc_heap_new w _
  have hB0 : Below w.heap.size w (w.alloc (.cells #[.int .i64 op, .int .i64 nn, .string ⟨txt.toArray⟩] 28)) := (Below.refl _ w).alloc (Nat.le_refl _) _
  have hs0 : (w.alloc (.cells #[.int .i64 op, .int .i64 nn, .string ⟨txt.toArray⟩] 28)).heap.size = w.heap.size + 1 := by simp
  obtain ⟨W0, hW0⟩ : ∃ W0, w.alloc (.cells #[.int .i64 op, .int .i64 nn, .string ⟨txt.toArray⟩] 28) = W0 := ⟨_, rfl⟩
  rw [hW0] at hbx hB0 hs0
  have h0 := h.below hB0
  have y0 : W0.cell? ⟨w.heap.size, 0, none⟩ = some (.int .i64 op) := by simp only [World.cell?]; rw [hbx]; rfl
  have y1 : W0.cell? ⟨w.heap.size, 1, none⟩ = some (.int .i64 nn) := by simp only [World.cell?]; rw [hbx]; rfl
  have y2 : W0.cell? ⟨w.heap.size, 2, none⟩ = some (.string ⟨txt.toArray⟩) := by simp only [World.cell?]; rw [hbx]; rfl
  obtain ⟨z0, z1, z2, z3, z4, z5⟩ := h0.cells
  unfold ptrAt at z0 z1 z2 z3
  have HP := Lib.hid (pick_is hop (n := 13) (by decide) (by decide) W0)
  have H0 := Lib.hid h0
  have HF := Lib.hid hf
  have HTo := Lib.hid ht
  have HB0 := Lib.hid hB0
  have HBw := Lib.hid h.base
  have HHi := Lib.hid h.highs
  have HLo := Lib.hid h.lows
  have HS0 := Lib.hid hs0
  clear h hf ht hbx hB0 hs0 h0
  go_enter Tryz.func7, Tryz.ntmps7
  go_wp2_with fail
  refine HP.out.mono ?_
  rintro e w1 ⟨rfl, rfl⟩
  rw [hk]
  obtain ⟨g0, g1, g2, g3, g11, g12, g10, g9⟩ : ((k : Int) == 0) = false ∧ ((k : Int) == 1) = false ∧ ((k : Int) == 2) = false ∧ ((k : Int) == 3) = false ∧ ((k : Int) == 11) = false ∧ ((k : Int) == 12) = false ∧ ((k : Int) == 10) = false ∧ ((k : Int) == 9) = false := by
    refine ⟨?_, ?_, ?_, ?_, ?_, ?_, ?_, ?_⟩ <;> (rw [beq_eq_false_iff_ne]; omega)
  have hl0 : ((fs.length : Int) == 0) = false := by rw [beq_eq_false_iff_ne]; omega
  have hl0' : ¬ (fs.length : Int) = 0 := by omega
  obtain ⟨i, hi⟩ : ∃ i, pickN nn fs.length = i := ⟨_, rfl⟩
  have hil : i < fs.length := by rw [← hi]; exact pickN_lt nn hno
  have HP2 := pick_big hnn hno (by omega) W0
  rw [hi] at HP2
  have HP2 := Lib.hid HP2
  have HPk := HP.out
  rw [hk] at HPk
  have HPk := Lib.hid HPk
  obtain ⟨f, hfi⟩ : ∃ f, fs[i]? = some f := ⟨_, List.getElem?_eq_getElem hil⟩
  have hlen := H0.out.net.len
  obtain ⟨dd, hti⟩ : ∃ dd, tos[i]? = some dd := ⟨_, List.getElem?_eq_getElem (by omega)⟩
  have HMf := Lib.hid (List.mem_of_getElem? hfi)
  have HMt := Lib.hid (HTo.out dd (List.mem_of_getElem? hti))
  obtain ⟨gl, cl', hvl, _⟩ := row_shape H0.out.net.l (by omega)
  obtain ⟨gt, ct', hvt, _⟩ := row_shape H0.out.net.to (by omega)
  have q5 := H0.out.net.l.cells (g := gl) (by rw [hvl]; rfl) i (.string ⟨f.toArray⟩) (by simp [strs, hfi])
  have q4 := H0.out.net.to.cells (g := gt) (by rw [hvt]; rfl) i (.int .i64 dd) (by simp [E.nums, hti])
  rw [add_zero_at] at q5 q4
  rw [hvl] at z5
  rw [hvt] at z4
  have i0 : (0 : Int) ≤ (i : Int) := by omega
  have i1 : (i : Int) < (fs.length : Int) := by omega
  have i2 : (i : Int) < (tos.length : Int) := by omega
  have HIl := Lib.hid (And.intro hil hlen)
  clear hi hfi hti hlen hvl hvt hil
  go_wp2_with fail
  refine HP2.out.mono ?_
  rintro e w2 ⟨rfl, rfl⟩
  go_wp2_with fail
  refine HPk.out.mono ?_
  rintro e w2 ⟨rfl, rfl⟩
  have HOut := Lib.hid (E.out_calls H0.out.net H0.out.base (i := i) HIl.out.1 (by omega))
  go_wp2_with fail
  refine HOut.out.mono ?_
  rintro e w6 ⟨rfl, vt', vl', hn6, o6, hf6⟩
  have H6 := Lib.hid (H0.out.nets hn6 o6 hf6)
  have hB6 : Below B w w6 := Only.below (HB0.out.mono HBw.out) o6 H0.out.base HLo.out.1
  have HB6 := Lib.hid hB6
  have htos : ∀ k ∈ tos.take i ++ tos.drop (i + 1), k = 1 ∨ k = 2 := fun k hk => by
    rcases List.mem_append.1 hk with hk | hk
    · exact HTo.out k (List.mem_of_mem_take hk)
    · exact HTo.out k (List.mem_of_mem_drop hk)
  have hsub : ∀ g ∈ fs.take i ++ fs.drop (i + 1), g ∈ fs := fun g hg => by
    rcases List.mem_append.1 hg with hg | hg
    · exact List.mem_of_mem_take hg
    · exact List.mem_of_mem_drop hg
  have hlen6 : (fs.take i ++ fs.drop (i + 1)).length ≤ fs.length := by rw [List.length_append, List.length_take, List.length_drop]; omega
  have HPk6 := pick_is hop (n := 13) (by decide) (by decide) w6
  rw [hk] at HPk6
  have HPk6 := Lib.hid HPk6
  have y0' : w6.cell? ⟨w.heap.size, 0, none⟩ = some (.int .i64 op) := (World.cell?_of_block (w := W0) (o6.block w.heap.size (by have := HS0.out; omega) (fun e => absurd (HHi.out.1 _ e) (Nat.lt_irrefl _)))).trans y0
  have hfl' := HF.out.few f HMf.out
  rcases HMt.out with rfl | rfl
  · have HC := Lib.hid (come_one H6.out (HF.out.down hsub) htos (by omega) (by omega) f hfl')
    have hl6 : (fs.take i ++ fs.drop (i + 1)).length + 1 ≤ fs.length + 200 := by omega
    have HL6 := Lib.hid hl6
    clear htos hsub hlen6 hn6 o6 hf6 hB6 HOut hfl' hl6
    go_wp2_with fail
    refine HPk6.out.mono ?_
    rintro e w7 ⟨rfl, rfl⟩
    go_wp2_with fail
    refine HC.out.mono ?_
    rintro e w8 hdid
    have HD3 := Lib.hid (hdid.frm HB6.out HL6.out)
    obtain rfl := hdid.1
    clear hdid
    go_wp2
    go_ret
    exact HD3.out
  · have HC := Lib.hid (come_two H6.out (HF.out.down hsub) htos (by omega) (by omega) f hfl')
    have hl6 : (fs.take i ++ fs.drop (i + 1)).length + 1 ≤ fs.length + 200 := by omega
    have HL6 := Lib.hid hl6
    clear htos hsub hlen6 hn6 o6 hf6 hB6 HOut hfl' hl6
    go_wp2_with fail
    refine HPk6.out.mono ?_
    rintro e w7 ⟨rfl, rfl⟩
    go_wp2_with fail
    refine HC.out.mono ?_
    rintro e w8 hdid
    have HD3 := Lib.hid (hdid.frm HB6.out HL6.out)
    obtain rfl := hdid.1
    clear hdid
    go_wp2
    go_ret
    exact HD3.out
end Go.Proofs.YtiodphkmllcjdaaGreat.L7
end

section
namespace Go.Proofs.YtiodphkmllcjdaaGreat.L7
open Go.ChangeShapes Go.WideShapes Go.ChangeAt Go.RowKit L6

/-- Any act: the texts that come from outside are short. -/
theorem does_all {w : World} {B z : Nat} {x y : Blk} {gx gy n m : Nat} {s t : St} {rx ry : RSt} {vox vwx voy vwy : Value} {tos : List Nat} {fs : List Bytes} {vt vl : Value} {c : Nat} (h : BothAt w B z x y gx gy n m s t rx ry vox vwx voy vwy tos fs vt vl) (hf : Alike s t rx ry fs n m c) (ht : ∀ k ∈ tos, k = 1 ∨ k = 2) (hc : c ≤ 399) (hfl : fs.length ≤ 90000) (op nn : Int) (txt : Bytes) (hop : isInt op) (hnn : isInt nn) (htx : pickN op 13 = 12 → txt.length ≤ 20000) :
    Calls Tryz.prog 7 #[.pointer (some ⟨z, 0, none⟩), .agg #[.int .i64 op, .int .i64 nn, .string ⟨txt.toArray⟩]] w (DidOut w B z x y gx gy (fs.length + 200) (c + 1)) := by
  obtain ⟨k, hk⟩ : ∃ k, pickN op 13 = k := ⟨_, rfl⟩
  have hlt : k < 13 := hk ▸ pickN_lt op (by omega)
  rcases Nat.lt_or_ge k 4 with h4 | h4
  · match k, h4, hk with
    | 0, _, hk => exact does_send0 h hf ht hc hfl op nn txt hop hnn hk
    | 1, _, hk => exact does_send1 h hf ht hc hfl op nn txt hop hnn hk
    | 2, _, hk => exact does_send2 h hf ht hc hfl op nn txt hop hnn hk
    | 3, _, hk => exact does_send3 h hf ht hc hfl op nn txt hop hnn hk
  · rcases Nat.lt_or_ge k 11 with h11 | h11
    · by_cases hno : fs.length = 0
      · exact does_none h hf ht hc hfl op nn txt hop hnn k hk ⟨h4, by omega⟩ hno
      · have hp : 0 < fs.length := by omega
        rcases Nat.lt_or_ge k 9 with h9 | h9
        · exact does_comes h hf ht hc hfl op nn txt hop hnn hp k hk ⟨h4, by omega⟩
        · rcases Nat.lt_or_ge k 10 with h10 | h10
          · exact does_lose h hf ht hc hfl op nn txt hop hnn hp (by omega)
          · exact does_double h hf ht hc hfl op nn txt hop hnn hp (by omega)
    · rcases Nat.lt_or_ge k 12 with h12 | h12
      · exact does_again h hf ht hc hfl op nn txt hop hnn (by omega)
      · exact does_text h hf ht hc hfl op nn txt hop hnn (htx (by omega)) (by omega)
end Go.Proofs.YtiodphkmllcjdaaGreat.L7
end

section
namespace Go.Proofs.YtiodphkmllcjdaaGreat.L7
open Go.ChangeShapes Go.WideShapes Go.ChangeAt Go.RowKit L6

def nilS : Value := .slice none 0 0
/-- All is at its beginning. -/
def MadeBoth (w : World) (e : Ending) (w' : World) : Prop := Below w.heap.size w w' ∧ ∃ (z : Nat) (x y : Blk) (gx gy : Nat), e = .returned (.tuple #[.pointer (some ⟨z, 0, none⟩), .bool true]) ∧ BothAt w' w.heap.size z x y gx gy 0 0 (newL 1 2) (newL 2 1) (r0 1 2) (r0 2 1) nilS nilS nilS nilS [] [] nilS nilS
theorem alike_new : Alike (newL 1 2) (newL 2 1) (r0 1 2) (r0 2 1) [] 0 0 0 :=
  ⟨Sim.new 1 2, Sim.new 2 1, (by simp), Nat.le_refl _, Nat.le_refl _, Nat.le_refl _, Nat.le_refl _, Nat.le_refl _, Nat.le_refl _, (by simp [r0]), (by simp [r0]), rfl, rfl⟩
theorem ref_at {V : World} {B g a b : Nat} (hg : V.heap[g]? = some (.cells (refCells a b 0 0 nilS nilS) 43 (0, 0))) (hB : B ≤ g) : RefAt V B g (r0 a b) nilS nilS :=
  ⟨hg, hB, World.ownsRow_nil _ _ _ _, World.ownsRow_nil _ _ _ _, fun q e => by cases e⟩
theorem both_start {w w1 w2 w3 w4 : World} {x y : Blk} (h1 : EndAt w1 x 0 (newL 1 2)) (b1 : Below w.heap.size w w1) (a1 : x.Above w.heap.size) (h2 : EndAt w2 y 0 (newL 2 1)) (b2 : Below w1.heap.size w1 w2) (a2 : y.Above w1.heap.size) (e3 : w3 = w2.alloc (.cells (refCells 1 2 0 0 nilS nilS) 43)) (e4 : w4 = w3.alloc (.cells (refCells 2 1 0 0 nilS nilS) 43)) :
    MadeBoth w (.returned (.tuple #[.pointer (some ⟨w4.heap.size, 0, none⟩), .bool true])) (w4.alloc (.cells #[ptrAt x.g, ptrAt y.g, ptrAt w2.heap.size, ptrAt w3.heap.size, nilS, nilS] 38)) := by
  have s3 : w3.heap.size = w2.heap.size + 1 := by rw [e3]; simp
  have s4 : w4.heap.size = w3.heap.size + 1 := by rw [e4]; simp
  have b3 : Below w2.heap.size w2 w3 := by rw [e3]; exact (Below.refl _ w2).alloc (Nat.le_refl _) _
  have b4 : Below w3.heap.size w3 w4 := by rw [e4]; exact (Below.refl _ w3).alloc (Nat.le_refl _) _
  have b5 : Below w4.heap.size w4 (w4.alloc (.cells #[ptrAt x.g, ptrAt y.g, ptrAt w2.heap.size, ptrAt w3.heap.size, nilS, nilS] 38)) := (Below.refl _ w4).alloc (Nat.le_refl _) _
  have n1 := b1.size
  have n2 := b2.size
  have x1 := h1.lt
  have y1 := h2.lt
  have g1 : w3.heap[w2.heap.size]? = some (.cells (refCells 1 2 0 0 nilS nilS) 43 (0, 0)) := by rw [e3]; exact World.alloc_heap_new w2 _
  have g2 : w4.heap[w3.heap.size]? = some (.cells (refCells 2 1 0 0 nilS nilS) 43 (0, 0)) := by rw [e4]; exact World.alloc_heap_new w3 _
  have g3 := World.alloc_heap_new w4 (.cells #[ptrAt x.g, ptrAt y.g, ptrAt w2.heap.size, ptrAt w3.heap.size, nilS, nilS] 38)
  have r1 : RefAt w3 w.heap.size w2.heap.size (r0 1 2) nilS nilS := ref_at g1 (by omega)
  have r2 : RefAt w4 w.heap.size w3.heap.size (r0 2 1) nilS nilS := ref_at g2 (by omega)
  simp only [Blk.Above] at a1 a2
  refine ⟨b1.trans ((b2.trans ((b3.trans ((b4.trans (b5.mono (by omega))).mono (by omega))).mono (by omega))).mono (by omega)), w4.heap.size, x, y, w2.heap.size, w3.heap.size, rfl, ⟨⟨g3, by omega, World.ownsRow_nil _ _ _ _, World.ownsRow_nil _ _ _ _, rfl⟩, (((h1.below b2).below b3).below b4).below b5, ((h2.below b3).below b4).below b5, (r1.below b4).below b5, r2.below b5, ⟨fun k => if k = w4.heap.size then 0 else if k < w1.heap.size then 1 else if k < w2.heap.size then 2 else if k = w2.heap.size then 3 else 4, ?_, ?_, ?_, ?_, ?_⟩, ?_, by simp only [Blk.Above]; omega, by simp only [Blk.Above]; omega⟩⟩
  · intro k hk
    rcases hk with rfl | e | e
    · simp
    · cases e
    · cases e
  · intro k hk
    unfold In4 at hk
    have hk1 : k < w1.heap.size := by omega
    have hk2 : ¬ k = w4.heap.size := by omega
    simp only [hk1, hk2, if_true, if_false]
  · intro k hk
    unfold In4 at hk
    have hk1 : ¬ k < w1.heap.size := by omega
    have hk2 : ¬ k = w4.heap.size := by omega
    have hk3 : k < w2.heap.size := by omega
    simp only [hk1, hk2, hk3, if_true, if_false]
  · intro k hk
    rcases hk with rfl | e | e
    · have hk1 : ¬ w2.heap.size < w1.heap.size := by omega
      have hk2 : ¬ w2.heap.size = w4.heap.size := by omega
      simp only [hk1, hk2, Nat.lt_irrefl, if_true, if_false]
    · cases e
    · cases e
  · intro k hk
    rcases hk with rfl | e | e
    · have hk1 : ¬ w3.heap.size < w1.heap.size := by omega
      have hk2 : ¬ w3.heap.size = w4.heap.size := by omega
      have hk3 : ¬ w3.heap.size < w2.heap.size := by omega
      have hk4 : ¬ w3.heap.size = w2.heap.size := by omega
      simp only [hk1, hk2, hk3, hk4, if_false]
    · cases e
    · cases e
  · simp; omega
set_option maxHeartbeats 2000000 in
theorem made_calls (w : World) : Calls Tryz.prog 6 #[] w (MadeBoth w) := by
  have HN1 := Lib.hid (fun V => new_calls 1 2 (by omega) (by omega) (by omega) (by omega) (by omega) V)
  have HN2 := Lib.hid (fun V => new_calls 2 1 (by omega) (by omega) (by omega) (by omega) (by omega) V)
  have HR1 := Lib.hid (fun V => ref_new 1 2 (by omega) (by omega) (by omega) (by omega) (by omega) V)
  have HR2 := Lib.hid (fun V => ref_new 2 1 (by omega) (by omega) (by omega) (by omega) (by omega) V)
  go_enter Tryz.func6, Tryz.ntmps6
  go_wp2_with fail
  refine (HN1.out w).mono ?_
  rintro e w1 ⟨x, rfl, x1, b1, a1⟩
  have HX := Lib.hid (And.intro x1 (And.intro b1 a1))
  clear b1 x1 a1 HN1
  go_wp2_with fail
  refine (HN2.out w1).mono ?_
  rintro e w2 ⟨y, rfl, y2, b2, a2⟩
  have HY := Lib.hid (And.intro y2 (And.intro b2 a2))
  clear b2 y2 a2 HN2
  go_wp2_with fail
  refine (HR1.out w2).mono ?_
  rintro e w3 ⟨rfl, e3⟩
  have HE3 := Lib.hid e3
  clear e3 HR1
  go_wp2_with fail
  refine (HR2.out w3).mono ?_
  rintro e w4 ⟨rfl, e4⟩
  have HF := Lib.hid (both_start HX.out.1 HX.out.2.1 HX.out.2.2 HY.out.1 HY.out.2.1 HY.out.2.2 HE3.out e4)
  clear HX HY HE3 e4 HR2
  go_wp2
  go_ret2
  exact HF.out
end Go.Proofs.YtiodphkmllcjdaaGreat.L7
end
