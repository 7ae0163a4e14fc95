/- both.does: a body is sent by the one end. both.does: a body is sent by the other end. both.does: a body is sent by the one end, as the raw number tells it otherwise. -/
import Derived.Test.YtiodphkmllcjdaaGreatLkCm
import Derived.Test.YtiodphkmllcjdaaGreatLkD
import Derived.Test.YtiodphkmllcjdaaGreatLkRG
section
namespace Go.Proofs.YtiodphkmllcjdaaGreat.L7
open Go.ChangeShapes Go.WideShapes Go.ChangeAt Go.RowKit L6

theorem sendL_short (s : St) (b : Bytes) : (sendL s b).1.1.length ≤ 20000 := by
  unfold sendL
  have hle : (frameL s.me s.peer 1 (s.sent + 1) [b]).1.length ≤ 20000 := frame_len _ _ _ _ _
  generalize frameL s.me s.peer 1 (s.sent + 1) [b] = fr at *
  split
  · exact Nat.zero_le _
  · split
    · exact Nat.zero_le _
    · split
      · exact hle
      · exact hle
/-- What the document's Send leaves as it was, and what it adds. -/
theorem rsend_few (r : RSt) (b : Bytes) (hb : b.length ≤ 100) : (rsend r b).2.wait = r.wait ∧ (rsend r b).2.sent ≤ r.sent + 1 ∧ ((∀ a ∈ r.opens, a.2.length ≤ 100) → ∀ a ∈ (rsend r b).2.opens, a.2.length ≤ 100) := by
  unfold rsend
  generalize frameL r.me r.peer 1 (r.sent + 1) [b] = fr at *
  split
  · exact ⟨rfl, Nat.le_succ _, fun h => h⟩
  · split
    · exact ⟨rfl, Nat.le_succ _, fun h => h⟩
    · split
      · refine ⟨rfl, Nat.le_refl _, fun h a ha => ?_⟩
        rcases List.mem_append.1 ha with ha | ha
        · exact h a ha
        · rw [List.mem_singleton] at ha
          rw [ha]
          exact hb
      · exact ⟨rfl, Nat.le_succ _, fun h => h⟩
set_option maxRecDepth 100000 in
set_option maxHeartbeats 8000000 in
theorem does_send0 {w : World} {B z : Nat} {x y : Blk} {gx gy n m : Nat} {s t : St} {rx ry : RSt} {vox vwx voy vwy : Value} {tos : List Nat} {fs : List Bytes} {vt vl : Value} {c : Nat} (h : BothAt w B z x y gx gy n m s t rx ry vox vwx voy vwy tos fs vt vl) (hf : Alike s t rx ry fs n m c) (ht : ∀ k ∈ tos, k = 1 ∨ k = 2) (hc : c ≤ 399) (hfl : fs.length ≤ 90000) (op nn : Int) (txt : Bytes) (hop : isInt op) (hnn : isInt nn) (hk : pickN op 13 = 0) :
    Calls Tryz.prog 7 #[.pointer (some ⟨z, 0, none⟩), .agg #[.int .i64 op, .int .i64 nn, .string ⟨txt.toArray⟩]] w (DidOut w B z x y gx gy (fs.length + 200) (c + 1)) := by
  obtain ⟨Al, cl, hvl⟩ := L5.own_slice h.net.l
  subst hvl
  obtain ⟨At, ct, hvt⟩ := L5.own_slice h.net.to
  subst hvt
  have hbx : (w.alloc (.cells #[.int .i64 op, .int .i64 nn, .string ⟨txt.toArray⟩] 28)).heap[w.heap.size]? = some (.cells #[.int .i64 op, .int .i64 nn, .string ⟨txt.toArray⟩] 28 (0, 0)) := World.alloc_heap_new w _
  have hB0 : Below w.heap.size w (w.alloc (.cells #[.int .i64 op, .int .i64 nn, .string ⟨txt.toArray⟩] 28)) := (Below.refl _ w).alloc (Nat.le_refl _) _
  have hs0 : (w.alloc (.cells #[.int .i64 op, .int .i64 nn, .string ⟨txt.toArray⟩] 28)).heap.size = w.heap.size + 1 := by simp
  obtain ⟨W0, hW0⟩ : ∃ W0, w.alloc (.cells #[.int .i64 op, .int .i64 nn, .string ⟨txt.toArray⟩] 28) = W0 := ⟨_, rfl⟩
  rw [hW0] at hbx hB0 hs0
  have h0 := h.below hB0
  have y0 : W0.cell? ⟨w.heap.size, 0, none⟩ = some (.int .i64 op) := by simp only [World.cell?]; rw [hbx]; rfl
  have y1 : W0.cell? ⟨w.heap.size, 1, none⟩ = some (.int .i64 nn) := by simp only [World.cell?]; rw [hbx]; rfl
  have y2 : W0.cell? ⟨w.heap.size, 2, none⟩ = some (.string ⟨txt.toArray⟩) := by simp only [World.cell?]; rw [hbx]; rfl
  obtain ⟨z0, z1, z2, z3, z4, z5⟩ := h0.cells
  unfold ptrAt at z0 z1 z2 z3
  have HP := Lib.hid (pick_is hop (n := 13) (by decide) (by decide) W0)
  have H0 := Lib.hid h0
  have HF := Lib.hid hf
  have HTo := Lib.hid ht
  have HB0 := Lib.hid hB0
  have HBw := Lib.hid h.base
  have HHi := Lib.hid h.highs
  have HLo := Lib.hid h.lows
  have HS0 := Lib.hid hs0
  clear h hf ht hbx hB0 hs0 h0
  go_enter Tryz.func7, Tryz.ntmps7
  go_wp2_with fail
  refine HP.out.mono ?_
  rintro e w1 ⟨rfl, rfl⟩
  rw [hk]
  have HBd := Lib.hid (fun V : World => body_calls hnn V)
  have hsl : (bodyL nn).length ≤ 100 := by unfold bodyL; rw [numL_len]; decide
  have HSl := Lib.hid hsl
  obtain ⟨bd, hbd⟩ : ∃ bd, bodyL nn = bd := ⟨_, rfl⟩
  rw [hbd] at HBd HSl
  have HSim := Lib.hid (sim_send HF.out.one bd)
  have HOk := Lib.hid H0.out.one.ok
  obtain ⟨fr, hfr⟩ : ∃ fr, (sendL s bd).1 = fr := ⟨_, rfl⟩
  have hfrl : fr.1.length ≤ 20000 := by rw [← hfr]; exact sendL_short s bd
  have HFr := Lib.hid hfrl
  have HSend : Hid (∀ V, EndAt V x n s → Calls Tryz.prog 17 #[.pointer (some ⟨x.g, 0, none⟩), .string ⟨bd.toArray⟩] V fun e w' => e = .returned (.tuple #[.string ⟨fr.1.toArray⟩, .int .i64 fr.2]) ∧ EndAt w' x n (sendL s bd).2 ∧ Only x.In V w') := fun V hV => by
    have := send_calls hV bd (by have := HSl.out; unfold maxLen; omega)
    unfold SendOut at this
    rw [hfr] at this
    exact this
  have HRSend : Hid (∀ V, RefAt V B gx rx vox vwx → B ≤ V.heap.size → Calls Tryz.prog 20 #[.pointer (some ⟨gx, 0, none⟩), .string ⟨bd.toArray⟩] V fun e w' => ∃ vo', e = .returned (.tuple #[.string ⟨fr.1.toArray⟩, .int .i64 fr.2]) ∧ RefAt w' B gx (rsend rx bd).2 vo' vwx ∧ Only (RIn gx vox vwx) V w' ∧ Fresh V vox vo') := fun V hV hBV => by
    have := rsend_calls hV hBV (by rw [← HF.out.one.me]; exact HOk.out.me1) (by rw [← HF.out.one.me]; exact HOk.out.me8) (by rw [← HF.out.one.peer]; exact HOk.out.peer8) (by have h1 := HF.out.s1; omega) (by rw [← HF.out.one.len]; exact HOk.out.room) bd (by have := HSl.out; omega) (fun _ => by have := pack_short rx.peer 1 (rx.sent + 1) bd; have := HSl.out; omega)
    unfold RSendOut at this
    rw [HSim.out.1, hfr] at this
    exact this
  clear hbd hfr hfrl hsl
  go_wp2
  go_region_law (first
    | (go_simp; go_at_call 11; refine (HBd.out _).mono ?_; rintro e w2 ⟨rfl, b2⟩; have hb2 : Below W0.heap.size W0 w2 := (Below.refl W0.heap.size W0).drew.trans b2; have HA2 := Lib.hid (H0.out.below hb2); have HB2 := Lib.hid hb2; have z0' := HA2.out.cells.1; unfold ptrAt at z0'; have y1' := (hb2.cell (p := ⟨w.heap.size, 1, none⟩) (by have := HS0.out; show w.heap.size < _; omega)).trans y1; clear b2 hb2)
    | (go_simp; go_at_call 17; refine (HSend.out _ HA2.out.one).mono ?_; rintro e w3 ⟨rfl, e3, o3⟩; have HA3 := Lib.hid (And.intro (HA2.out.left e3 o3) o3); clear e3 o3))
  all_goals
    have hA3 := HA3.out.1
    have z2' := hA3.cells.2.2.1
    unfold ptrAt at z2'
    have y1'' : w3.cell? ⟨w.heap.size, 1, none⟩ = some (.int .i64 nn) := (World.cell?_of_block (w := w2) (HA3.out.2.block w.heap.size (by have := HS0.out; have := HB2.out.size; omega) (fun e => absurd (HHi.out.2.1 _ e) (Nat.lt_irrefl _)))).trans y1'
    clear hA3 y1' z0'
    go_wp2
    go_region_law (first
      | (go_simp; go_at_call 11; refine (HBd.out _).mono ?_; rintro e w4 ⟨rfl, b4⟩; have hb4 : Below w3.heap.size w3 w4 := (Below.refl w3.heap.size w3).drew.trans b4; have HA4 := Lib.hid (And.intro (HA3.out.1.below hb4) hb4); have z2'' := HA4.out.1.cells.2.2.1; unfold ptrAt at z2''; clear b4 hb4)
      | (go_simp; go_at_call 20; refine (HRSend.out _ HA4.out.1.ref HA4.out.1.base).mono ?_; rintro e w5 ⟨vo', rfl, r5, o5, q5⟩; have HA5 := Lib.hid (And.intro (HA4.out.1.refs r5 o5 q5 (Fresh.refl _ _)) o5); clear r5 o5 q5))
    all_goals
      have h5 := HA5.out.1
      have hB2' : Below B w w2 := (HB0.out.mono HBw.out).trans (HB2.out.mono (Nat.le_trans HBw.out HB0.out.size))
      have hB3 : Below B w w3 := Only.below hB2' HA3.out.2 (Nat.le_trans HBw.out hB2'.size) HLo.out.2.1
      have hB4 : Below B w w4 := hB3.trans (HA4.out.2.mono (Nat.le_trans HBw.out hB3.size))
      have hB5 : Below B w w5 := Only.below hB4 HA5.out.2 (Nat.le_trans HBw.out hB4.size) HLo.out.2.2.2.1
      have hbA : Below w5.heap.size w5 (w5.alloc (.cells #[.string ⟨fr.1.toArray⟩] 46)) := (Below.refl _ w5).alloc (Nat.le_refl _) _
      have hsr := srow_one (World.alloc_heap_new w5 (.cells #[.string ⟨fr.1.toArray⟩] 46))
      have hA := h5.below hbA
      have HAdd := Lib.hid (E.add_calls hA.net hA.base 2 [fr.1] hsr (fun ad e e' => by
        cases e
        have := (h5.net.inlt e').2
        exact Nat.lt_irrefl _ this) (by simp; omega))
      have HA6 := Lib.hid (And.intro hA (And.intro hbA hB5))
      clear h5 hB2' hB3 hB4 hB5 hbA hsr hA z2' z2'' y1'' HSend HRSend HBd
      go_wp2_with fail
      refine HAdd.out.mono ?_
      rintro e w6 ⟨rfl, vt', vl', hn6, o6, hf6⟩
      have h6 := HA6.out.1.nets hn6 o6 hf6
      have hB6 : Below B w w6 := Only.below (HA6.out.2.2.trans (HA6.out.2.1.mono (Nat.le_trans HBw.out HA6.out.2.2.size))) o6 HA6.out.1.base HLo.out.1
      have hfs6 : (fs ++ E.laid [fr.1]).length ≤ fs.length + 200 := by
        rw [List.length_append]
        have : (E.laid [fr.1]).length ≤ 1 := by unfold E.laid; exact Nat.le_trans (List.length_filter_le _ _) (by simp)
        omega
      have htos : ∀ k ∈ tos ++ E.tosOf 2 [fr.1], k = 1 ∨ k = 2 := by
        intro k hk
        rcases List.mem_append.1 hk with hk | hk
        · exact HTo.out k hk
        · unfold E.tosOf at hk
          obtain ⟨_, _, rfl⟩ := List.mem_map.1 hk
          exact .inr rfl
      have hal : Alike (sendL s bd).2 t (rsend rx bd).2 ry (fs ++ E.laid [fr.1]) n m (c + 1) := by
        obtain ⟨a1, a2, a3, a4, a5, a6, a7, t1, t2, a8, a9, a10⟩ := HF.out
        have hw := rsend_few rx bd HSl.out
        refine ⟨HSim.out.2, a2, ?_, by rw [hw.1]; omega, by omega, by omega, by omega, by omega, by omega, hw.2.2 a8, a9, (rsend_who _ _).1.trans a10.1, (rsend_who _ _).2.trans a10.2⟩
        intro g hg
        rcases List.mem_append.1 hg with hg | hg
        · exact a3 g hg
        · have hm : g ∈ [fr.1] := (List.mem_filter.1 hg).1
          rw [List.mem_singleton] at hm
          rw [hm]
          exact HFr.out
      have HFin : Hid (DidOut w B z x y gx gy (fs.length + 200) (c + 1) (.returned (.bool true)) w6) :=
        ⟨rfl, hB6, _, _, _, _, _, _, _, _, _, _, _, _, _, _, h6, hal, hfs6, htos⟩
      clear h6 hB6 hfs6 htos hal hn6 o6 hf6 HA6 HA5 HA4 HA3 HA2 HB2 HAdd
      go_wp2
      go_ret
      exact HFin.out
end Go.Proofs.YtiodphkmllcjdaaGreat.L7
end

section
namespace Go.Proofs.YtiodphkmllcjdaaGreat.L7
open Go.ChangeShapes Go.WideShapes Go.ChangeAt Go.RowKit L6

set_option maxRecDepth 100000 in
set_option maxHeartbeats 8000000 in
theorem does_send3 {w : World} {B z : Nat} {x y : Blk} {gx gy n m : Nat} {s t : St} {rx ry : RSt} {vox vwx voy vwy : Value} {tos : List Nat} {fs : List Bytes} {vt vl : Value} {c : Nat} (h : BothAt w B z x y gx gy n m s t rx ry vox vwx voy vwy tos fs vt vl) (hf : Alike s t rx ry fs n m c) (ht : ∀ k ∈ tos, k = 1 ∨ k = 2) (hc : c ≤ 399) (hfl : fs.length ≤ 90000) (op nn : Int) (txt : Bytes) (hop : isInt op) (hnn : isInt nn) (hk : pickN op 13 = 3) :
    Calls Tryz.prog 7 #[.pointer (some ⟨z, 0, none⟩), .agg #[.int .i64 op, .int .i64 nn, .string ⟨txt.toArray⟩]] w (DidOut w B z x y gx gy (fs.length + 200) (c + 1)) := by
  obtain ⟨Al, cl, hvl⟩ := L5.own_slice h.net.l
  subst hvl
  obtain ⟨At, ct, hvt⟩ := L5.own_slice h.net.to
  subst hvt
  have hbx : (w.alloc (.cells #[.int .i64 op, .int .i64 nn, .string ⟨txt.toArray⟩] 28)).heap[w.heap.size]? = some (.cells #[.int .i64 op, .int .i64 nn, .string ⟨txt.toArray⟩] 28 (0, 0)) := World.alloc_heap_new w _
  have hB0 : Below w.heap.size w (w.alloc (.cells #[.int .i64 op, .int .i64 nn, .string ⟨txt.toArray⟩] 28)) := (Below.refl _ w).alloc (Nat.le_refl _) _
  have hs0 : (w.alloc (.cells #[.int .i64 op, .int .i64 nn, .string ⟨txt.toArray⟩] 28)).heap.size = w.heap.size + 1 := by simp
  obtain ⟨W0, hW0⟩ : ∃ W0, w.alloc (.cells #[.int .i64 op, .int .i64 nn, .string ⟨txt.toArray⟩] 28) = W0 := ⟨_, rfl⟩
  rw [hW0] at hbx hB0 hs0
  have h0 := h.below hB0
  have y0 : W0.cell? ⟨w.heap.size, 0, none⟩ = some (.int .i64 op) := by simp only [World.cell?]; rw [hbx]; rfl
  have y1 : W0.cell? ⟨w.heap.size, 1, none⟩ = some (.int .i64 nn) := by simp only [World.cell?]; rw [hbx]; rfl
  have y2 : W0.cell? ⟨w.heap.size, 2, none⟩ = some (.string ⟨txt.toArray⟩) := by simp only [World.cell?]; rw [hbx]; rfl
  obtain ⟨z0, z1, z2, z3, z4, z5⟩ := h0.cells
  unfold ptrAt at z0 z1 z2 z3
  have HP := Lib.hid (pick_is hop (n := 13) (by decide) (by decide) W0)
  have H0 := Lib.hid h0
  have HF := Lib.hid hf
  have HTo := Lib.hid ht
  have HB0 := Lib.hid hB0
  have HBw := Lib.hid h.base
  have HHi := Lib.hid h.highs
  have HLo := Lib.hid h.lows
  have HS0 := Lib.hid hs0
  clear h hf ht hbx hB0 hs0 h0
  go_enter Tryz.func7, Tryz.ntmps7
  go_wp2_with fail
  refine HP.out.mono ?_
  rintro e w1 ⟨rfl, rfl⟩
  rw [hk]
  have HBd := Lib.hid (fun V : World => body_calls hnn V)
  have hsl : (bodyL nn).length ≤ 100 := by unfold bodyL; rw [numL_len]; decide
  have HSl := Lib.hid hsl
  obtain ⟨bd, hbd⟩ : ∃ bd, bodyL nn = bd := ⟨_, rfl⟩
  rw [hbd] at HBd HSl
  have HSim := Lib.hid (sim_send HF.out.two bd)
  have HOk := Lib.hid H0.out.two.ok
  obtain ⟨fr, hfr⟩ : ∃ fr, (sendL t bd).1 = fr := ⟨_, rfl⟩
  have hfrl : fr.1.length ≤ 20000 := by rw [← hfr]; exact sendL_short t bd
  have HFr := Lib.hid hfrl
  have HSend : Hid (∀ V, EndAt V y m t → Calls Tryz.prog 17 #[.pointer (some ⟨y.g, 0, none⟩), .string ⟨bd.toArray⟩] V fun e w' => e = .returned (.tuple #[.string ⟨fr.1.toArray⟩, .int .i64 fr.2]) ∧ EndAt w' y m (sendL t bd).2 ∧ Only y.In V w') := fun V hV => by
    have := send_calls hV bd (by have := HSl.out; unfold maxLen; omega)
    unfold SendOut at this
    rw [hfr] at this
    exact this
  have HRSend : Hid (∀ V, RefAt V B gy ry voy vwy → B ≤ V.heap.size → Calls Tryz.prog 20 #[.pointer (some ⟨gy, 0, none⟩), .string ⟨bd.toArray⟩] V fun e w' => ∃ vo', e = .returned (.tuple #[.string ⟨fr.1.toArray⟩, .int .i64 fr.2]) ∧ RefAt w' B gy (rsend ry bd).2 vo' vwy ∧ Only (RIn gy voy vwy) V w' ∧ Fresh V voy vo') := fun V hV hBV => by
    have := rsend_calls hV hBV (by rw [← HF.out.two.me]; exact HOk.out.me1) (by rw [← HF.out.two.me]; exact HOk.out.me8) (by rw [← HF.out.two.peer]; exact HOk.out.peer8) (by have h1 := HF.out.s2; omega) (by rw [← HF.out.two.len]; exact HOk.out.room) bd (by have := HSl.out; omega) (fun _ => by have := pack_short ry.peer 1 (ry.sent + 1) bd; have := HSl.out; omega)
    unfold RSendOut at this
    rw [HSim.out.1, hfr] at this
    exact this
  clear hbd hfr hfrl hsl
  go_wp2
  go_region_law (first
    | (go_simp; go_at_call 11; refine (HBd.out _).mono ?_; rintro e w2 ⟨rfl, b2⟩; have hb2 : Below W0.heap.size W0 w2 := (Below.refl W0.heap.size W0).drew.trans b2; have HA2 := Lib.hid (H0.out.below hb2); have HB2 := Lib.hid hb2; have z0' := HA2.out.cells.2.1; unfold ptrAt at z0'; have y1' := (hb2.cell (p := ⟨w.heap.size, 1, none⟩) (by have := HS0.out; show w.heap.size < _; omega)).trans y1; clear b2 hb2)
    | (go_simp; go_at_call 17; refine (HSend.out _ HA2.out.two).mono ?_; rintro e w3 ⟨rfl, e3, o3⟩; have HA3 := Lib.hid (And.intro (HA2.out.right e3 o3) o3); clear e3 o3))
  all_goals
    have hA3 := HA3.out.1
    have z2' := hA3.cells.2.2.2.1
    unfold ptrAt at z2'
    have y1'' : w3.cell? ⟨w.heap.size, 1, none⟩ = some (.int .i64 nn) := (World.cell?_of_block (w := w2) (HA3.out.2.block w.heap.size (by have := HS0.out; have := HB2.out.size; omega) (fun e => absurd (HHi.out.2.2.1 _ e) (Nat.lt_irrefl _)))).trans y1'
    clear hA3 y1' z0'
    go_wp2
    go_region_law (first
      | (go_simp; go_at_call 11; refine (HBd.out _).mono ?_; rintro e w4 ⟨rfl, b4⟩; have hb4 : Below w3.heap.size w3 w4 := (Below.refl w3.heap.size w3).drew.trans b4; have HA4 := Lib.hid (And.intro (HA3.out.1.below hb4) hb4); have z2'' := HA4.out.1.cells.2.2.2.1; unfold ptrAt at z2''; clear b4 hb4)
      | (go_simp; go_at_call 20; refine (HRSend.out _ HA4.out.1.fer HA4.out.1.base).mono ?_; rintro e w5 ⟨vo', rfl, r5, o5, q5⟩; have HA5 := Lib.hid (And.intro (HA4.out.1.fers r5 o5 q5 (Fresh.refl _ _)) o5); clear r5 o5 q5))
    all_goals
      have h5 := HA5.out.1
      have hB2' : Below B w w2 := (HB0.out.mono HBw.out).trans (HB2.out.mono (Nat.le_trans HBw.out HB0.out.size))
      have hB3 : Below B w w3 := Only.below hB2' HA3.out.2 (Nat.le_trans HBw.out hB2'.size) HLo.out.2.2.1
      have hB4 : Below B w w4 := hB3.trans (HA4.out.2.mono (Nat.le_trans HBw.out hB3.size))
      have hB5 : Below B w w5 := Only.below hB4 HA5.out.2 (Nat.le_trans HBw.out hB4.size) HLo.out.2.2.2.2
      have hbA : Below w5.heap.size w5 (w5.alloc (.cells #[.string ⟨fr.1.toArray⟩] 46)) := (Below.refl _ w5).alloc (Nat.le_refl _) _
      have hsr := srow_one (World.alloc_heap_new w5 (.cells #[.string ⟨fr.1.toArray⟩] 46))
      have hA := h5.below hbA
      have HAdd := Lib.hid (E.add_calls hA.net hA.base 1 [fr.1] hsr (fun ad e e' => by
        cases e
        have := (h5.net.inlt e').2
        exact Nat.lt_irrefl _ this) (by simp; omega))
      have HA6 := Lib.hid (And.intro hA (And.intro hbA hB5))
      clear h5 hB2' hB3 hB4 hB5 hbA hsr hA z2' z2'' y1'' HSend HRSend HBd
      go_wp2_with fail
      refine HAdd.out.mono ?_
      rintro e w6 ⟨rfl, vt', vl', hn6, o6, hf6⟩
      have h6 := HA6.out.1.nets hn6 o6 hf6
      have hB6 : Below B w w6 := Only.below (HA6.out.2.2.trans (HA6.out.2.1.mono (Nat.le_trans HBw.out HA6.out.2.2.size))) o6 HA6.out.1.base HLo.out.1
      have hfs6 : (fs ++ E.laid [fr.1]).length ≤ fs.length + 200 := by
        rw [List.length_append]
        have : (E.laid [fr.1]).length ≤ 1 := by unfold E.laid; exact Nat.le_trans (List.length_filter_le _ _) (by simp)
        omega
      have htos : ∀ k ∈ tos ++ E.tosOf 1 [fr.1], k = 1 ∨ k = 2 := by
        intro k hk
        rcases List.mem_append.1 hk with hk | hk
        · exact HTo.out k hk
        · unfold E.tosOf at hk
          obtain ⟨_, _, rfl⟩ := List.mem_map.1 hk
          exact .inl rfl
      have hal : Alike s (sendL t bd).2 rx (rsend ry bd).2 (fs ++ E.laid [fr.1]) n m (c + 1) := by
        obtain ⟨a1, a2, a3, a4, a5, a6, a7, t1, t2, a8, a9, a10⟩ := HF.out
        have hw := rsend_few ry bd HSl.out
        refine ⟨a1, HSim.out.2, ?_, by omega, by rw [hw.1]; omega, by omega, by omega, by omega, by omega, a8, hw.2.2 a9, a10⟩
        intro g hg
        rcases List.mem_append.1 hg with hg | hg
        · exact a3 g hg
        · have hm : g ∈ [fr.1] := (List.mem_filter.1 hg).1
          rw [List.mem_singleton] at hm
          rw [hm]
          exact HFr.out
      have HFin : Hid (DidOut w B z x y gx gy (fs.length + 200) (c + 1) (.returned (.bool true)) w6) :=
        ⟨rfl, hB6, _, _, _, _, _, _, _, _, _, _, _, _, _, _, h6, hal, hfs6, htos⟩
      clear h6 hB6 hfs6 htos hal hn6 o6 hf6 HA6 HA5 HA4 HA3 HA2 HB2 HAdd
      go_wp2
      go_ret
      exact HFin.out
end Go.Proofs.YtiodphkmllcjdaaGreat.L7
end

section
namespace Go.Proofs.YtiodphkmllcjdaaGreat.L7
open Go.ChangeShapes Go.WideShapes Go.ChangeAt Go.RowKit L6

set_option maxRecDepth 100000 in
set_option maxHeartbeats 8000000 in
theorem does_send1 {w : World} {B z : Nat} {x y : Blk} {gx gy n m : Nat} {s t : St} {rx ry : RSt} {vox vwx voy vwy : Value} {tos : List Nat} {fs : List Bytes} {vt vl : Value} {c : Nat} (h : BothAt w B z x y gx gy n m s t rx ry vox vwx voy vwy tos fs vt vl) (hf : Alike s t rx ry fs n m c) (ht : ∀ k ∈ tos, k = 1 ∨ k = 2) (hc : c ≤ 399) (hfl : fs.length ≤ 90000) (op nn : Int) (txt : Bytes) (hop : isInt op) (hnn : isInt nn) (hk : pickN op 13 = 1) :
    Calls Tryz.prog 7 #[.pointer (some ⟨z, 0, none⟩), .agg #[.int .i64 op, .int .i64 nn, .string ⟨txt.toArray⟩]] w (DidOut w B z x y gx gy (fs.length + 200) (c + 1)) := by
  obtain ⟨Al, cl, hvl⟩ := L5.own_slice h.net.l
  subst hvl
  obtain ⟨At, ct, hvt⟩ := L5.own_slice h.net.to
  subst hvt
  have hbx : (w.alloc (.cells #[.int .i64 op, .int .i64 nn, .string ⟨txt.toArray⟩] 28)).heap[w.heap.size]? = some (.cells #[.int .i64 op, .int .i64 nn, .string ⟨txt.toArray⟩] 28 (0, 0)) := World.alloc_heap_new w _
  have hB0 : Below w.heap.size w (w.alloc (.cells #[.int .i64 op, .int .i64 nn, .string ⟨txt.toArray⟩] 28)) := (Below.refl _ w).alloc (Nat.le_refl _) _
  have hs0 : (w.alloc (.cells #[.int .i64 op, .int .i64 nn, .string ⟨txt.toArray⟩] 28)).heap.size = w.heap.size + 1 := by simp
  obtain ⟨W0, hW0⟩ : ∃ W0, w.alloc (.cells #[.int .i64 op, .int .i64 nn, .string ⟨txt.toArray⟩] 28) = W0 := ⟨_, rfl⟩
  rw [hW0] at hbx hB0 hs0
  have h0 := h.below hB0
  have y0 : W0.cell? ⟨w.heap.size, 0, none⟩ = some (.int .i64 op) := by simp only [World.cell?]; rw [hbx]; rfl
  have y1 : W0.cell? ⟨w.heap.size, 1, none⟩ = some (.int .i64 nn) := by simp only [World.cell?]; rw [hbx]; rfl
  have y2 : W0.cell? ⟨w.heap.size, 2, none⟩ = some (.string ⟨txt.toArray⟩) := by simp only [World.cell?]; rw [hbx]; rfl
  obtain ⟨z0, z1, z2, z3, z4, z5⟩ := h0.cells
  unfold ptrAt at z0 z1 z2 z3
  have HP := Lib.hid (pick_is hop (n := 13) (by decide) (by decide) W0)
  have H0 := Lib.hid h0
  have HF := Lib.hid hf
  have HTo := Lib.hid ht
  have HB0 := Lib.hid hB0
  have HBw := Lib.hid h.base
  have HHi := Lib.hid h.highs
  have HLo := Lib.hid h.lows
  have HS0 := Lib.hid hs0
  clear h hf ht hbx hB0 hs0 h0
  go_enter Tryz.func7, Tryz.ntmps7
  go_wp2_with fail
  refine HP.out.mono ?_
  rintro e w1 ⟨rfl, rfl⟩
  rw [hk]
  have HBd := Lib.hid (fun V : World => body_calls hnn V)
  have hsl : (bodyL nn).length ≤ 100 := by unfold bodyL; rw [numL_len]; decide
  have HSl := Lib.hid hsl
  obtain ⟨bd, hbd⟩ : ∃ bd, bodyL nn = bd := ⟨_, rfl⟩
  rw [hbd] at HBd HSl
  have HSim := Lib.hid (sim_send HF.out.one bd)
  have HOk := Lib.hid H0.out.one.ok
  obtain ⟨fr, hfr⟩ : ∃ fr, (sendL s bd).1 = fr := ⟨_, rfl⟩
  have hfrl : fr.1.length ≤ 20000 := by rw [← hfr]; exact sendL_short s bd
  have HFr := Lib.hid hfrl
  have HSend : Hid (∀ V, EndAt V x n s → Calls Tryz.prog 17 #[.pointer (some ⟨x.g, 0, none⟩), .string ⟨bd.toArray⟩] V fun e w' => e = .returned (.tuple #[.string ⟨fr.1.toArray⟩, .int .i64 fr.2]) ∧ EndAt w' x n (sendL s bd).2 ∧ Only x.In V w') := fun V hV => by
    have := send_calls hV bd (by have := HSl.out; unfold maxLen; omega)
    unfold SendOut at this
    rw [hfr] at this
    exact this
  have HRSend : Hid (∀ V, RefAt V B gx rx vox vwx → B ≤ V.heap.size → Calls Tryz.prog 20 #[.pointer (some ⟨gx, 0, none⟩), .string ⟨bd.toArray⟩] V fun e w' => ∃ vo', e = .returned (.tuple #[.string ⟨fr.1.toArray⟩, .int .i64 fr.2]) ∧ RefAt w' B gx (rsend rx bd).2 vo' vwx ∧ Only (RIn gx vox vwx) V w' ∧ Fresh V vox vo') := fun V hV hBV => by
    have := rsend_calls hV hBV (by rw [← HF.out.one.me]; exact HOk.out.me1) (by rw [← HF.out.one.me]; exact HOk.out.me8) (by rw [← HF.out.one.peer]; exact HOk.out.peer8) (by have h1 := HF.out.s1; omega) (by rw [← HF.out.one.len]; exact HOk.out.room) bd (by have := HSl.out; omega) (fun _ => by have := pack_short rx.peer 1 (rx.sent + 1) bd; have := HSl.out; omega)
    unfold RSendOut at this
    rw [HSim.out.1, hfr] at this
    exact this
  clear hbd hfr hfrl hsl
  go_wp2
  go_region_law (first
    | (go_simp; go_at_call 11; refine (HBd.out _).mono ?_; rintro e w2 ⟨rfl, b2⟩; have hb2 : Below W0.heap.size W0 w2 := (Below.refl W0.heap.size W0).drew.trans b2; have HA2 := Lib.hid (H0.out.below hb2); have HB2 := Lib.hid hb2; have z0' := HA2.out.cells.1; unfold ptrAt at z0'; have y1' := (hb2.cell (p := ⟨w.heap.size, 1, none⟩) (by have := HS0.out; show w.heap.size < _; omega)).trans y1; clear b2 hb2)
    | (go_simp; go_at_call 17; refine (HSend.out _ HA2.out.one).mono ?_; rintro e w3 ⟨rfl, e3, o3⟩; have HA3 := Lib.hid (And.intro (HA2.out.left e3 o3) o3); clear e3 o3))
  all_goals
    have hA3 := HA3.out.1
    have z2' := hA3.cells.2.2.1
    unfold ptrAt at z2'
    have y1'' : w3.cell? ⟨w.heap.size, 1, none⟩ = some (.int .i64 nn) := (World.cell?_of_block (w := w2) (HA3.out.2.block w.heap.size (by have := HS0.out; have := HB2.out.size; omega) (fun e => absurd (HHi.out.2.1 _ e) (Nat.lt_irrefl _)))).trans y1'
    clear hA3 y1' z0'
    go_wp2
    go_region_law (first
      | (go_simp; go_at_call 11; refine (HBd.out _).mono ?_; rintro e w4 ⟨rfl, b4⟩; have hb4 : Below w3.heap.size w3 w4 := (Below.refl w3.heap.size w3).drew.trans b4; have HA4 := Lib.hid (And.intro (HA3.out.1.below hb4) hb4); have z2'' := HA4.out.1.cells.2.2.1; unfold ptrAt at z2''; clear b4 hb4)
      | (go_simp; go_at_call 20; refine (HRSend.out _ HA4.out.1.ref HA4.out.1.base).mono ?_; rintro e w5 ⟨vo', rfl, r5, o5, q5⟩; have HA5 := Lib.hid (And.intro (HA4.out.1.refs r5 o5 q5 (Fresh.refl _ _)) o5); clear r5 o5 q5))
    all_goals
      have h5 := HA5.out.1
      have hB2' : Below B w w2 := (HB0.out.mono HBw.out).trans (HB2.out.mono (Nat.le_trans HBw.out HB0.out.size))
      have hB3 : Below B w w3 := Only.below hB2' HA3.out.2 (Nat.le_trans HBw.out hB2'.size) HLo.out.2.1
      have hB4 : Below B w w4 := hB3.trans (HA4.out.2.mono (Nat.le_trans HBw.out hB3.size))
      have hB5 : Below B w w5 := Only.below hB4 HA5.out.2 (Nat.le_trans HBw.out hB4.size) HLo.out.2.2.2.1
      have hbA : Below w5.heap.size w5 (w5.alloc (.cells #[.string ⟨fr.1.toArray⟩] 46)) := (Below.refl _ w5).alloc (Nat.le_refl _) _
      have hsr := srow_one (World.alloc_heap_new w5 (.cells #[.string ⟨fr.1.toArray⟩] 46))
      have hA := h5.below hbA
      have HAdd := Lib.hid (E.add_calls hA.net hA.base 2 [fr.1] hsr (fun ad e e' => by
        cases e
        have := (h5.net.inlt e').2
        exact Nat.lt_irrefl _ this) (by simp; omega))
      have HA6 := Lib.hid (And.intro hA (And.intro hbA hB5))
      clear h5 hB2' hB3 hB4 hB5 hbA hsr hA z2' z2'' y1'' HSend HRSend HBd
      go_wp2_with fail
      refine HAdd.out.mono ?_
      rintro e w6 ⟨rfl, vt', vl', hn6, o6, hf6⟩
      have h6 := HA6.out.1.nets hn6 o6 hf6
      have hB6 : Below B w w6 := Only.below (HA6.out.2.2.trans (HA6.out.2.1.mono (Nat.le_trans HBw.out HA6.out.2.2.size))) o6 HA6.out.1.base HLo.out.1
      have hfs6 : (fs ++ E.laid [fr.1]).length ≤ fs.length + 200 := by
        rw [List.length_append]
        have : (E.laid [fr.1]).length ≤ 1 := by unfold E.laid; exact Nat.le_trans (List.length_filter_le _ _) (by simp)
        omega
      have htos : ∀ k ∈ tos ++ E.tosOf 2 [fr.1], k = 1 ∨ k = 2 := by
        intro k hk
        rcases List.mem_append.1 hk with hk | hk
        · exact HTo.out k hk
        · unfold E.tosOf at hk
          obtain ⟨_, _, rfl⟩ := List.mem_map.1 hk
          exact .inr rfl
      have hal : Alike (sendL s bd).2 t (rsend rx bd).2 ry (fs ++ E.laid [fr.1]) n m (c + 1) := by
        obtain ⟨a1, a2, a3, a4, a5, a6, a7, t1, t2, a8, a9, a10⟩ := HF.out
        have hw := rsend_few rx bd HSl.out
        refine ⟨HSim.out.2, a2, ?_, by rw [hw.1]; omega, by omega, by omega, by omega, by omega, by omega, hw.2.2 a8, a9, (rsend_who _ _).1.trans a10.1, (rsend_who _ _).2.trans a10.2⟩
        intro g hg
        rcases List.mem_append.1 hg with hg | hg
        · exact a3 g hg
        · have hm : g ∈ [fr.1] := (List.mem_filter.1 hg).1
          rw [List.mem_singleton] at hm
          rw [hm]
          exact HFr.out
      have HFin : Hid (DidOut w B z x y gx gy (fs.length + 200) (c + 1) (.returned (.bool true)) w6) :=
        ⟨rfl, hB6, _, _, _, _, _, _, _, _, _, _, _, _, _, _, h6, hal, hfs6, htos⟩
      clear h6 hB6 hfs6 htos hal hn6 o6 hf6 HA6 HA5 HA4 HA3 HA2 HB2 HAdd
      go_wp2
      go_ret
      exact HFin.out
set_option maxRecDepth 100000 in
set_option maxHeartbeats 8000000 in
theorem does_send2 {w : World} {B z : Nat} {x y : Blk} {gx gy n m : Nat} {s t : St} {rx ry : RSt} {vox vwx voy vwy : Value} {tos : List Nat} {fs : List Bytes} {vt vl : Value} {c : Nat} (h : BothAt w B z x y gx gy n m s t rx ry vox vwx voy vwy tos fs vt vl) (hf : Alike s t rx ry fs n m c) (ht : ∀ k ∈ tos, k = 1 ∨ k = 2) (hc : c ≤ 399) (hfl : fs.length ≤ 90000) (op nn : Int) (txt : Bytes) (hop : isInt op) (hnn : isInt nn) (hk : pickN op 13 = 2) :
    Calls Tryz.prog 7 #[.pointer (some ⟨z, 0, none⟩), .agg #[.int .i64 op, .int .i64 nn, .string ⟨txt.toArray⟩]] w (DidOut w B z x y gx gy (fs.length + 200) (c + 1)) := by
  obtain ⟨Al, cl, hvl⟩ := L5.own_slice h.net.l
  subst hvl
  obtain ⟨At, ct, hvt⟩ := L5.own_slice h.net.to
  subst hvt
  have hbx : (w.alloc (.cells #[.int .i64 op, .int .i64 nn, .string ⟨txt.toArray⟩] 28)).heap[w.heap.size]? = some (.cells #[.int .i64 op, .int .i64 nn, .string ⟨txt.toArray⟩] 28 (0, 0)) := World.alloc_heap_new w _
  have hB0 : Below w.heap.size w (w.alloc (.cells #[.int .i64 op, .int .i64 nn, .string ⟨txt.toArray⟩] 28)) := (Below.refl _ w).alloc (Nat.le_refl _) _
  have hs0 : (w.alloc (.cells #[.int .i64 op, .int .i64 nn, .string ⟨txt.toArray⟩] 28)).heap.size = w.heap.size + 1 := by simp
  obtain ⟨W0, hW0⟩ : ∃ W0, w.alloc (.cells #[.int .i64 op, .int .i64 nn, .string ⟨txt.toArray⟩] 28) = W0 := ⟨_, rfl⟩
  rw [hW0] at hbx hB0 hs0
  have h0 := h.below hB0
  have y0 : W0.cell? ⟨w.heap.size, 0, none⟩ = some (.int .i64 op) := by simp only [World.cell?]; rw [hbx]; rfl
  have y1 : W0.cell? ⟨w.heap.size, 1, none⟩ = some (.int .i64 nn) := by simp only [World.cell?]; rw [hbx]; rfl
  have y2 : W0.cell? ⟨w.heap.size, 2, none⟩ = some (.string ⟨txt.toArray⟩) := by simp only [World.cell?]; rw [hbx]; rfl
  obtain ⟨z0, z1, z2, z3, z4, z5⟩ := h0.cells
  unfold ptrAt at z0 z1 z2 z3
  have HP := Lib.hid (pick_is hop (n := 13) (by decide) (by decide) W0)
  have H0 := Lib.hid h0
  have HF := Lib.hid hf
  have HTo := Lib.hid ht
  have HB0 := Lib.hid hB0
  have HBw := Lib.hid h.base
  have HHi := Lib.hid h.highs
  have HLo := Lib.hid h.lows
  have HS0 := Lib.hid hs0
  clear h hf ht hbx hB0 hs0 h0
  go_enter Tryz.func7, Tryz.ntmps7
  go_wp2_with fail
  refine HP.out.mono ?_
  rintro e w1 ⟨rfl, rfl⟩
  rw [hk]
  have HBd := Lib.hid (fun V : World => body_calls hnn V)
  have hsl : (bodyL nn).length ≤ 100 := by unfold bodyL; rw [numL_len]; decide
  have HSl := Lib.hid hsl
  obtain ⟨bd, hbd⟩ : ∃ bd, bodyL nn = bd := ⟨_, rfl⟩
  rw [hbd] at HBd HSl
  have HSim := Lib.hid (sim_send HF.out.one bd)
  have HOk := Lib.hid H0.out.one.ok
  obtain ⟨fr, hfr⟩ : ∃ fr, (sendL s bd).1 = fr := ⟨_, rfl⟩
  have hfrl : fr.1.length ≤ 20000 := by rw [← hfr]; exact sendL_short s bd
  have HFr := Lib.hid hfrl
  have HSend : Hid (∀ V, EndAt V x n s → Calls Tryz.prog 17 #[.pointer (some ⟨x.g, 0, none⟩), .string ⟨bd.toArray⟩] V fun e w' => e = .returned (.tuple #[.string ⟨fr.1.toArray⟩, .int .i64 fr.2]) ∧ EndAt w' x n (sendL s bd).2 ∧ Only x.In V w') := fun V hV => by
    have := send_calls hV bd (by have := HSl.out; unfold maxLen; omega)
    unfold SendOut at this
    rw [hfr] at this
    exact this
  have HRSend : Hid (∀ V, RefAt V B gx rx vox vwx → B ≤ V.heap.size → Calls Tryz.prog 20 #[.pointer (some ⟨gx, 0, none⟩), .string ⟨bd.toArray⟩] V fun e w' => ∃ vo', e = .returned (.tuple #[.string ⟨fr.1.toArray⟩, .int .i64 fr.2]) ∧ RefAt w' B gx (rsend rx bd).2 vo' vwx ∧ Only (RIn gx vox vwx) V w' ∧ Fresh V vox vo') := fun V hV hBV => by
    have := rsend_calls hV hBV (by rw [← HF.out.one.me]; exact HOk.out.me1) (by rw [← HF.out.one.me]; exact HOk.out.me8) (by rw [← HF.out.one.peer]; exact HOk.out.peer8) (by have h1 := HF.out.s1; omega) (by rw [← HF.out.one.len]; exact HOk.out.room) bd (by have := HSl.out; omega) (fun _ => by have := pack_short rx.peer 1 (rx.sent + 1) bd; have := HSl.out; omega)
    unfold RSendOut at this
    rw [HSim.out.1, hfr] at this
    exact this
  clear hbd hfr hfrl hsl
  go_wp2
  go_region_law (first
    | (go_simp; go_at_call 11; refine (HBd.out _).mono ?_; rintro e w2 ⟨rfl, b2⟩; have hb2 : Below W0.heap.size W0 w2 := (Below.refl W0.heap.size W0).drew.trans b2; have HA2 := Lib.hid (H0.out.below hb2); have HB2 := Lib.hid hb2; have z0' := HA2.out.cells.1; unfold ptrAt at z0'; have y1' := (hb2.cell (p := ⟨w.heap.size, 1, none⟩) (by have := HS0.out; show w.heap.size < _; omega)).trans y1; clear b2 hb2)
    | (go_simp; go_at_call 17; refine (HSend.out _ HA2.out.one).mono ?_; rintro e w3 ⟨rfl, e3, o3⟩; have HA3 := Lib.hid (And.intro (HA2.out.left e3 o3) o3); clear e3 o3))
  all_goals
    have hA3 := HA3.out.1
    have z2' := hA3.cells.2.2.1
    unfold ptrAt at z2'
    have y1'' : w3.cell? ⟨w.heap.size, 1, none⟩ = some (.int .i64 nn) := (World.cell?_of_block (w := w2) (HA3.out.2.block w.heap.size (by have := HS0.out; have := HB2.out.size; omega) (fun e => absurd (HHi.out.2.1 _ e) (Nat.lt_irrefl _)))).trans y1'
    clear hA3 y1' z0'
    go_wp2
    go_region_law (first
      | (go_simp; go_at_call 11; refine (HBd.out _).mono ?_; rintro e w4 ⟨rfl, b4⟩; have hb4 : Below w3.heap.size w3 w4 := (Below.refl w3.heap.size w3).drew.trans b4; have HA4 := Lib.hid (And.intro (HA3.out.1.below hb4) hb4); have z2'' := HA4.out.1.cells.2.2.1; unfold ptrAt at z2''; clear b4 hb4)
      | (go_simp; go_at_call 20; refine (HRSend.out _ HA4.out.1.ref HA4.out.1.base).mono ?_; rintro e w5 ⟨vo', rfl, r5, o5, q5⟩; have HA5 := Lib.hid (And.intro (HA4.out.1.refs r5 o5 q5 (Fresh.refl _ _)) o5); clear r5 o5 q5))
    all_goals
      have h5 := HA5.out.1
      have hB2' : Below B w w2 := (HB0.out.mono HBw.out).trans (HB2.out.mono (Nat.le_trans HBw.out HB0.out.size))
      have hB3 : Below B w w3 := Only.below hB2' HA3.out.2 (Nat.le_trans HBw.out hB2'.size) HLo.out.2.1
      have hB4 : Below B w w4 := hB3.trans (HA4.out.2.mono (Nat.le_trans HBw.out hB3.size))
      have hB5 : Below B w w5 := Only.below hB4 HA5.out.2 (Nat.le_trans HBw.out hB4.size) HLo.out.2.2.2.1
      have hbA : Below w5.heap.size w5 (w5.alloc (.cells #[.string ⟨fr.1.toArray⟩] 46)) := (Below.refl _ w5).alloc (Nat.le_refl _) _
      have hsr := srow_one (World.alloc_heap_new w5 (.cells #[.string ⟨fr.1.toArray⟩] 46))
      have hA := h5.below hbA
      have HAdd := Lib.hid (E.add_calls hA.net hA.base 2 [fr.1] hsr (fun ad e e' => by
        cases e
        have := (h5.net.inlt e').2
        exact Nat.lt_irrefl _ this) (by simp; omega))
      have HA6 := Lib.hid (And.intro hA (And.intro hbA hB5))
      clear h5 hB2' hB3 hB4 hB5 hbA hsr hA z2' z2'' y1'' HSend HRSend HBd
      go_wp2_with fail
      refine HAdd.out.mono ?_
      rintro e w6 ⟨rfl, vt', vl', hn6, o6, hf6⟩
      have h6 := HA6.out.1.nets hn6 o6 hf6
      have hB6 : Below B w w6 := Only.below (HA6.out.2.2.trans (HA6.out.2.1.mono (Nat.le_trans HBw.out HA6.out.2.2.size))) o6 HA6.out.1.base HLo.out.1
      have hfs6 : (fs ++ E.laid [fr.1]).length ≤ fs.length + 200 := by
        rw [List.length_append]
        have : (E.laid [fr.1]).length ≤ 1 := by unfold E.laid; exact Nat.le_trans (List.length_filter_le _ _) (by simp)
        omega
      have htos : ∀ k ∈ tos ++ E.tosOf 2 [fr.1], k = 1 ∨ k = 2 := by
        intro k hk
        rcases List.mem_append.1 hk with hk | hk
        · exact HTo.out k hk
        · unfold E.tosOf at hk
          obtain ⟨_, _, rfl⟩ := List.mem_map.1 hk
          exact .inr rfl
      have hal : Alike (sendL s bd).2 t (rsend rx bd).2 ry (fs ++ E.laid [fr.1]) n m (c + 1) := by
        obtain ⟨a1, a2, a3, a4, a5, a6, a7, t1, t2, a8, a9, a10⟩ := HF.out
        have hw := rsend_few rx bd HSl.out
        refine ⟨HSim.out.2, a2, ?_, by rw [hw.1]; omega, by omega, by omega, by omega, by omega, by omega, hw.2.2 a8, a9, (rsend_who _ _).1.trans a10.1, (rsend_who _ _).2.trans a10.2⟩
        intro g hg
        rcases List.mem_append.1 hg with hg | hg
        · exact a3 g hg
        · have hm : g ∈ [fr.1] := (List.mem_filter.1 hg).1
          rw [List.mem_singleton] at hm
          rw [hm]
          exact HFr.out
      have HFin : Hid (DidOut w B z x y gx gy (fs.length + 200) (c + 1) (.returned (.bool true)) w6) :=
        ⟨rfl, hB6, _, _, _, _, _, _, _, _, _, _, _, _, _, _, h6, hal, hfs6, htos⟩
      clear h6 hB6 hfs6 htos hal hn6 o6 hf6 HA6 HA5 HA4 HA3 HA2 HB2 HAdd
      go_wp2
      go_ret
      exact HFin.out
end Go.Proofs.YtiodphkmllcjdaaGreat.L7
end
