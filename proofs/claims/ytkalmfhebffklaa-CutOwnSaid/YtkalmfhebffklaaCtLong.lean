/- Contract of cut.longest: the map of the longest rows. -/
import Derived.Test.YtkalmfhebffklaaCtMap
import Derived.Test.YtkalmfhebffklaaCtClone
namespace Go.Proofs.Ytkalmfhebffklaa.L11
open Go.ChangeShapes Go.WideShapes Go.ChangeAt Go.RowKit Go.Deep

theorem reps_read {w : World} {v : Value} {rs : List Rp} (h : RepsA w v rs) : ∃ A c, v = .slice A rs.length c ∧ rs.length ≤ maxLen ∧ ∀ j r, rs[j]? = some r → ∃ ad : Addr, A = some ad ∧ LogsA w r.lv r.lg ∧ isInt r.ep ∧ isInt r.co ∧ ∀ V, Below w.heap.size w V →
    V.cell? (ad.add (j * 4)) = some (.int .i64 r.fr) ∧ V.cell? ⟨(ad.add (j * 4)).block, (ad.add (j * 4)).off + 1, none⟩ = some (.int .i64 r.ep) ∧ V.cell? ⟨(ad.add (j * 4)).block, (ad.add (j * 4)).off + 2, none⟩ = some (.int .i64 r.co) ∧
    V.cell? ⟨(ad.add (j * 4)).block, (ad.add (j * 4)).off + 3, none⟩ = some r.lv := by
  obtain ⟨A, c, e, hf, hr⟩ := h.get
  refine ⟨A, c, e, hf, fun j r hj => ?_⟩
  obtain ⟨ad, e2, hb, c0, c1, c2, c3, hl, i1, i2⟩ := hr j r hj
  have hk : ∀ V, Below w.heap.size w V → ∀ o, V.cell? ⟨(ad.add (j * 4)).block, o, none⟩ = w.cell? ⟨(ad.add (j * 4)).block, o, none⟩ := fun V hV o => hV.cell (p := ⟨(ad.add (j * 4)).block, o, none⟩) (by rw [addr_blockC]; exact hb)
  exact ⟨ad, e2, hl, i1, i2, fun V hV => ⟨(hV.cell (p := ad.add (j * 4)) (by rw [addr_blockC]; exact hb)).trans c0, (hk V hV _).trans c1, (hk V hV _).trans c2, (hk V hV _).trans c3⟩⟩
theorem logs_read {w : World} {v : Value} {ls : List Lg} (h : LogsA w v ls) : ∃ A c, v = .slice A ls.length c ∧ ls.length ≤ maxLen ∧ ∀ j l, ls[j]? = some l → ∃ ad : Addr, A = some ad ∧ ItAt w l.it ∧ isInt l.se ∧ ∀ V, Below w.heap.size w V →
    V.cell? (ad.add (j * 2)) = some (.int .i64 l.se) ∧ V.cell? ⟨(ad.add (j * 2)).block, (ad.add (j * 2)).off + 1, none⟩ = some l.it.v := by
  obtain ⟨A, c, e, hf, hr⟩ := h.get
  refine ⟨A, c, e, hf, fun j r hj => ?_⟩
  obtain ⟨ad, e2, hb, c0, c1, hl, i1⟩ := hr j r hj
  exact ⟨ad, e2, hl, i1, fun V hV => ⟨(hV.cell (p := ad.add (j * 2)) (by rw [addr_blockC]; exact hb)).trans c0, (hV.cell (p := ⟨(ad.add (j * 2)).block, _, none⟩) (by rw [addr_blockC]; exact hb)).trans c1⟩⟩
theorem parts_read {w : World} {v : Value} {ps : List Pt} (h : PartsA w v ps) : ∃ A c, v = .slice A ps.length c ∧ ps.length ≤ maxLen ∧ ∀ j p, ps[j]? = some p → ∃ ad : Addr, A = some ad ∧ ItAt w p.it ∧ intsP p ∧ ∀ V, Below w.heap.size w V →
    V.cell? (ad.add (j * 4)) = some (.int .i64 p.ep) ∧ V.cell? ⟨(ad.add (j * 4)).block, (ad.add (j * 4)).off + 1, none⟩ = some (.int .i64 p.co) ∧ V.cell? ⟨(ad.add (j * 4)).block, (ad.add (j * 4)).off + 2, none⟩ = some (.int .i64 p.se) ∧
    V.cell? ⟨(ad.add (j * 4)).block, (ad.add (j * 4)).off + 3, none⟩ = some p.it.v := by
  obtain ⟨A, c, e, hf, hr⟩ := h.get
  refine ⟨A, c, e, hf, fun j r hj => ?_⟩
  obtain ⟨ad, e2, hb, c0, c1, c2, c3, hl, i1, i2, i3⟩ := hr j r hj
  have hk : ∀ V, Below w.heap.size w V → ∀ o, V.cell? ⟨(ad.add (j * 4)).block, o, none⟩ = w.cell? ⟨(ad.add (j * 4)).block, o, none⟩ := fun V hV o => hV.cell (p := ⟨(ad.add (j * 4)).block, o, none⟩) (by rw [addr_blockC]; exact hb)
  exact ⟨ad, e2, hl, ⟨i1, i2, i3⟩, fun V hV => ⟨(hV.cell (p := ad.add (j * 4)) (by rw [addr_blockC]; exact hb)).trans c0, (hk V hV _).trans c1, (hk V hV _).trans c2, (hk V hV _).trans c3⟩⟩

theorem field_items (a b c : Int) (A : Option Addr) (n k : Nat) (W : World) : (Instr.field 60 (.agg #[.int .i64 a, .int .i64 b, .int .i64 c, .slice A n k]) 2).run Try.prog W = .ok (.slice A n k) W := by kernel_rfl
/-- The map, when so many reports have been looked at. -/
def LongO (w : World) (rs : List Rp) (k : Nat) (vi : Value) (wr : World) : Prop :=
  ∃ i n : Nat, k + i = rs.length ∧ vi = .int .i64 i ∧ n ≤ ((rs.take i).flatMap ptsOf).length ∧ MapW wr w.heap.size n (cutP (rs.take i)) ∧ Below w.heap.size w wr
/-- .. and so many logs of the next one. -/
def LongI (w : World) (B : Nat) (W1 : World) (pre : List Rp) (r : Rp) (k : Nat) (vi : Value) (wr : World) : Prop :=
  ∃ j n : Nat, k + j = r.lg.length ∧ vi = .int .i64 j ∧ n ≤ (pre.flatMap ptsOf).length + j ∧ MapW wr B n (((ptsOf r).take j).foldl stepP (cutP pre)) ∧ W1.grownBy wr (some B) ∧ Below w.heap.size w wr
def LongOut (w : World) (rs : List Rp) (e : Ending) (w' : World) : Prop :=
  ∃ n, e = .returned (.map (some w.heap.size)) ∧ n ≤ (rs.flatMap ptsOf).length ∧ MapW w' w.heap.size n (cutP rs) ∧ Below w.heap.size w w'

theorem box_new {w W : World} {cs : Array Value} {t : TypeId} (h : w.alloc (.cells cs t) = W) : W.heap[w.heap.size]? = some (.cells cs t (0, 0)) ∧ Below w.heap.size w W ∧ W.heap.size = w.heap.size + 1 := by
  subst h
  exact ⟨World.alloc_heap_new w _, (Below.refl _ w).alloc (Nat.le_refl _) _, by simp⟩
theorem box_cell {W : World} {q : Nat} {cs : Array Value} {t : TypeId} (h : W.heap[q]? = some (.cells cs t (0, 0))) (j : Nat) : W.cell? ⟨q, j, none⟩ = cs[j]? := by
  simp only [World.cell?]; rw [h]; simp
theorem lookP_shape (ps : List Pt) (x : Pt) : ∃ (a b c : Int) (A : Option Addr) (k : Nat), lookP ps x = .agg #[.int .i64 a, .int .i64 b, .int .i64 c, .slice A (lenAt ps x) k] := by
  unfold lookP lenAt
  cases ps.find? (fun p => decide (keyP p = keyP x)) with
  | none => exact ⟨0, 0, 0, none, 0, rfl⟩
  | some p => exact ⟨p.ep, p.co, p.se, p.it.a, p.it.c, rfl⟩
theorem take_nextR {α : Type} (xs : List α) {k : Nat} {x : α} (h : xs[k]? = some x) : xs.take (k + 1) = xs.take k ++ [x] := by
  rw [List.take_add_one, h]; rfl
theorem grow_drew (w : World) (n : Nat) (row : Option Nat) : w.grownBy (w.drewN n) row := ⟨rfl, rfl, rfl, Nat.le_refl _, fun _ _ _ => rfl⟩

set_option maxRecDepth 100000 in
set_option maxHeartbeats 8000000 in
theorem longest_calls {v : Value} {rs : List Rp} (w : World) (h : RepsA w v rs) (htot : (rs.flatMap ptsOf).length ≤ 1000000) : Calls Try.prog 47 #[v] w (LongOut w rs) := by
  obtain ⟨A, c, rfl, hf, hr⟩ := reps_read h
  have HR := Lib.hid hr
  have HT := Lib.hid htot
  unfold maxLen at hf
  have H0 : Hid (LongO w rs rs.length (.int .i64 0) (w.alloc (.map #[] 0))) := ⟨0, 0, by omega, rfl, by simp, (by show MapW _ _ 0 []; exact MapW.made w), (Below.refl _ w).alloc (Nat.le_refl _) _⟩
  clear h hr htot
  have hmm := @run_makeMap Try.prog
  go_enter Try.func47, Try.ntmps47
  go_wp2
  clear hmm
  go_loopg [12] rs.length (fun k v12 wr => LongO w rs k v12 wr)
  case atStart => exact H0.out
  clear H0
  case round =>
    obtain ⟨i, n, hk, rfl, hn, hm, hB⟩ := hrel
    by_cases hil : i < rs.length
    · obtain ⟨r, hx⟩ : ∃ r, rs[i]? = some r := ⟨_, List.getElem?_eq_getElem hil⟩
      obtain ⟨ad, rfl, hl, i1, i2, hc⟩ := HR.out i r hx
      obtain ⟨c0, c1, c2, c3⟩ := hc wr hB
      obtain ⟨A2, cc2, elv, hf2, hlr⟩ := logs_read hl
      have j1 : (i : Int) < (rs.length : Int) := by omega
      have j2 : (0 : Int) ≤ (i : Int) := by omega
      rw [elv] at c3
      unfold maxLen at hf2
      have HLr := Lib.hid hlr
      have hgk := Lib.hid (show gk - 1 < gk by omega)
      have HI := Lib.hid (And.intro i1 i2)
      have hbs := hB.size
      have hml := hm.lt
      obtain ⟨W1, hW1⟩ : ∃ W1, wr.alloc (.cells #[.int .i64 r.fr, .int .i64 r.ep, .int .i64 r.co, .slice A2 r.lg.length cc2] 73) = W1 := ⟨_, rfl⟩
      obtain ⟨hq, hb1, hs1⟩ := box_new hW1
      have HQ := Lib.hid hq
      have d3 : W1.cell? ⟨wr.heap.size, 3, none⟩ = some (.slice A2 r.lg.length cc2) := box_cell hq 3
      have HTot : Hid (((rs.take i).flatMap ptsOf).length + r.lg.length ≤ 1000000) := by
        show ((rs.take i).flatMap ptsOf).length + r.lg.length ≤ 1000000
        have h1 := HT.out
        have h2 : rs = rs.take i ++ r :: rs.drop (i + 1) := by
          rw [← (List.getElem?_eq_some_iff.1 hx).2, ← List.drop_eq_getElem_cons hil, List.take_append_drop]
        rw [h2, List.flatMap_append, List.flatMap_cons, List.length_append, List.length_append] at h1
        have h3 : (ptsOf r).length = r.lg.length := by simp [ptsOf]
        rw [h3] at h1
        exact Nat.le_trans (by omega) h1
      have HStart : Hid (LongI w w.heap.size W1 (rs.take i) r r.lg.length (.int .i64 0) W1) := ⟨0, n, by omega, rfl, by omega, by simpa using hm.same (hb1.block _ hml), ⟨rfl, rfl, rfl, Nat.le_refl _, fun _ _ _ => rfl⟩, hB.trans (hb1.mono hbs)⟩
      have HEnd : Hid (∀ V vi, LongI w w.heap.size W1 (rs.take i) r 0 vi V → LongO w rs (gk - 1) (.int .i64 ((i + 1 : Nat) : Int)) V) := by
        rintro V vi ⟨j, n2, e1, _, e3, e4, _, e6⟩
        obtain rfl : j = r.lg.length := by omega
        have hpl : (ptsOf r).length = r.lg.length := by simp [ptsOf]
        rw [show (ptsOf r).take r.lg.length = ptsOf r from List.take_of_length_le (by omega)] at e4
        refine ⟨i + 1, n2, by omega, rfl, ?_, ?_, e6⟩
        · rw [take_nextR rs hx, List.flatMap_append, List.length_append]
          simpa [hpl] using e3
        · unfold cutP
          rw [take_nextR rs hx, List.flatMap_append, List.foldl_append]
          simpa [cutP] using e4
      have hqB : wr.heap.size ≠ w.heap.size := by omega
      obtain ⟨g0, hg0⟩ : ∃ g0, gk - 1 = g0 := ⟨_, rfl⟩
      rw [hg0] at HEnd hgk
      clear hg0
      clear hk hx hn hm hB hl hc hlr hil hq hb1 i1 i2 hbs hml HR HT elv
      generalize hqq : wr.heap.size = q at *
      generalize rs.take i = pre at *
      go_wp2
      clear c0 c1 c2 c3 d3 hW1 hqq j2 hs1
      go_loopg [19] r.lg.length (fun k v19 wr => LongI w w.heap.size W1 pre r k v19 wr)
      case atStart => exact HStart.out
      clear HStart
      case round =>
        obtain ⟨j, n2, hk, rfl, hn, hm, hg, hB⟩ := hrel
        have hqW := (hg.block q (Array.getElem?_eq_some_iff.1 HQ.out).1 (fun e => hqB (by cases e; rfl))).trans HQ.out
        by_cases hjl : j < r.lg.length
        · obtain ⟨l, hx⟩ : ∃ l, r.lg[j]? = some l := ⟨_, List.getElem?_eq_getElem hjl⟩
          obtain ⟨ad2, rfl, hit, i3, hc2⟩ := HLr.out j l hx
          obtain ⟨a0, a1⟩ := hc2 wr hB
          have j1 : (j : Int) < (r.lg.length : Int) := by omega
          have j2 : (0 : Int) ≤ (j : Int) := by omega
          obtain ⟨se, it⟩ := l
          obtain ⟨A3, c3, l3⟩ := it
          simp only [It.v] at a0 a1
          have hl3 := Nat.le_trans hit.le hit.few
          simp only at hl3
          unfold maxLen at hl3
          have hgk2 := Lib.hid (show gk - 1 < gk by omega)
          obtain ⟨W2, hW2⟩ : ∃ W2, wr.alloc (.cells #[.int .i64 se, .slice A3 l3.length c3] 76) = W2 := ⟨_, rfl⟩
          obtain ⟨W3, hW3⟩ : ∃ W3, W2.alloc (.cells #[.int .i64 r.ep, .int .i64 r.co, .int .i64 se] 104) = W3 := ⟨_, rfl⟩
          obtain ⟨p2, b2, s2⟩ := box_new hW2
          obtain ⟨p3, b3, s3⟩ := box_new hW3
          have hq2 := (b2.block _ (Array.getElem?_eq_some_iff.1 hqW).1).trans hqW
          have hq3 := (b3.block _ (Array.getElem?_eq_some_iff.1 hq2).1).trans hq2
          have p23 := (b3.block _ (Array.getElem?_eq_some_iff.1 p2).1).trans p2
          have hm3 : MapW W3 w.heap.size n2 (((ptsOf r).take j).foldl stepP (cutP pre)) := (hm.same (b2.block _ hm.lt)).same (b3.block _ (by have := hm.lt; have := b2.size; omega))
          have b13 := box_cell hq2 1
          have b14 := box_cell hq2 2
          have e20 := box_cell p2 0
          have f0 : W3.cell? ⟨q, 1, none⟩ = some (.int .i64 r.ep) := box_cell hq3 1
          have f1 : W3.cell? ⟨q, 2, none⟩ = some (.int .i64 r.co) := box_cell hq3 2
          have f2 : W3.cell? ⟨wr.heap.size, 0, none⟩ = some (.int .i64 se) := box_cell p23 0
          have f3 : W3.cell? ⟨wr.heap.size, 1, none⟩ = some (.slice A3 l3.length c3) := box_cell p23 1
          have f4 : W3.cell? ⟨W2.heap.size, 0, none⟩ = some (.int .i64 r.ep) := box_cell p3 0
          have f5 : W3.cell? ⟨W2.heap.size, 1, none⟩ = some (.int .i64 r.co) := box_cell p3 1
          have f6 : W3.cell? ⟨W2.heap.size, 2, none⟩ = some (.int .i64 se) := box_cell p3 2
          obtain ⟨x, hxx⟩ : ∃ x : Pt, x = ⟨r.ep, r.co, se, ⟨A3, c3, l3⟩⟩ := ⟨_, rfl⟩
          have hxi : intsP x := by rw [hxx]; exact ⟨HI.out.1, HI.out.2, i3⟩
          have hlook : ∀ m : Nat, (Instr.lookup 102 (.map (some w.heap.size)) (.agg #[.int .i64 r.ep, .int .i64 r.co, .int .i64 se]) false).run Try.prog (W3.drewN m) = .ok (lookP (((ptsOf r).take j).foldl stepP (cutP pre)) x) (W3.drewN m) := fun m => by
            have := (hm3.same (W' := W3.drewN m) rfl).look hxi
            rw [hxx] at this ⊢
            exact this
          obtain ⟨k0, k1, k2, A5, k5, hsh⟩ := lookP_shape (((ptsOf r).take j).foldl stepP (cutP pre)) x
          rw [hsh] at hlook
          have HM3 := Lib.hid hm3
          have HXX := Lib.hid hxx
          have HXI := Lib.hid hxi
          have HG3 : Hid (W1.grownBy W3 (some w.heap.size)) := by
            have g1 := World.grownBy_alloc wr (.cells #[.int .i64 se, .slice A3 l3.length c3] 76) (some w.heap.size)
            have g2 := World.grownBy_alloc W2 (.cells #[.int .i64 r.ep, .int .i64 r.co, .int .i64 se] 104) (some w.heap.size)
            rw [hW2] at g1
            rw [hW3] at g2
            exact (hg.trans g1).trans g2
          have HB3 : Hid (Below w.heap.size w W3) := (hB.trans (b2.mono hB.size)).trans (b3.mono (Nat.le_trans hB.size b2.size))
          have HK := Lib.hid (And.intro hk (And.intro hn hx))
          have HStepY : Hid (lenAt (((ptsOf r).take j).foldl stepP (cutP pre)) x < l3.length → ∀ m, ∃ W', (Instr.mapUpdate 102 (.map (some w.heap.size)) (.agg #[.int .i64 r.ep, .int .i64 r.co, .int .i64 se]) (.agg #[.int .i64 r.ep, .int .i64 r.co, .int .i64 se, .slice A3 l3.length c3])).run Try.prog (W3.drewN m) = .ok () W' ∧ LongI w w.heap.size W1 pre r (gk - 1) (.int .i64 ((j + 1 : Nat) : Int)) W') := fun hlt m => by
            have h2 : n2 < maxLen := by have := HTot.out; unfold maxLen; omega
            have h3 : lenAt (((ptsOf r).take j).foldl stepP (cutP pre)) x < x.it.l.length := by rw [hxx] at hlt ⊢; exact hlt
            obtain ⟨W', k1, k2, k3, k4⟩ := (hm3.same (W' := W3.drewN m) rfl).set h2 hxi h3
            refine ⟨W', ?_, j + 1, n2 + 1, by omega, rfl, by omega, ?_, (HG3.out.trans (grow_drew W3 m _)).trans k3, ((HB3.out.trans (L5.below_drewN (Below.refl _ _) m)).grown k3 (Nat.le_trans HB3.out.size (Nat.le_refl _)) (fun q e => by cases e; exact Nat.le_refl _))⟩
            · rw [hxx] at k1; exact k1
            · have e : (ptsOf r)[j]? = some x := by rw [ptsOf, List.getElem?_map, hx, hxx]; rfl
              rw [take_nextR _ e, List.foldl_append]
              exact k2
          have HStepN : Hid (¬ lenAt (((ptsOf r).take j).foldl stepP (cutP pre)) x < l3.length → ∀ m, LongI w w.heap.size W1 pre r (gk - 1) (.int .i64 ((j + 1 : Nat) : Int)) (W3.drewN m)) := fun hlt m => by
            have h3 : ¬ lenAt (((ptsOf r).take j).foldl stepP (cutP pre)) x < x.it.l.length := by rw [hxx] at hlt ⊢; exact hlt
            have hso : SortedP (((ptsOf r).take j).foldl stepP (cutP pre)) := fold_sorted (cutP_sorted pre)
            refine ⟨j + 1, n2, by omega, rfl, by omega, ?_, HG3.out.trans (grow_drew W3 m _), HB3.out.trans (L5.below_drewN (Below.refl _ _) m)⟩
            have e : (ptsOf r)[j]? = some x := by rw [ptsOf, List.getElem?_map, hx, hxx]; rfl
            rw [take_nextR _ e, List.foldl_append]
            show MapW _ _ _ (stepP _ x)
            rw [stepP_no hso h3]
            exact hm3.same rfl
          have hfi := field_items
          generalize lenAt (((ptsOf r).take j).foldl stepP (cutP pre)) x = L0 at *
          clear hm hg hB hk hn hx hit i3 hc2 hqW hxx hxi hm3 hq2 hq3 p2 p3 p23 b2 b3 s2 s3 hsh HM3 HXX HXI HG3 HB3 HK HTot HLr HQ
          by_cases hlt : L0 < l3.length
          · have m1 : (L0 : Int) < (l3.length : Int) := by omega
            have HY := Lib.hid (HStepY.out hlt)
            clear HStepY HStepN hlt
            go_wp2
            refine region_stillC (by kernel_rfl) (by kernel_rfl) ?_
            repeat
              (refine Quietly.step (fun K hK => ?_)
               go_simp
               refine hK _ ?_
               clear hK K)
            refine Quietly.none ?_
            rintro w5 ⟨nq, rfl⟩
            obtain ⟨W5, hset, hL⟩ := HY.out nq
            have HL := Lib.hid hL
            clear hL HY
            go_wp2
            go_roundg (gk - 1)
            case measure => exact hgk2.out
            case rel => exact HL.out
          · have m1 : ¬ (L0 : Int) < (l3.length : Int) := by omega
            have HY := Lib.hid (HStepN.out hlt)
            clear HStepY HStepN hlt
            go_wp2
            refine region_stillC (by kernel_rfl) (by kernel_rfl) ?_
            repeat
              (refine Quietly.step (fun K hK => ?_)
               go_simp
               refine hK _ ?_
               clear hK K)
            refine Quietly.none ?_
            rintro w5 ⟨nq, rfl⟩
            have HL := Lib.hid (HY.out nq)
            clear HY
            go_wp2
            go_roundg (gk - 1)
            case measure => exact hgk2.out
            case rel => exact HL.out
        · have HF := Lib.hid (HEnd.out wr _ ⟨j, n2, by omega, rfl, hn, hm, hg, hB⟩)
          have j1 : ¬ (j : Int) < (r.lg.length : Int) := by omega
          clear hk hn hm hg hB hqW hjl
          go_wp2
          go_roundg g0
          case measure => exact hgk.out
          case rel => exact HF.out
    · obtain rfl : i = rs.length := by omega
      have j1 : ¬ ((rs.length : Int) < (rs.length : Int)) := by omega
      rw [List.take_length] at hn hm
      have HF : Hid (LongOut w rs (.returned (.map (some w.heap.size))) wr) := ⟨n, rfl, hn, hm, hB⟩
      clear hk hn hm hB
      go_wp2
      go_ret
      exact HF.out
end Go.Proofs.Ytkalmfhebffklaa.L11
