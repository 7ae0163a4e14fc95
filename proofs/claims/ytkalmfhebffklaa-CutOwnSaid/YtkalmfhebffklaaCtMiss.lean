/- Contract of cut.Missing: of each part of an old view what one lacks. -/
import Derived.Test.YtkalmfhebffklaaCtFirst
import Derived.Test.YtkalmfhebffklaaCtBegin
import Derived.Test.YtkalmfhebffklaaCtCut
import Derived.Deep.RegionHeld3
import Derived.Deep.AppendLies
namespace Go.Proofs.Ytkalmfhebffklaa.L11
open Go.ChangeShapes Go.WideShapes Go.ChangeAt Go.RowKit Go.Deep

/-- What a log says. -/
abbrev LCore := Int × List Bytes
def Lg.core (l : Lg) : LCore := (l.se, l.it.l)
def ownC (lc : List LCore) (s : Int) : List Bytes := match lc.find? (fun l => decide (l.1 = s)) with | some l => l.2 | none => []
def missOne (ep co : Int) (lc : List LCore) (c : Core) : List LCore :=
  if c.1 = ep ∧ c.2.1 = co ∧ (ownC lc c.2.2.1).length < c.2.2.2.length ∧ beginsL (ownC lc c.2.2.1) c.2.2.2 = true then [(c.2.2.1, c.2.2.2.drop (ownC lc c.2.2.1).length)] else []
def missC (cs : List Core) (ep co : Int) (lc : List LCore) : List LCore := cs.flatMap (missOne ep co lc)
/-- What stands in the map of the first logs. -/
theorem find_own (ls : List Lg) (s : Int) : ∃ (k0 : Int) (A : Option Addr) (c : Nat), valF (findL ls s) = .agg #[.int .i64 k0, .slice A (ownC (ls.map Lg.core) s).length c] ∧ ((findL ls s = none ∧ A = none ∧ c = 0 ∧ ownC (ls.map Lg.core) s = []) ∨ ∃ l ∈ ls, l.it = ⟨A, c, ownC (ls.map Lg.core) s⟩) := by
  have e : (ls.map Lg.core).find? (fun l => decide (l.1 = s)) = (findL ls s).map Lg.core := by
    unfold findL
    rw [List.find?_map]
    rfl
  unfold ownC
  rw [e]
  cases hf : findL ls s with
  | none => exact ⟨0, none, 0, rfl, .inl ⟨rfl, rfl, rfl, rfl⟩⟩
  | some l =>
    refine ⟨l.se, l.it.a, l.it.c, rfl, .inr ⟨l, ?_, rfl⟩⟩
    unfold findL at hf
    exact List.mem_of_find?_eq_some hf
theorem own_item {w : World} {ls : List Lg} (h : ∀ l ∈ ls, ItAt w l.it) (s : Int) {A : Option Addr} {c : Nat} (hs : (findL ls s = none ∧ A = none ∧ c = 0 ∧ ownC (ls.map Lg.core) s = []) ∨ ∃ l ∈ ls, l.it = ⟨A, c, ownC (ls.map Lg.core) s⟩) : ItAt w ⟨A, c, ownC (ls.map Lg.core) s⟩ := by
  rcases hs with ⟨_, rfl, rfl, e⟩ | ⟨l, hl, e⟩
  · rw [e]
    exact ⟨Nat.le_refl _, by simp, fun _ => rfl, by simp, fun j z hz => by simp at hz⟩
  · rw [← e]; exact h l hl
theorem ItAt.drop {w : World} {A : Option Addr} {c : Nat} {l : List Bytes} (h : ItAt w ⟨A, c, l⟩) {n : Nat} (hn : n < l.length) : ∃ ad : Addr, A = some ad ∧ ItAt w ⟨some (ad.add n), c - n, l.drop n⟩ := by
  have hle := h.le
  simp only at hle
  obtain ⟨z0, hz0⟩ : ∃ z, l[n]? = some z := ⟨_, List.getElem?_eq_getElem hn⟩
  obtain ⟨ad, e, _, _⟩ := h.reads n z0 hz0
  refine ⟨ad, e, ⟨by rw [List.length_drop]; simp only; omega, by have := h.few; simp only at this ⊢; omega, (fun e => by cases e), fun z hz => h.short z (List.mem_of_mem_drop hz), fun j z hz => ?_⟩⟩
  rw [List.getElem?_drop] at hz
  obtain ⟨ad', e', h1, h2⟩ := h.reads (n + j) z hz
  simp only at e' e
  rw [e] at e'
  cases e'
  exact ⟨_, rfl, by rw [addr_blockC]; exact h1, by rw [add_add]; exact h2⟩
/-- A row of texts of the call's own. -/
structure OwnIt (w : World) (B : Nat) (x : It) : Prop where
  own : w.ownsRow B 31 1 x.v x.l.length (txt x.l)
  short : ∀ z ∈ x.l, z.length ≤ maxLen
theorem OwnIt.at {w : World} {B : Nat} {x : It} (h : OwnIt w B x) : ItAt w x := by
  have hf : x.l.length ≤ maxLen := by
    rcases h.own.2 with ⟨_, h0⟩ | ⟨g, cap, cur, _, _, _, h1, h2, _⟩
    · omega
    · omega
  obtain ⟨y, e1, e2, e3⟩ := ItAt.of_own h.own h.short hf
  obtain ⟨a, c, l⟩ := x
  obtain ⟨a', c', l'⟩ := y
  simp only [It.v] at e1 e2
  subst e2
  cases e1
  exact e3
theorem OwnIt.grown {w w' : World} {B : Nat} {x : It} (h : OwnIt w B x) {v : Value} {n : Nat} {xs : List Value} {e : TypeId} {B' size : Nat} (hr : w.ownsRow B' e size v n xs) (he : e ≠ 31) (hg : w.grownBy w' v.ownBlock) : OwnIt w' B x := by
  refine ⟨h.own.kept hg ?_, h.short⟩
  rcases h.own.2 with ⟨e1, _⟩ | ⟨g, cap, cur, e1, _, h1, _⟩
  · rw [e1]; exact .inl rfl
  · right
    intro e2
    rw [e1] at e2
    rcases hr.2 with ⟨e3, _⟩ | ⟨g', cap', cur', e3, _, h3, _⟩
    · rw [e3] at e2; cases e2
    · rw [e3] at e2
      have : g = g' := by cases e2; rfl
      subst this
      rw [h1] at h3
      cases h3
      exact he rfl
def MissGo (w1 : World) (ps : List Pt) (ep co : Int) (lc : List LCore) (k : Nat) (v8 vi : Value) (wr : World) : Prop :=
  ∃ (i : Nat) (ms : List Lg), k + i = ps.length ∧ vi = .int .i64 i ∧ ms.map Lg.core = missC ((ps.take i).map Pt.core) ep co lc ∧ ms.length ≤ i ∧ (∀ l ∈ ms, OwnIt wr w1.heap.size l.it ∧ isInt l.se) ∧
    wr.ownsRow w1.heap.size 76 2 v8 ms.length (flatG ms) ∧ Below w1.heap.size w1 wr
def LogsOut (w : World) (cs : List LCore) (e : Ending) (w' : World) : Prop :=
  ∃ (v : Value) (ls : List Lg), e = .returned v ∧ ls.map Lg.core = cs ∧ LogsA w' v ls ∧ Below w.heap.size w w'
theorem field_log (a : Int) (A : Option Addr) (n k : Nat) (W : World) : (Instr.field 76 (.agg #[.int .i64 a, .slice A n k]) 1).run Try.prog W = .ok (.slice A n k) W := by kernel_rfl
theorem info_log : (Try.prog.info? 76).map (fun i => (i.zero, i.size, i.bytes)) = some (some zeroLg, 2, 32) := by kernel_rfl
theorem miss_step {ps : List Pt} {i : Nat} {p : Pt} (hp : ps[i]? = some p) (ep co : Int) (lc : List LCore) : missC ((ps.take (i + 1)).map Pt.core) ep co lc = missC ((ps.take i).map Pt.core) ep co lc ++ missOne ep co lc p.core := by
  rw [take_nextR ps hp]
  simp [missC]
set_option maxRecDepth 100000 in
set_option maxHeartbeats 8000000 in
theorem miss_calls {v u : Value} {ps : List Pt} {ls : List Lg} {ep co : Int} (w : World) (h : PartsA w v ps) (hl : LogsA w u ls) (hps : ps.length ≤ 1000000) (hls : ls.length ≤ 1000000) (hits : ∀ p ∈ ps, p.it.l.length ≤ 4000000000) :
    Calls Try.prog 31 #[v, .agg #[.int .i64 ep, .int .i64 co], u] w (LogsOut w (missC (ps.map Pt.core) ep co (ls.map Lg.core))) := by
  obtain ⟨i0, hi, hz0, hz1, hz2⟩ := info_partsC info_log
  obtain ⟨W0, hW0⟩ : ∃ W0, w.alloc (.cells #[.int .i64 ep, .int .i64 co] 55) = W0 := ⟨_, rfl⟩
  obtain ⟨p0, b0, s0⟩ := box_new hW0
  have HFi := Lib.hid (first_calls W0 (hl.below b0) hls)
  have HP := Lib.hid (h.below b0)
  have HL := Lib.hid (hl.below b0)
  have HB0 := Lib.hid b0
  have HP0 := Lib.hid p0
  have HS := Lib.hid hits
  clear h hl b0 p0 hits s0
  go_enter Try.func31, Try.ntmps31
  go_wp2_with fail
  refine HFi.out.mono ?_
  rintro e w1 ⟨n, rfl, hm, b1⟩
  obtain ⟨A, c, rfl, hf, hr⟩ := parts_read (HP.out.below b1)
  have hq1 := (b1.block _ (Array.getElem?_eq_some_iff.1 HP0.out).1).trans HP0.out
  have HQ := Lib.hid hq1
  have HM := Lib.hid hm
  have HR := Lib.hid hr
  have HIt : Hid (∀ l ∈ ls, ItAt w1 l.it) := fun l hl => ((HL.out.its l hl).1).below b1
  have HB1 : Hid (Below w.heap.size w w1) := HB0.out.trans (b1.mono HB0.out.size)
  have H0 : Hid (MissGo w1 ps ep co (ls.map Lg.core) ps.length (.slice none 0 0) (.int .i64 0) w1) := ⟨0, [], by omega, rfl, rfl, by simp, by simp, World.ownsRow_nil _ _ _ _, Below.refl _ _⟩
  obtain ⟨lc, hlc⟩ : ∃ lc, ls.map Lg.core = lc := ⟨_, rfl⟩
  have hsz1 : w.heap.size < w1.heap.size := by have := b1.size; have := (Array.getElem?_eq_some_iff.1 HP0.out).1; omega
  have hszm := hm.lt
  rw [hlc] at H0 ⊢
  have HLc := Lib.hid hlc
  clear hq1 hm hr b1 HFi HP HL HB0 HP0 hW0 hf hlc
  generalize W0.heap.size = mb at *
  clear W0
  go_wp2
  go_loopg [8, 16] ps.length (fun k v8 v16 wr => MissGo w1 ps ep co lc k v8 v16 wr)
  case atStart => exact H0.out
  clear H0
  case round =>
    obtain ⟨i, ms, hk, rfl, hco, hml, hit, hrow, hB⟩ := hrel
    by_cases hil : i < ps.length
    · obtain ⟨p, hx⟩ : ∃ p, ps[i]? = some p := ⟨_, List.getElem?_eq_getElem hil⟩
      obtain ⟨ad, rfl, hpi, hpt, hc⟩ := HR.out i p hx
      obtain ⟨c0, c1, c2, c3⟩ := hc wr hB
      have j1 : (i : Int) < (ps.length : Int) := by omega
      have j2 : (0 : Int) ≤ (i : Int) := by omega
      have hgk := Lib.hid (show gk - 1 < gk by omega)
      have hbs := hB.size
      have hstep := miss_step hx ep co lc
      have hps4 := HS.out p (List.mem_of_getElem? hx)
      obtain ⟨pe, pc, se, ⟨A3, c3', l3⟩⟩ := p
      simp only [It.v] at c0 c1 c2 c3 hpi hps4
      obtain ⟨hpe, hpc, hse⟩ := hpt
      simp only at hpe hpc hse
      obtain ⟨W2, hW2⟩ : ∃ W2, wr.alloc (.cells #[.int .i64 pe, .int .i64 pc, .int .i64 se, .slice A3 l3.length c3'] 60) = W2 := ⟨_, rfl⟩
      obtain ⟨p2, b2, s2⟩ := box_new hW2
      have d0 : W2.cell? ⟨wr.heap.size, 0, none⟩ = some (.int .i64 pe) := box_cell p2 0
      have d1 : W2.cell? ⟨wr.heap.size, 1, none⟩ = some (.int .i64 pc) := box_cell p2 1
      have d2 : W2.cell? ⟨wr.heap.size, 2, none⟩ = some (.int .i64 se) := box_cell p2 2
      have d3 : W2.cell? ⟨wr.heap.size, 3, none⟩ = some (.slice A3 l3.length c3') := box_cell p2 3
      have hB2 : Below w1.heap.size w1 W2 := hB.trans (b2.mono hbs)
      have hq2 := (hB2.block _ hsz1).trans HQ.out
      have o0 : W2.cell? ⟨w.heap.size, 0, none⟩ = some (.int .i64 ep) := box_cell hq2 0
      have o1 : W2.cell? ⟨w.heap.size, 1, none⟩ = some (.int .i64 co) := box_cell hq2 1
      have hm2 : MapF W2 mb n ls := HM.out.same (hB2.block _ hszm)
      have hlk := hm2.look hse
      obtain ⟨k0, A4, c4, ev, hown⟩ := find_own ls se
      rw [ev, HLc.out] at hlk
      rw [HLc.out] at hown
      obtain ⟨ow, how⟩ : ∃ ow, ownC lc se = ow := ⟨_, rfl⟩
      have hit4 : ItAt W2 ⟨A4, c4, ow⟩ := by
        have := own_item (w := w1) HIt.out se (A := A4) (c := c4) (by rw [HLc.out]; exact hown)
        rw [HLc.out, how] at this
        exact this.below hB2
      have hit3 : ItAt W2 ⟨A3, c3', l3⟩ := (hpi.below hB).below b2
      rw [how] at hlk
      have hfi := field_log
      have HNo : Hid (¬ (pe = ep ∧ pc = co ∧ ow.length < l3.length ∧ beginsL ow l3 = true) → ∀ V, Below W2.heap.size W2 V → MissGo w1 ps ep co lc (gk - 1) u8 (.int .i64 ((i + 1 : Nat) : Int)) V) := fun hno V hV => by
        have e : missOne ep co lc (Pt.core ⟨pe, pc, se, ⟨A3, c3', l3⟩⟩) = [] := by
          unfold missOne Pt.core
          simp only
          rw [how, if_neg hno]
        rw [e, List.append_nil] at hstep
        have bV := b2.trans (hV.mono b2.size)
        exact ⟨i + 1, ms, by omega, rfl, by rw [hco, hstep], by omega, fun l hl => ⟨⟨L5.own_below (hit l hl).1.own bV, (hit l hl).1.short⟩, (hit l hl).2⟩, L5.own_below hrow bV, hB.trans (bV.mono hbs)⟩
      have hl3 : l3.length ≤ 4000000000 := hps4
      have hl4 : ow.length ≤ maxLen := Nat.le_trans hit4.le hit4.few
      unfold maxLen at hl4
      have HBg := Lib.hid (begins_calls ⟨A4, c4, ow⟩ ⟨A3, c3', l3⟩ W2 hit4 hit3)
      simp only [It.v] at HBg
      by_cases h1 : pe = ep ∧ pc = co
      · obtain ⟨rfl, rfl⟩ := h1
        by_cases h2 : ow.length < l3.length
        · have m2 : (ow.length : Int) < (l3.length : Int) := by omega
          cases hb : beginsL ow l3 with
          | false =>
            rw [hb] at HBg
            have HF := Lib.hid (HNo.out (fun h => by rw [hb] at h; cases h.2.2.2))
            clear hk hco hml hit hrow hB hil hx hpi hc hbs hstep hps4 p2 b2 s2 hB2 hq2 hm2 hown hit4 hit3 HNo ev h2 how hb
            go_wp2_with fail
            refine HBg.out.mono ?_
            rintro e W3 ⟨rfl, b3⟩
            have HF3 := Lib.hid (HF.out W3 b3)
            clear b3 HF
            go_wp2
            go_roundg (gk - 1)
            case measure => exact hgk.out
            case rel => exact HF3.out
          | true =>
            rw [hb] at HBg
            obtain ⟨ad3, rfl, hdrop⟩ := hit3.drop h2
            have hdl : (l3.drop ow.length).length = l3.length - ow.length := List.length_drop
            have hone : missOne pe pc lc (Pt.core ⟨pe, pc, se, ⟨some ad3, c3', l3⟩⟩) = [(se, l3.drop ow.length)] := by
              unfold missOne Pt.core
              simp only
              rw [how, if_pos ⟨trivial, trivial, h2, hb⟩]
            rw [hone] at hstep
            have hcc : ow.length < c3' := by have := hit3.le; simp only at this; omega
            have hc3m := hit3.few
            simp only at hc3m
            unfold maxLen at hc3m
            have HCl : Hid (∀ V, Below W2.heap.size W2 V → Calls Try.prog 49 #[.slice (some (ad3.add ow.length)) (l3.length - ow.length) (c3' - ow.length)] V fun e w' => ∃ (A : Option Addr) (c : Nat), e = .returned (.slice A (l3.length - ow.length) c) ∧ OwnIt w' w1.heap.size ⟨A, c, l3.drop ow.length⟩ ∧ (w'.cell? ⟨wr.heap.size, 2, none⟩ = some (.int .i64 se) ∧ w'.cell? ⟨wr.heap.size, 3, none⟩ = some (.slice (some ad3) l3.length c3')) ∧ Below W2.heap.size W2 w') := fun V hV => by
              have := clone_calls ⟨some (ad3.add ow.length), c3' - ow.length, l3.drop ow.length⟩ V (hdrop.below hV) (by rw [hdl]; omega)
              simp only [It.v, hdl] at this
              refine this.mono ?_
              rintro e w' ⟨⟨A, c, l⟩, rfl, rfl, h3, h4, h5⟩
              have h6 : Below W2.heap.size W2 w' := hV.trans (h5.mono hV.size)
              have h7 := (h6.block _ (Array.getElem?_eq_some_iff.1 p2).1).trans p2
              exact ⟨A, c, by simp only [It.v, hdl], ⟨h4.mono (Nat.le_trans hB2.size hV.size), h3.short⟩, ⟨box_cell h7 2, box_cell h7 3⟩, h6⟩
            have HYes : Hid (∀ V (A : Option Addr) (c : Nat) (V' : World) (v' : Value), Below W2.heap.size W2 V → OwnIt V w1.heap.size ⟨A, c, l3.drop ow.length⟩ → V.ownsRow w1.heap.size 76 2 u8 ms.length (flatG ms) → V.grownBy V' u8.ownBlock → V'.ownsRow w1.heap.size 76 2 v' (ms.length + 1) (flatG ms ++ [.int .i64 se, .slice A (l3.length - ow.length) c]) → MissGo w1 ps pe pc lc (gk - 1) v' (.int .i64 ((i + 1 : Nat) : Int)) V') := by
              intro V A c V' v' hV hO hr hg hr'
              have hO' := hO.grown hr (of_decide_eq_true (by kernel_rfl)) hg
              have bV := b2.trans (hV.mono b2.size)
              refine ⟨i + 1, ms ++ [⟨se, ⟨A, c, l3.drop ow.length⟩⟩], by omega, rfl, by rw [hstep, List.map_append, hco]; rfl, by simp; omega, fun l hl => ?_, ?_, ?_⟩
              · rcases List.mem_append.1 hl with hl | hl
                · exact ⟨(OwnIt.mk (L5.own_below (hit l hl).1.own bV) (hit l hl).1.short).grown hr (of_decide_eq_true (by kernel_rfl)) hg, (hit l hl).2⟩
                · simp at hl
                  subst hl
                  exact ⟨hO', hse⟩
              · rw [flatG_snoc, List.length_append]
                simp only [Lg.cells, It.v, hdl]
                exact hr'
              · exact (hB.trans (bV.mono hbs)).grown hg (Nat.le_trans hbs bV.size) (fun q e => (hr.lt q e).1)
            have HRow : Hid (∀ V, Below W2.heap.size W2 V → V.ownsRow w1.heap.size 76 2 u8 ms.length (flatG ms)) := fun V hV => L5.own_below hrow (b2.trans (hV.mono b2.size))
            have HPart : Hid (∀ V, Below W2.heap.size W2 V → V.heap[wr.heap.size]? = some (.cells #[.int .i64 pe, .int .i64 pc, .int .i64 se, .slice (some ad3) l3.length c3'] 60 (0, 0))) := fun V hV => (hV.block _ (Array.getElem?_eq_some_iff.1 p2).1).trans p2
            have HC3 : Hid (∀ V, Below W2.heap.size W2 V → (V.cell? ⟨wr.heap.size, 2, none⟩ = some (.int .i64 se) ∧ V.cell? ⟨wr.heap.size, 3, none⟩ = some (.slice (some ad3) l3.length c3')) ∧ w1.heap.size ≤ V.heap.size) := fun V hV => by
              have h7 := (hV.block _ (Array.getElem?_eq_some_iff.1 p2).1).trans p2
              exact ⟨⟨box_cell h7 2, box_cell h7 3⟩, Nat.le_trans hB2.size hV.size⟩
            have hml' : ms.length ≤ 1000000 := by omega
            obtain ⟨A8, c8, rfl⟩ := L5.own_slice hrow
            clear hk hco hml hit hrow hB hil hx hpi hc hbs hstep hps4 p2 b2 s2 hB2 hq2 hm2 hown hit4 hit3 HNo ev how hb hdrop hone
            go_wp2_with fail
            refine HBg.out.mono ?_
            rintro e W3 ⟨rfl, b3⟩
            obtain ⟨⟨f2, f3⟩, _⟩ := HC3.out W3 b3
            have n1 : (0 : Int) ≤ (ow.length : Int) := by omega
            have n2 : (ow.length : Int) ≤ (l3.length : Int) := by omega
            clear d0 d1 d2 d3 o0 o1 hlk c0 c1 c2 c3
            have hS0 : Below W2.heap.size W2 W3.drew := b3.drew
            have HApp : Hid (∀ V (A : Option Addr) (c : Nat), Below W2.heap.size W2 V → OwnIt V w1.heap.size ⟨A, c, l3.drop ow.length⟩ → V.cell? ⟨wr.heap.size, 2, none⟩ = some (.int .i64 se) → V.cell? ⟨wr.heap.size, 3, none⟩ = some (.slice (some ad3) l3.length c3') →
                (V.alloc (.cells #[.int .i64 se, .slice A (l3.length - ow.length) c] 76)).ownsRow w1.heap.size 76 2 (.slice A8 ms.length c8) ms.length (flatG ms) ∧
                (∀ (j : Nat) (u : Value), [Value.int .i64 se, .slice A (l3.length - ow.length) c][j]? = some u → (V.alloc (.cells #[.int .i64 se, .slice A (l3.length - ow.length) c] 76)).cell? ((⟨V.heap.size, 0, none⟩ : Addr).add j) = some u) ∧
                w1.heap.size ≤ (V.alloc (.cells #[.int .i64 se, .slice A (l3.length - ow.length) c] 76)).heap.size ∧
                ∀ g cap w6, w6.ownsRow w1.heap.size 76 2 (.slice (some ⟨g, 0, none⟩) (ms.length + 1) cap) (ms.length + 1) (flatG ms ++ [.int .i64 se, .slice A (l3.length - ow.length) c]) → (V.alloc (.cells #[.int .i64 se, .slice A (l3.length - ow.length) c] 76)).grownBy w6 (Value.slice A8 ms.length c8).ownBlock →
                  w6.cell? ⟨wr.heap.size, 2, none⟩ = some (.int .i64 se) ∧ w6.cell? ⟨wr.heap.size, 3, none⟩ = some (.slice (some ad3) l3.length c3') ∧ MissGo w1 ps pe pc lc (gk - 1) (.slice (some ⟨g, 0, none⟩) (ms.length + 1) cap) (.int .i64 ((i + 1 : Nat) : Int)) w6) := by
              intro V A c hV hO h2 h3
              have hr := HRow.out V hV
              have hVa : Below W2.heap.size W2 (V.alloc (.cells #[.int .i64 se, .slice A (l3.length - ow.length) c] 76)) := hV.alloc hV.size _
              refine ⟨hr.alloc _, fun j u hu => ?_, (HC3.out _ hVa).2, fun g cap w6 k1 k2 => ?_⟩
              · rw [add_zeroC]
                simp only [World.cell?]
                rw [World.alloc_heap_new V _]
                simpa using hu
              · have k3 := (World.grownBy_alloc V (.cells #[.int .i64 se, .slice A (l3.length - ow.length) c] 76) (Value.slice A8 ms.length c8).ownBlock).trans k2
                have h7 := HPart.out V hV
                have hne : some wr.heap.size ≠ (Value.slice A8 ms.length c8).ownBlock := fun e => by
                  rcases hr.2 with ⟨e3, _⟩ | ⟨g', cap', cur', e3, _, h8, _⟩
                  · rw [e3] at e; cases e
                  · rw [e3] at e
                    have : wr.heap.size = g' := by cases e; rfl
                    rw [← this, h7] at h8
                    cases h8
                have h8 := (k3.block _ (Array.getElem?_eq_some_iff.1 h7).1 hne).trans h7
                exact ⟨box_cell h8 2, box_cell h8 3, HYes.out V A c w6 _ hV hO hr k3 k1⟩
            generalize hdn : l3.length - ow.length = dn at *
            have hdn4 : dn ≤ 4000000000 := by omega
            have hcne : ¬ c3' = ow.length := by omega
            go_wp2
            go_region_held3 (fun V => V.cell? ⟨wr.heap.size, 2, none⟩ = some (.int .i64 se) ∧ V.cell? ⟨wr.heap.size, 3, none⟩ = some (.slice (some ad3) l3.length c3'))
              ((first | exact ⟨f2, f3⟩ | (go_split_ands; refine ⟨?_, ?_⟩ <;> first | assumption | go_keep)))
              (first
                | (go_at_call 49; refine (HCl.out _ hS0).mono ?_; rintro e w5 ⟨A5, c5, rfl, hO5, ⟨g2, g3⟩, b5⟩)
                | (refine step_append_lies _ rfl (.tmp 43) (.tmp 53) 22 rfl w1.heap.size 76 i0 zeroLg 2 32 Try.underlying22 hi hz0 hz1 hz2 rfl (by decide) (.slice A8 ms.length c8) ms.length (flatG ms) (by simp [Act.eval]) (HApp.out w5 A5 c5 b5 hO5 g2 g3).1 ⟨w5.heap.size, 0, none⟩ 1 1 [.int .i64 se, .slice A5 dn c5] (by simp [Act.eval]) rfl (HApp.out w5 A5 c5 b5 hO5 g2 g3).2.1 (by simp [Value.oneCell']) (by decide) (by unfold maxLen; omega) (by omega) (HApp.out w5 A5 c5 b5 hO5 g2 g3).2.2.1 (w5.heap.size + 1) (by simp) ?_
                   intro gg cc w6 k1 k2 k3 k4
                   obtain ⟨g4, g5, hfin⟩ := (HApp.out w5 A5 c5 b5 hO5 g2 g3).2.2.2 gg cc w6 k1 k2))
            have HF := Lib.hid hfin
            clear hfin g4 g5 g2 g3 k1 k2 k3 k4 hO5 b5 HApp HCl HYes HRow HC3 HPart
            go_wp2
            go_roundg (gk - 1)
            case measure => exact hgk.out
            case rel => exact HF.out
        · have m2 : ¬ (ow.length : Int) < (l3.length : Int) := by omega
          have HF := Lib.hid (HNo.out (fun h => h2 h.2.2.1) W2 (Below.refl _ _))
          clear hk hco hml hit hrow hB hil hx hpi hc hbs hstep hps4 p2 b2 s2 hB2 hq2 hm2 hown hit4 hit3 HNo ev h2 how
          go_wp2
          go_roundg (gk - 1)
          case measure => exact hgk.out
          case rel => exact HF.out
      · have HF := Lib.hid (HNo.out (fun h => h1 ⟨h.1, h.2.1⟩) W2 (Below.refl _ _))
        have h3 : pe = ep ∧ ¬ pc = co ∨ ¬ pe = ep := by
          by_cases e : pe = ep
          · exact .inl ⟨e, fun e' => h1 ⟨e, e'⟩⟩
          · exact .inr e
        clear hk hco hml hit hrow hB hil hx hpi hc hbs hstep hps4 p2 b2 s2 hB2 hq2 hm2 hown hit4 hit3 HNo ev how h1
        rcases h3 with ⟨rfl, h3⟩ | h3
        · go_wp2
          go_roundg (gk - 1)
          case measure => exact hgk.out
          case rel => exact HF.out
        · go_wp2
          go_roundg (gk - 1)
          case measure => exact hgk.out
          case rel => exact HF.out
    · obtain rfl : i = ps.length := by omega
      have j1 : ¬ ((ps.length : Int) < (ps.length : Int)) := by omega
      rw [List.take_length] at hco
      have HF : Hid (∀ v, v = u8 → LogsOut w (missC (ps.map Pt.core) ep co lc) (.returned v) wr) := fun v e => by
        subst e
        exact ⟨_, ms, rfl, hco, LogsA.of_own hrow (by unfold maxLen; omega) (fun l hl => ⟨(hit l hl).1.at, (hit l hl).2⟩), HB1.out.trans (hB.mono HB1.out.size)⟩
      clear hk hco hit hrow hB hml
      go_wp2
      go_ret
      have := HF.out _ rfl
      rw [← HLc.out] at this
      exact this
end Go.Proofs.Ytkalmfhebffklaa.L11
