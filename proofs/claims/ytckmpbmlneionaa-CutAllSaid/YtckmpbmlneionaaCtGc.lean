/- Contract of cut.firstLogs: the first log of each sender, in a map. Contract of cut.Missing: of each part of an old view what one lacks. What layer 11's statements share: pick, same, texts. Rows that are written out; the chapter's example: shown returns true. rows: of each of three senders a row, cut to some length. -/
import Derived.Test.YtckmpbmlneionaaCtGb
import Derived.Deep.RegionHeld3
import Derived.Deep.CutBlock
import Derived.Deep.DeepCutAuto
import Derived.Deep.AppendLies
import Derived.Test.YtckmpbmlneionaaWord
section
namespace Go.Proofs.Ytckmpbmlneionaa.L11
open Go.ChangeShapes Go.WideShapes Go.ChangeAt Go.RowKit Go.Deep
open Go.Maps (Keyed)

theorem keyed_intC : Keyed Try.prog 3 := Maps.int_keyed Try.underlying3
theorem key_intC {k : Int} (hk : isInt k) : keyOf Try.prog 3 (.int .i64 k) = some (.int .i64 k) := Maps.keyOf_int_mk Try.underlying3 (wf_of hk)
theorem lit_intC (k : Int) : WideAt.IsKeyLit (.int .i64 k) := by simp [WideAt.IsKeyLit]
def Lg.val (l : Lg) : Value := .agg l.cells.toArray
def zeroLg : Value := .agg #[.int .i64 0, .slice none 0 0]
theorem zero_log (W : World) : (zeroValue 76).run Try.prog W = .ok zeroLg W := by kernel_rfl
def findL (ls : List Lg) (s : Int) : Option Lg := ls.find? (fun l => decide (l.se = s))
theorem findL_snoc (ls : List Lg) (l : Lg) (s : Int) : findL (ls ++ [l]) s = match findL ls s with | some x => some x | none => if l.se = s then some l else none := by
  unfold findL
  rw [List.find?_append]
  cases ls.find? (fun l => decide (l.se = s)) with
  | some x => rfl
  | none =>
    by_cases h : l.se = s <;> simp [h]
/-- The map in memory. -/
def MapF (W : World) (b n : Nat) (ls : List Lg) : Prop := ∃ D : DataW Value, W.ownsMap Try.prog 3 heldC b n D ∧ ∀ s, isInt s → ∀ z, D.atKey (.int .i64 s) z = match findL ls s with | some l => .held l.val | none => z
theorem MapF.made (W : World) : MapF (W.alloc (.map #[] 0)) W.heap.size 0 [] :=
  ⟨.map [], World.ownsMap_made W _ _ _, fun s _ z => by simp [DataW.atKey, findL]⟩
theorem MapF.lt {W : World} {b n : Nat} {ls : List Lg} (h : MapF W b n ls) : b < W.heap.size := by
  obtain ⟨D, h1, _⟩ := h
  exact h1.lt
theorem MapF.same {W W' : World} {b n : Nat} {ls : List Lg} (h : MapF W b n ls) (hb : W'.heap[b]? = W.heap[b]?) : MapF W' b n ls := by
  obtain ⟨D, ⟨es, clock, h1, h2⟩, h3⟩ := h
  exact ⟨D, ⟨es, clock, hb.trans h1, h2⟩, h3⟩
def valF (o : Option Lg) : Value := match o with | some l => l.val | none => zeroLg
theorem MapF.look {W : World} {b n : Nat} {ls : List Lg} (h : MapF W b n ls) {s : Int} (hs : isInt s) :
    (Instr.lookup 109 (.map (some b)) (.int .i64 s) false).run Try.prog W = .ok (valF (findL ls s)) W := by
  obtain ⟨D, h1, h2⟩ := h
  obtain ⟨v, q, hrun, hv⟩ := h1.lookup keyed_intC Try.underlying109 (zero_log W) (zd := .held zeroLg) (zp := []) rfl (key_intC hs)
  rw [hrun]
  simp only [heldC, Option.some.injEq, Prod.mk.injEq] at hv
  have h3 := h2 s hs (.held zeroLg)
  have h4 := hv.1
  rw [h3] at h4
  unfold valF
  cases hf : findL ls s with
  | none => rw [hf] at h4; simp at h4; rw [h4]
  | some l => rw [hf] at h4; simp at h4; rw [h4]
theorem MapF.look_ok {W : World} {b n : Nat} {ls : List Lg} (h : MapF W b n ls) {s : Int} (hs : isInt s) :
    (Instr.lookup 109 (.map (some b)) (.int .i64 s) true).run Try.prog W = .ok (.tuple #[valF (findL ls s), .bool (findL ls s).isSome]) W := by
  obtain ⟨D, h1, h2⟩ := h
  obtain ⟨v, q, hrun, hv⟩ := h1.look_ok keyed_intC Try.underlying109 (zero_log W) (zd := .held zeroLg) (zp := []) rfl (key_intC hs)
  rw [hrun]
  simp only [heldC, Option.some.injEq, Prod.mk.injEq] at hv
  have h3 := h2 s hs
  unfold valF
  cases hf : findL ls s with
  | none =>
    simp only [hf] at h3
    rw [h3] at hv
    rw [Maps.has_false_of_atKey h3]
    have h4 := hv.1
    simp at h4
    rw [h4]
    rfl
  | some u =>
    simp only [hf] at h3
    rw [h3] at hv
    rw [Maps.has_true_of_atKey h3]
    have h4 := hv.1
    simp at h4
    rw [h4]
    rfl
theorem MapF.set {W : World} {b n : Nat} {ls : List Lg} (h : MapF W b n ls) (hn : n < maxLen) {l : Lg} (hs : isInt l.se) (hno : findL ls l.se = none) :
    ∃ W', (Instr.mapUpdate 109 (.map (some b)) (.int .i64 l.se) l.val).run Try.prog W = .ok () W' ∧ MapF W' b (n + 1) (ls ++ [l]) ∧ W.grownBy W' (some b) := by
  obtain ⟨D, h1, h2⟩ := h
  obtain ⟨W', hrun, h3, h4⟩ := h1.store keyed_intC Try.underlying109 hn (key_intC hs) (d := .held l.val) (ps := []) rfl
  refine ⟨W', hrun, ⟨_, h3, fun x hx z => ?_⟩, h4.grown⟩
  rw [findL_snoc]
  by_cases hxs : x = l.se
  · subst hxs
    rw [Maps.atKey_put_same h1.isMap (lit_intC _), hno]
    simp
  · rw [Maps.atKey_put_other (by simp only [ne_eq, Lit.int.injEq, true_and]; omega), h2 x hx z]
    cases findL ls x with
    | none => rw [if_neg (by omega)]
    | some y => rfl
theorem MapF.skip {W : World} {b n : Nat} {ls : List Lg} (h : MapF W b n ls) {l : Lg} (hy : findL ls l.se ≠ none) : MapF W b n (ls ++ [l]) := by
  obtain ⟨D, h1, h2⟩ := h
  refine ⟨D, h1, fun x hx z => ?_⟩
  rw [findL_snoc, h2 x hx z]
  cases hf : findL ls x with
  | some y => rfl
  | none =>
    rw [if_neg (fun e => hy (by rw [e]; exact hf))]

def FirstGo (w : World) (ls : List Lg) (k : Nat) (vi : Value) (wr : World) : Prop :=
  ∃ i n : Nat, k + i = ls.length ∧ vi = .int .i64 i ∧ n ≤ i ∧ MapF wr w.heap.size n (ls.take i) ∧ Below w.heap.size w wr
def FirstOut (w : World) (ls : List Lg) (e : Ending) (w' : World) : Prop := ∃ n, e = .returned (.map (some w.heap.size)) ∧ MapF w' w.heap.size n ls ∧ Below w.heap.size w w'
set_option maxRecDepth 100000 in
set_option maxHeartbeats 4000000 in
theorem first_calls {v : Value} {ls : List Lg} (w : World) (h : LogsA w v ls) (hlen : ls.length ≤ 1000000) : Calls Try.prog 51 #[v] w (FirstOut w ls) := by
  obtain ⟨A, c, rfl, hf, hr⟩ := logs_read h
  have HR := Lib.hid hr
  have H0 : Hid (FirstGo w ls ls.length (.int .i64 0) (w.alloc (.map #[] 0))) := ⟨0, 0, by omega, rfl, by omega, MapF.made w, (Below.refl _ w).alloc (Nat.le_refl _) _⟩
  clear h hr hf
  have hmm := @run_makeMap Try.prog
  go_enter Try.func51, Try.ntmps51
  go_wp2
  clear hmm
  go_loopg [11] ls.length (fun k v11 wr => FirstGo w ls k v11 wr)
  case atStart => exact H0.out
  clear H0
  case round =>
    obtain ⟨i, n, hk, rfl, hn, hm, hB⟩ := hrel
    by_cases hil : i < ls.length
    · obtain ⟨l, hx⟩ : ∃ l, ls[i]? = some l := ⟨_, List.getElem?_eq_getElem hil⟩
      obtain ⟨ad, rfl, hit, hse, hc⟩ := HR.out i l hx
      obtain ⟨c0, c1⟩ := hc wr hB
      have j1 : (i : Int) < (ls.length : Int) := by omega
      have j2 : (0 : Int) ≤ (i : Int) := by omega
      have hgk := Lib.hid (show gk - 1 < gk by omega)
      have hbs := hB.size
      have hml := hm.lt
      have htk := take_nextR ls hx
      obtain ⟨se, ⟨A3, c3, l3⟩⟩ := l
      simp only [It.v] at c0 c1 hse
      obtain ⟨W1, hW1⟩ : ∃ W1, wr.alloc (.cells #[.int .i64 se, .slice A3 l3.length c3] 76) = W1 := ⟨_, rfl⟩
      obtain ⟨p1, b1, s1⟩ := box_new hW1
      have hm1 : MapF W1 w.heap.size n (ls.take i) := hm.same (b1.block _ hml)
      have hlk := hm1.look_ok hse
      have d0 : W1.cell? ⟨wr.heap.size, 0, none⟩ = some (.int .i64 se) := box_cell p1 0
      have d1 : W1.cell? ⟨wr.heap.size, 1, none⟩ = some (.slice A3 l3.length c3) := box_cell p1 1
      cases hf : findL (ls.take i) se with
      | some y =>
        rw [hf] at hlk
        obtain ⟨k0, A4, k1, k2, ey⟩ : ∃ (k0 : Int) (A4 : Option Addr) (k1 k2 : Nat), valF (some y) = .agg #[.int .i64 k0, .slice A4 k1 k2] := ⟨y.se, y.it.a, y.it.l.length, y.it.c, rfl⟩
        rw [ey] at hlk
        simp only [Option.isSome_some] at hlk
        have HF : Hid (∀ o, FirstGo w ls (gk - 1) (.int .i64 ((i + 1 : Nat) : Int)) (W1.alloc o)) := fun o => by
          refine ⟨i + 1, n, by omega, rfl, by omega, ?_, (hB.trans (b1.mono hbs)).alloc (Nat.le_trans hbs b1.size) _⟩
          rw [htk]
          refine (hm1.same (W' := W1.alloc o) ?_).skip (l := ⟨se, ⟨A3, c3, l3⟩⟩) (by rw [hf]; simp)
          exact (World.grownBy_alloc W1 o none).block _ hm1.lt (by simp)
        clear hk hn hm hB hil hx hit hse hc hbs hml htk p1 b1 s1 hm1 hf ey
        go_wp2
        go_roundg (gk - 1)
        case measure => exact hgk.out
        case rel => exact HF.out _
      | none =>
        rw [hf] at hlk
        have ey : valF none = .agg #[.int .i64 0, .slice none 0 0] := rfl
        rw [ey] at hlk
        simp only [Option.isSome_none] at hlk
        have HF : Hid (∀ o, ((W1.alloc o).cell? ⟨wr.heap.size, 0, none⟩ = some (.int .i64 se) ∧ (W1.alloc o).cell? ⟨wr.heap.size, 1, none⟩ = some (.slice A3 l3.length c3)) ∧ ∃ W', (Instr.mapUpdate 109 (.map (some w.heap.size)) (.int .i64 se) (.agg #[.int .i64 se, .slice A3 l3.length c3])).run Try.prog (W1.alloc o) = .ok () W' ∧ FirstGo w ls (gk - 1) (.int .i64 ((i + 1 : Nat) : Int)) W') := fun o => by
          have hg := World.grownBy_alloc W1 o none
          have hm2 : MapF (W1.alloc o) w.heap.size n (ls.take i) := hm1.same (hg.block _ hm1.lt (by simp))
          have hp2 := (hg.block _ (Array.getElem?_eq_some_iff.1 p1).1 (by simp)).trans p1
          obtain ⟨W', k1, k2, k3⟩ := hm2.set (by unfold maxLen; omega) (l := ⟨se, ⟨A3, c3, l3⟩⟩) hse hf
          have hB2 : Below w.heap.size w (W1.alloc o) := (hB.trans (b1.mono hbs)).alloc (Nat.le_trans hbs b1.size) _
          exact ⟨⟨box_cell hp2 0, box_cell hp2 1⟩, W', k1, i + 1, n + 1, by omega, rfl, by omega, by rw [htk]; exact k2, hB2.grown k3 hB2.size (fun q e => by cases e; exact Nat.le_refl _)⟩
        clear hk hn hm hB hil hx hit hse hc hbs hml htk p1 b1 s1 hm1 hf ey
        go_upto_region 6 with fail
        obtain ⟨⟨e0, e1⟩, W5, hset, hL⟩ := HF.out (.cells #[.int .i64 0, .slice none 0 0] 76)
        have HL := Lib.hid hL
        clear hL HF
        go_wp2
        go_roundg (gk - 1)
        case measure => exact hgk.out
        case rel => exact HL.out
    · obtain rfl : i = ls.length := by omega
      have j1 : ¬ ((ls.length : Int) < (ls.length : Int)) := by omega
      rw [List.take_length] at hm
      have HF : Hid (FirstOut w ls (.returned (.map (some w.heap.size))) wr) := ⟨n, rfl, hm, hB⟩
      clear hk hn hm hB
      go_wp2
      go_ret
      exact HF.out
end Go.Proofs.Ytckmpbmlneionaa.L11
end

section
namespace Go.Proofs.Ytckmpbmlneionaa.L11
open Go.ChangeShapes Go.WideShapes Go.ChangeAt Go.RowKit Go.Deep

/-- What a log says. -/
abbrev LCore := Int × List Bytes
def Lg.core (l : Lg) : LCore := (l.se, l.it.l)
def ownC (lc : List LCore) (s : Int) : List Bytes := match lc.find? (fun l => decide (l.1 = s)) with | some l => l.2 | none => []
def missOne (ep co : Int) (lc : List LCore) (c : Core) : List LCore :=
  if c.1 = ep ∧ c.2.1 = co ∧ (ownC lc c.2.2.1).length < c.2.2.2.length ∧ beginsL (ownC lc c.2.2.1) c.2.2.2 = true then [(c.2.2.1, c.2.2.2.drop (ownC lc c.2.2.1).length)] else []
def missC (cs : List Core) (ep co : Int) (lc : List LCore) : List LCore := cs.flatMap (missOne ep co lc)
/-- What stands in the map of the first logs. -/
theorem find_own (ls : List Lg) (s : Int) : ∃ (k0 : Int) (A : Option Addr) (c : Nat), valF (findL ls s) = .agg #[.int .i64 k0, .slice A (ownC (ls.map Lg.core) s).length c] ∧ ((findL ls s = none ∧ A = none ∧ c = 0 ∧ ownC (ls.map Lg.core) s = []) ∨ ∃ l ∈ ls, l.it = ⟨A, c, ownC (ls.map Lg.core) s⟩) := by
  have e : (ls.map Lg.core).find? (fun l => decide (l.1 = s)) = (findL ls s).map Lg.core := by
    unfold findL
    rw [List.find?_map]
    rfl
  unfold ownC
  rw [e]
  cases hf : findL ls s with
  | none => exact ⟨0, none, 0, rfl, .inl ⟨rfl, rfl, rfl, rfl⟩⟩
  | some l =>
    refine ⟨l.se, l.it.a, l.it.c, rfl, .inr ⟨l, ?_, rfl⟩⟩
    unfold findL at hf
    exact List.mem_of_find?_eq_some hf
theorem own_item {w : World} {ls : List Lg} (h : ∀ l ∈ ls, ItAt w l.it) (s : Int) {A : Option Addr} {c : Nat} (hs : (findL ls s = none ∧ A = none ∧ c = 0 ∧ ownC (ls.map Lg.core) s = []) ∨ ∃ l ∈ ls, l.it = ⟨A, c, ownC (ls.map Lg.core) s⟩) : ItAt w ⟨A, c, ownC (ls.map Lg.core) s⟩ := by
  rcases hs with ⟨_, rfl, rfl, e⟩ | ⟨l, hl, e⟩
  · rw [e]
    exact ⟨Nat.le_refl _, by simp, fun _ => rfl, by simp, fun j z hz => by simp at hz⟩
  · rw [← e]; exact h l hl
theorem ItAt.drop {w : World} {A : Option Addr} {c : Nat} {l : List Bytes} (h : ItAt w ⟨A, c, l⟩) {n : Nat} (hn : n < l.length) : ∃ ad : Addr, A = some ad ∧ ItAt w ⟨some (ad.add n), c - n, l.drop n⟩ := by
  have hle := h.le
  simp only at hle
  obtain ⟨z0, hz0⟩ : ∃ z, l[n]? = some z := ⟨_, List.getElem?_eq_getElem hn⟩
  obtain ⟨ad, e, _, _⟩ := h.reads n z0 hz0
  refine ⟨ad, e, ⟨by rw [List.length_drop]; simp only; omega, by have := h.few; simp only at this ⊢; omega, (fun e => by cases e), fun z hz => h.short z (List.mem_of_mem_drop hz), fun j z hz => ?_⟩⟩
  rw [List.getElem?_drop] at hz
  obtain ⟨ad', e', h1, h2⟩ := h.reads (n + j) z hz
  simp only at e' e
  rw [e] at e'
  cases e'
  exact ⟨_, rfl, by rw [addr_blockC]; exact h1, by rw [add_add]; exact h2⟩
/-- A row of texts of the call's own. -/
structure OwnIt (w : World) (B : Nat) (x : It) : Prop where
  own : w.ownsRow B 31 1 x.v x.l.length (txt x.l)
  short : ∀ z ∈ x.l, z.length ≤ maxLen
theorem OwnIt.at {w : World} {B : Nat} {x : It} (h : OwnIt w B x) : ItAt w x := by
  have hf : x.l.length ≤ maxLen := by
    rcases h.own.2 with ⟨_, h0⟩ | ⟨g, cap, cur, _, _, _, h1, h2, _⟩
    · omega
    · omega
  obtain ⟨y, e1, e2, e3⟩ := ItAt.of_own h.own h.short hf
  obtain ⟨a, c, l⟩ := x
  obtain ⟨a', c', l'⟩ := y
  simp only [It.v] at e1 e2
  subst e2
  cases e1
  exact e3
theorem OwnIt.grown {w w' : World} {B : Nat} {x : It} (h : OwnIt w B x) {v : Value} {n : Nat} {xs : List Value} {e : TypeId} {B' size : Nat} (hr : w.ownsRow B' e size v n xs) (he : e ≠ 31) (hg : w.grownBy w' v.ownBlock) : OwnIt w' B x := by
  refine ⟨h.own.kept hg ?_, h.short⟩
  rcases h.own.2 with ⟨e1, _⟩ | ⟨g, cap, cur, e1, _, h1, _⟩
  · rw [e1]; exact .inl rfl
  · right
    intro e2
    rw [e1] at e2
    rcases hr.2 with ⟨e3, _⟩ | ⟨g', cap', cur', e3, _, h3, _⟩
    · rw [e3] at e2; cases e2
    · rw [e3] at e2
      have : g = g' := by cases e2; rfl
      subst this
      rw [h1] at h3
      cases h3
      exact he rfl
def MissGo (w1 : World) (ps : List Pt) (ep co : Int) (lc : List LCore) (k : Nat) (v8 vi : Value) (wr : World) : Prop :=
  ∃ (i : Nat) (ms : List Lg), k + i = ps.length ∧ vi = .int .i64 i ∧ ms.map Lg.core = missC ((ps.take i).map Pt.core) ep co lc ∧ ms.length ≤ i ∧ (∀ l ∈ ms, OwnIt wr w1.heap.size l.it ∧ isInt l.se) ∧
    wr.ownsRow w1.heap.size 76 2 v8 ms.length (flatG ms) ∧ Below w1.heap.size w1 wr
def LogsOut (w : World) (cs : List LCore) (e : Ending) (w' : World) : Prop :=
  ∃ (v : Value) (ls : List Lg), e = .returned v ∧ ls.map Lg.core = cs ∧ LogsA w' v ls ∧ Below w.heap.size w w'
theorem field_log (a : Int) (A : Option Addr) (n k : Nat) (W : World) : (Instr.field 76 (.agg #[.int .i64 a, .slice A n k]) 1).run Try.prog W = .ok (.slice A n k) W := by kernel_rfl
theorem info_log : (Try.prog.info? 76).map (fun i => (i.zero, i.size, i.bytes)) = some (some zeroLg, 2, 32) := by kernel_rfl
theorem miss_step {ps : List Pt} {i : Nat} {p : Pt} (hp : ps[i]? = some p) (ep co : Int) (lc : List LCore) : missC ((ps.take (i + 1)).map Pt.core) ep co lc = missC ((ps.take i).map Pt.core) ep co lc ++ missOne ep co lc p.core := by
  rw [take_nextR ps hp]
  simp [missC]
set_option maxRecDepth 100000 in
set_option maxHeartbeats 8000000 in
theorem miss_calls {v u : Value} {ps : List Pt} {ls : List Lg} {ep co : Int} (w : World) (h : PartsA w v ps) (hl : LogsA w u ls) (hps : ps.length ≤ 1000000) (hls : ls.length ≤ 1000000) (hits : ∀ p ∈ ps, p.it.l.length ≤ 4000000000) :
    Calls Try.prog 31 #[v, .agg #[.int .i64 ep, .int .i64 co], u] w (LogsOut w (missC (ps.map Pt.core) ep co (ls.map Lg.core))) := by
  obtain ⟨i0, hi, hz0, hz1, hz2⟩ := info_partsC info_log
  obtain ⟨W0, hW0⟩ : ∃ W0, w.alloc (.cells #[.int .i64 ep, .int .i64 co] 55) = W0 := ⟨_, rfl⟩
  obtain ⟨p0, b0, s0⟩ := box_new hW0
  have HFi := Lib.hid (first_calls W0 (hl.below b0) hls)
  have HP := Lib.hid (h.below b0)
  have HL := Lib.hid (hl.below b0)
  have HB0 := Lib.hid b0
  have HP0 := Lib.hid p0
  have HS := Lib.hid hits
  clear h hl b0 p0 hits s0
  go_enter Try.func31, Try.ntmps31
  go_wp2_with fail
  refine HFi.out.mono ?_
  rintro e w1 ⟨n, rfl, hm, b1⟩
  obtain ⟨A, c, rfl, hf, hr⟩ := parts_read (HP.out.below b1)
  have hq1 := (b1.block _ (Array.getElem?_eq_some_iff.1 HP0.out).1).trans HP0.out
  have HQ := Lib.hid hq1
  have HM := Lib.hid hm
  have HR := Lib.hid hr
  have HIt : Hid (∀ l ∈ ls, ItAt w1 l.it) := fun l hl => ((HL.out.its l hl).1).below b1
  have HB1 : Hid (Below w.heap.size w w1) := HB0.out.trans (b1.mono HB0.out.size)
  have H0 : Hid (MissGo w1 ps ep co (ls.map Lg.core) ps.length (.slice none 0 0) (.int .i64 0) w1) := ⟨0, [], by omega, rfl, rfl, by simp, by simp, World.ownsRow_nil _ _ _ _, Below.refl _ _⟩
  obtain ⟨lc, hlc⟩ : ∃ lc, ls.map Lg.core = lc := ⟨_, rfl⟩
  have hsz1 : w.heap.size < w1.heap.size := by have := b1.size; have := (Array.getElem?_eq_some_iff.1 HP0.out).1; omega
  have hszm := hm.lt
  rw [hlc] at H0 ⊢
  have HLc := Lib.hid hlc
  clear hq1 hm hr b1 HFi HP HL HB0 HP0 hW0 hf hlc
  generalize W0.heap.size = mb at *
  clear W0
  go_wp2
  go_loopg [8, 16] ps.length (fun k v8 v16 wr => MissGo w1 ps ep co lc k v8 v16 wr)
  case atStart => exact H0.out
  clear H0
  case round =>
    obtain ⟨i, ms, hk, rfl, hco, hml, hit, hrow, hB⟩ := hrel
    by_cases hil : i < ps.length
    · obtain ⟨p, hx⟩ : ∃ p, ps[i]? = some p := ⟨_, List.getElem?_eq_getElem hil⟩
      obtain ⟨ad, rfl, hpi, hpt, hc⟩ := HR.out i p hx
      obtain ⟨c0, c1, c2, c3⟩ := hc wr hB
      have j1 : (i : Int) < (ps.length : Int) := by omega
      have j2 : (0 : Int) ≤ (i : Int) := by omega
      have hgk := Lib.hid (show gk - 1 < gk by omega)
      have hbs := hB.size
      have hstep := miss_step hx ep co lc
      have hps4 := HS.out p (List.mem_of_getElem? hx)
      obtain ⟨pe, pc, se, ⟨A3, c3', l3⟩⟩ := p
      simp only [It.v] at c0 c1 c2 c3 hpi hps4
      obtain ⟨hpe, hpc, hse⟩ := hpt
      simp only at hpe hpc hse
      obtain ⟨W2, hW2⟩ : ∃ W2, wr.alloc (.cells #[.int .i64 pe, .int .i64 pc, .int .i64 se, .slice A3 l3.length c3'] 60) = W2 := ⟨_, rfl⟩
      obtain ⟨p2, b2, s2⟩ := box_new hW2
      have d0 : W2.cell? ⟨wr.heap.size, 0, none⟩ = some (.int .i64 pe) := box_cell p2 0
      have d1 : W2.cell? ⟨wr.heap.size, 1, none⟩ = some (.int .i64 pc) := box_cell p2 1
      have d2 : W2.cell? ⟨wr.heap.size, 2, none⟩ = some (.int .i64 se) := box_cell p2 2
      have d3 : W2.cell? ⟨wr.heap.size, 3, none⟩ = some (.slice A3 l3.length c3') := box_cell p2 3
      have hB2 : Below w1.heap.size w1 W2 := hB.trans (b2.mono hbs)
      have hq2 := (hB2.block _ hsz1).trans HQ.out
      have o0 : W2.cell? ⟨w.heap.size, 0, none⟩ = some (.int .i64 ep) := box_cell hq2 0
      have o1 : W2.cell? ⟨w.heap.size, 1, none⟩ = some (.int .i64 co) := box_cell hq2 1
      have hm2 : MapF W2 mb n ls := HM.out.same (hB2.block _ hszm)
      have hlk := hm2.look hse
      obtain ⟨k0, A4, c4, ev, hown⟩ := find_own ls se
      rw [ev, HLc.out] at hlk
      rw [HLc.out] at hown
      obtain ⟨ow, how⟩ : ∃ ow, ownC lc se = ow := ⟨_, rfl⟩
      have hit4 : ItAt W2 ⟨A4, c4, ow⟩ := by
        have := own_item (w := w1) HIt.out se (A := A4) (c := c4) (by rw [HLc.out]; exact hown)
        rw [HLc.out, how] at this
        exact this.below hB2
      have hit3 : ItAt W2 ⟨A3, c3', l3⟩ := (hpi.below hB).below b2
      rw [how] at hlk
      have hfi := field_log
      have HNo : Hid (¬ (pe = ep ∧ pc = co ∧ ow.length < l3.length ∧ beginsL ow l3 = true) → ∀ V, Below W2.heap.size W2 V → MissGo w1 ps ep co lc (gk - 1) u8 (.int .i64 ((i + 1 : Nat) : Int)) V) := fun hno V hV => by
        have e : missOne ep co lc (Pt.core ⟨pe, pc, se, ⟨A3, c3', l3⟩⟩) = [] := by
          unfold missOne Pt.core
          simp only
          rw [how, if_neg hno]
        rw [e, List.append_nil] at hstep
        have bV := b2.trans (hV.mono b2.size)
        exact ⟨i + 1, ms, by omega, rfl, by rw [hco, hstep], by omega, fun l hl => ⟨⟨L5.own_below (hit l hl).1.own bV, (hit l hl).1.short⟩, (hit l hl).2⟩, L5.own_below hrow bV, hB.trans (bV.mono hbs)⟩
      have hl3 : l3.length ≤ 4000000000 := hps4
      have hl4 : ow.length ≤ maxLen := Nat.le_trans hit4.le hit4.few
      unfold maxLen at hl4
      have HBg := Lib.hid (begins_calls ⟨A4, c4, ow⟩ ⟨A3, c3', l3⟩ W2 hit4 hit3)
      simp only [It.v] at HBg
      by_cases h1 : pe = ep ∧ pc = co
      · obtain ⟨rfl, rfl⟩ := h1
        by_cases h2 : ow.length < l3.length
        · have m2 : (ow.length : Int) < (l3.length : Int) := by omega
          cases hb : beginsL ow l3 with
          | false =>
            rw [hb] at HBg
            have HF := Lib.hid (HNo.out (fun h => by rw [hb] at h; cases h.2.2.2))
            clear hk hco hml hit hrow hB hil hx hpi hc hbs hstep hps4 p2 b2 s2 hB2 hq2 hm2 hown hit4 hit3 HNo ev h2 how hb
            go_wp2_with fail
            refine HBg.out.mono ?_
            rintro e W3 ⟨rfl, b3⟩
            have HF3 := Lib.hid (HF.out W3 b3)
            clear b3 HF
            go_wp2
            go_roundg (gk - 1)
            case measure => exact hgk.out
            case rel => exact HF3.out
          | true =>
            rw [hb] at HBg
            obtain ⟨ad3, rfl, hdrop⟩ := hit3.drop h2
            have hdl : (l3.drop ow.length).length = l3.length - ow.length := List.length_drop
            have hone : missOne pe pc lc (Pt.core ⟨pe, pc, se, ⟨some ad3, c3', l3⟩⟩) = [(se, l3.drop ow.length)] := by
              unfold missOne Pt.core
              simp only
              rw [how, if_pos ⟨trivial, trivial, h2, hb⟩]
            rw [hone] at hstep
            have hcc : ow.length < c3' := by have := hit3.le; simp only at this; omega
            have hc3m := hit3.few
            simp only at hc3m
            unfold maxLen at hc3m
            have HCl : Hid (∀ V, Below W2.heap.size W2 V → Calls Try.prog 49 #[.slice (some (ad3.add ow.length)) (l3.length - ow.length) (c3' - ow.length)] V fun e w' => ∃ (A : Option Addr) (c : Nat), e = .returned (.slice A (l3.length - ow.length) c) ∧ OwnIt w' w1.heap.size ⟨A, c, l3.drop ow.length⟩ ∧ (w'.cell? ⟨wr.heap.size, 2, none⟩ = some (.int .i64 se) ∧ w'.cell? ⟨wr.heap.size, 3, none⟩ = some (.slice (some ad3) l3.length c3')) ∧ Below W2.heap.size W2 w') := fun V hV => by
              have := clone_calls ⟨some (ad3.add ow.length), c3' - ow.length, l3.drop ow.length⟩ V (hdrop.below hV) (by rw [hdl]; omega)
              simp only [It.v, hdl] at this
              refine this.mono ?_
              rintro e w' ⟨⟨A, c, l⟩, rfl, rfl, h3, h4, h5⟩
              have h6 : Below W2.heap.size W2 w' := hV.trans (h5.mono hV.size)
              have h7 := (h6.block _ (Array.getElem?_eq_some_iff.1 p2).1).trans p2
              exact ⟨A, c, by simp only [It.v, hdl], ⟨h4.mono (Nat.le_trans hB2.size hV.size), h3.short⟩, ⟨box_cell h7 2, box_cell h7 3⟩, h6⟩
            have HYes : Hid (∀ V (A : Option Addr) (c : Nat) (V' : World) (v' : Value), Below W2.heap.size W2 V → OwnIt V w1.heap.size ⟨A, c, l3.drop ow.length⟩ → V.ownsRow w1.heap.size 76 2 u8 ms.length (flatG ms) → V.grownBy V' u8.ownBlock → V'.ownsRow w1.heap.size 76 2 v' (ms.length + 1) (flatG ms ++ [.int .i64 se, .slice A (l3.length - ow.length) c]) → MissGo w1 ps pe pc lc (gk - 1) v' (.int .i64 ((i + 1 : Nat) : Int)) V') := by
              intro V A c V' v' hV hO hr hg hr'
              have hO' := hO.grown hr (of_decide_eq_true (by kernel_rfl)) hg
              have bV := b2.trans (hV.mono b2.size)
              refine ⟨i + 1, ms ++ [⟨se, ⟨A, c, l3.drop ow.length⟩⟩], by omega, rfl, by rw [hstep, List.map_append, hco]; rfl, by simp; omega, fun l hl => ?_, ?_, ?_⟩
              · rcases List.mem_append.1 hl with hl | hl
                · exact ⟨(OwnIt.mk (L5.own_below (hit l hl).1.own bV) (hit l hl).1.short).grown hr (of_decide_eq_true (by kernel_rfl)) hg, (hit l hl).2⟩
                · simp at hl
                  subst hl
                  exact ⟨hO', hse⟩
              · rw [flatG_snoc, List.length_append]
                simp only [Lg.cells, It.v, hdl]
                exact hr'
              · exact (hB.trans (bV.mono hbs)).grown hg (Nat.le_trans hbs bV.size) (fun q e => (hr.lt q e).1)
            have HRow : Hid (∀ V, Below W2.heap.size W2 V → V.ownsRow w1.heap.size 76 2 u8 ms.length (flatG ms)) := fun V hV => L5.own_below hrow (b2.trans (hV.mono b2.size))
            have HPart : Hid (∀ V, Below W2.heap.size W2 V → V.heap[wr.heap.size]? = some (.cells #[.int .i64 pe, .int .i64 pc, .int .i64 se, .slice (some ad3) l3.length c3'] 60 (0, 0))) := fun V hV => (hV.block _ (Array.getElem?_eq_some_iff.1 p2).1).trans p2
            have HC3 : Hid (∀ V, Below W2.heap.size W2 V → (V.cell? ⟨wr.heap.size, 2, none⟩ = some (.int .i64 se) ∧ V.cell? ⟨wr.heap.size, 3, none⟩ = some (.slice (some ad3) l3.length c3')) ∧ w1.heap.size ≤ V.heap.size) := fun V hV => by
              have h7 := (hV.block _ (Array.getElem?_eq_some_iff.1 p2).1).trans p2
              exact ⟨⟨box_cell h7 2, box_cell h7 3⟩, Nat.le_trans hB2.size hV.size⟩
            have hml' : ms.length ≤ 1000000 := by omega
            obtain ⟨A8, c8, rfl⟩ := L5.own_slice hrow
            clear hk hco hml hit hrow hB hil hx hpi hc hbs hstep hps4 p2 b2 s2 hB2 hq2 hm2 hown hit4 hit3 HNo ev how hb hdrop hone
            go_wp2_with fail
            refine HBg.out.mono ?_
            rintro e W3 ⟨rfl, b3⟩
            obtain ⟨⟨f2, f3⟩, _⟩ := HC3.out W3 b3
            have n1 : (0 : Int) ≤ (ow.length : Int) := by omega
            have n2 : (ow.length : Int) ≤ (l3.length : Int) := by omega
            clear d0 d1 d2 d3 o0 o1 hlk c0 c1 c2 c3
            have hS0 : Below W2.heap.size W2 W3.drew := b3.drew
            have HApp : Hid (∀ V (A : Option Addr) (c : Nat), Below W2.heap.size W2 V → OwnIt V w1.heap.size ⟨A, c, l3.drop ow.length⟩ → V.cell? ⟨wr.heap.size, 2, none⟩ = some (.int .i64 se) → V.cell? ⟨wr.heap.size, 3, none⟩ = some (.slice (some ad3) l3.length c3') →
                (V.alloc (.cells #[.int .i64 se, .slice A (l3.length - ow.length) c] 76)).ownsRow w1.heap.size 76 2 (.slice A8 ms.length c8) ms.length (flatG ms) ∧
                (∀ (j : Nat) (u : Value), [Value.int .i64 se, .slice A (l3.length - ow.length) c][j]? = some u → (V.alloc (.cells #[.int .i64 se, .slice A (l3.length - ow.length) c] 76)).cell? ((⟨V.heap.size, 0, none⟩ : Addr).add j) = some u) ∧
                w1.heap.size ≤ (V.alloc (.cells #[.int .i64 se, .slice A (l3.length - ow.length) c] 76)).heap.size ∧
                ∀ g cap w6, w6.ownsRow w1.heap.size 76 2 (.slice (some ⟨g, 0, none⟩) (ms.length + 1) cap) (ms.length + 1) (flatG ms ++ [.int .i64 se, .slice A (l3.length - ow.length) c]) → (V.alloc (.cells #[.int .i64 se, .slice A (l3.length - ow.length) c] 76)).grownBy w6 (Value.slice A8 ms.length c8).ownBlock →
                  w6.cell? ⟨wr.heap.size, 2, none⟩ = some (.int .i64 se) ∧ w6.cell? ⟨wr.heap.size, 3, none⟩ = some (.slice (some ad3) l3.length c3') ∧ MissGo w1 ps pe pc lc (gk - 1) (.slice (some ⟨g, 0, none⟩) (ms.length + 1) cap) (.int .i64 ((i + 1 : Nat) : Int)) w6) := by
              intro V A c hV hO h2 h3
              have hr := HRow.out V hV
              have hVa : Below W2.heap.size W2 (V.alloc (.cells #[.int .i64 se, .slice A (l3.length - ow.length) c] 76)) := hV.alloc hV.size _
              refine ⟨hr.alloc _, fun j u hu => ?_, (HC3.out _ hVa).2, fun g cap w6 k1 k2 => ?_⟩
              · rw [add_zeroC]
                simp only [World.cell?]
                rw [World.alloc_heap_new V _]
                simpa using hu
              · have k3 := (World.grownBy_alloc V (.cells #[.int .i64 se, .slice A (l3.length - ow.length) c] 76) (Value.slice A8 ms.length c8).ownBlock).trans k2
                have h7 := HPart.out V hV
                have hne : some wr.heap.size ≠ (Value.slice A8 ms.length c8).ownBlock := fun e => by
                  rcases hr.2 with ⟨e3, _⟩ | ⟨g', cap', cur', e3, _, h8, _⟩
                  · rw [e3] at e; cases e
                  · rw [e3] at e
                    have : wr.heap.size = g' := by cases e; rfl
                    rw [← this, h7] at h8
                    cases h8
                have h8 := (k3.block _ (Array.getElem?_eq_some_iff.1 h7).1 hne).trans h7
                exact ⟨box_cell h8 2, box_cell h8 3, HYes.out V A c w6 _ hV hO hr k3 k1⟩
            generalize hdn : l3.length - ow.length = dn at *
            have hdn4 : dn ≤ 4000000000 := by omega
            have hcne : ¬ c3' = ow.length := by omega
            go_wp2
            go_region_held3 (fun V => V.cell? ⟨wr.heap.size, 2, none⟩ = some (.int .i64 se) ∧ V.cell? ⟨wr.heap.size, 3, none⟩ = some (.slice (some ad3) l3.length c3'))
              ((first | exact ⟨f2, f3⟩ | (go_split_ands; refine ⟨?_, ?_⟩ <;> first | assumption | go_keep)))
              (first
                | (go_at_call 49; refine (HCl.out _ hS0).mono ?_; rintro e w5 ⟨A5, c5, rfl, hO5, ⟨g2, g3⟩, b5⟩)
                | (refine step_append_lies _ rfl (.tmp 43) (.tmp 53) 22 rfl w1.heap.size 76 i0 zeroLg 2 32 Try.underlying22 hi hz0 hz1 hz2 rfl (by decide) (.slice A8 ms.length c8) ms.length (flatG ms) (by simp [Act.eval]) (HApp.out w5 A5 c5 b5 hO5 g2 g3).1 ⟨w5.heap.size, 0, none⟩ 1 1 [.int .i64 se, .slice A5 dn c5] (by simp [Act.eval]) rfl (HApp.out w5 A5 c5 b5 hO5 g2 g3).2.1 (by simp [Value.oneCell']) (by decide) (by unfold maxLen; omega) (by omega) (HApp.out w5 A5 c5 b5 hO5 g2 g3).2.2.1 (w5.heap.size + 1) (by simp) ?_
                   intro gg cc w6 k1 k2 k3 k4
                   obtain ⟨g4, g5, hfin⟩ := (HApp.out w5 A5 c5 b5 hO5 g2 g3).2.2.2 gg cc w6 k1 k2))
            have HF := Lib.hid hfin
            clear hfin g4 g5 g2 g3 k1 k2 k3 k4 hO5 b5 HApp HCl HYes HRow HC3 HPart
            go_wp2
            go_roundg (gk - 1)
            case measure => exact hgk.out
            case rel => exact HF.out
        · have m2 : ¬ (ow.length : Int) < (l3.length : Int) := by omega
          have HF := Lib.hid (HNo.out (fun h => h2 h.2.2.1) W2 (Below.refl _ _))
          clear hk hco hml hit hrow hB hil hx hpi hc hbs hstep hps4 p2 b2 s2 hB2 hq2 hm2 hown hit4 hit3 HNo ev h2 how
          go_wp2
          go_roundg (gk - 1)
          case measure => exact hgk.out
          case rel => exact HF.out
      · have HF := Lib.hid (HNo.out (fun h => h1 ⟨h.1, h.2.1⟩) W2 (Below.refl _ _))
        have h3 : pe = ep ∧ ¬ pc = co ∨ ¬ pe = ep := by
          by_cases e : pe = ep
          · exact .inl ⟨e, fun e' => h1 ⟨e, e'⟩⟩
          · exact .inr e
        clear hk hco hml hit hrow hB hil hx hpi hc hbs hstep hps4 p2 b2 s2 hB2 hq2 hm2 hown hit4 hit3 HNo ev how h1
        rcases h3 with ⟨rfl, h3⟩ | h3
        · go_wp2
          go_roundg (gk - 1)
          case measure => exact hgk.out
          case rel => exact HF.out
        · go_wp2
          go_roundg (gk - 1)
          case measure => exact hgk.out
          case rel => exact HF.out
    · obtain rfl : i = ps.length := by omega
      have j1 : ¬ ((ps.length : Int) < (ps.length : Int)) := by omega
      rw [List.take_length] at hco
      have HF : Hid (∀ v, v = u8 → LogsOut w (missC (ps.map Pt.core) ep co lc) (.returned v) wr) := fun v e => by
        subst e
        exact ⟨_, ms, rfl, hco, LogsA.of_own hrow (by unfold maxLen; omega) (fun l hl => ⟨(hit l hl).1.at, (hit l hl).2⟩), HB1.out.trans (hB.mono HB1.out.size)⟩
      clear hk hco hit hrow hB hml
      go_wp2
      go_ret
      have := HF.out _ rfl
      rw [← HLc.out] at this
      exact this
end Go.Proofs.Ytckmpbmlneionaa.L11
end

section
namespace Go.Proofs.Ytckmpbmlneionaa.L11
open Go.ChangeShapes Go.WideShapes Go.ChangeAt Go.RowKit Go.Deep

def pickN (c : Int) (n : Nat) : Nat := (if c < 0 then -(c + 1) else c).toNat % n
theorem pickN_lt (c : Int) {n : Nat} (hn : 0 < n) : pickN c n < n := Nat.mod_lt _ hn
set_option maxHeartbeats 400000 in
theorem pick_calls (c : Int) (n : Nat) (h1 : -9223372036854775808 ≤ c) (h2 : c ≤ 9223372036854775807) (hn : 0 < n) (hn2 : n ≤ 1000) (w : World) :
    Calls Try.prog 34 #[.int .i64 c, .int .i64 n] w fun e w' => ∃ m : Nat, m < n ∧ m = (if c < 0 then -(c + 1) else c).toNat % n ∧ e = .returned (.int .i64 m) ∧ w = w' := by
  have hz : ((n : Int) == 0) = false := by simp; omega
  have hz2 : ¬ (n : Int) = 0 := by omega
  by_cases hc : c < 0
  · obtain ⟨m, hm⟩ : ∃ m : Nat, -(c + 1) = m := ⟨(-(c + 1)).toNat, by omega⟩
    rw [if_pos hc, hm]
    have k1 : (0 : Int) ≤ (m : Int) := by omega
    have k2 : (m : Int) ≤ 9223372036854775807 := by omega
    have hcc : c = -(m : Int) - 1 := by omega
    have HN := Lib.hid (Nat.mod_lt m hn)
    clear hm
    subst hcc
    go_enter Try.func34, Try.ntmps34
    go_wp2
    all_goals first | omega | (go_ret; exact ⟨m % n, HN.out, rfl, by simp, rfl⟩)
  · obtain ⟨m, rfl⟩ : ∃ m : Nat, c = m := ⟨c.toNat, by omega⟩
    rw [if_neg hc]
    have HN := Lib.hid (Nat.mod_lt m hn)
    go_enter Try.func34, Try.ntmps34
    go_wp2
    all_goals first | omega | (go_ret; exact ⟨m % n, HN.out, rfl, by simp, rfl⟩)
theorem pick_is {c : Int} {n : Nat} (hc : isInt c) (hn : 0 < n) (hn2 : n ≤ 1000) (w : World) : Calls Try.prog 34 #[.int .i64 c, .int .i64 n] w fun e w' => e = .returned (.int .i64 (pickN c n)) ∧ w = w' := by
  refine (pick_calls c n hc.1 hc.2 hn hn2 w).mono ?_
  rintro e w' ⟨m, _, hm, he, hw⟩
  exact ⟨by rw [he, hm]; rfl, hw⟩
set_option maxRecDepth 100000 in
set_option maxHeartbeats 2000000 in
theorem same_calls (x y : It) (w : World) (hx : ItAt w x) (hy : ItAt w y) : Calls Try.prog 18 #[x.v, y.v] w (One w (.bool (decide (x.l = y.l)))) := by
  have H1 := Lib.hid (it_read hx)
  have H2 := Lib.hid (it_read hy)
  have f1 := Nat.le_trans hx.le hx.few
  have f2 := Nat.le_trans hy.le hy.few
  obtain ⟨A, c, xs⟩ := x
  obtain ⟨A2, c2, ys⟩ := y
  simp only [It.v] at *
  unfold maxLen at f1 f2
  clear hx hy
  by_cases hn : xs.length = ys.length
  · obtain ⟨r, hr⟩ : ∃ r, decide (xs = ys) = r := ⟨_, rfl⟩
    rw [hr]
    have HR := Lib.hid hr
    have HN := Lib.hid hn
    clear hr
    rw [← hn]
    clear hn f2
    go_enter Try.func18, Try.ntmps18
    go_wp2
    go_loopg [5] xs.length (fun k v5 wr => SameLoop w xs ys k v5 wr)
    case atStart => exact ⟨0, by omega, rfl, by simp, Below.refl _ _⟩
    case round =>
      obtain ⟨i, hk, rfl, hd, hB⟩ := hrel
      by_cases hil : i < xs.length
      · obtain ⟨x, hx⟩ : ∃ x, xs[i]? = some x := ⟨_, List.getElem?_eq_getElem hil⟩
        obtain ⟨y, hy⟩ : ∃ y, ys[i]? = some y := ⟨_, List.getElem?_eq_getElem (by rw [← HN.out]; exact hil)⟩
        obtain ⟨ad, rfl, hcx⟩ := H1.out i x hx
        obtain ⟨ad2, rfl, hcy⟩ := H2.out i y hy
        have c1 := hcx wr hB
        have c2' := hcy wr hB
        have hgk := Lib.hid (show gk - 1 < gk by omega)
        have j1 : (i : Int) < (xs.length : Int) := by omega
        have j2 : (0 : Int) ≤ (i : Int) := by omega
        by_cases hxy : x = y
        · subst hxy
          have HF : Hid (∀ q, SameLoop w xs ys (gk - 1) (.int .i64 ((i + 1 : Nat) : Int)) (wr.drewN q)) := fun q => ⟨i + 1, by omega, rfl, by rw [take_nextB xs hx, take_nextB ys hy, hd], hB.trans (L5.below_drewN (Below.refl _ _) _)⟩
          clear hk hd hx hy hB hcx hcy
          go_wp2
          refine region_stillC (by kernel_rfl) (by kernel_rfl) ?_
          repeat
            (refine Quietly.step (fun K hK => ?_)
             go_simp
             refine hK _ ?_
             clear hK K)
          refine Quietly.none ?_
          rintro w2 ⟨nq, rfl⟩
          go_wp2
          go_roundg (gk - 1)
          case measure => exact hgk.out
          case rel => exact HF.out _
        · have hrf : r = false := by
            rw [← HR.out]
            refine decide_eq_false (fun h => hxy ?_)
            rw [h, hy] at hx
            exact (Option.some.inj hx).symm
          subst hrf
          have HF : Hid (∀ q, Below w.heap.size w (wr.drewN q)) := fun q => hB.trans (L5.below_drewN (Below.refl _ _) _)
          have hne := str_ne hxy
          clear hk hd hx hy hB hcx hcy
          go_wp2
          refine region_stillC (by kernel_rfl) (by kernel_rfl) ?_
          repeat
            (refine Quietly.step (fun K hK => ?_)
             go_simp
             refine hK _ ?_
             clear hK K)
          refine Quietly.none ?_
          rintro w2 ⟨nq, rfl⟩
          go_wp2
          go_ret
          exact ⟨rfl, HF.out _⟩
      · have hrt : r = true := by
          rw [← HR.out]
          refine decide_eq_true ?_
          have hi : i = xs.length := by omega
          rw [hi, List.take_length, HN.out, List.take_length] at hd
          exact hd
        subst hrt
        have HB := Lib.hid hB
        have j1 : ¬ ((i : Int) < (xs.length : Int)) := by omega
        clear hk hd hB
        go_wp2
        go_ret
        exact ⟨rfl, HB.out⟩
  · have e : decide (xs = ys) = false := decide_eq_false (fun h => hn (by rw [h]))
    have hn2 : ¬ (xs.length : Int) = (ys.length : Int) := by omega
    rw [e]
    clear e
    generalize xs.length = n at *
    generalize ys.length = m at *
    go_enter Try.func18, Try.ntmps18
    go_wp2
    go_ret
    exact ⟨rfl, Below.refl _ _⟩

theorem info_str : (Try.prog.info? 9).map (fun i => (i.zero, i.size, i.bytes)) = some (some (.string ⟨#[]⟩), 1, 16) := by kernel_rfl
def TextsGo (w : World) (xs : List Bytes) (k : Nat) (v3 vi : Value) (wr : World) : Prop :=
  ∃ i : Nat, k + i = xs.length ∧ vi = .int .i64 i ∧ wr.ownsRow w.heap.size 9 1 v3 i (txt (xs.take i)) ∧ Below w.heap.size w wr
/-- A row of texts in memory of the call's own. -/
def TextsOut (w : World) (l : List Bytes) (e : Ending) (w' : World) : Prop :=
  ∃ x : It, e = .returned x.v ∧ x.l = l ∧ ItAt w' x ∧ w'.ownsRow w.heap.size 9 1 x.v l.length (txt l) ∧ Below w.heap.size w w'
set_option maxRecDepth 100000 in
set_option maxHeartbeats 2000000 in
theorem texts_calls (x : It) (w : World) (hx : ItAt w x) (hl : x.l.length ≤ 4000000000) : Calls Try.prog 28 #[x.v] w (TextsOut w x.l) := by
  obtain ⟨i0, hi, hz0, hz1, hz2⟩ := info_parts info_str
  have H1 := Lib.hid (it_read hx)
  have HS := Lib.hid hx.short
  obtain ⟨A, c, xs⟩ := x
  simp only [It.v] at *
  clear hx
  go_enter Try.func28, Try.ntmps28
  go_wp2
  go_loopg [3, 4] xs.length (fun k v3 v4 wr => TextsGo w xs k v3 v4 wr)
  case atStart => exact ⟨0, by omega, rfl, World.ownsRow_nil _ _ _ _, Below.refl _ _⟩
  case round =>
    obtain ⟨i, hk, rfl, hrow, hB⟩ := hrel
    by_cases hil : i < xs.length
    · obtain ⟨x, hx⟩ : ∃ x, xs[i]? = some x := ⟨_, List.getElem?_eq_getElem hil⟩
      obtain ⟨ad, rfl, hcx⟩ := H1.out i x hx
      have c1 := hcx wr hB
      have hgk := Lib.hid (show gk - 1 < gk by omega)
      have j1 : (i : Int) < (xs.length : Int) := by omega
      have j2 : (0 : Int) ≤ (i : Int) := by omega
      obtain ⟨A3, c3, rfl⟩ := L5.own_slice hrow
      have hbs := hB.size
      have HF : Hid (∀ v' w1, w1.ownsRow w.heap.size 9 1 v' (i + 1) (txt (xs.take i) ++ [.string ⟨x.toArray⟩]) → (wr.alloc (.cells #[.string ⟨x.toArray⟩] 9)).grownBy w1 (Value.slice A3 i c3).ownBlock → TextsGo w xs (gk - 1) v' (.int .i64 ((i + 1 : Nat) : Int)) w1) := fun v' w1 h1 h2 => by
        refine ⟨i + 1, by omega, rfl, by rw [take_nextB xs hx, txt_append]; exact h1, (hB.alloc hbs _).grown h2 (by simp; omega) (fun q e => (hrow.lt q e).1)⟩
      have HR := Lib.hid (hrow.alloc (.cells #[.string ⟨x.toArray⟩] 9))
      clear hk hrow hB hx hcx
      go_wp2_with (at_builtin; refine wpList_append_own _ rfl _ _ 24 rfl w.heap.size 9 i0 (.string ⟨#[]⟩) 1 16 Try.underlying24 hi hz0 hz1 hz2 rfl (by decide) _ _ _ rfl HR.out ⟨wr.heap.size, 0, none⟩ 1 1 [.string ⟨x.toArray⟩] rfl rfl (cell_one_new _ _ _) (by simp [Value.oneCell']) (by unfold maxLen; omega) (by omega) (by simp; omega) ?_; intro v' w1 hown' hgrow _; have HJ := Lib.hid (HF.out v' w1 hown' hgrow); clear hown' hgrow)
      go_roundg (gk - 1)
      case measure => exact hgk.out
      case rel => exact HJ.out
    · obtain rfl : i = xs.length := by omega
      have j1 : ¬ ((xs.length : Int) < (xs.length : Int)) := by omega
      rw [List.take_length] at hrow
      obtain ⟨x, e1, e2, e3⟩ := ItAt.of_own hrow HS.out (by unfold maxLen; omega)
      have HF : Hid (TextsOut w xs (.returned u3) wr) := ⟨x, by rw [e1], e2, e3, by rw [← e1]; exact hrow, hB⟩
      clear hk hrow hB e1 e2 e3
      go_wp2
      go_ret
      exact HF.out
end Go.Proofs.Ytckmpbmlneionaa.L11
end

section
namespace Go.Proofs.Ytckmpbmlneionaa.L11
open Go.ChangeShapes Go.WideShapes Go.ChangeAt Go.RowKit Go.Deep

theorem CellsA.of_block {k : Nat} {w : World} {g c : Nat} {cur : Array Value} {t : TypeId} {css : List (List Value)} (h : w.heap[g]? = some (.cells cur t (0, 0))) (hc : cur.toList = css.flatten) (hk : ∀ x ∈ css, x.length = k) (hf : css.length ≤ maxLen) : CellsA k w (.slice (some ⟨g, 0, none⟩) css.length c) css := by
  refine ⟨_, c, rfl, hf, fun j x hx => ⟨_, rfl, (Array.getElem?_eq_some_iff.1 h).1, fun i u hu => ?_⟩⟩
  have hx2 : x.length = k := hk x (List.mem_of_getElem? hx)
  have hi : i < k := by rw [← hx2]; exact (List.getElem?_eq_some_iff.1 hu).1
  rw [add_zeroC, box_cell h, ← Array.getElem?_toList, hc, flat_at hk hx i hi]
  exact hu
theorem ItAt.of_block {w : World} {g c : Nat} {cur : Array Value} {t : TypeId} {l : List Bytes} (h : w.heap[g]? = some (.cells cur t (0, 0))) (hc : cur.toList = txt l) (hl : l.length ≤ c) (hm : c ≤ maxLen) (hs : ∀ z ∈ l, z.length ≤ maxLen) : ItAt w ⟨some ⟨g, 0, none⟩, c, l⟩ :=
  ⟨hl, hm, (fun e => by cases e), hs, fun j z hz => ⟨_, rfl, (Array.getElem?_eq_some_iff.1 h).1, by rw [add_zeroC, box_cell h, ← Array.getElem?_toList, hc, txt, List.getElem?_map, hz]; rfl⟩⟩
theorem PartsA.one {w : World} {v : Value} {q : Pt} (h : PartsA w v [q]) : ∃ (ad : Addr) (c : Nat), v = .slice (some ad) 1 c ∧ ItAt w q.it ∧ ∀ V, Below w.heap.size w V → V.cell? ad = some (.int .i64 q.ep) ∧ V.cell? ⟨ad.block, ad.off + 1, none⟩ = some (.int .i64 q.co) ∧ V.cell? ⟨ad.block, ad.off + 2, none⟩ = some (.int .i64 q.se) ∧ V.cell? ⟨ad.block, ad.off + 3, none⟩ = some q.it.v := by
  obtain ⟨A, c, e, _, hr⟩ := parts_read h
  obtain ⟨ad, rfl, h1, h2, h3⟩ := hr 0 q rfl
  refine ⟨ad, c, e, h1, fun V hV => ?_⟩
  obtain ⟨k0, k1, k2, k3⟩ := h3 V hV
  have e0 : ad.add (0 * 4) = ad := by simp [Addr.add]
  rw [e0] at k0 k1 k2 k3
  exact ⟨k0, k1, k2, k3⟩
theorem LogsA.one {w : World} {v : Value} {q : Lg} (h : LogsA w v [q]) : ∃ (ad : Addr) (c : Nat), v = .slice (some ad) 1 c ∧ ItAt w q.it ∧ ∀ V, Below w.heap.size w V → V.cell? ad = some (.int .i64 q.se) ∧ V.cell? ⟨ad.block, ad.off + 1, none⟩ = some q.it.v := by
  obtain ⟨A, c, e, _, hr⟩ := logs_read h
  obtain ⟨ad, rfl, h1, h2, h3⟩ := hr 0 q rfl
  refine ⟨ad, c, e, h1, fun V hV => ?_⟩
  obtain ⟨k0, k1⟩ := h3 V hV
  have e0 : ad.add (0 * 2) = ad := by simp [Addr.add]
  rw [e0] at k0 k1
  exact ⟨k0, k1⟩
theorem core_one {qs : List Pt} {c : Core} (h : qs.map Pt.core = [c]) : ∃ q, qs = [q] ∧ q.core = c := by
  match qs, h with
  | [q], h => exact ⟨q, rfl, by simpa using h⟩
theorem lcore_one {qs : List Lg} {c : LCore} (h : qs.map Lg.core = [c]) : ∃ q, qs = [q] ∧ q.core = c := by
  match qs, h with
  | [q], h => exact ⟨q, rfl, by simpa using h⟩
theorem RepsA.of_block {w : World} {g c : Nat} {cur : Array Value} {t : TypeId} (rs : List Rp) (h : w.heap[g]? = some (.cells cur t (0, 0))) (hc : cur.toList = (rs.map Rp.cells).flatten) (hf : rs.length ≤ maxLen) (hi : ∀ r ∈ rs, LogsA w r.lv r.lg ∧ isInt r.ep ∧ isInt r.co) : RepsA w (.slice (some ⟨g, 0, none⟩) rs.length c) rs := by
  have := CellsA.of_block (c := c) h hc (rp_four rs) (by rw [List.length_map]; exact hf)
  rw [List.length_map] at this
  exact ⟨this, hi⟩
abbrev tg : Bytes := [103]
abbrev thg : Bytes := [104, 103]
theorem lg_cells1 {w : World} {g c : Nat} {t : TypeId} {l : Lg} (h : w.heap[g]? = some (.cells #[.int .i64 l.se, l.it.v] t (0, 0))) (hi : ItAt w l.it) (hs : isInt l.se) : LogsA w (.slice (some ⟨g, 0, none⟩) 1 c) [l] :=
  ⟨CellsA.of_block (css := [l.cells]) h rfl (lg_two [l]) (by simp [maxLen]), fun x hx => by simp at hx; subst hx; exact ⟨hi, hs⟩⟩
theorem logs_none (w : World) (c : Nat) : LogsA w (.slice none 0 c) [] := ⟨⟨none, c, rfl, by simp, fun j x hx => by simp at hx⟩, by simp⟩
theorem isInt_small (n : Nat) (h : n ≤ 1000000) : isInt (n : Int) := by unfold isInt; omega

set_option maxRecDepth 100000 in
set_option maxHeartbeats 8000000 in
theorem shown_calls (w : World) : Calls Try.prog 10 #[] w (One w (.bool true)) := by
  obtain ⟨W1, hW1⟩ : ∃ W1, w.alloc (.cells #[.string ⟨#[103]⟩] 31) = W1 := ⟨_, rfl⟩
  obtain ⟨p1, b1, s1⟩ := box_new hW1
  obtain ⟨W2, hW2⟩ : ∃ W2, W1.alloc (.cells #[.int .i64 1, .slice (some ⟨w.heap.size, 0, none⟩) 1 1] 76) = W2 := ⟨_, rfl⟩
  obtain ⟨p2, b2, s2⟩ := box_new hW2
  obtain ⟨W3, hW3⟩ : ∃ W3, W2.alloc (.cells #[.string ⟨#[103]⟩, .string ⟨#[104, 103]⟩] 31) = W3 := ⟨_, rfl⟩
  obtain ⟨p3, b3, s3⟩ := box_new hW3
  obtain ⟨W4, hW4⟩ : ∃ W4, W3.alloc (.cells #[.int .i64 1, .slice (some ⟨W2.heap.size, 0, none⟩) 2 2] 76) = W4 := ⟨_, rfl⟩
  obtain ⟨p4, b4, s4⟩ := box_new hW4
  obtain ⟨W5, hW5⟩ : ∃ W5, W4.alloc (.cells #[.int .i64 1, .int .i64 0, .int .i64 0, .slice (some ⟨W1.heap.size, 0, none⟩) 1 1, .int .i64 2, .int .i64 0, .int .i64 0, .slice (some ⟨W3.heap.size, 0, none⟩) 1 1, .int .i64 3, .int .i64 0, .int .i64 0, .slice none 0 0] 73) = W5 := ⟨_, rfl⟩
  obtain ⟨p5, b5, s5⟩ := box_new hW5
  have hi1 : ItAt W1 ⟨some ⟨w.heap.size, 0, none⟩, 1, [tg]⟩ := ItAt.of_block p1 rfl (by simp) (by simp [maxLen]) (by simp [maxLen])
  have hl1 : LogsA W2 (.slice (some ⟨W1.heap.size, 0, none⟩) 1 1) [⟨1, ⟨some ⟨w.heap.size, 0, none⟩, 1, [tg]⟩⟩] := lg_cells1 (l := ⟨1, ⟨some ⟨w.heap.size, 0, none⟩, 1, [tg]⟩⟩) p2 (hi1.below b2) (isInt_small 1 (by omega))
  have hi2 : ItAt W3 ⟨some ⟨W2.heap.size, 0, none⟩, 2, [tg, thg]⟩ := ItAt.of_block p3 rfl (by simp) (by simp [maxLen]) (by simp [maxLen])
  have hl2 : LogsA W4 (.slice (some ⟨W3.heap.size, 0, none⟩) 1 1) [⟨1, ⟨some ⟨W2.heap.size, 0, none⟩, 2, [tg, thg]⟩⟩] := lg_cells1 (l := ⟨1, ⟨some ⟨W2.heap.size, 0, none⟩, 2, [tg, thg]⟩⟩) p4 (hi2.below b4) (isInt_small 1 (by omega))
  have hl15 := ((hl1.below b3).below b4).below b5
  have hl25 := hl2.below b5
  have hR : RepsA W5 (.slice (some ⟨W4.heap.size, 0, none⟩) 3 3) [⟨1, 0, 0, .slice (some ⟨W1.heap.size, 0, none⟩) 1 1, [⟨1, ⟨some ⟨w.heap.size, 0, none⟩, 1, [tg]⟩⟩]⟩, ⟨2, 0, 0, .slice (some ⟨W3.heap.size, 0, none⟩) 1 1, [⟨1, ⟨some ⟨W2.heap.size, 0, none⟩, 2, [tg, thg]⟩⟩]⟩, ⟨3, 0, 0, .slice none 0 0, []⟩] := by
    refine RepsA.of_block [_, _, _] p5 rfl (by simp [maxLen]) (fun r hr => ?_)
    have z0 : isInt 0 := isInt_small 0 (by omega)
    simp only [List.mem_cons, List.not_mem_nil, or_false] at hr
    rcases hr with rfl | rfl | rfl
    · exact ⟨hl15, z0, z0⟩
    · exact ⟨hl25, z0, z0⟩
    · exact ⟨logs_none _ _, z0, z0⟩
  have hcut := cut_calls W5 hR (by simp [ptsOf]) (fun p hp => by
    rcases fold_mem hp with hp | ⟨hp, _⟩
    · simp at hp
    · simp [ptsOf] at hp
      rcases hp with rfl | rfl <;> simp)
  have hcp : (cutP [⟨1, 0, 0, .slice (some ⟨W1.heap.size, 0, none⟩) 1 1, [⟨1, ⟨some ⟨w.heap.size, 0, none⟩, 1, [tg]⟩⟩]⟩, ⟨2, 0, 0, .slice (some ⟨W3.heap.size, 0, none⟩) 1 1, [⟨1, ⟨some ⟨W2.heap.size, 0, none⟩, 2, [tg, thg]⟩⟩]⟩, ⟨3, 0, 0, .slice none 0 0, []⟩]).map Pt.core = [(0, 0, 1, [tg, thg])] := by
    simp [cutP, ptsOf, stepP, insP, keyP, Pt.core]
  rw [hcp] at hcut
  have HCut := Lib.hid hcut
  have HL5 := Lib.hid hl15
  have HB5 : Hid (Below w.heap.size w W5) := b1.trans ((b2.mono b1.size).trans ((b3.mono (Nat.le_trans b1.size b2.size)).trans ((b4.mono (Nat.le_trans (Nat.le_trans b1.size b2.size) b3.size)).trans (b5.mono (Nat.le_trans (Nat.le_trans (Nat.le_trans b1.size b2.size) b3.size) b4.size)))))
  clear hcp hcut hR hl15 hl25 hl1 hl2 hi1 hi2 p1 p2 p3 p4 p5 b1 b2 b3 b4 b5 s1 s2 s3 s4 s5
  go_enter Try.func10, Try.ntmps10
  go_wp2_with fail
  refine HCut.out.mono ?_
  rintro e w6 ⟨v, qs, rfl, hq, hP, b6⟩
  obtain ⟨q, rfl, hq1⟩ := core_one hq
  simp only [Pt.core, Prod.mk.injEq] at hq1
  have HMi := miss_calls (ep := 0) (co := 0) w6 hP (HL5.out.below b6) (by simp) (by simp) (fun p hp => by simp at hp; subst hp; rw [hq1.2.2.2]; simp)
  have hmc : missC ([q].map Pt.core) 0 0 ([(⟨1, ⟨some ⟨w.heap.size, 0, none⟩, 1, [tg]⟩⟩ : Lg)].map Lg.core) = [(1, [thg])] := by
    simp only [List.map_cons, List.map_nil, Pt.core, hq1.1, hq1.2.1, hq1.2.2.1, hq1.2.2.2]
    simp [missC, missOne, ownC, Lg.core, beginsL]
  rw [hmc] at HMi
  have HMi := Lib.hid HMi
  obtain ⟨ad, c, rfl, hqi, hqc⟩ := hP.one
  have HQ := Lib.hid hqi
  have HC := Lib.hid hqc
  have HB6 : Hid (Below w.heap.size w w6) := HB5.out.trans (b6.mono HB5.out.size)
  obtain ⟨k0, k1, k2, k3⟩ := hqc w6 (Below.refl _ _)
  have hsq := hq1.2.2.1
  have hlq := hq1.2.2.2
  clear hq hP hqi hqc hmc HCut hq1 b6 HL5 HB5
  go_wp2_with fail
  refine HMi.out.mono ?_
  rintro e w7 ⟨v2, ms, rfl, hm, hL, b7⟩
  obtain ⟨l, rfl, hm1⟩ := lcore_one hm
  simp only [Lg.core, Prod.mk.injEq] at hm1
  obtain ⟨ad2, c2, rfl, hli, hlc⟩ := hL.one
  obtain ⟨k0, k1, k2, k3⟩ := HC.out w7 b7
  obtain ⟨m0, m1⟩ := hlc w7 (Below.refl _ _)
  have HB7 : Hid (Below w.heap.size w w7) := HB6.out.trans (b7.mono HB6.out.size)
  obtain ⟨W8, hW8⟩ : ∃ W8, w7.alloc (.cells #[.string ⟨#[103]⟩, .string ⟨#[104, 103]⟩] 9) = W8 := ⟨_, rfl⟩
  obtain ⟨p8, b8, _⟩ := box_new hW8
  have hy8 : ItAt W8 ⟨some ⟨w7.heap.size, 0, none⟩, 2, [tg, thg]⟩ := ItAt.of_block p8 rfl (by simp) (by simp [maxLen]) (by simp [maxLen])
  have HS1 := Lib.hid (same_calls q.it ⟨some ⟨w7.heap.size, 0, none⟩, 2, [tg, thg]⟩ W8 ((HQ.out.below b7).below b8) hy8)
  simp only [hlq, decide_true] at HS1
  have HX : Hid (∀ w9, Below W8.heap.size W8 w9 → (w9.cell? ad2 = some (.int .i64 l.se) ∧ w9.cell? ⟨ad2.block, ad2.off + 1, none⟩ = some l.it.v) ∧ ItAt w9 l.it ∧ Below w.heap.size w w9) := fun w9 b9 => by
    have b79 : Below w7.heap.size w7 w9 := b8.trans (b9.mono b8.size)
    exact ⟨hlc w9 b79, hli.below b79, HB7.out.trans (b79.mono HB7.out.size)⟩
  obtain ⟨qe, qc, qs, ⟨qa, qk, ql⟩⟩ := q
  obtain ⟨ls, ⟨la, lk, ll⟩⟩ := l
  simp only [It.v] at *
  obtain rfl := hsq
  obtain rfl := hlq
  obtain ⟨rfl, rfl⟩ := hm1
  simp only [List.length_cons, List.length_nil, Nat.zero_add, Nat.reduceAdd] at *
  clear hL hlc hli hm b7 b8 p8 hy8 HC HQ HB6 HB7 m0 m1 HMi
  go_wp2_with fail
  refine HS1.out.mono ?_
  rintro e w9 ⟨rfl, b9⟩
  obtain ⟨⟨n0, n1⟩, hli9, hb9⟩ := HX.out w9 b9
  obtain ⟨W10, hW10⟩ : ∃ W10, w9.alloc (.cells #[.string ⟨#[104, 103]⟩] 9) = W10 := ⟨_, rfl⟩
  obtain ⟨p10, b10, _⟩ := box_new hW10
  have hy10 : ItAt W10 ⟨some ⟨w9.heap.size, 0, none⟩, 1, [thg]⟩ := ItAt.of_block p10 rfl (by simp) (by simp [maxLen]) (by simp [maxLen])
  have HS2 := Lib.hid (same_calls ⟨la, lk, [thg]⟩ ⟨some ⟨w9.heap.size, 0, none⟩, 1, [thg]⟩ W10 (hli9.below b10) hy10)
  have HB10 : Hid (Below w.heap.size w W10) := hb9.trans (b10.mono hb9.size)
  simp only [It.v, List.length_cons, List.length_nil, Nat.zero_add, decide_true] at HS2
  clear b9 hli9 hb9 b10 p10 hy10 HX HS1 k0 k1 k2 k3
  go_wp2_with fail
  refine HS2.out.mono ?_
  rintro e w11 ⟨rfl, b11⟩
  have HF : Hid (Below w.heap.size w w11) := HB10.out.trans (b11.mono HB10.out.size)
  clear b11 HS2
  go_wp2
  go_ret
  exact ⟨rfl, HF.out⟩
end Go.Proofs.Ytckmpbmlneionaa.L11
end

section
namespace Go.Proofs.Ytckmpbmlneionaa.L11
open Go.ChangeShapes Go.WideShapes Go.ChangeAt Go.RowKit Go.Deep

/-- A row of ints that came in. -/
structure IntsI (w : World) (v : Value) (xs : List Int) : Prop where
  reads : ∃ A c, v = .slice A xs.length c ∧ ∀ j x, xs[j]? = some x → ∃ ad : Addr, A = some ad ∧ ad.block < w.heap.size ∧ w.cell? (ad.add j) = some (.int .i64 x) ∧ isInt x
  few : xs.length ≤ maxLen
theorem IntsI.below {w W : World} {v : Value} {xs : List Int} (h : IntsI w v xs) (hb : Below w.heap.size w W) : IntsI W v xs := by
  obtain ⟨A, c, e, hr⟩ := h.reads
  refine ⟨⟨A, c, e, fun j x hx => ?_⟩, h.few⟩
  obtain ⟨ad, e2, h1, h2, h3⟩ := hr j x hx
  exact ⟨ad, e2, Nat.lt_of_lt_of_le h1 hb.size, (hb.cell (p := ad.add j) (by rw [addr_blockC]; exact h1)).trans h2, h3⟩
def numT (n : Nat) : Bytes := 117 :: Tm.be8 n
theorem numT_short (n : Nat) : (numT n).length ≤ maxLen := by simp [numT, Tm.be8, maxLen]
def numsL (s n : Nat) : List Bytes := (List.range n).map fun i => numT (100 * s + i)
theorem numsL_len (s n : Nat) : (numsL s n).length = n := by simp [numsL]
theorem numsL_succ (s n : Nat) : numsL s (n + 1) = numsL s n ++ [numT (100 * s + n)] := by simp [numsL, List.range_succ]
def nOf (xs : List Int) (s : Nat) : Nat := if s ≤ xs.length then pickN (xs.getD (s - 1) 0) 6 else 0
def rowOne (f : Nat → Nat) (s : Nat) : List LCore := if f s = 0 then [] else [((s : Int), numsL s (f s))]
def rowsC (f : Nat → Nat) (t : Nat) : List LCore := (List.range t).flatMap fun j => rowOne f (j + 1)
theorem rowsC_succ (f : Nat → Nat) (t : Nat) : rowsC f (t + 1) = rowsC f t ++ rowOne f (t + 1) := by simp [rowsC, List.range_succ]
def RowsGo (w : World) (xs : List Int) (k : Nat) (v3 v4 : Value) (wr : World) : Prop :=
  ∃ (s : Nat) (ls : List Lg), k + s = 4 ∧ 1 ≤ s ∧ v4 = .int .i64 s ∧ ls.map Lg.core = rowsC (nOf xs) (s - 1) ∧ ls.length ≤ s ∧ (∀ l ∈ ls, OwnIt wr w.heap.size l.it ∧ isInt l.se) ∧
    wr.ownsRow w.heap.size 76 2 v3 ls.length (flatG ls) ∧ Below w.heap.size w wr
def RowI (W1 : World) (s n k : Nat) (v6 v7 : Value) (wr : World) : Prop :=
  ∃ i : Nat, k + i = n ∧ v7 = .int .i64 i ∧ wr.ownsRow W1.heap.size 31 1 v6 i (txt (numsL s i)) ∧ Below W1.heap.size W1 wr
/-- Logs in memory of the call's own. -/
structure OwnL (w : World) (B : Nat) (v : Value) (ls : List Lg) : Prop where
  own : w.ownsRow B 76 2 v ls.length (flatG ls)
  few : ls.length ≤ 1000000
  its : ∀ l ∈ ls, OwnIt w B l.it ∧ isInt l.se
theorem OwnL.logs {w : World} {B : Nat} {v : Value} {ls : List Lg} (h : OwnL w B v ls) : LogsA w v ls := LogsA.of_own h.own (by have := h.few; unfold maxLen; omega) (fun l hl => ⟨(h.its l hl).1.at, (h.its l hl).2⟩)
theorem OwnL.below {w W : World} {B : Nat} {v : Value} {ls : List Lg} (h : OwnL w B v ls) (hb : Below w.heap.size w W) : OwnL W B v ls := ⟨L5.own_below h.own hb, h.few, fun l hl => ⟨⟨L5.own_below (h.its l hl).1.own hb, (h.its l hl).1.short⟩, (h.its l hl).2⟩⟩
theorem OwnL.grown {w w' : World} {B : Nat} {u : Value} {ls : List Lg} (h : OwnL w B u ls) {v : Value} {n : Nat} {xs : List Value} {e : TypeId} {B' size : Nat} (hr : w.ownsRow B' e size v n xs) (he : e ≠ 31) (he2 : e ≠ 76) (hg : w.grownBy w' v.ownBlock) : OwnL w' B u ls := by
  refine ⟨h.own.kept hg ?_, h.few, fun l hl => ⟨(h.its l hl).1.grown hr he hg, (h.its l hl).2⟩⟩
  rcases h.own.2 with ⟨e1, _⟩ | ⟨g, cap, cur, e1, _, h1, _⟩
  · rw [e1]; exact .inl rfl
  · right
    intro e2
    rw [e1] at e2
    rcases hr.2 with ⟨e3, _⟩ | ⟨g', cap', cur', e3, _, h3, _⟩
    · rw [e3] at e2; cases e2
    · rw [e3] at e2
      have : g = g' := by cases e2; rfl
      subst this
      rw [h1] at h3
      cases h3
      exact he2 rfl
def LogsOwn (w : World) (cs : List LCore) (e : Ending) (w' : World) : Prop := ∃ (v : Value) (ls : List Lg), e = .returned v ∧ ls.map Lg.core = cs ∧ OwnL w' w.heap.size v ls ∧ Below w.heap.size w w'
set_option maxRecDepth 100000 in
set_option maxHeartbeats 8000000 in
theorem rows_own {v : Value} {xs : List Int} (w : World) (h : IntsI w v xs) : Calls Try.prog 33 #[v] w (LogsOwn w (rowsC (nOf xs) 3)) := by
  obtain ⟨i0, hi, hz0, hz1, hz2⟩ := info_partsC info_log
  obtain ⟨j0, hj, hy0, hy1, hy2⟩ := info_parts info_term
  obtain ⟨⟨A, c, rfl, hr⟩, hf⟩ := h
  have HR := Lib.hid hr
  unfold maxLen at hf
  clear hr
  go_enter Try.func33, Try.ntmps33
  go_wp2
  go_loopg [3, 4] 3 (fun k v3 v4 wr => RowsGo w xs k v3 v4 wr)
  case atStart => exact ⟨1, [], rfl, by omega, rfl, rfl, by simp, by simp, World.ownsRow_nil _ _ _ _, Below.refl _ _⟩
  case round =>
    obtain ⟨s, ls, hk, hs1, rfl, hco, hll, hit, hrow, hB⟩ := hrel
    by_cases hs3 : s ≤ 3
    · have j1 : (s : Int) ≤ 3 := by omega
      have j0' : (1 : Int) ≤ (s : Int) := by omega
      have hgk := Lib.hid (show gk - 1 < gk by omega)
      obtain ⟨g0, hg0⟩ : ∃ g0, gk - 1 = g0 := ⟨_, rfl⟩
      rw [hg0] at hgk
      have hgs : g0 + (s + 1) = 4 := by omega
      have hbs := hB.size
      obtain ⟨A9, c9, rfl⟩ := L5.own_slice hrow
      have HNo : Hid (nOf xs s = 0 → ∀ V, Below wr.heap.size wr V → RowsGo w xs g0 (.slice A9 ls.length c9) (.int .i64 ((s + 1 : Nat) : Int)) V) := fun h0 V hV => by
        refine ⟨s + 1, ls, hgs, by omega, rfl, ?_, by omega, fun l hl => ⟨⟨L5.own_below (hit l hl).1.own hV, (hit l hl).1.short⟩, (hit l hl).2⟩, L5.own_below hrow hV, hB.trans (hV.mono hbs)⟩
        rw [show s + 1 - 1 = (s - 1) + 1 by omega, rowsC_succ, hco, rowOne, show s - 1 + 1 = s by omega, if_pos h0, List.append_nil]
      have HYes : Hid (∀ n V (v6 : Value), n = nOf xs s → n ≠ 0 → Below wr.heap.size wr V → V.ownsRow wr.heap.size 31 1 v6 n (txt (numsL s n)) → ∃ (A : Option Addr) (c : Nat), v6 = .slice A n c ∧
          (V.alloc (.cells #[.int .i64 s, .slice A n c] 76)).ownsRow w.heap.size 76 2 (.slice A9 ls.length c9) ls.length (flatG ls) ∧
          (∀ (j : Nat) (u : Value), [Value.int .i64 s, .slice A n c][j]? = some u → (V.alloc (.cells #[.int .i64 s, .slice A n c] 76)).cell? ((⟨V.heap.size, 0, none⟩ : Addr).add j) = some u) ∧ ls.length ≤ 10 ∧ w.heap.size ≤ V.heap.size ∧
          ∀ v' W', W'.ownsRow w.heap.size 76 2 v' (ls.length + 1) (flatG ls ++ [.int .i64 s, .slice A n c]) → (V.alloc (.cells #[.int .i64 s, .slice A n c] 76)).grownBy W' (Value.slice A9 ls.length c9).ownBlock → RowsGo w xs g0 v' (.int .i64 ((s + 1 : Nat) : Int)) W') := by
        intro n V v6 hn hn0 hV h6
        have h6' : V.ownsRow w.heap.size 31 1 v6 (numsL s n).length (txt (numsL s n)) := by rw [numsL_len]; exact h6.mono hbs
        have hsh : ∀ z ∈ numsL s n, z.length ≤ maxLen := fun z hz => by
          obtain ⟨i, _, rfl⟩ := List.mem_map.1 hz
          exact numT_short _
        obtain ⟨A, c, rfl⟩ := L5.own_slice h6
        have hO : OwnIt V w.heap.size ⟨A, c, numsL s n⟩ := ⟨by simp only [It.v]; rw [numsL_len] at h6' ⊢; exact h6', hsh⟩
        have hr := L5.own_below hrow hV
        refine ⟨A, c, rfl, hr.alloc _, fun j u hu => ?_, by omega, Nat.le_trans hbs hV.size, fun v' W' k1 k2 => ?_⟩
        · rw [add_zeroC]
          simp only [World.cell?]
          rw [World.alloc_heap_new V _]
          simpa using hu
        · have k3 := (World.grownBy_alloc V (.cells #[.int .i64 s, .slice A n c] 76) (Value.slice A9 ls.length c9).ownBlock).trans k2
          refine ⟨s + 1, ls ++ [⟨s, ⟨A, c, numsL s n⟩⟩], hgs, by omega, rfl, ?_, by simp; omega, fun l hl => ?_, ?_, (hB.trans (hV.mono hbs)).grown k3 (Nat.le_trans hbs hV.size) (fun q e => (hr.lt q e).1)⟩
          · rw [show s + 1 - 1 = (s - 1) + 1 by omega, rowsC_succ, List.map_append, hco, rowOne, show s - 1 + 1 = s by omega, ← hn, if_neg hn0]
            rfl
          · rcases List.mem_append.1 hl with hl | hl
            · exact ⟨(OwnIt.mk (L5.own_below (hit l hl).1.own hV) (hit l hl).1.short).grown hr (of_decide_eq_true (by kernel_rfl)) k3, (hit l hl).2⟩
            · simp at hl
              subst hl
              exact ⟨hO.grown hr (of_decide_eq_true (by kernel_rfl)) k3, isInt_small s (by omega)⟩
          · rw [flatG_snoc, List.length_append]
            simp only [Lg.cells, It.v, numsL_len]
            exact k1
      have hns : nOf xs s < 6 := by
        unfold nOf
        split
        · exact pickN_lt _ (by omega)
        · omega
      by_cases hsx : s ≤ xs.length
      · obtain ⟨x, hx⟩ : ∃ x, xs[s - 1]? = some x := ⟨_, List.getElem?_eq_getElem (by omega)⟩
        obtain ⟨ad, rfl, hadb, hcx, hxi⟩ := HR.out (s - 1) x hx
        have c1 : wr.cell? (ad.add (s - 1)) = some (.int .i64 x) := (hB.cell (p := ad.add (s - 1)) (by rw [addr_blockC]; exact hadb)).trans hcx
        have hn : nOf xs s = pickN x 6 := by
          unfold nOf
          rw [if_pos hsx, List.getD, hx]
          rfl
        have HP := Lib.hid (pick_is hxi (n := 6) (by omega) (by omega) wr)
        obtain ⟨s1, hs1'⟩ : ∃ s1, s = s1 + 1 := ⟨s - 1, by omega⟩
        subst hs1'
        rw [show s1 + 1 - 1 = s1 by omega] at c1
        have k1 : ((s1 + 1 : Nat) : Int) ≤ (xs.length : Int) := by omega
        have k2 : ((s1 + 1 : Nat) : Int) - 1 = (s1 : Int) := by omega
        have k3 : (0 : Int) ≤ (s1 : Int) := by omega
        have k4 : (s1 : Int) < (xs.length : Int) := by omega
        rw [hn] at HNo HYes hns
        obtain ⟨n, hnn⟩ : ∃ n, pickN x 6 = n := ⟨_, rfl⟩
        rw [hnn] at HNo HYes HP hns
        have HN := Lib.hid hnn
        clear hn hk hco hll hit hrow hB hx hadb hcx hnn hg0 hsx
        go_wp2_with fail
        refine HP.out.mono ?_
        rintro e w5 ⟨rfl, rfl⟩
        go_wp2
        have HSt : Hid (RowI wr (s1 + 1) n n (.slice none 0 0) (.int .i64 0) wr) := ⟨0, by omega, rfl, World.ownsRow_nil _ _ _ _, Below.refl _ _⟩
        clear HP c1 k1 k2 k3 k4 HR
        obtain ⟨W0, hW0⟩ : ∃ W0, W0 = wr := ⟨_, rfl⟩
        obtain ⟨B0, hB0⟩ : ∃ B0, W0.heap.size = B0 := ⟨_, rfl⟩
        rw [← hW0] at HSt HNo HYes
        rw [hB0] at HNo HYes
        go_loopg [6, 7] n (fun k v6 v7 w2 => RowI W0 (s1 + 1) n k v6 v7 w2)
        case atStart => rw [← hW0]; exact HSt.out
        clear HSt hW0
        case round =>
          obtain ⟨i, hk, rfl, hrow, hB⟩ := hrel
          by_cases hin : i < n
          · have m1 : (i : Int) < (n : Int) := by omega
            have m2 : (0 : Int) ≤ (i : Int) := by omega
            have hgk2 := Lib.hid (show gk - 1 < gk by omega)
            have HNum : Hid (∀ V, Calls Try.prog 35 #[.int .u64 (100 * ((s1 : Int) + 1) + (i : Int))] V (One V (.string ⟨(numT (100 * (s1 + 1) + i)).toArray⟩))) := fun V => by
              rw [show (100 * ((s1 : Int) + 1) + (i : Int)) = ((100 * (s1 + 1) + i : Nat) : Int) by omega]
              exact Number_calls (100 * (s1 + 1) + i) (by omega) V
            obtain ⟨A6, c6, rfl⟩ := L5.own_slice hrow
            have HRw : Hid (∀ V, Below wr.heap.size wr V → (V.alloc (.cells #[.string ⟨(numT (100 * (s1 + 1) + i)).toArray⟩] 31)).ownsRow B0 31 1 (.slice A6 i c6) i (txt (numsL (s1 + 1) i)) ∧ B0 ≤ V.heap.size ∧
                ∀ v' w1, w1.ownsRow B0 31 1 v' (i + 1) (txt (numsL (s1 + 1) i) ++ [.string ⟨(numT (100 * (s1 + 1) + i)).toArray⟩]) → (V.alloc (.cells #[.string ⟨(numT (100 * (s1 + 1) + i)).toArray⟩] 31)).grownBy w1 (Value.slice A6 i c6).ownBlock → RowI W0 (s1 + 1) n (gk - 1) v' (.int .i64 ((i + 1 : Nat) : Int)) w1) := fun V hV => by
              have hr := L5.own_below hrow hV
              have hb := hB.trans (hV.mono hB.size)
              have hbz := hb.size
              rw [hB0] at hr hb hbz
              refine ⟨hr.alloc _, hbz, fun v' w1 k1 k2 => ⟨i + 1, by omega, rfl, ?_, ?_⟩⟩
              · rw [numsL_succ, txt_append, hB0]; exact k1
              · rw [hB0]; exact (hb.alloc hbz _).grown k2 (Nat.le_trans hbz (by simp)) (fun q e => (hr.lt q e).1)
            clear hk hrow hB
            go_wp2_with fail
            refine (HNum.out _).mono ?_
            rintro e w6 ⟨rfl, b6⟩
            obtain ⟨r1, r2, r3⟩ := HRw.out w6 b6
            have HR1 := Lib.hid r1
            have HR3 := Lib.hid r3
            clear r1 r3 b6 HRw HNum
            generalize numT (100 * (s1 + 1) + i) = tx at *
            go_wp2_with (at_builtin; refine wpList_append_own _ rfl _ _ 30 rfl B0 31 j0 (.string ⟨#[]⟩) 1 16 Try.underlying30 hj hy0 hy1 hy2 rfl (by decide) _ _ _ rfl HR1.out ⟨w6.heap.size, 0, none⟩ 1 1 [.string ⟨tx.toArray⟩] rfl rfl (cell_one_new _ _ _) (by simp [Value.oneCell']) (by unfold maxLen; omega) (by omega) (by simp; omega) ?_; intro v' w1 hown' hgrow _; have HJ := Lib.hid (HR3.out v' w1 hown' hgrow); clear hown' hgrow)
            go_roundg (gk - 1)
            case measure => exact hgk2.out
            case rel => exact HJ.out
          · obtain rfl : i = n := by omega
            have m1 : ¬ (i : Int) < (i : Int) := by omega
            rw [hB0] at hrow hB
            by_cases hn0 : i = 0
            · subst hn0
              have HF := Lib.hid (HNo.out rfl wr hB)
              clear hk hrow hB HYes HNo
              go_wp2
              go_roundg g0
              case measure => exact hgk.out
              case rel => exact HF.out
            · obtain ⟨A6, c6, rfl, q1, q2, q3, q4, q5⟩ := HYes.out i wr u6 rfl hn0 hB hrow
              have m3 : (0 : Int) < (i : Int) := by omega
              have e1 : ((s1 + 1 : Nat) : Int) = (s1 : Int) + 1 := by omega
              rw [e1] at q1 q2 q5
              have HQ1 := Lib.hid q1
              have HQ2 := Lib.hid q2
              have HQ5 := Lib.hid q5
              clear hk hrow hB HYes HNo q1 q2 q5 hn0
              go_wp2_with (at_builtin; refine wpList_append_own _ rfl _ _ 22 rfl w.heap.size 76 i0 zeroLg 2 32 Try.underlying22 hi hz0 hz1 hz2 rfl (by decide) _ _ _ rfl HQ1.out ⟨wr.heap.size, 0, none⟩ 1 1 [.int .i64 ((s1 : Int) + 1), .slice A6 i c6] rfl rfl HQ2.out (by simp [Value.oneCell']) (by unfold maxLen; omega) (by omega) (by simp; omega) ?_; intro v' w1 hown' hgrow _; have HJ := Lib.hid (HQ5.out v' w1 hown' hgrow); clear hown' hgrow)
              go_roundg g0
              case measure => exact hgk.out
              case rel => exact HJ.out
      · have j2 : ¬ (s : Int) ≤ (xs.length : Int) := by omega
        have hn : nOf xs s = 0 := by unfold nOf; rw [if_neg hsx]
        have HF := Lib.hid (HNo.out hn)
        obtain ⟨W0, hW0⟩ : ∃ W0, W0 = wr := ⟨_, rfl⟩
        rw [← hW0] at HF
        clear hk hco hll hit hrow hB HYes HNo hg0 hns hn hsx hbs HR
        go_wp2
        go_loopg [6, 7] 0 (fun _ v6 v7 w2 => v6 = .slice none 0 0 ∧ v7 = .int .i64 0 ∧ w2 = W0)
        case atStart => exact ⟨rfl, rfl, hW0.symm⟩
        clear hW0
        case round =>
          obtain ⟨rfl, rfl, rfl⟩ := hrel
          have HJ := Lib.hid (HF.out _ (Below.refl _ _))
          clear HF
          go_wp2
          go_roundg g0
          case measure => exact hgk.out
          case rel => exact HJ.out
    · obtain rfl : s = 4 := by omega
      have HF : Hid (∀ v, v = u3 → LogsOwn w (rowsC (nOf xs) 3) (.returned v) wr) := fun v e => by
        subst e
        exact ⟨_, ls, rfl, hco, ⟨hrow, by omega, hit⟩, hB⟩
      clear hk hco hit hrow hB hll
      go_wp2
      go_ret
      exact HF.out _ rfl
theorem rows_calls {v : Value} {xs : List Int} (w : World) (h : IntsI w v xs) : Calls Try.prog 33 #[v] w (LogsOut w (rowsC (nOf xs) 3)) :=
  (rows_own w h).mono fun _ _ ⟨v, ls, e, h1, h2, h3⟩ => ⟨v, ls, e, h1, h2.logs, h3⟩
end Go.Proofs.Ytckmpbmlneionaa.L11
end
