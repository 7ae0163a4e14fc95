/- Contract of cut.firstLogs: the first log of each sender, in a map. -/
import Derived.Test.YtkalmfhebffklaaCtLong
import Derived.Deep.RegionHeld3
import Derived.Deep.CutBlock
import Derived.Deep.DeepCutAuto
namespace Go.Proofs.Ytkalmfhebffklaa.L11
open Go.ChangeShapes Go.WideShapes Go.ChangeAt Go.RowKit Go.Deep
open Go.Maps (Keyed)

theorem keyed_intC : Keyed Try.prog 3 := Maps.int_keyed Try.underlying3
theorem key_intC {k : Int} (hk : isInt k) : keyOf Try.prog 3 (.int .i64 k) = some (.int .i64 k) := Maps.keyOf_int_mk Try.underlying3 (wf_of hk)
theorem lit_intC (k : Int) : WideAt.IsKeyLit (.int .i64 k) := by simp [WideAt.IsKeyLit]
def Lg.val (l : Lg) : Value := .agg l.cells.toArray
def zeroLg : Value := .agg #[.int .i64 0, .slice none 0 0]
theorem zero_log (W : World) : (zeroValue 76).run Try.prog W = .ok zeroLg W := by kernel_rfl
def findL (ls : List Lg) (s : Int) : Option Lg := ls.find? (fun l => decide (l.se = s))
theorem findL_snoc (ls : List Lg) (l : Lg) (s : Int) : findL (ls ++ [l]) s = match findL ls s with | some x => some x | none => if l.se = s then some l else none := by
  unfold findL
  rw [List.find?_append]
  cases ls.find? (fun l => decide (l.se = s)) with
  | some x => rfl
  | none =>
    by_cases h : l.se = s <;> simp [h]
/-- The map in memory. -/
def MapF (W : World) (b n : Nat) (ls : List Lg) : Prop := ∃ D : DataW Value, W.ownsMap Try.prog 3 heldC b n D ∧ ∀ s, isInt s → ∀ z, D.atKey (.int .i64 s) z = match findL ls s with | some l => .held l.val | none => z
theorem MapF.made (W : World) : MapF (W.alloc (.map #[] 0)) W.heap.size 0 [] :=
  ⟨.map [], World.ownsMap_made W _ _ _, fun s _ z => by simp [DataW.atKey, findL]⟩
theorem MapF.lt {W : World} {b n : Nat} {ls : List Lg} (h : MapF W b n ls) : b < W.heap.size := by
  obtain ⟨D, h1, _⟩ := h
  exact h1.lt
theorem MapF.same {W W' : World} {b n : Nat} {ls : List Lg} (h : MapF W b n ls) (hb : W'.heap[b]? = W.heap[b]?) : MapF W' b n ls := by
  obtain ⟨D, ⟨es, clock, h1, h2⟩, h3⟩ := h
  exact ⟨D, ⟨es, clock, hb.trans h1, h2⟩, h3⟩
def valF (o : Option Lg) : Value := match o with | some l => l.val | none => zeroLg
theorem MapF.look {W : World} {b n : Nat} {ls : List Lg} (h : MapF W b n ls) {s : Int} (hs : isInt s) :
    (Instr.lookup 109 (.map (some b)) (.int .i64 s) false).run Try.prog W = .ok (valF (findL ls s)) W := by
  obtain ⟨D, h1, h2⟩ := h
  obtain ⟨v, q, hrun, hv⟩ := h1.lookup keyed_intC Try.underlying109 (zero_log W) (zd := .held zeroLg) (zp := []) rfl (key_intC hs)
  rw [hrun]
  simp only [heldC, Option.some.injEq, Prod.mk.injEq] at hv
  have h3 := h2 s hs (.held zeroLg)
  have h4 := hv.1
  rw [h3] at h4
  unfold valF
  cases hf : findL ls s with
  | none => rw [hf] at h4; simp at h4; rw [h4]
  | some l => rw [hf] at h4; simp at h4; rw [h4]
theorem MapF.look_ok {W : World} {b n : Nat} {ls : List Lg} (h : MapF W b n ls) {s : Int} (hs : isInt s) :
    (Instr.lookup 109 (.map (some b)) (.int .i64 s) true).run Try.prog W = .ok (.tuple #[valF (findL ls s), .bool (findL ls s).isSome]) W := by
  obtain ⟨D, h1, h2⟩ := h
  obtain ⟨v, q, hrun, hv⟩ := h1.look_ok keyed_intC Try.underlying109 (zero_log W) (zd := .held zeroLg) (zp := []) rfl (key_intC hs)
  rw [hrun]
  simp only [heldC, Option.some.injEq, Prod.mk.injEq] at hv
  have h3 := h2 s hs
  unfold valF
  cases hf : findL ls s with
  | none =>
    simp only [hf] at h3
    rw [h3] at hv
    rw [Maps.has_false_of_atKey h3]
    have h4 := hv.1
    simp at h4
    rw [h4]
    rfl
  | some u =>
    simp only [hf] at h3
    rw [h3] at hv
    rw [Maps.has_true_of_atKey h3]
    have h4 := hv.1
    simp at h4
    rw [h4]
    rfl
theorem MapF.set {W : World} {b n : Nat} {ls : List Lg} (h : MapF W b n ls) (hn : n < maxLen) {l : Lg} (hs : isInt l.se) (hno : findL ls l.se = none) :
    ∃ W', (Instr.mapUpdate 109 (.map (some b)) (.int .i64 l.se) l.val).run Try.prog W = .ok () W' ∧ MapF W' b (n + 1) (ls ++ [l]) ∧ W.grownBy W' (some b) := by
  obtain ⟨D, h1, h2⟩ := h
  obtain ⟨W', hrun, h3, h4⟩ := h1.store keyed_intC Try.underlying109 hn (key_intC hs) (d := .held l.val) (ps := []) rfl
  refine ⟨W', hrun, ⟨_, h3, fun x hx z => ?_⟩, h4.grown⟩
  rw [findL_snoc]
  by_cases hxs : x = l.se
  · subst hxs
    rw [Maps.atKey_put_same h1.isMap (lit_intC _), hno]
    simp
  · rw [Maps.atKey_put_other (by simp only [ne_eq, Lit.int.injEq, true_and]; omega), h2 x hx z]
    cases findL ls x with
    | none => rw [if_neg (by omega)]
    | some y => rfl
theorem MapF.skip {W : World} {b n : Nat} {ls : List Lg} (h : MapF W b n ls) {l : Lg} (hy : findL ls l.se ≠ none) : MapF W b n (ls ++ [l]) := by
  obtain ⟨D, h1, h2⟩ := h
  refine ⟨D, h1, fun x hx z => ?_⟩
  rw [findL_snoc, h2 x hx z]
  cases hf : findL ls x with
  | some y => rfl
  | none =>
    rw [if_neg (fun e => hy (by rw [e]; exact hf))]

def FirstGo (w : World) (ls : List Lg) (k : Nat) (vi : Value) (wr : World) : Prop :=
  ∃ i n : Nat, k + i = ls.length ∧ vi = .int .i64 i ∧ n ≤ i ∧ MapF wr w.heap.size n (ls.take i) ∧ Below w.heap.size w wr
def FirstOut (w : World) (ls : List Lg) (e : Ending) (w' : World) : Prop := ∃ n, e = .returned (.map (some w.heap.size)) ∧ MapF w' w.heap.size n ls ∧ Below w.heap.size w w'
set_option maxRecDepth 100000 in
set_option maxHeartbeats 4000000 in
theorem first_calls {v : Value} {ls : List Lg} (w : World) (h : LogsA w v ls) (hlen : ls.length ≤ 1000000) : Calls Try.prog 51 #[v] w (FirstOut w ls) := by
  obtain ⟨A, c, rfl, hf, hr⟩ := logs_read h
  have HR := Lib.hid hr
  have H0 : Hid (FirstGo w ls ls.length (.int .i64 0) (w.alloc (.map #[] 0))) := ⟨0, 0, by omega, rfl, by omega, MapF.made w, (Below.refl _ w).alloc (Nat.le_refl _) _⟩
  clear h hr hf
  have hmm := @run_makeMap Try.prog
  go_enter Try.func51, Try.ntmps51
  go_wp2
  clear hmm
  go_loopg [11] ls.length (fun k v11 wr => FirstGo w ls k v11 wr)
  case atStart => exact H0.out
  clear H0
  case round =>
    obtain ⟨i, n, hk, rfl, hn, hm, hB⟩ := hrel
    by_cases hil : i < ls.length
    · obtain ⟨l, hx⟩ : ∃ l, ls[i]? = some l := ⟨_, List.getElem?_eq_getElem hil⟩
      obtain ⟨ad, rfl, hit, hse, hc⟩ := HR.out i l hx
      obtain ⟨c0, c1⟩ := hc wr hB
      have j1 : (i : Int) < (ls.length : Int) := by omega
      have j2 : (0 : Int) ≤ (i : Int) := by omega
      have hgk := Lib.hid (show gk - 1 < gk by omega)
      have hbs := hB.size
      have hml := hm.lt
      have htk := take_nextR ls hx
      obtain ⟨se, ⟨A3, c3, l3⟩⟩ := l
      simp only [It.v] at c0 c1 hse
      obtain ⟨W1, hW1⟩ : ∃ W1, wr.alloc (.cells #[.int .i64 se, .slice A3 l3.length c3] 76) = W1 := ⟨_, rfl⟩
      obtain ⟨p1, b1, s1⟩ := box_new hW1
      have hm1 : MapF W1 w.heap.size n (ls.take i) := hm.same (b1.block _ hml)
      have hlk := hm1.look_ok hse
      have d0 : W1.cell? ⟨wr.heap.size, 0, none⟩ = some (.int .i64 se) := box_cell p1 0
      have d1 : W1.cell? ⟨wr.heap.size, 1, none⟩ = some (.slice A3 l3.length c3) := box_cell p1 1
      cases hf : findL (ls.take i) se with
      | some y =>
        rw [hf] at hlk
        obtain ⟨k0, A4, k1, k2, ey⟩ : ∃ (k0 : Int) (A4 : Option Addr) (k1 k2 : Nat), valF (some y) = .agg #[.int .i64 k0, .slice A4 k1 k2] := ⟨y.se, y.it.a, y.it.l.length, y.it.c, rfl⟩
        rw [ey] at hlk
        simp only [Option.isSome_some] at hlk
        have HF : Hid (∀ o, FirstGo w ls (gk - 1) (.int .i64 ((i + 1 : Nat) : Int)) (W1.alloc o)) := fun o => by
          refine ⟨i + 1, n, by omega, rfl, by omega, ?_, (hB.trans (b1.mono hbs)).alloc (Nat.le_trans hbs b1.size) _⟩
          rw [htk]
          refine (hm1.same (W' := W1.alloc o) ?_).skip (l := ⟨se, ⟨A3, c3, l3⟩⟩) (by rw [hf]; simp)
          exact (World.grownBy_alloc W1 o none).block _ hm1.lt (by simp)
        clear hk hn hm hB hil hx hit hse hc hbs hml htk p1 b1 s1 hm1 hf ey
        go_wp2
        go_roundg (gk - 1)
        case measure => exact hgk.out
        case rel => exact HF.out _
      | none =>
        rw [hf] at hlk
        have ey : valF none = .agg #[.int .i64 0, .slice none 0 0] := rfl
        rw [ey] at hlk
        simp only [Option.isSome_none] at hlk
        have HF : Hid (∀ o, ((W1.alloc o).cell? ⟨wr.heap.size, 0, none⟩ = some (.int .i64 se) ∧ (W1.alloc o).cell? ⟨wr.heap.size, 1, none⟩ = some (.slice A3 l3.length c3)) ∧ ∃ W', (Instr.mapUpdate 109 (.map (some w.heap.size)) (.int .i64 se) (.agg #[.int .i64 se, .slice A3 l3.length c3])).run Try.prog (W1.alloc o) = .ok () W' ∧ FirstGo w ls (gk - 1) (.int .i64 ((i + 1 : Nat) : Int)) W') := fun o => by
          have hg := World.grownBy_alloc W1 o none
          have hm2 : MapF (W1.alloc o) w.heap.size n (ls.take i) := hm1.same (hg.block _ hm1.lt (by simp))
          have hp2 := (hg.block _ (Array.getElem?_eq_some_iff.1 p1).1 (by simp)).trans p1
          obtain ⟨W', k1, k2, k3⟩ := hm2.set (by unfold maxLen; omega) (l := ⟨se, ⟨A3, c3, l3⟩⟩) hse hf
          have hB2 : Below w.heap.size w (W1.alloc o) := (hB.trans (b1.mono hbs)).alloc (Nat.le_trans hbs b1.size) _
          exact ⟨⟨box_cell hp2 0, box_cell hp2 1⟩, W', k1, i + 1, n + 1, by omega, rfl, by omega, by rw [htk]; exact k2, hB2.grown k3 hB2.size (fun q e => by cases e; exact Nat.le_refl _)⟩
        clear hk hn hm hB hil hx hit hse hc hbs hml htk p1 b1 s1 hm1 hf ey
        go_upto_region 6 with fail
        obtain ⟨⟨e0, e1⟩, W5, hset, hL⟩ := HF.out (.cells #[.int .i64 0, .slice none 0 0] 76)
        have HL := Lib.hid hL
        clear hL HF
        go_wp2
        go_roundg (gk - 1)
        case measure => exact hgk.out
        case rel => exact HL.out
    · obtain rfl : i = ls.length := by omega
      have j1 : ¬ ((ls.length : Int) < (ls.length : Int)) := by omega
      rw [List.take_length] at hm
      have HF : Hid (FirstOut w ls (.returned (.map (some w.heap.size))) wr) := ⟨n, rfl, hm, hB⟩
      clear hk hn hm hB
      go_wp2
      go_ret
      exact HF.out
end Go.Proofs.Ytkalmfhebffklaa.L11
