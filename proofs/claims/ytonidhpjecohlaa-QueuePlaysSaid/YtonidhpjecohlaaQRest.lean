/- Contracts of queue.Either and Rest, and of the statements' own pick, same and shown. -/
import Derived.Test.YtonidhpjecohlaaQBase
import Derived.Deep.LoopGhost
import Derived.Deep.RegionHeld3
namespace Go.Proofs.Ytonidhpjecohlaa.L6
open Go.ChangeShapes Go.WideShapes Go.ChangeAt Go.RowKit L5

theorem info_term : (Try.prog.info? 35).map (fun i => (i.zero, i.size, i.bytes)) = some (some (.string ⟨#[]⟩), 1, 16) := by kernel_rfl

/-- What Either says: of which queue, and what. -/
def eitherL : List ByteArray → List ByteArray → ByteArray × Nat × List ByteArray × List ByteArray
  | x :: a, b => (x, 1, a, b)
  | [], y :: b => (y, 2, [], b)
  | [], [] => (⟨#[]⟩, 0, [], [])
/-- Two queues, apart from each other. -/
structure Two (W : World) (g c room g' c' room' : Nat) (a b : List ByteArray) : Prop where
  one : QAt W g c room a
  two : QAt W g' c' room' b
  apart : c ≠ c'
def EitherOut (w : World) (B g c room g' c' room' : Nat) (a b : List ByteArray) (e : Ending) (w' : World) : Prop :=
  e = .returned (.tuple #[.string (eitherL a b).1, .int .i64 (eitherL a b).2.1]) ∧ Two w' g c room g' c' room' (eitherL a b).2.2.1 (eitherL a b).2.2.2 ∧ (∀ A, Below B A w → Below B A w') ∧ w.heap.size ≤ w'.heap.size ∧ (∀ k, k < w.heap.size → k ≠ c → k ≠ c' → w'.heap[k]? = w.heap[k]?)

set_option maxRecDepth 100000 in
set_option maxHeartbeats 1000000 in
theorem Either_calls {w : World} {B g c room g' c' room' : Nat} {a b : List ByteArray} (h : Two w g c room g' c' room' a b) (hc : B ≤ c) (hc' : B ≤ c') :
    Calls Try.prog 15 #[.pointer (some ⟨g, 0, none⟩), .pointer (some ⟨g', 0, none⟩)] w (EitherOut w B g c room g' c' room' a b) := by
  match a, b with
  | x :: a, b =>
    have HP := Lib.hid (Pop_some h.one)
    have hfin : Hid (∀ w', QAt w' g c room a → w.grownBy w' (some c) → EitherOut w B g c room g' c' room' (x :: a) b (.returned (.tuple #[.string x, .int .i64 1])) w') := fun w' q gr =>
      ⟨rfl, ⟨q, h.two.other h.one (Ne.symm h.apart) gr, h.apart⟩, fun A hA => below_turn hA gr h.one.lt.2 hc, gr.size, fun k hk hk1 _ => gr.block k hk (fun e => hk1 (Option.some.inj e))⟩
    clear h
    go_enter Try.func15, Try.ntmps15
    go_wp2_with fail
    refine HP.out.mono ?_
    rintro e w1 ⟨rfl, hq, hg⟩
    have HF := Lib.hid (hfin.out w1 hq hg)
    clear hq hg hfin
    go_wp2
    go_ret2
    exact HF.out
  | [], y :: b =>
    have HP := Lib.hid (Pop_none h.one)
    have HP2 := Lib.hid (Pop_some h.two)
    have hfin : Hid (∀ w', QAt w' g' c' room' b → w.grownBy w' (some c') → EitherOut w B g c room g' c' room' [] (y :: b) (.returned (.tuple #[.string y, .int .i64 2])) w') := fun w' q gr =>
      ⟨rfl, ⟨h.one.other h.two h.apart gr, q, h.apart⟩, fun A hA => below_turn hA gr h.two.lt.2 hc', gr.size, fun k hk _ hk1 => gr.block k hk (fun e => hk1 (Option.some.inj e))⟩
    clear h
    go_enter Try.func15, Try.ntmps15
    go_wp2_with fail
    refine HP.out.mono ?_
    rintro e w1 ⟨rfl, rfl⟩
    go_wp2_with fail
    refine HP2.out.mono ?_
    rintro e w1 ⟨rfl, hq, hg⟩
    have HF := Lib.hid (hfin.out w1 hq hg)
    clear hq hg hfin
    go_wp2
    go_ret2
    exact HF.out
  | [], [] =>
    have HP := Lib.hid (Pop_none h.one)
    have HP2 := Lib.hid (Pop_none h.two)
    have hfin : Hid (EitherOut w B g c room g' c' room' [] [] (.returned (.tuple #[.string ⟨#[]⟩, .int .i64 0])) w) :=
      ⟨rfl, h, fun A hA => hA, Nat.le_refl _, fun k _ _ _ => rfl⟩
    clear h
    go_enter Try.func15, Try.ntmps15
    go_wp2_with fail
    refine HP.out.mono ?_
    rintro e w1 ⟨rfl, rfl⟩
    go_wp2_with fail
    refine HP2.out.mono ?_
    rintro e w1 ⟨rfl, rfl⟩
    go_wp2
    go_ret2
    exact hfin.out


def RestOut (w : World) (g c room : Nat) (l : List ByteArray) (e : Ending) (w' : World) : Prop :=
  ∃ v, e = .returned v ∧ w'.ownsRow w.heap.size 35 1 v l.length (strV l) ∧ QAt w' g c room l ∧ w.grownBy w' (some c)
def RestGo (w : World) (g c room : Nat) (l : List ByteArray) (k : Nat) (v4 v12 : Value) (wr : World) : Prop :=
  ∃ i : Nat, k + i = l.length ∧ v12 = .int .i64 i ∧ QAt wr g c room (l.drop i ++ l.take i) ∧ wr.ownsRow w.heap.size 35 1 v4 i (strV (l.take i)) ∧ w.grownBy wr (some c)

theorem grown_row {w W W' : World} {c : Nat} {row : Option Nat} (h : w.grownBy W (some c)) (hg : W.grownBy W' row) (hr : ∀ k, row = some k → w.heap.size ≤ k) : w.grownBy W' (some c) :=
  ⟨hg.os.trans h.os, hg.tape.trans h.tape, hg.output.trans h.output, Nat.le_trans h.size hg.size, fun k hk hn => (hg.block k (Nat.lt_of_lt_of_le hk h.size) (fun e => by have := hr k e.symm; omega)).trans (h.block k hk hn)⟩
theorem QAt.row {w W W' : World} {g c room : Nat} {l : List ByteArray} {row : Option Nat} (h : QAt W g c room l) (hw : g < w.heap.size) (hw' : c < w.heap.size) (hg : W.grownBy W' row) (hr : ∀ k, row = some k → w.heap.size ≤ k) : QAt W' g c room l :=
  h.same (hg.block _ h.lt.1 (fun e => by have := hr _ e.symm; omega)) (hg.block _ h.lt.2 (fun e => by have := hr _ e.symm; omega))

set_option maxRecDepth 100000 in
set_option maxHeartbeats 2000000 in
theorem Rest_calls {w : World} {g c room : Nat} {l : List ByteArray} (h : QAt w g c room l) (hl : l.length ≤ room) (hr : room ≤ 1000) :
    Calls Try.prog 19 #[.pointer (some ⟨g, 0, none⟩)] w (RestOut w g c room l) := by
  obtain ⟨i0, hi, hz0, hz1, hz2⟩ := info_parts info_term
  obtain ⟨w1, hmk, hown0, hg0⟩ := run_make_own (P := Try.prog) (w := w) w.heap.size 50 35 i0 (.string ⟨#[]⟩) 1 Try.underlying50 hi hz0 hz1 .i64 .i64 l.length (by rw [hz2]; omega) (by unfold maxLen; omega) (Nat.le_refl _)
  have hmk' : (Instr.makeSlice 50 (.int .i64 0) (.int .i64 (l.length : Int))).run Try.prog w = .ok (.slice (some ⟨w.heap.size, 0, none⟩) 0 l.length) w1 := hmk
  clear hmk
  have hlt := h.lt
  have HI : Hid (RestGo w g c room l l.length (.slice (some ⟨w.heap.size, 0, none⟩) 0 l.length) (.int .i64 0) w1) :=
    ⟨0, rfl, rfl, by simpa using h.row hlt.1 hlt.2 hg0 (by simp), by simpa [strV] using hown0, ⟨hg0.os, hg0.tape, hg0.output, hg0.size, fun k hk _ => hg0.block k hk (by simp)⟩⟩
  have HL := Lib.hid (Len_calls h)
  have HLt := Lib.hid hlt
  have HR := Lib.hid hr
  have HLl := Lib.hid hl
  clear h hown0 hg0 hlt hr hl
  go_enter Try.func19, Try.ntmps19
  go_wp2_with fail
  refine HL.out.mono ?_
  rintro e w0 ⟨rfl, rfl⟩
  go_wp2
  clear hmk' HL
  go_loopg [4, 12] l.length (fun k v4 v12 wr => RestGo w g c room l k v4 v12 wr)
  case atStart => exact HI.out
  case round =>
    clear HI
    obtain ⟨i, hk, rfl, hq, hrow, hgr⟩ := hrel
    obtain ⟨A4, c4, rfl⟩ := own_slice hrow
    by_cases hlt : i < l.length
    · obtain ⟨x, hx⟩ : ∃ x, l[i]? = some x := ⟨_, List.getElem?_eq_getElem hlt⟩
      have j1 : (i : Int) < (l.length : Int) := by omega
      have j2 : (0 : Int) ≤ (i : Int) := by omega
      have j3 : i ≤ 1000 := by have := HR.out; have := HLl.out; omega
      have hdrop : l.drop i = x :: l.drop (i + 1) := by
        rw [List.drop_eq_getElem_cons hlt]
        rw [List.getElem?_eq_getElem hlt] at hx
        cases hx
        rfl
      rw [hdrop, List.cons_append] at hq
      have HP := Lib.hid (Pop_some hq)
      have hbl := hrow.lt
      have hfin : Hid (∀ w2, QAt w2 g c room (l.drop (i + 1) ++ l.take i) → wr.grownBy w2 (some c) → w2.ownsRow w.heap.size 35 1 (.slice A4 i c4) i (strV (l.take i)) ∧
          ∀ v3 w3, w3.ownsRow w.heap.size 35 1 v3 (i + 1) (strV (l.take i) ++ [.string x]) → (w2.alloc (.cells #[.string x] 35)).grownBy w3 (Value.slice A4 i c4).ownBlock →
            QAt w3 g c room (l.drop (i + 1) ++ l.take i) ∧ (l.drop (i + 1) ++ l.take i).length < room ∧
            ∀ w4, QAt w4 g c room ((l.drop (i + 1) ++ l.take i) ++ [x]) → w3.grownBy w4 (some c) → RestGo w g c room l (l.length - (i + 1)) v3 (.int .i64 ((i + 1 : Nat) : Int)) w4) := fun w2 q2 g2 => by
        have hrow2 : w2.ownsRow w.heap.size 35 1 (.slice A4 i c4) i (strV (l.take i)) := hrow.kept g2 (by
          cases hA : (Value.slice A4 i c4).ownBlock with
          | none => exact .inl rfl
          | some q => refine .inr (fun e => ?_); cases e; have := (hbl c hA).1; have := HLt.out; omega)
        refine ⟨hrow2, fun v3 w3 r3 g3 => ?_⟩
        have g3' := grow_trans (World.grownBy_alloc w2 (.cells #[.string x] 35) _) g3
        have hrw : ∀ k, (Value.slice A4 i c4).ownBlock = some k → w.heap.size ≤ k := fun k e => (hbl k e).1
        refine ⟨q2.row HLt.out.1 HLt.out.2 g3' hrw, ?_, fun w4 q4 g4 => ⟨i + 1, by omega, rfl, ?_, ?_, grow_trans (grown_row (grow_trans hgr g2) g3' hrw) g4⟩⟩
        · have := HLl.out
          rw [List.length_append, List.length_drop, List.length_take]
          omega
        · have e : l.take (i + 1) = l.take i ++ [x] := by rw [List.take_add_one, hx]; rfl
          rw [e, ← List.append_assoc]
          exact q4
        · have e : l.take (i + 1) = l.take i ++ [x] := by rw [List.take_add_one, hx]; rfl
          rw [e]
          have r4 : w4.ownsRow w.heap.size 35 1 v3 (i + 1) (strV (l.take i) ++ [.string x]) := r3.kept g4 (by
            cases hA : v3.ownBlock with
            | none => exact .inl rfl
            | some q => refine .inr (fun e => ?_); cases e; have := (r3.lt c hA).1; have := HLt.out; omega)
          simpa [strV] using r4
      have hm := Lib.hid (show l.length - (i + 1) < gk by omega)
      have HGs := Lib.hid hgr.size
      clear hq hrow hgr hk hx hdrop hbl
      go_wp2_with fail
      refine HP.out.mono ?_
      rintro e w2 ⟨rfl, q2, g2⟩
      obtain ⟨r2, hnext⟩ := hfin.out w2 q2 g2
      have HR2 := Lib.hid r2
      have HN := Lib.hid hnext
      have hsz : w.heap.size ≤ w2.heap.size := Nat.le_trans HGs.out g2.size
      clear r2 hnext q2 g2 hfin HP
      go_wp2_with (at_builtin; refine wpList_append_own_at _ rfl _ _ 50 rfl (w.heap.size) 35 i0 _ 1 16 Try.underlying50 hi hz0 hz1 hz2 rfl (by decide) _ _ _ rfl (HR2.out.alloc _) ⟨w2.heap.size, 0, none⟩ 1 1 [.string x] rfl rfl (cell_one_new _ _ _) (by simp [Value.oneCell']) (by unfold maxLen; omega) (by omega) (by simp; omega) ?_; intro v3 w3 hown' hgrow hnil hat; have HF := Lib.hid (HN.out v3 w3 hown' hgrow); clear hown' hgrow hnil hat)
      obtain ⟨q3, l3, hnx⟩ := HF.out
      have HPu := Lib.hid (Push_room q3 l3 x)
      have HNx := Lib.hid hnx
      clear HF q3 l3 hnx HN HR2
      refine HPu.out.mono ?_
      rintro e w4 ⟨rfl, q4, g4⟩
      have HF := Lib.hid (HNx.out w4 q4 g4)
      clear q4 g4 HNx HPu
      go_wp2
      go_roundg (l.length - (i + 1))
      case measure => exact hm.out
      case rel => simpa using HF.out
    · have j1 : ¬ ((i : Int) < (l.length : Int)) := by omega
      have hfin : Hid (RestOut w g c room l (.returned (.slice A4 i c4)) wr) := by
        obtain rfl : i = l.length := by omega
        simp only [List.drop_length, List.take_length, List.nil_append] at hq hrow
        exact ⟨_, rfl, hrow, hq, hgr⟩
      clear hk hq hrow hgr
      go_wp2
      go_ret
      exact hfin.out

set_option maxHeartbeats 400000 in
theorem pick_calls (c : Int) (n : Nat) (h1 : -9223372036854775808 ≤ c) (h2 : c ≤ 9223372036854775807) (hn : 0 < n) (hn2 : n ≤ 1000) (w : World) :
    Calls Try.prog 10 #[.int .i64 c, .int .i64 n] w fun e w' => ∃ m : Nat, m < n ∧ m = (if c < 0 then -(c + 1) else c).toNat % n ∧ e = .returned (.int .i64 m) ∧ w = w' := by
  have hz : ((n : Int) == 0) = false := by simp; omega
  have hz2 : ¬ (n : Int) = 0 := by omega
  by_cases hc : c < 0
  · obtain ⟨m, hm⟩ : ∃ m : Nat, -(c + 1) = m := ⟨(-(c + 1)).toNat, by omega⟩
    rw [if_pos hc, hm]
    have k1 : (0 : Int) ≤ (m : Int) := by omega
    have k2 : (m : Int) ≤ 9223372036854775807 := by omega
    have hcc : c = -(m : Int) - 1 := by omega
    have HM := Lib.hid hm
    have HN := Lib.hid (Nat.mod_lt m hn)
    clear hm
    subst hcc
    go_enter Try.func10, Try.ntmps10
    go_wp2
    all_goals first | omega | (go_ret; exact ⟨m % n, HN.out, rfl, by simp, rfl⟩)
  · obtain ⟨m, rfl⟩ : ∃ m : Nat, c = m := ⟨c.toNat, by omega⟩
    rw [if_neg hc]
    have HN := Lib.hid (Nat.mod_lt m hn)
    go_enter Try.func10, Try.ntmps10
    go_wp2
    all_goals first | omega | (go_ret; exact ⟨m % n, HN.out, rfl, by simp, rfl⟩)

end Go.Proofs.Ytonidhpjecohlaa.L6
