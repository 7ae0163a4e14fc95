/- A queue in memory: its own block, its channel; contracts of queue.New, Push, Pop and Len. Contracts of queue.Either and Rest, and of the statements' own pick, same and shown. Rows of texts in memory; contracts of the statements' own same (of equal rows) and shown. A row of texts that a law is handed; append onto an own row of texts, whatever the source; Either, case by case. -/
import Derived.Test.YtiodphkmllcjdaaGreatWBase
import Derived.Conc.LoneSelect
import Derived.Conc.LoneSelectN
import Derived.Deep.LoopGhost
import Derived.Deep.RegionHeld3
import Derived.SliceStrings
import Derived.ChangeSlices
section
namespace Go.Proofs.YtiodphkmllcjdaaGreat.L6
open Go.ChangeShapes Go.WideShapes Go.ChangeAt Go.RowKit Go.Conc L5

def strV (l : List ByteArray) : List Value := l.map Value.string
theorem strV_length (l : List ByteArray) : (strV l).length = l.length := by simp [strV]

/-- A queue: its block, its channel's, its room, what waits. -/
structure QAt (W : World) (g c room : Nat) (l : List ByteArray) : Prop where
  own : W.heap[g]? = some (.cells #[.chan (some c)] 108 (0, 0))
  chan : ∃ s r, W.heap[c]? = some (.chan room (strV l).toArray false s r false)
theorem QAt.ne {W : World} {g c g' c' room room' : Nat} {l l' : List ByteArray} (h : QAt W g c room l) (h' : QAt W g' c' room' l') : g ≠ c' := by
  rintro rfl
  obtain ⟨s, r, e⟩ := h'.chan
  rw [h.own] at e
  cases e
theorem QAt.lt {W : World} {g c room : Nat} {l : List ByteArray} (h : QAt W g c room l) : g < W.heap.size ∧ c < W.heap.size := by
  obtain ⟨s, r, e⟩ := h.chan
  exact ⟨(Array.getElem?_eq_some_iff.1 h.own).1, (Array.getElem?_eq_some_iff.1 e).1⟩
theorem QAt.cell {W : World} {g c room : Nat} {l : List ByteArray} (h : QAt W g c room l) : W.cell? ⟨g, 0, none⟩ = some (.chan (some c)) := by
  simp only [World.cell?]
  rw [h.own]
  rfl
theorem QAt.same {W W' : World} {g c room : Nat} {l : List ByteArray} (h : QAt W g c room l) (hg : W'.heap[g]? = W.heap[g]?) (hc : W'.heap[c]? = W.heap[c]?) : QAt W' g c room l := by
  obtain ⟨s, r, e⟩ := h.chan
  exact ⟨hg.trans h.own, s, r, hc.trans e⟩
theorem QAt.below {W W' : World} {g c room : Nat} {l : List ByteArray} (h : QAt W g c room l) (hb : Below W.heap.size W W') : QAt W' g c room l := h.same (hb.block _ h.lt.1) (hb.block _ h.lt.2)
/-- Another queue is turned: this one is as it was. -/
theorem QAt.other {W W' : World} {g c room g' c' room' : Nat} {l l' : List ByteArray} (h : QAt W g c room l) (h' : QAt W g' c' room' l') (hn : c ≠ c') (hb : W.grownBy W' (some c')) : QAt W' g c room l :=
  h.same (hb.block _ h.lt.1 (fun e => h.ne h' (Option.some.inj e))) (hb.block _ h.lt.2 (fun e => hn (Option.some.inj e)))
theorem grown_of_below {W W' : World} (h : Below W.heap.size W W') (row : Option Nat) : W.grownBy W' row := ⟨h.os, h.tape, h.output, h.size, fun k hk _ => h.block k hk⟩

theorem below_turn {B : Nat} {A W W' : World} {c : Nat} (h : Below B A W) (hg : W.grownBy W' (some c)) (hc : c < W.heap.size) (hB : B ≤ c) : Below B A W' := h.grown hg (by omega) (fun k e => by cases e; exact hB)
theorem grown_setChan (W : World) (c cap : Nat) (buf : Array Value) (cl : Bool) (s r : Nat) (tm : Bool) : W.grownBy (W.setChan c cap buf cl s r tm) (some c) :=
  ⟨rfl, rfl, rfl, by simp [World.setChan], fun k _ hk => by simp only [World.setChan]; rw [Array.getElem?_setIfInBounds_ne (fun e => hk (by rw [e]))]⟩
theorem QAt.set {W : World} {g c room : Nat} {l l' : List ByteArray} (h : QAt W g c room l) (s r : Nat) : QAt (W.setChan c room (strV l').toArray false s r false) g c room l' :=
  ⟨((grown_setChan W c room _ false s r false).block g h.lt.1 (fun e => h.ne h (Option.some.inj e))).trans h.own, s, r, heap_setChan W c room _ false s r false h.lt.2⟩

/-- The channel is turned: this waits now; all else is as it was. -/
def Turned (w : World) (g c room : Nat) (l' : List ByteArray) (v : Value) (e : Ending) (w' : World) : Prop := e = .returned v ∧ QAt w' g c room l' ∧ w.grownBy w' (some c)


set_option maxRecDepth 100000 in
set_option maxHeartbeats 1000000 in
theorem Push_room {w : World} {g c room : Nat} {l : List ByteArray} (h : QAt w g c room l) (hl : l.length < room) (x : ByteArray) :
    Calls Tryz.prog 41 #[.pointer (some ⟨g, 0, none⟩), .string x] w (Turned w g c room (l ++ [x]) (.int .i64 0)) := by
  refine calls_of_loneTo (fun cs => ?_) (by rintro _ ⟨h, _⟩; cases h)
  have e : Frame.enter Tryz.prog 41 #[.pointer (some ⟨g, 0, none⟩), .string x] .normal = (base 41).at ⟨#[.pointer (some ⟨g, 0, none⟩), .string x, undef, undef, undef, undef, undef, undef, undef, undef, undef, undef, undef], []⟩ [.code (Tryz.f41.body.getD .skip)] := by
    simp [Frame.enter, Frame.at, Tryz.func41, base, Tryz.f41]
  rw [e]
  clear e
  have hcell := h.cell
  obtain ⟨s, r, hch⟩ := h.chan
  refine LoneTo.goes (n := 40) ?_
  simp only [Tryz.f41, Option.getD_some]
  s_c stepG_seq
  s_reg
  s_op
  s_c stepG_region_end
  s_c stepG_seq
  s_c stepG_seq
  s_reg
  s_op
  s_op
  s_op
  s_op
  s_c stepG_region_end
  s_reg
  s_op
  s_c stepG_region_end
  s_c stepG_seq
  s_reg
  s_stop
  refine LoneTo.step (step_lone_select_send_room (c := c) (cap := room) (buf := (strV l).toArray) (s := s) (r := r) (tm := false) (v := .string x) (z' := .string ⟨#[]⟩)
    (stepG_comm (cases := #[scase c (.string x) (.string ⟨#[]⟩)]) (blocking := false) (shape := .select) (w' := w) rfl rfl (by decide) (by simp [go_sem, execOp, scase, Act.eval])) hch (by simpa [strV] using hl)) ?_
  rw [Frame.finish_at]
  walk_nrm
  refine LoneTo.goes (n := 40) ?_
  s_op
  s_op
  s_c stepG_region_end
  s_c stepG_block
  s_cond true
  s_c stepG_seq
  s_reg
  s_op
  s_c stepG_region_end
  s_c stepG_ret'
  s_stop
  refine LoneTo.done ⟨.returned (.int .i64 0), _, rfl, ⟨rfl, ?_, grown_setChan _ _ _ _ _ _ _ _⟩, rfl, rfl, rfl, rfl, _, Tryz.func41, by simp [results, Tryz.f41, Frame.at]⟩
  have e2 : (strV l ++ [Value.string x]).toArray = (strV (l ++ [x])).toArray := by simp [strV]
  rw [e2]
  exact h.set _ _

set_option maxRecDepth 100000 in
set_option maxHeartbeats 1000000 in
theorem Push_full {w : World} {g c room : Nat} {l : List ByteArray} (h : QAt w g c room l) (hl : room ≤ l.length) (x : ByteArray) :
    Calls Tryz.prog 41 #[.pointer (some ⟨g, 0, none⟩), .string x] w fun e w' => e = .returned (.int .i64 5) ∧ w = w' := by
  refine calls_of_loneTo (fun cs => ?_) (by rintro _ ⟨h, _⟩; cases h)
  have e : Frame.enter Tryz.prog 41 #[.pointer (some ⟨g, 0, none⟩), .string x] .normal = (base 41).at ⟨#[.pointer (some ⟨g, 0, none⟩), .string x, undef, undef, undef, undef, undef, undef, undef, undef, undef, undef, undef], []⟩ [.code (Tryz.f41.body.getD .skip)] := by
    simp [Frame.enter, Frame.at, Tryz.func41, base, Tryz.f41]
  rw [e]
  clear e
  have hcell := h.cell
  obtain ⟨s, r, hch⟩ := h.chan
  refine LoneTo.goes (n := 40) ?_
  simp only [Tryz.f41, Option.getD_some]
  s_c stepG_seq
  s_reg
  s_op
  s_c stepG_region_end
  s_c stepG_seq
  s_c stepG_seq
  s_reg
  s_op
  s_op
  s_op
  s_op
  s_c stepG_region_end
  s_reg
  s_op
  s_c stepG_region_end
  s_c stepG_seq
  s_reg
  s_stop
  refine LoneTo.step (step_lone_select_send_full (c := c) (cap := room) (buf := (strV l).toArray) (s := s) (r := r) (tm := false) (v := .string x) (z' := .string ⟨#[]⟩)
    (stepG_comm (cases := #[scase c (.string x) (.string ⟨#[]⟩)]) (blocking := false) (shape := .select) (w' := w) rfl rfl (by decide) (by simp [go_sem, execOp, scase, Act.eval])) hch (by simpa [strV] using hl)) ?_
  rw [Frame.finish_at]
  walk_nrm
  refine LoneTo.goes (n := 40) ?_
  s_op
  s_op
  s_c stepG_region_end
  s_c stepG_block
  s_cond false
  s_c stepG_seq
  s_reg
  s_op
  s_c stepG_region_end
  s_c stepG_ret'
  s_stop
  exact LoneTo.done ⟨.returned (.int .i64 5), _, rfl, ⟨rfl, rfl⟩, rfl, rfl, rfl, rfl, _, Tryz.func41, by simp [results, Tryz.f41, Frame.at]⟩

set_option maxRecDepth 100000 in
set_option maxHeartbeats 1000000 in
theorem Pop_some {w : World} {g c room : Nat} {x : ByteArray} {l : List ByteArray} (h : QAt w g c room (x :: l)) :
    Calls Tryz.prog 60 #[.pointer (some ⟨g, 0, none⟩)] w (Turned w g c room l (.tuple #[.string x, .bool true])) := by
  refine calls_of_loneTo (fun cs => ?_) (by rintro _ ⟨h, _⟩; cases h)
  have e : Frame.enter Tryz.prog 60 #[.pointer (some ⟨g, 0, none⟩)] .normal = (base 60).at ⟨#[.pointer (some ⟨g, 0, none⟩), undef, undef, undef, undef, undef, undef, undef, undef, undef, undef, undef, undef, undef], []⟩ [.code (Tryz.f60.body.getD .skip)] := by
    simp [Frame.enter, Frame.at, Tryz.func60, base, Tryz.f60]
  rw [e]
  clear e
  have hcell := h.cell
  obtain ⟨s, r, hch⟩ := h.chan
  refine LoneTo.goes (n := 40) ?_
  simp only [Tryz.f60, Option.getD_some]
  s_c stepG_seq
  s_reg
  s_op
  s_op
  s_c stepG_region_end
  s_c stepG_seq
  s_reg
  s_op
  s_op
  s_op
  s_op
  s_c stepG_region_end
  s_c stepG_seq
  s_reg
  s_stop
  refine LoneTo.step (step_lone_select_recv_buf (c := c) (cap := room) (buf := (strV (x :: l)).toArray) (closed := false) (s := s) (r := r) (tm := false) (z := .string ⟨#[]⟩)
    (stepG_comm (cases := #[rcase c (.string ⟨#[]⟩)]) (blocking := false) (shape := .select) (w' := w) rfl rfl (by decide) (by simp [go_sem, execOp, rcase, Act.eval])) hch (by simp [strV])) ?_
  have e1 : (strV (x :: l)).toArray.getD 0 undef = .string x := by simp [strV]
  have e2 : (strV (x :: l)).toArray.extract 1 (strV (x :: l)).toArray.size = (strV l).toArray := by
    simp [strV]
    rw [List.take_of_length_le (by simp)]
  rw [Frame.finish_at, e1, e2]
  walk_nrm
  refine LoneTo.goes (n := 40) ?_
  s_op
  s_op
  s_c stepG_region_end
  s_c stepG_block
  s_cond true
  s_c stepG_seq
  s_reg
  s_op
  s_op
  s_c stepG_region_end
  s_c stepG_seq
  s_reg
  s_op
  s_op
  s_op
  s_c stepG_region_end
  s_c stepG_ret'
  s_stop
  exact LoneTo.done ⟨.returned (.tuple #[.string x, .bool true]), _, rfl, ⟨rfl, h.set _ _, grown_setChan _ _ _ _ _ _ _ _⟩, rfl, rfl, rfl, rfl, _, Tryz.func60, by simp [results, Tryz.f60, Frame.at]⟩

set_option maxRecDepth 100000 in
set_option maxHeartbeats 1000000 in
theorem Pop_none {w : World} {g c room : Nat} (h : QAt w g c room []) :
    Calls Tryz.prog 60 #[.pointer (some ⟨g, 0, none⟩)] w fun e w' => e = .returned (.tuple #[.string ⟨#[]⟩, .bool false]) ∧ w = w' := by
  refine calls_of_loneTo (fun cs => ?_) (by rintro _ ⟨h, _⟩; cases h)
  have e : Frame.enter Tryz.prog 60 #[.pointer (some ⟨g, 0, none⟩)] .normal = (base 60).at ⟨#[.pointer (some ⟨g, 0, none⟩), undef, undef, undef, undef, undef, undef, undef, undef, undef, undef, undef, undef, undef], []⟩ [.code (Tryz.f60.body.getD .skip)] := by
    simp [Frame.enter, Frame.at, Tryz.func60, base, Tryz.f60]
  rw [e]
  clear e
  have hcell := h.cell
  obtain ⟨s, r, hch⟩ := h.chan
  refine LoneTo.goes (n := 40) ?_
  simp only [Tryz.f60, Option.getD_some]
  s_c stepG_seq
  s_reg
  s_op
  s_op
  s_c stepG_region_end
  s_c stepG_seq
  s_reg
  s_op
  s_op
  s_op
  s_op
  s_c stepG_region_end
  s_c stepG_seq
  s_reg
  s_stop
  refine LoneTo.step (step_lone_select_default (c := c) (cap := room) (s := s) (r := r) (tm := false) (z := .string ⟨#[]⟩)
    (stepG_comm (cases := #[rcase c (.string ⟨#[]⟩)]) (blocking := false) (shape := .select) (w' := w) rfl rfl (by decide) (by simp [go_sem, execOp, rcase, Act.eval])) hch) ?_
  rw [Frame.finish_at]
  walk_nrm
  refine LoneTo.goes (n := 40) ?_
  s_op
  s_op
  s_c stepG_region_end
  s_c stepG_block
  s_cond false
  s_c stepG_seq
  s_reg
  s_op
  s_op
  s_c stepG_region_end
  s_c stepG_ret'
  s_stop
  exact LoneTo.done ⟨.returned (.tuple #[.string ⟨#[]⟩, .bool false]), _, rfl, ⟨rfl, rfl⟩, rfl, rfl, rfl, rfl, _, Tryz.func60, by simp [results, Tryz.f60, Frame.at]⟩

set_option maxRecDepth 100000 in
set_option maxHeartbeats 1000000 in
theorem Len_calls {w : World} {g c room : Nat} {l : List ByteArray} (h : QAt w g c room l) :
    Calls Tryz.prog 26 #[.pointer (some ⟨g, 0, none⟩)] w fun e w' => e = .returned (.int .i64 l.length) ∧ w = w' := by
  have hcell := h.cell
  obtain ⟨s, r, hch⟩ := h.chan
  have hlen := fun ty => run_len_chan (P := Tryz.prog) 106 ty Tryz.underlying106 hch
  have e1 : goInt (strV l).toArray.size = .int .i64 (l.length : Int) := by simp [strV, goInt]
  rw [e1] at hlen
  clear e1 hch
  go_enter Tryz.func26, Tryz.ntmps26
  go_wp2
  go_ret
  exact ⟨rfl, rfl⟩

theorem bytes_term : ∃ i, Tryz.prog.info? 46 = some i ∧ i.bytes = 16 := by
  have h : (Tryz.prog.info? 46).map (·.bytes) = some 16 := by kernel_rfl
  obtain ⟨i, hi, hb⟩ := Option.map_eq_some_iff.1 h
  exact ⟨i, hi, hb⟩
theorem mk_chan (n : Nat) (hn : n ≤ 1000) (w : World) : (Instr.makeChan 106 (.int .i64 n)).run Tryz.prog w = .ok (.chan (some w.heap.size)) (w.alloc (.chan n #[] false 0 0 false)) := by
  obtain ⟨i, hi, hb⟩ := bytes_term
  exact run_makeChan (P := Tryz.prog) (w := w) Tryz.underlying106 hi .i64 n (by omega) (by rw [hb]; omega)

/-- A new queue, or none. -/
def NewOut (w : World) (room : Int) (e : Ending) (w' : World) : Prop :=
  (¬ (1 ≤ room ∧ room ≤ 1000) → e = .returned (.tuple #[.pointer none, .int .i64 1]) ∧ w = w') ∧
  (∀ n : Nat, room = n → 1 ≤ n → n ≤ 1000 → e = .returned (.tuple #[.pointer (some ⟨w.heap.size + 1, 0, none⟩), .int .i64 0]) ∧ QAt w' (w.heap.size + 1) w.heap.size n [] ∧ Below w.heap.size w w' ∧ w'.heap.size = w.heap.size + 2)

set_option maxRecDepth 100000 in
set_option maxHeartbeats 1000000 in
theorem New_calls (room : Int) (w : World) : Calls Tryz.prog 38 #[.int .i64 room] w (NewOut w room) := by
  by_cases h : 1 ≤ room ∧ room ≤ 1000
  · obtain ⟨n, rfl⟩ : ∃ n : Nat, room = n := ⟨room.toNat, by omega⟩
    have h1 : ¬ ((n : Int) < 1) := by omega
    have h2 : ¬ ((1000 : Int) < (n : Int)) := by omega
    have hm := mk_chan n (by omega)
    have hfin : Hid (QAt ((w.alloc (.chan n #[] false 0 0 false)).alloc (.cells #[.chan (some w.heap.size)] 108)) (w.heap.size + 1) w.heap.size n [] ∧ Below w.heap.size w ((w.alloc (.chan n #[] false 0 0 false)).alloc (.cells #[.chan (some w.heap.size)] 108))) := by
      refine ⟨⟨?_, 0, 0, ?_⟩, ((Below.refl _ w).alloc (Nat.le_refl _) _).alloc (by simp) _⟩
      · have := heap_alloc_new (w.alloc (.chan n #[] false 0 0 false)) (.cells #[.chan (some w.heap.size)] 108)
        simpa only [World.size_alloc] using this
      · rw [Below.heap_alloc _ _ _ (by simp)]
        exact heap_alloc_new w _
    clear h
    go_enter Tryz.func38, Tryz.ntmps38
    go_wp2
    go_ret2
    refine ⟨fun hno => absurd (by omega) hno, fun m hm1 _ _ => ?_⟩
    obtain rfl : n = m := by omega
    exact ⟨by simp, hfin.out.1, hfin.out.2, by simp⟩
  · have hR := Lib.hid h
    by_cases h1 : room < 1
    · clear h
      go_enter Tryz.func38, Tryz.ntmps38
      go_wp2
      go_ret2
      exact ⟨fun _ => ⟨rfl, rfl⟩, fun n hn _ _ => by omega⟩
    · have h2 : (1000 : Int) < room := by omega
      clear h
      go_enter Tryz.func38, Tryz.ntmps38
      go_wp2
      go_ret2
      exact ⟨fun _ => ⟨rfl, rfl⟩, fun n hn _ _ => by omega⟩

end Go.Proofs.YtiodphkmllcjdaaGreat.L6
end

section
namespace Go.Proofs.YtiodphkmllcjdaaGreat.L6
open Go.ChangeShapes Go.WideShapes Go.ChangeAt Go.RowKit L5

theorem info_term : (Tryz.prog.info? 46).map (fun i => (i.zero, i.size, i.bytes)) = some (some (.string ⟨#[]⟩), 1, 16) := by kernel_rfl

/-- What Either says: of which queue, and what. -/
def eitherL : List ByteArray → List ByteArray → ByteArray × Nat × List ByteArray × List ByteArray
  | x :: a, b => (x, 1, a, b)
  | [], y :: b => (y, 2, [], b)
  | [], [] => (⟨#[]⟩, 0, [], [])
/-- Two queues, apart from each other. -/
structure Two (W : World) (g c room g' c' room' : Nat) (a b : List ByteArray) : Prop where
  one : QAt W g c room a
  two : QAt W g' c' room' b
  apart : c ≠ c'
def EitherOut (w : World) (B g c room g' c' room' : Nat) (a b : List ByteArray) (e : Ending) (w' : World) : Prop :=
  e = .returned (.tuple #[.string (eitherL a b).1, .int .i64 (eitherL a b).2.1]) ∧ Two w' g c room g' c' room' (eitherL a b).2.2.1 (eitherL a b).2.2.2 ∧ (∀ A, Below B A w → Below B A w') ∧ w.heap.size ≤ w'.heap.size ∧ (∀ k, k < w.heap.size → k ≠ c → k ≠ c' → w'.heap[k]? = w.heap[k]?)

def RestOut (w : World) (g c room : Nat) (l : List ByteArray) (e : Ending) (w' : World) : Prop :=
  ∃ v, e = .returned v ∧ w'.ownsRow w.heap.size 46 1 v l.length (strV l) ∧ QAt w' g c room l ∧ w.grownBy w' (some c)
def RestGo (w : World) (g c room : Nat) (l : List ByteArray) (k : Nat) (v4 v12 : Value) (wr : World) : Prop :=
  ∃ i : Nat, k + i = l.length ∧ v12 = .int .i64 i ∧ QAt wr g c room (l.drop i ++ l.take i) ∧ wr.ownsRow w.heap.size 46 1 v4 i (strV (l.take i)) ∧ w.grownBy wr (some c)

theorem grown_row {w W W' : World} {c : Nat} {row : Option Nat} (h : w.grownBy W (some c)) (hg : W.grownBy W' row) (hr : ∀ k, row = some k → w.heap.size ≤ k) : w.grownBy W' (some c) :=
  ⟨hg.os.trans h.os, hg.tape.trans h.tape, hg.output.trans h.output, Nat.le_trans h.size hg.size, fun k hk hn => (hg.block k (Nat.lt_of_lt_of_le hk h.size) (fun e => by have := hr k e.symm; omega)).trans (h.block k hk hn)⟩
theorem QAt.row {w W W' : World} {g c room : Nat} {l : List ByteArray} {row : Option Nat} (h : QAt W g c room l) (hw : g < w.heap.size) (hw' : c < w.heap.size) (hg : W.grownBy W' row) (hr : ∀ k, row = some k → w.heap.size ≤ k) : QAt W' g c room l :=
  h.same (hg.block _ h.lt.1 (fun e => by have := hr _ e.symm; omega)) (hg.block _ h.lt.2 (fun e => by have := hr _ e.symm; omega))

set_option maxRecDepth 100000 in
set_option maxHeartbeats 2000000 in
theorem Rest_calls {w : World} {g c room : Nat} {l : List ByteArray} (h : QAt w g c room l) (hl : l.length ≤ room) (hr : room ≤ 1000) :
    Calls Tryz.prog 44 #[.pointer (some ⟨g, 0, none⟩)] w (RestOut w g c room l) := by
  obtain ⟨i0, hi, hz0, hz1, hz2⟩ := info_parts info_term
  obtain ⟨w1, hmk, hown0, hg0⟩ := run_make_own (P := Tryz.prog) (w := w) w.heap.size 34 46 i0 (.string ⟨#[]⟩) 1 Tryz.underlying34 hi hz0 hz1 .i64 .i64 l.length (by rw [hz2]; omega) (by unfold maxLen; omega) (Nat.le_refl _)
  have hmk' : (Instr.makeSlice 34 (.int .i64 0) (.int .i64 (l.length : Int))).run Tryz.prog w = .ok (.slice (some ⟨w.heap.size, 0, none⟩) 0 l.length) w1 := hmk
  clear hmk
  have hlt := h.lt
  have HI : Hid (RestGo w g c room l l.length (.slice (some ⟨w.heap.size, 0, none⟩) 0 l.length) (.int .i64 0) w1) :=
    ⟨0, rfl, rfl, by simpa using h.row hlt.1 hlt.2 hg0 (by simp), by simpa [strV] using hown0, ⟨hg0.os, hg0.tape, hg0.output, hg0.size, fun k hk _ => hg0.block k hk (by simp)⟩⟩
  have HL := Lib.hid (Len_calls h)
  have HLt := Lib.hid hlt
  have HR := Lib.hid hr
  have HLl := Lib.hid hl
  clear h hown0 hg0 hlt hr hl
  go_enter Tryz.func44, Tryz.ntmps44
  go_wp2_with fail
  refine HL.out.mono ?_
  rintro e w0 ⟨rfl, rfl⟩
  go_wp2
  clear hmk' HL
  go_loopg [4, 12] l.length (fun k v4 v12 wr => RestGo w g c room l k v4 v12 wr)
  case atStart => exact HI.out
  case round =>
    clear HI
    obtain ⟨i, hk, rfl, hq, hrow, hgr⟩ := hrel
    obtain ⟨A4, c4, rfl⟩ := own_slice hrow
    by_cases hlt : i < l.length
    · obtain ⟨x, hx⟩ : ∃ x, l[i]? = some x := ⟨_, List.getElem?_eq_getElem hlt⟩
      have j1 : (i : Int) < (l.length : Int) := by omega
      have j2 : (0 : Int) ≤ (i : Int) := by omega
      have j3 : i ≤ 1000 := by have := HR.out; have := HLl.out; omega
      have hdrop : l.drop i = x :: l.drop (i + 1) := by
        rw [List.drop_eq_getElem_cons hlt]
        rw [List.getElem?_eq_getElem hlt] at hx
        cases hx
        rfl
      rw [hdrop, List.cons_append] at hq
      have HP := Lib.hid (Pop_some hq)
      have hbl := hrow.lt
      have hfin : Hid (∀ w2, QAt w2 g c room (l.drop (i + 1) ++ l.take i) → wr.grownBy w2 (some c) → w2.ownsRow w.heap.size 46 1 (.slice A4 i c4) i (strV (l.take i)) ∧
          ∀ v3 w3, w3.ownsRow w.heap.size 46 1 v3 (i + 1) (strV (l.take i) ++ [.string x]) → (w2.alloc (.cells #[.string x] 46)).grownBy w3 (Value.slice A4 i c4).ownBlock →
            QAt w3 g c room (l.drop (i + 1) ++ l.take i) ∧ (l.drop (i + 1) ++ l.take i).length < room ∧
            ∀ w4, QAt w4 g c room ((l.drop (i + 1) ++ l.take i) ++ [x]) → w3.grownBy w4 (some c) → RestGo w g c room l (l.length - (i + 1)) v3 (.int .i64 ((i + 1 : Nat) : Int)) w4) := fun w2 q2 g2 => by
        have hrow2 : w2.ownsRow w.heap.size 46 1 (.slice A4 i c4) i (strV (l.take i)) := hrow.kept g2 (by
          cases hA : (Value.slice A4 i c4).ownBlock with
          | none => exact .inl rfl
          | some q => refine .inr (fun e => ?_); cases e; have := (hbl c hA).1; have := HLt.out; omega)
        refine ⟨hrow2, fun v3 w3 r3 g3 => ?_⟩
        have g3' := grow_trans (World.grownBy_alloc w2 (.cells #[.string x] 46) _) g3
        have hrw : ∀ k, (Value.slice A4 i c4).ownBlock = some k → w.heap.size ≤ k := fun k e => (hbl k e).1
        refine ⟨q2.row HLt.out.1 HLt.out.2 g3' hrw, ?_, fun w4 q4 g4 => ⟨i + 1, by omega, rfl, ?_, ?_, grow_trans (grown_row (grow_trans hgr g2) g3' hrw) g4⟩⟩
        · have := HLl.out
          rw [List.length_append, List.length_drop, List.length_take]
          omega
        · have e : l.take (i + 1) = l.take i ++ [x] := by rw [List.take_add_one, hx]; rfl
          rw [e, ← List.append_assoc]
          exact q4
        · have e : l.take (i + 1) = l.take i ++ [x] := by rw [List.take_add_one, hx]; rfl
          rw [e]
          have r4 : w4.ownsRow w.heap.size 46 1 v3 (i + 1) (strV (l.take i) ++ [.string x]) := r3.kept g4 (by
            cases hA : v3.ownBlock with
            | none => exact .inl rfl
            | some q => refine .inr (fun e => ?_); cases e; have := (r3.lt c hA).1; have := HLt.out; omega)
          simpa [strV] using r4
      have hm := Lib.hid (show l.length - (i + 1) < gk by omega)
      have HGs := Lib.hid hgr.size
      clear hq hrow hgr hk hx hdrop hbl
      go_wp2_with fail
      refine HP.out.mono ?_
      rintro e w2 ⟨rfl, q2, g2⟩
      obtain ⟨r2, hnext⟩ := hfin.out w2 q2 g2
      have HR2 := Lib.hid r2
      have HN := Lib.hid hnext
      have hsz : w.heap.size ≤ w2.heap.size := Nat.le_trans HGs.out g2.size
      clear r2 hnext q2 g2 hfin HP
      go_wp2_with (at_builtin; refine wpList_append_own_at _ rfl _ _ 34 rfl (w.heap.size) 46 i0 _ 1 16 Tryz.underlying34 hi hz0 hz1 hz2 rfl (by decide) _ _ _ rfl (HR2.out.alloc _) ⟨w2.heap.size, 0, none⟩ 1 1 [.string x] rfl rfl (cell_one_new _ _ _) (by simp [Value.oneCell']) (by unfold maxLen; omega) (by omega) (by simp; omega) ?_; intro v3 w3 hown' hgrow hnil hat; have HF := Lib.hid (HN.out v3 w3 hown' hgrow); clear hown' hgrow hnil hat)
      obtain ⟨q3, l3, hnx⟩ := HF.out
      have HPu := Lib.hid (Push_room q3 l3 x)
      have HNx := Lib.hid hnx
      clear HF q3 l3 hnx HN HR2
      refine HPu.out.mono ?_
      rintro e w4 ⟨rfl, q4, g4⟩
      have HF := Lib.hid (HNx.out w4 q4 g4)
      clear q4 g4 HNx HPu
      go_wp2
      go_roundg (l.length - (i + 1))
      case measure => exact hm.out
      case rel => simpa using HF.out
    · have j1 : ¬ ((i : Int) < (l.length : Int)) := by omega
      have hfin : Hid (RestOut w g c room l (.returned (.slice A4 i c4)) wr) := by
        obtain rfl : i = l.length := by omega
        simp only [List.drop_length, List.take_length, List.nil_append] at hq hrow
        exact ⟨_, rfl, hrow, hq, hgr⟩
      clear hk hq hrow hgr
      go_wp2
      go_ret
      exact hfin.out

end Go.Proofs.YtiodphkmllcjdaaGreat.L6
end

section
namespace Go.Proofs.YtiodphkmllcjdaaGreat.L6
open Go.ChangeShapes Go.WideShapes Go.ChangeAt Go.RowKit L5

theorem addr_block (ad : Addr) (i : Nat) : (ad.add i).block = ad.block := by unfold Addr.add; split <;> rfl
/-- A row of texts, as it lies in memory. -/
def SRow (w : World) (v : Value) (zs : List ByteArray) : Prop := ∃ A c, v = .slice A zs.length c ∧ ∀ j x, zs[j]? = some x → ∃ ad : Addr, A = some ad ∧ ad.block < w.heap.size ∧ w.cell? (ad.add j) = some (.string x)
theorem SRow.below {w w' : World} {v : Value} {zs : List ByteArray} (h : SRow w v zs) (hb : Below w.heap.size w w') : SRow w' v zs := by
  obtain ⟨A, c, e, k⟩ := h
  refine ⟨A, c, e, fun j x hx => ?_⟩
  obtain ⟨ad, rfl, h1, h2⟩ := k j x hx
  exact ⟨ad, rfl, Nat.lt_of_lt_of_le h1 hb.size, (hb.cell (p := ad.add j) (by rw [addr_block]; exact h1)).trans h2⟩
theorem SRow.of_own {w : World} {B : Nat} {e : TypeId} {v : Value} {zs : List ByteArray} (h : w.ownsRow B e 1 v zs.length (strV zs)) : SRow w v zs := by
  rcases h.2 with ⟨rfl, h0⟩ | ⟨g, cap, cur, rfl, h1, h2, h3⟩
  · have : zs = [] := List.length_eq_zero_iff.1 h0
    subst this
    exact ⟨none, 0, rfl, fun j x hx => by simp at hx⟩
  · refine ⟨some ⟨g, 0, none⟩, cap, rfl, fun j x hx => ⟨⟨g, 0, none⟩, rfl, (h.lt g rfl).2, ?_⟩⟩
    have hjl := (List.getElem?_eq_some_iff.1 hx).1
    have := h.cellAt j (by omega)
    have e2 : ((⟨g, 0, none⟩ : Addr).add j) = ⟨g, j, none⟩ := by
      simp [Addr.add]
      omega
    rw [e2, this]
    simp [strV, hx]

def SameGo (w : World) (n k : Nat) (v5 : Value) (wr : World) : Prop := ∃ i : Nat, k + i = n ∧ v5 = .int .i64 i ∧ ∃ m, wr = w.drewN m

end Go.Proofs.YtiodphkmllcjdaaGreat.L6
end

section
namespace Go.Proofs.YtiodphkmllcjdaaGreat.L6
open Go.ChangeShapes Go.WideShapes Go.ChangeAt Go.RowKit L5

/-- A row of texts that came in: nil has no room. -/
structure SIn (w : World) (v : Value) (zs : List ByteArray) : Prop where
  row : SRow w v zs
  nil : ∀ n c, v = .slice none n c → c = 0 ∧ n = 0
theorem SIn.below {w w' : World} {v : Value} {zs : List ByteArray} (h : SIn w v zs) (hb : Below w.heap.size w w') : SIn w' v zs := ⟨h.row.below hb, h.nil⟩

set_option maxRecDepth 100000 in
theorem open_srow {H : Type} {enc : TypeId × Value → H} {W : World} {base : Nat} {v : Value} {d : DataW H} {ps : List MemPlace}
    (hval : Value.okWide Tryz.prog W .any base 48 v) (h : DataW.Trod enc Tryz.prog W 0 (fun _ => true) true 48 v d ps) : ∃ zs, SIn W v zs := by
  obtain ⟨A, n, c, rfl⟩ := okWide_slice Tryz.underlying48 hval
  obtain ⟨fuel, hf⟩ := h
  rcases open_strings Tryz.underlying48 Tryz.underlying9 (by kernel_rfl) hf with ⟨h0, _⟩ | ⟨a, len, cap, ss, hcs, _, hl, hm, hsl, _, hcell, hsz⟩
  · simp [Value.cells] at h0
    obtain ⟨rfl, rfl, rfl⟩ := h0
    exact ⟨[], ⟨none, 0, rfl, fun j x hx => by simp at hx⟩, fun n c e => by cases e; exact ⟨rfl, rfl⟩⟩
  · simp [Value.cells] at hcs
    obtain ⟨rfl, rfl, rfl⟩ := hcs
    simp only [if_true] at hsl
    have hlen : (ss.take n).length = n := by simp; omega
    refine ⟨ss.take n, ⟨some a, c, by rw [hlen], fun j x hx => ?_⟩, fun n c e => by cases e⟩
    rw [List.getElem?_take] at hx
    have hjn : j < n := by
      rcases Nat.lt_or_ge j n with h | h
      · exact h
      · rw [if_neg (by omega)] at hx; cases hx
    rw [if_pos hjn] at hx
    have hc2 := hcell j (by omega)
    rw [List.getD, hx, Option.getD_some] at hc2
    have hlt := World.block_lt_of_cell? W _ hc2
    rw [addr_block] at hlt
    exact ⟨a, rfl, hlt, hc2⟩

theorem info_string : (Tryz.prog.info? 9).map (fun i => (i.zero, i.size, i.bytes)) = some (some (.string ⟨#[]⟩), 1, 16) := by kernel_rfl

theorem strV_one (zs : List ByteArray) : ∀ u ∈ strV zs, u.oneCell' = true := fun u hu => by
  obtain ⟨x, _, rfl⟩ := List.mem_map.1 hu
  simp [Value.oneCell']
theorem grown_refl (w : World) (row : Option Nat) : w.grownBy w row := ⟨rfl, rfl, rfl, Nat.le_refl _, fun _ _ _ => rfl⟩

/-- append of a row of texts onto a slice that the call owns, whatever the source, whatever the guard that stands. -/
theorem wpList_append_texts {P : Program} {w : World} {ops : Array Oper} {rest : List Oper} {o : Oper} {a : Act} {Q : Exit → Act → World → Prop} (hw : Region.wanted o (yielded ops a.tmps) = true) (s x : Operand) (t : TypeId)
    (ho : o.op = .call { callee := .builtin .append, args := #[s, x], argTypes := #[t, t] })
    (base : Nat) (e : TypeId) (i : TypeInfo) (z : Value) (bytes : Nat) (ht : P.underlying t = some (.slice e)) (hi : P.info? e = some i) (hz : i.zero = some z)
    (hsize : i.size = 1) (hby : i.bytes = bytes) (hzs : z.cells.size = 1)
    (v : Value) (n : Nat) (xs : List Value) (hs : a.eval s = v) (hown : w.ownsRow base e 1 v n xs)
    (vx : Value) (zs : List ByteArray) (hx : a.eval x = vx) (hsrc : SIn w vx zs)
    (h63 : n + zs.length ≤ maxLen) (hbytes : (n + zs.length) * bytes ≤ 140737488355328) (hbase : base ≤ w.heap.size)
    (h : ∀ v' w', w'.ownsRow base e 1 v' (n + zs.length) (xs ++ strV zs) → w.grownBy w' v.ownBlock → wpList P ops Q rest (a.put o.dst v') w') :
    wpList P ops Q (o :: rest) a w := by
  obtain ⟨⟨A, c, rfl, hc⟩, hn⟩ := hsrc
  refine wpList_step fun K hK => ?_
  rw [if_pos hw]
  cases A with
  | none =>
    obtain ⟨rfl, h0⟩ := hn _ _ rfl
    obtain rfl : zs = [] := List.length_eq_zero_iff.1 h0
    have hrun := run_append_owned_none (P := P) (w := w) base t o.type e i 1 ht hi v n xs hown
    unfold Oper.wp execOp
    simp only [ho, resolve, invoke, builtin, Sem.run_bind, Sem.run_pure, Result.andThen_ok, List.map_toArray, List.map_cons, List.map_nil, hs, hx, List.length_nil, hrun]
    exact hK _ _ (h v w (by simpa [strV] using hown) (grown_refl _ _))
  | some ad =>
    have hnews : ∀ j u, (strV zs)[j]? = some u → w.cell? (ad.add j) = some u := fun j u hu => by
      simp only [strV, List.getElem?_map, Option.map_eq_some_iff] at hu
      obtain ⟨x, hx, rfl⟩ := hu
      obtain ⟨ad', e, _, hcc⟩ := hc j x hx
      cases e
      exact hcc
    obtain ⟨v', w', hr, h2, h3, _⟩ := run_append_own (P := P) w base t o.type e i z 1 bytes ht hi hz hsize hby hzs (by decide) v n xs hown ad zs.length c (strV zs) (by simp [strV]) hnews (strV_one zs) h63 hbytes hbase
    unfold Oper.wp execOp
    simp only [ho, resolve, invoke, builtin, Sem.run_bind, Sem.run_pure, Result.andThen_ok, List.map_toArray, List.map_cons, List.map_nil, hs, hx, hr]
    exact hK _ _ (h v' w' h2 h3)

def EitherGot (w : World) (B g c room g' c' room' : Nat) (a b : List ByteArray) (v : Value) (e : Ending) (w' : World) : Prop :=
  e = .returned v ∧ Two w' g c room g' c' room' a b ∧ (∀ A, Below B A w → Below B A w') ∧ w.heap.size ≤ w'.heap.size ∧ (∀ k, k < w.heap.size → k ≠ c → k ≠ c' → w'.heap[k]? = w.heap[k]?)
end Go.Proofs.YtiodphkmllcjdaaGreat.L6
end
