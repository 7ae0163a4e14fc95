/- A queue in memory: its own block, its channel; contracts of queue.New, Push, Pop and Len. -/
import Derived.Test.YtonidhpjecohlaaWBase
import Derived.Conc.LoneSelect
import Derived.Conc.LoneSelectN
namespace Go.Proofs.Ytonidhpjecohlaa.L6
open Go.ChangeShapes Go.WideShapes Go.ChangeAt Go.RowKit Go.Conc L5

def strV (l : List ByteArray) : List Value := l.map Value.string
theorem strV_length (l : List ByteArray) : (strV l).length = l.length := by simp [strV]

/-- A queue: its block, its channel's, its room, what waits. -/
structure QAt (W : World) (g c room : Nat) (l : List ByteArray) : Prop where
  own : W.heap[g]? = some (.cells #[.chan (some c)] 60 (0, 0))
  chan : ∃ s r, W.heap[c]? = some (.chan room (strV l).toArray false s r false)
theorem QAt.ne {W : World} {g c g' c' room room' : Nat} {l l' : List ByteArray} (h : QAt W g c room l) (h' : QAt W g' c' room' l') : g ≠ c' := by
  rintro rfl
  obtain ⟨s, r, e⟩ := h'.chan
  rw [h.own] at e
  cases e
theorem QAt.lt {W : World} {g c room : Nat} {l : List ByteArray} (h : QAt W g c room l) : g < W.heap.size ∧ c < W.heap.size := by
  obtain ⟨s, r, e⟩ := h.chan
  exact ⟨(Array.getElem?_eq_some_iff.1 h.own).1, (Array.getElem?_eq_some_iff.1 e).1⟩
theorem QAt.cell {W : World} {g c room : Nat} {l : List ByteArray} (h : QAt W g c room l) : W.cell? ⟨g, 0, none⟩ = some (.chan (some c)) := by
  simp only [World.cell?]
  rw [h.own]
  rfl
theorem QAt.same {W W' : World} {g c room : Nat} {l : List ByteArray} (h : QAt W g c room l) (hg : W'.heap[g]? = W.heap[g]?) (hc : W'.heap[c]? = W.heap[c]?) : QAt W' g c room l := by
  obtain ⟨s, r, e⟩ := h.chan
  exact ⟨hg.trans h.own, s, r, hc.trans e⟩
theorem QAt.below {W W' : World} {g c room : Nat} {l : List ByteArray} (h : QAt W g c room l) (hb : Below W.heap.size W W') : QAt W' g c room l := h.same (hb.block _ h.lt.1) (hb.block _ h.lt.2)
/-- Another queue is turned: this one is as it was. -/
theorem QAt.other {W W' : World} {g c room g' c' room' : Nat} {l l' : List ByteArray} (h : QAt W g c room l) (h' : QAt W g' c' room' l') (hn : c ≠ c') (hb : W.grownBy W' (some c')) : QAt W' g c room l :=
  h.same (hb.block _ h.lt.1 (fun e => h.ne h' (Option.some.inj e))) (hb.block _ h.lt.2 (fun e => hn (Option.some.inj e)))
theorem grown_of_below {W W' : World} (h : Below W.heap.size W W') (row : Option Nat) : W.grownBy W' row := ⟨h.os, h.tape, h.output, h.size, fun k hk _ => h.block k hk⟩

theorem below_turn {B : Nat} {A W W' : World} {c : Nat} (h : Below B A W) (hg : W.grownBy W' (some c)) (hc : c < W.heap.size) (hB : B ≤ c) : Below B A W' := h.grown hg (by omega) (fun k e => by cases e; exact hB)
theorem grown_setChan (W : World) (c cap : Nat) (buf : Array Value) (cl : Bool) (s r : Nat) (tm : Bool) : W.grownBy (W.setChan c cap buf cl s r tm) (some c) :=
  ⟨rfl, rfl, rfl, by simp [World.setChan], fun k _ hk => by simp only [World.setChan]; rw [Array.getElem?_setIfInBounds_ne (fun e => hk (by rw [e]))]⟩
theorem QAt.set {W : World} {g c room : Nat} {l l' : List ByteArray} (h : QAt W g c room l) (s r : Nat) : QAt (W.setChan c room (strV l').toArray false s r false) g c room l' :=
  ⟨((grown_setChan W c room _ false s r false).block g h.lt.1 (fun e => h.ne h (Option.some.inj e))).trans h.own, s, r, heap_setChan W c room _ false s r false h.lt.2⟩

/-- The channel is turned: this waits now; all else is as it was. -/
def Turned (w : World) (g c room : Nat) (l' : List ByteArray) (v : Value) (e : Ending) (w' : World) : Prop := e = .returned v ∧ QAt w' g c room l' ∧ w.grownBy w' (some c)


set_option maxRecDepth 100000 in
set_option maxHeartbeats 1000000 in
theorem Push_room {w : World} {g c room : Nat} {l : List ByteArray} (h : QAt w g c room l) (hl : l.length < room) (x : ByteArray) :
    Calls Try.prog 11 #[.pointer (some ⟨g, 0, none⟩), .string x] w (Turned w g c room (l ++ [x]) (.int .i64 0)) := by
  refine calls_of_loneTo (fun cs => ?_) (by rintro _ ⟨h, _⟩; cases h)
  have e : Frame.enter Try.prog 11 #[.pointer (some ⟨g, 0, none⟩), .string x] .normal = (base 11).at ⟨#[.pointer (some ⟨g, 0, none⟩), .string x, undef, undef, undef, undef, undef, undef, undef, undef, undef, undef, undef], []⟩ [.code (Try.f11.body.getD .skip)] := by
    simp [Frame.enter, Frame.at, Try.func11, base, Try.f11]
  rw [e]
  clear e
  have hcell := h.cell
  obtain ⟨s, r, hch⟩ := h.chan
  refine LoneTo.goes (n := 40) ?_
  simp only [Try.f11, Option.getD_some]
  s_c stepG_seq
  s_reg
  s_op
  s_c stepG_region_end
  s_c stepG_seq
  s_c stepG_seq
  s_reg
  s_op
  s_op
  s_op
  s_op
  s_c stepG_region_end
  s_reg
  s_op
  s_c stepG_region_end
  s_c stepG_seq
  s_reg
  s_stop
  refine LoneTo.step (step_lone_select_send_room (c := c) (cap := room) (buf := (strV l).toArray) (s := s) (r := r) (tm := false) (v := .string x) (z' := .string ⟨#[]⟩)
    (stepG_comm (cases := #[scase c (.string x) (.string ⟨#[]⟩)]) (blocking := false) (shape := .select) (w' := w) rfl rfl (by decide) (by simp [go_sem, execOp, scase, Act.eval])) hch (by simpa [strV] using hl)) ?_
  rw [Frame.finish_at]
  walk_nrm
  refine LoneTo.goes (n := 40) ?_
  s_op
  s_op
  s_c stepG_region_end
  s_c stepG_block
  s_cond true
  s_c stepG_seq
  s_reg
  s_op
  s_c stepG_region_end
  s_c stepG_ret'
  s_stop
  refine LoneTo.done ⟨.returned (.int .i64 0), _, rfl, ⟨rfl, ?_, grown_setChan _ _ _ _ _ _ _ _⟩, rfl, rfl, rfl, rfl, _, Try.func11, by simp [results, Try.f11, Frame.at]⟩
  have e2 : (strV l ++ [Value.string x]).toArray = (strV (l ++ [x])).toArray := by simp [strV]
  rw [e2]
  exact h.set _ _

set_option maxRecDepth 100000 in
set_option maxHeartbeats 1000000 in
theorem Push_full {w : World} {g c room : Nat} {l : List ByteArray} (h : QAt w g c room l) (hl : room ≤ l.length) (x : ByteArray) :
    Calls Try.prog 11 #[.pointer (some ⟨g, 0, none⟩), .string x] w fun e w' => e = .returned (.int .i64 5) ∧ w = w' := by
  refine calls_of_loneTo (fun cs => ?_) (by rintro _ ⟨h, _⟩; cases h)
  have e : Frame.enter Try.prog 11 #[.pointer (some ⟨g, 0, none⟩), .string x] .normal = (base 11).at ⟨#[.pointer (some ⟨g, 0, none⟩), .string x, undef, undef, undef, undef, undef, undef, undef, undef, undef, undef, undef], []⟩ [.code (Try.f11.body.getD .skip)] := by
    simp [Frame.enter, Frame.at, Try.func11, base, Try.f11]
  rw [e]
  clear e
  have hcell := h.cell
  obtain ⟨s, r, hch⟩ := h.chan
  refine LoneTo.goes (n := 40) ?_
  simp only [Try.f11, Option.getD_some]
  s_c stepG_seq
  s_reg
  s_op
  s_c stepG_region_end
  s_c stepG_seq
  s_c stepG_seq
  s_reg
  s_op
  s_op
  s_op
  s_op
  s_c stepG_region_end
  s_reg
  s_op
  s_c stepG_region_end
  s_c stepG_seq
  s_reg
  s_stop
  refine LoneTo.step (step_lone_select_send_full (c := c) (cap := room) (buf := (strV l).toArray) (s := s) (r := r) (tm := false) (v := .string x) (z' := .string ⟨#[]⟩)
    (stepG_comm (cases := #[scase c (.string x) (.string ⟨#[]⟩)]) (blocking := false) (shape := .select) (w' := w) rfl rfl (by decide) (by simp [go_sem, execOp, scase, Act.eval])) hch (by simpa [strV] using hl)) ?_
  rw [Frame.finish_at]
  walk_nrm
  refine LoneTo.goes (n := 40) ?_
  s_op
  s_op
  s_c stepG_region_end
  s_c stepG_block
  s_cond false
  s_c stepG_seq
  s_reg
  s_op
  s_c stepG_region_end
  s_c stepG_ret'
  s_stop
  exact LoneTo.done ⟨.returned (.int .i64 5), _, rfl, ⟨rfl, rfl⟩, rfl, rfl, rfl, rfl, _, Try.func11, by simp [results, Try.f11, Frame.at]⟩

set_option maxRecDepth 100000 in
set_option maxHeartbeats 1000000 in
theorem Pop_some {w : World} {g c room : Nat} {x : ByteArray} {l : List ByteArray} (h : QAt w g c room (x :: l)) :
    Calls Try.prog 13 #[.pointer (some ⟨g, 0, none⟩)] w (Turned w g c room l (.tuple #[.string x, .bool true])) := by
  refine calls_of_loneTo (fun cs => ?_) (by rintro _ ⟨h, _⟩; cases h)
  have e : Frame.enter Try.prog 13 #[.pointer (some ⟨g, 0, none⟩)] .normal = (base 13).at ⟨#[.pointer (some ⟨g, 0, none⟩), undef, undef, undef, undef, undef, undef, undef, undef, undef, undef, undef, undef, undef], []⟩ [.code (Try.f13.body.getD .skip)] := by
    simp [Frame.enter, Frame.at, Try.func13, base, Try.f13]
  rw [e]
  clear e
  have hcell := h.cell
  obtain ⟨s, r, hch⟩ := h.chan
  refine LoneTo.goes (n := 40) ?_
  simp only [Try.f13, Option.getD_some]
  s_c stepG_seq
  s_reg
  s_op
  s_op
  s_c stepG_region_end
  s_c stepG_seq
  s_reg
  s_op
  s_op
  s_op
  s_op
  s_c stepG_region_end
  s_c stepG_seq
  s_reg
  s_stop
  refine LoneTo.step (step_lone_select_recv_buf (c := c) (cap := room) (buf := (strV (x :: l)).toArray) (closed := false) (s := s) (r := r) (tm := false) (z := .string ⟨#[]⟩)
    (stepG_comm (cases := #[rcase c (.string ⟨#[]⟩)]) (blocking := false) (shape := .select) (w' := w) rfl rfl (by decide) (by simp [go_sem, execOp, rcase, Act.eval])) hch (by simp [strV])) ?_
  have e1 : (strV (x :: l)).toArray.getD 0 undef = .string x := by simp [strV]
  have e2 : (strV (x :: l)).toArray.extract 1 (strV (x :: l)).toArray.size = (strV l).toArray := by
    simp [strV]
    rw [List.take_of_length_le (by simp)]
  rw [Frame.finish_at, e1, e2]
  walk_nrm
  refine LoneTo.goes (n := 40) ?_
  s_op
  s_op
  s_c stepG_region_end
  s_c stepG_block
  s_cond true
  s_c stepG_seq
  s_reg
  s_op
  s_op
  s_c stepG_region_end
  s_c stepG_seq
  s_reg
  s_op
  s_op
  s_op
  s_c stepG_region_end
  s_c stepG_ret'
  s_stop
  exact LoneTo.done ⟨.returned (.tuple #[.string x, .bool true]), _, rfl, ⟨rfl, h.set _ _, grown_setChan _ _ _ _ _ _ _ _⟩, rfl, rfl, rfl, rfl, _, Try.func13, by simp [results, Try.f13, Frame.at]⟩

set_option maxRecDepth 100000 in
set_option maxHeartbeats 1000000 in
theorem Pop_none {w : World} {g c room : Nat} (h : QAt w g c room []) :
    Calls Try.prog 13 #[.pointer (some ⟨g, 0, none⟩)] w fun e w' => e = .returned (.tuple #[.string ⟨#[]⟩, .bool false]) ∧ w = w' := by
  refine calls_of_loneTo (fun cs => ?_) (by rintro _ ⟨h, _⟩; cases h)
  have e : Frame.enter Try.prog 13 #[.pointer (some ⟨g, 0, none⟩)] .normal = (base 13).at ⟨#[.pointer (some ⟨g, 0, none⟩), undef, undef, undef, undef, undef, undef, undef, undef, undef, undef, undef, undef, undef], []⟩ [.code (Try.f13.body.getD .skip)] := by
    simp [Frame.enter, Frame.at, Try.func13, base, Try.f13]
  rw [e]
  clear e
  have hcell := h.cell
  obtain ⟨s, r, hch⟩ := h.chan
  refine LoneTo.goes (n := 40) ?_
  simp only [Try.f13, Option.getD_some]
  s_c stepG_seq
  s_reg
  s_op
  s_op
  s_c stepG_region_end
  s_c stepG_seq
  s_reg
  s_op
  s_op
  s_op
  s_op
  s_c stepG_region_end
  s_c stepG_seq
  s_reg
  s_stop
  refine LoneTo.step (step_lone_select_default (c := c) (cap := room) (s := s) (r := r) (tm := false) (z := .string ⟨#[]⟩)
    (stepG_comm (cases := #[rcase c (.string ⟨#[]⟩)]) (blocking := false) (shape := .select) (w' := w) rfl rfl (by decide) (by simp [go_sem, execOp, rcase, Act.eval])) hch) ?_
  rw [Frame.finish_at]
  walk_nrm
  refine LoneTo.goes (n := 40) ?_
  s_op
  s_op
  s_c stepG_region_end
  s_c stepG_block
  s_cond false
  s_c stepG_seq
  s_reg
  s_op
  s_op
  s_c stepG_region_end
  s_c stepG_ret'
  s_stop
  exact LoneTo.done ⟨.returned (.tuple #[.string ⟨#[]⟩, .bool false]), _, rfl, ⟨rfl, rfl⟩, rfl, rfl, rfl, rfl, _, Try.func13, by simp [results, Try.f13, Frame.at]⟩

set_option maxRecDepth 100000 in
set_option maxHeartbeats 1000000 in
theorem Len_calls {w : World} {g c room : Nat} {l : List ByteArray} (h : QAt w g c room l) :
    Calls Try.prog 17 #[.pointer (some ⟨g, 0, none⟩)] w fun e w' => e = .returned (.int .i64 l.length) ∧ w = w' := by
  have hcell := h.cell
  obtain ⟨s, r, hch⟩ := h.chan
  have hlen := fun ty => run_len_chan (P := Try.prog) 58 ty Try.underlying58 hch
  have e1 : goInt (strV l).toArray.size = .int .i64 (l.length : Int) := by simp [strV, goInt]
  rw [e1] at hlen
  clear e1 hch
  go_enter Try.func17, Try.ntmps17
  go_wp2
  go_ret
  exact ⟨rfl, rfl⟩

theorem bytes_term : ∃ i, Try.prog.info? 35 = some i ∧ i.bytes = 16 := by
  have h : (Try.prog.info? 35).map (·.bytes) = some 16 := by kernel_rfl
  obtain ⟨i, hi, hb⟩ := Option.map_eq_some_iff.1 h
  exact ⟨i, hi, hb⟩
theorem mk_chan (n : Nat) (hn : n ≤ 1000) (w : World) : (Instr.makeChan 58 (.int .i64 n)).run Try.prog w = .ok (.chan (some w.heap.size)) (w.alloc (.chan n #[] false 0 0 false)) := by
  obtain ⟨i, hi, hb⟩ := bytes_term
  exact run_makeChan (P := Try.prog) (w := w) Try.underlying58 hi .i64 n (by omega) (by rw [hb]; omega)

/-- A new queue, or none. -/
def NewOut (w : World) (room : Int) (e : Ending) (w' : World) : Prop :=
  (¬ (1 ≤ room ∧ room ≤ 1000) → e = .returned (.tuple #[.pointer none, .int .i64 1]) ∧ w = w') ∧
  (∀ n : Nat, room = n → 1 ≤ n → n ≤ 1000 → e = .returned (.tuple #[.pointer (some ⟨w.heap.size + 1, 0, none⟩), .int .i64 0]) ∧ QAt w' (w.heap.size + 1) w.heap.size n [] ∧ Below w.heap.size w w' ∧ w'.heap.size = w.heap.size + 2)

set_option maxRecDepth 100000 in
set_option maxHeartbeats 1000000 in
theorem New_calls (room : Int) (w : World) : Calls Try.prog 8 #[.int .i64 room] w (NewOut w room) := by
  by_cases h : 1 ≤ room ∧ room ≤ 1000
  · obtain ⟨n, rfl⟩ : ∃ n : Nat, room = n := ⟨room.toNat, by omega⟩
    have h1 : ¬ ((n : Int) < 1) := by omega
    have h2 : ¬ ((1000 : Int) < (n : Int)) := by omega
    have hm := mk_chan n (by omega)
    have hfin : Hid (QAt ((w.alloc (.chan n #[] false 0 0 false)).alloc (.cells #[.chan (some w.heap.size)] 60)) (w.heap.size + 1) w.heap.size n [] ∧ Below w.heap.size w ((w.alloc (.chan n #[] false 0 0 false)).alloc (.cells #[.chan (some w.heap.size)] 60))) := by
      refine ⟨⟨?_, 0, 0, ?_⟩, ((Below.refl _ w).alloc (Nat.le_refl _) _).alloc (by simp) _⟩
      · have := heap_alloc_new (w.alloc (.chan n #[] false 0 0 false)) (.cells #[.chan (some w.heap.size)] 60)
        simpa only [World.size_alloc] using this
      · rw [Below.heap_alloc _ _ _ (by simp)]
        exact heap_alloc_new w _
    clear h
    go_enter Try.func8, Try.ntmps8
    go_wp2
    go_ret2
    refine ⟨fun hno => absurd (by omega) hno, fun m hm1 _ _ => ?_⟩
    obtain rfl : n = m := by omega
    exact ⟨by simp, hfin.out.1, hfin.out.2, by simp⟩
  · have hR := Lib.hid h
    by_cases h1 : room < 1
    · clear h
      go_enter Try.func8, Try.ntmps8
      go_wp2
      go_ret2
      exact ⟨fun _ => ⟨rfl, rfl⟩, fun n hn _ _ => by omega⟩
    · have h2 : (1000 : Int) < room := by omega
      clear h
      go_enter Try.func8, Try.ntmps8
      go_wp2
      go_ret2
      exact ⟨fun _ => ⟨rfl, rfl⟩, fun n hn _ _ => by omega⟩

end Go.Proofs.Ytonidhpjecohlaa.L6
