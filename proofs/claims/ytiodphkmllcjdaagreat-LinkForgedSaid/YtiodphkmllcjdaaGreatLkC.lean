/- Contracts of (*link.End).takeAck and wait. Contract of (*link.End).wait. Contract of (*link.End).takeWaiting: what waits is taken, as long as the next one does. -/
import Derived.Test.YtiodphkmllcjdaaGreatLkA
import Derived.Deep.RegionHeld3
import Derived.Scope
section
namespace Go.Proofs.YtiodphkmllcjdaaGreat.L7
open Go.ChangeShapes Go.WideShapes Go.ChangeAt Go.RowKit L6

/-- An end whose queue was turned. -/
theorem EndAt.turned {w w' : World} {x : Blk} {n : Nat} {s : St} (h : EndAt w x n s) {r : List Bytes} (hq : QAt w' x.q x.c 64 (ba r)) (hg : w.grownBy w' (some x.c)) (hok : ({ s with opens := r } : St).Ok) : EndAt w' x n { s with opens := r } ∧ Only x.In w w' := by
  have ha := h.apart
  have hl := h.lt
  exact ⟨⟨(hg.block _ hl.1 (fun e => ha.2.1 (Option.some.inj e))).trans h.own, hq, h.map.same (hg.block _ hl.2.2.2 (fun e => ha.2.2.2.2.2 (Option.some.inj e).symm)), hok⟩, Only.of_grown hg (.inr (.inl rfl))⟩
def PopOut (w : World) (x : Blk) (n : Nat) (s : St) (f : Bytes) (r : List Bytes) (e : Ending) (w' : World) : Prop :=
  e = .returned (.tuple #[.string ⟨f.toArray⟩, .bool true]) ∧ EndAt w' x n { s with opens := r } ∧ Only x.In w w'
theorem pop_calls {w : World} {x : Blk} {n : Nat} {s : St} (h : EndAt w x n s) {f : Bytes} {r : List Bytes} (hr : s.opens = f :: r) :
    Calls Tryz.prog 60 #[.pointer (some ⟨x.q, 0, none⟩)] w (PopOut w x n s f r) := by
  have hq := h.queue
  rw [hr] at hq
  refine (Pop_some (x := ⟨f.toArray⟩) (l := ba r) hq).mono ?_
  rintro e w' ⟨rfl, q, g⟩
  refine ⟨rfl, h.turned q g ?_⟩
  have k := h.ok
  have e1 := k.room
  have e2 := k.opened
  rw [hr] at e1 e2
  refine ⟨k.me1, k.me8, k.peer1, k.peer8, k.sent, k.taken, ?_, ?_, ?_, k.waits⟩
  · simp at e1 ⊢; omega
  · simp at e2 ⊢; omega
  · intro f' hf; exact k.few f' (by rw [hr]; exact List.mem_cons_of_mem _ hf)

def AckOut (w : World) (x : Blk) (n : Nat) (s : St) (num : Nat) (e : Ending) (w' : World) : Prop := e = .returned (.int .i64 (ackL s num).1) ∧ EndAt w' x n (ackL s num).2 ∧ Only x.In w w'
def AckGo (w : World) (x : Blk) (n : Nat) (s : St) (d k : Nat) (v28 : Value) (wr : World) : Prop := ∃ i : Nat, k + i = d ∧ v28 = .int .i64 i ∧ EndAt wr x n { s with opens := s.opens.drop i } ∧ Only x.In w wr
set_option maxRecDepth 100000 in
set_option maxHeartbeats 1000000 in
theorem ack_calls {w : World} {x : Blk} {n : Nat} {s : St} (h : EndAt w x n s) (num : Nat) (hn : num ≤ 2147483647) : Calls Tryz.prog 35 #[.pointer (some ⟨x.g, 0, none⟩), .int .i64 num] w (AckOut w x n s num) := by
  obtain ⟨h0, h1, h2, h3, h4, h5⟩ := h.cells
  have hlo := h.ok.opened
  have hls := h.ok.sent
  have hH := Lib.hid h
  have HL : Hid (∀ V, EndAt V x n s → Calls Tryz.prog 26 #[.pointer (some ⟨x.q, 0, none⟩)] V fun e w' => e = .returned (.int .i64 s.opens.length) ∧ V = w') := fun V hV => by
    have := Len_calls hV.queue
    rw [ba_length] at this
    exact this
  have hcome : (s.come : Int) = (s.sent : Int) - s.opens.length := by unfold St.come; omega
  have hd := Lib.hid (show EndAt w.drew x n s from h.drew)
  have hw : IntKind.i64.wrap ((s.sent : Int) - (s.opens.length : Int)) = (s.come : Int) := by rw [IntKind.wrap_i64]; omega
  have hw2 : IntKind.i64.wrap ((num : Int) - (s.come : Int)) = (num : Int) - (s.come : Int) := by rw [IntKind.wrap_i64]; unfold St.come; omega
  have hfin1 : Hid (s.sent < num → AckOut w x n s num (.returned (.int .i64 1)) w.drew) := fun c => by
    have e : ackL s num = (1, s) := by unfold ackL; rw [if_pos c]
    unfold AckOut
    rw [e]
    exact ⟨rfl, h.drew, (Only.refl _ _).drewN 1⟩
  have hfin7 : Hid (¬ s.sent < num → num ≤ s.come → AckOut w x n s num (.returned (.int .i64 7)) w.drew) := fun c c' => by
    have e : ackL s num = (7, s) := by unfold ackL; rw [if_neg c, if_pos c']
    unfold AckOut
    rw [e]
    exact ⟨rfl, h.drew, (Only.refl _ _).drewN 1⟩
  have hfin0 : Hid (¬ s.sent < num → ¬ num ≤ s.come → ∀ wr, EndAt wr x n { s with opens := s.opens.drop (num - s.come) } → Only x.In w wr → AckOut w x n s num (.returned (.int .i64 0)) wr) := fun c c' wr k1 k2 => by
    have e : ackL s num = (0, { s with opens := s.opens.drop (num - s.come) }) := by unfold ackL; rw [if_neg c, if_neg c']
    unfold AckOut
    rw [e]
    exact ⟨rfl, k1, k2⟩
  have hlen : Hid (s.come + s.opens.length = s.sent) := by show _ = _; unfold St.come; omega
  clear h hlo
  generalize s.come = come at *
  go_enter Tryz.func35, Tryz.ntmps35
  go_wp2
  go_region_held3 (fun w' => w'.cell? ⟨x.g, 2, none⟩ = some (.int .i64 s.sent) ∧ w'.cell? ⟨x.g, 3, none⟩ = some (.pointer (some ⟨x.q, 0, none⟩)) ∧ EndAt w' x n s) ((first | exact ⟨h2, h3, hd.out⟩ | (go_split_ands; refine ⟨?_, ?_, ?_⟩ <;> first | exact hd.out | assumption | go_keep)))
    ((go_at_call 26; refine (HL.out _ (by first | exact hd.out | assumption)).mono ?_; rintro e w1 ⟨rfl, rfl⟩))
  rw [← hcome]
  have hs2 : w.drew.cell? ⟨x.g, 2, none⟩ = some (.int .i64 s.sent) := h2
  clear hw hcome
  by_cases c1 : s.sent < num
  · have HF := Lib.hid (hfin1.out c1)
    have c1i : (s.sent : Int) < (num : Int) := by omega
    clear hfin1 hfin7 hfin0 hw2
    go_wp2
    go_ret
    exact HF.out
  · have c1i : ¬ (s.sent : Int) < (num : Int) := by omega
    by_cases c2 : num ≤ come
    · have HF := Lib.hid (hfin7.out c1 c2)
      have c2i : (num : Int) ≤ (come : Int) := by omega
      clear hfin1 hfin7 hfin0 hw2
      go_wp2
      go_ret
      exact HF.out
    · have HF := Lib.hid (hfin0.out c1 c2)
      have c2i : ¬ (num : Int) ≤ (come : Int) := by omega
      obtain ⟨d, hd'⟩ : ∃ d : Nat, num - come = d := ⟨_, rfl⟩
      have hdi : (num : Int) - (come : Int) = (d : Int) := by omega
      rw [hd'] at HF
      rw [hdi] at hw2
      have HD : Hid (d ≤ s.opens.length) := by show _ ≤ _; have := hlen.out; omega
      have h28 : (28 : Nat) = 28 := rfl
      have H0 : Hid (AckGo w x n s d d (.int .i64 0) w.drew) := ⟨0, rfl, rfl, by simpa using hd.out, (Only.refl _ _).drewN 1⟩
      have HOk := Lib.hid hH.out.ok
      clear hfin1 hfin7 hfin0 h28 hs2 h0 h1 h2 h4 h5 h3 HL hd hls hn hd'
      go_wp2
      go_loopg [28] d (fun k v28 wr => AckGo w x n s d k v28 wr)
      case atStart => exact H0.out
      case round =>
        obtain ⟨i, hk, rfl, hE, hO⟩ := hrel
        by_cases hlt : i < d
        · obtain ⟨f, hf⟩ : ∃ f, s.opens[i]? = some f := ⟨_, List.getElem?_eq_getElem (by have := HD.out; omega)⟩
          have hdr : s.opens.drop i = f :: s.opens.drop (i + 1) := by
            rw [List.drop_eq_getElem_cons (by have := HD.out; omega)]
            rw [List.getElem?_eq_getElem (by have := HD.out; omega)] at hf
            cases hf
            rfl
          have HP := Lib.hid (pop_calls hE (f := f) (r := s.opens.drop (i + 1)) hdr)
          obtain ⟨_, _, _, k3, _, _⟩ := hE.cells
          have HO := Lib.hid hO
          have j1 : (i : Int) < (d : Int) := by omega
          have hi9 : i ≤ 1000000 := by have := HD.out; have := HOk.out.room; omega
          have hm := Lib.hid (show d - (i + 1) < gk by omega)
          have hmm := Lib.hid (show d - (i + 1) + (i + 1) = d by omega)
          clear hE hO hk hf hdr HD HF hH H0
          go_wp2_with fail
          refine HP.out.mono ?_
          rintro e w2 ⟨rfl, q2, g2⟩
          have HR : Hid (AckGo w x n s d (d - (i + 1)) (.int .i64 ((i + 1 : Nat) : Int)) w2) := ⟨i + 1, hmm.out, rfl, q2, HO.out.trans g2⟩
          clear q2 g2
          go_wp2
          go_roundg (d - (i + 1))
          case measure => exact hm.out
          case rel => simpa using HR.out
        · have j1 : ¬ (i : Int) < (d : Int) := by omega
          obtain rfl : i = d := by omega
          have HF' := Lib.hid (HF.out wr hE hO)
          clear hE hO HF hk H0
          go_wp2
          go_ret
          exact HF'.out
end Go.Proofs.YtiodphkmllcjdaaGreat.L7
end

section
namespace Go.Proofs.YtiodphkmllcjdaaGreat.L7
open Go.ChangeShapes Go.WideShapes Go.ChangeAt Go.RowKit L6

/-- An end's memory, between two of its acts. -/
structure EndRaw (W : World) (x : Blk) (n : Nat) (s : St) : Prop where
  own : W.heap[x.g]? = some (.cells (endCells x s) 77 (0, 0))
  queue : QAt W x.q x.c 64 (ba s.opens)
  map : MapI W x.b n s.wait
theorem EndAt.raw {W : World} {x : Blk} {n : Nat} {s : St} (h : EndAt W x n s) : EndRaw W x n s := ⟨h.own, h.queue, h.map⟩
theorem EndRaw.with {W : World} {x : Blk} {n : Nat} {s : St} (h : EndRaw W x n s) (k : s.Ok) : EndAt W x n s := ⟨h.own, h.queue, h.map, k⟩
theorem MapI.mono {W : World} {b n m : Nat} {F : Nat → Option Bytes} (h : MapI W b n F) (hm : n ≤ m) : MapI W b m F := by
  obtain ⟨D, h1, h2⟩ := h
  exact ⟨D, h1.mono hm, h2⟩
theorem EndRaw.mono {W : World} {x : Blk} {n m : Nat} {s : St} (h : EndRaw W x n s) (hm : n ≤ m) : EndRaw W x m s := ⟨h.own, h.queue, h.map.mono hm⟩
theorem EndAt.mono {W : World} {x : Blk} {n m : Nat} {s : St} (h : EndAt W x n s) (hm : n ≤ m) : EndAt W x m s := ⟨h.own, h.queue, h.map.mono hm, h.ok⟩
theorem EndRaw.lt {W : World} {x : Blk} {n : Nat} {s : St} (h : EndRaw W x n s) : x.g < W.heap.size ∧ x.q < W.heap.size ∧ x.c < W.heap.size ∧ x.b < W.heap.size :=
  ⟨(Array.getElem?_eq_some_iff.1 h.own).1, h.queue.lt.1, h.queue.lt.2, h.map.lt⟩
theorem EndRaw.apart {W : World} {x : Blk} {n : Nat} {s : St} (h : EndRaw W x n s) : x.g ≠ x.q ∧ x.g ≠ x.c ∧ x.g ≠ x.b ∧ x.q ≠ x.c ∧ x.q ≠ x.b ∧ x.c ≠ x.b := by
  obtain ⟨s1, r1, e1⟩ := h.queue.chan
  obtain ⟨es, clock, e2⟩ := h.map.block
  have e3 := h.queue.own
  have e4 := h.own
  refine ⟨?_, ?_, ?_, ?_, ?_, ?_⟩ <;> intro e
  · rw [e, e3] at e4; simp [endCells] at e4
  · rw [e, e1] at e4; simp at e4
  · rw [e, e2] at e4; simp at e4
  · rw [e, e1] at e3; simp at e3
  · rw [e, e2] at e3; simp at e3
  · rw [e, e2] at e1; simp at e1
theorem EndRaw.same {W W' : World} {x : Blk} {n : Nat} {s : St} (h : EndRaw W x n s) (hs : ∀ k, k = x.g ∨ k = x.q ∨ k = x.c ∨ k = x.b → W'.heap[k]? = W.heap[k]?) : EndRaw W' x n s :=
  ⟨(hs x.g (by simp)).trans h.own, h.queue.same (hs _ (by simp)) (hs _ (by simp)), h.map.same (hs _ (by simp))⟩
theorem EndRaw.below {W W' : World} {x : Blk} {n : Nat} {s : St} (h : EndRaw W x n s) (hb : Below W.heap.size W W') : EndRaw W' x n s :=
  h.same fun k hk => hb.block k (by have := h.lt; rcases hk with rfl | rfl | rfl | rfl <;> omega)
theorem EndRaw.cells {W : World} {x : Blk} {n : Nat} {s : St} (h : EndRaw W x n s) : W.cell? ⟨x.g, 0, none⟩ = some (.int .i64 s.me) ∧ W.cell? ⟨x.g, 1, none⟩ = some (.int .i64 s.peer) ∧ W.cell? ⟨x.g, 2, none⟩ = some (.int .i64 s.sent) ∧ W.cell? ⟨x.g, 3, none⟩ = some (.pointer (some ⟨x.q, 0, none⟩)) ∧ W.cell? ⟨x.g, 4, none⟩ = some (.int .i64 s.taken) ∧ W.cell? ⟨x.g, 5, none⟩ = some (.map (some x.b)) := by
  have e := h.own
  refine ⟨?_, ?_, ?_, ?_, ?_, ?_⟩ <;> (simp only [World.cell?]; rw [e]; rfl)
theorem EndRaw.frozen {W : World} {x : Blk} {n : Nat} {s : St} (h : EndRaw W x n s) (j : Nat) : W.frozen? ⟨x.g, j, none⟩ = some false := by
  have e := h.own
  simp only [World.frozen?]
  rw [e]
  simp

def WaitOut (w : World) (x : Blk) (n : Nat) (s : St) (num : Nat) (b : Bytes) (e : Ending) (w' : World) : Prop := e = .returned (.int .i64 (waitL s num b).1) ∧ EndRaw w' x (n + 1) (waitL s num b).2 ∧ Only x.In w w'
set_option maxRecDepth 100000 in
set_option maxHeartbeats 1000000 in
theorem wait_calls {w : World} {x : Blk} {n : Nat} {s : St} (h : EndAt w x n s) (num : Nat) (hn : num ≤ 2147483647) (b : Bytes) (hnn : n < maxLen) : Calls Tryz.prog 61 #[.pointer (some ⟨x.g, 0, none⟩), .int .i64 num, .string ⟨b.toArray⟩] w (WaitOut w x n s num b) := by
  obtain ⟨h0, h1, h2, h3, h4, h5⟩ := h.cells
  have ht := h.ok.taken
  have hl := h.lt
  by_cases c1 : num ≤ s.taken
  · have e : waitL s num b = (7, s) := by unfold waitL; rw [if_pos c1]
    have HF : Hid (WaitOut w x n s num b (.returned (.int .i64 7)) w) := by
      show WaitOut w x n s num b (.returned (.int .i64 7)) w
      unfold WaitOut
      rw [e]
      exact ⟨rfl, h.raw.mono (by omega), Only.refl _ _⟩
    have c1i : (num : Int) ≤ (s.taken : Int) := by omega
    clear e c1 h
    go_enter Tryz.func61, Tryz.ntmps61
    go_wp2
    go_ret
    exact HF.out
  by_cases c2 : s.taken + 32 < num
  · have e : waitL s num b = (5, s) := by unfold waitL; rw [if_neg c1, if_pos c2]
    have HF : Hid (WaitOut w x n s num b (.returned (.int .i64 5)) w) := by
      show WaitOut w x n s num b (.returned (.int .i64 5)) w
      unfold WaitOut
      rw [e]
      exact ⟨rfl, h.raw.mono (by omega), Only.refl _ _⟩
    have c1i : ¬ (num : Int) ≤ (s.taken : Int) := by omega
    have c2i : (s.taken : Int) + 32 < (num : Int) := by omega
    clear e c1 c2 h
    go_enter Tryz.func61, Tryz.ntmps61
    go_wp2
    go_ret
    exact HF.out
  have c1i : ¬ (num : Int) ≤ (s.taken : Int) := by omega
  have c2i : ¬ (s.taken : Int) + 32 < (num : Int) := by omega
  have hlk := h.map.look (k := num) (by omega)
  unfold lookV earlyV at hlk
  cases hw : s.wait num with
  | some y =>
    have e : waitL s num b = (7, s) := by unfold waitL; rw [if_neg c1, if_neg c2, hw]; rfl
    have HF : Hid (∀ V, Below w.heap.size w V → WaitOut w x n s num b (.returned (.int .i64 7)) V) := fun V hV => by
      unfold WaitOut
      rw [e]
      exact ⟨rfl, (h.below hV).raw.mono (by omega), Only.of_below hV⟩
    rw [hw] at hlk
    have hlk' : (Instr.lookup 75 (.map (some x.b)) (.int .i64 (num : Int)) true).run Tryz.prog w = .ok (.tuple #[.agg #[.string ⟨y.toArray⟩], .bool true]) w := hlk
    have HB : Hid (Below w.heap.size w (w.alloc (.cells #[.string ⟨y.toArray⟩] 158))) := (Below.refl _ w).alloc (Nat.le_refl _) _
    clear e c1 c2 h hlk hw hl ht
    go_enter Tryz.func61, Tryz.ntmps61
    go_wp2
    go_ret
    exact HF.out _ HB.out
  | none =>
    rw [hw] at hlk
    have hlk' : (Instr.lookup 75 (.map (some x.b)) (.int .i64 (num : Int)) true).run Tryz.prog w = .ok (.tuple #[.agg #[.string ⟨#[]⟩], .bool false]) w := hlk
    have e : waitL s num b = (0, { s with wait := putW s.wait num b }) := by unfold waitL; rw [if_neg c1, if_neg c2, hw]; rfl
    have hB1 : Below w.heap.size w (w.alloc (.cells #[.string ⟨#[]⟩] 158)) := (Below.refl _ w).alloc (Nat.le_refl _) _
    have h1 := h.below hB1
    obtain ⟨W', hset, hm, hg, hz⟩ := h1.map.set (by omega) (k := num) (by omega) b
    unfold earlyV at hset
    have HF : Hid (WaitOut w x n s num b (.returned (.int .i64 0)) W') := by
      show WaitOut w x n s num b (.returned (.int .i64 0)) W'
      unfold WaitOut
      rw [e]
      have ha := h1.apart
      have hl1 := h1.lt
      refine ⟨rfl, ⟨(hg.block _ hl1.1 (fun e => ha.2.2.1 (Option.some.inj e))).trans h1.own, h1.queue.same (hg.block _ hl1.2.1 (fun e => ha.2.2.2.2.1 (Option.some.inj e))) (hg.block _ hl1.2.2.1 (fun e => ha.2.2.2.2.2 (Option.some.inj e))), hm⟩, (Only.of_below hB1).trans (Only.of_grown hg (.inr (.inr rfl)))⟩
    have h5' := h1.cells.2.2.2.2.2
    have hne : ¬ x.g = w.heap.size := by omega
    clear e c1 c2 h hlk hw hl ht hB1 hm hg hz h1
    go_enter Tryz.func61, Tryz.ntmps61
    go_wp2
    go_ret
    exact HF.out
end Go.Proofs.YtiodphkmllcjdaaGreat.L7
end

section
namespace Go.Proofs.YtiodphkmllcjdaaGreat.L7
open Go.ChangeShapes Go.WideShapes Go.ChangeAt Go.RowKit L6

def stAt (s : St) (i : Nat) : St := { s with taken := s.taken + i, wait := fun n => if n ≤ s.taken + i then none else s.wait n }
def DrainOut (w : World) (x : Blk) (n : Nat) (s : St) (e : Ending) (w' : World) : Prop :=
  ∃ v, e = .returned v ∧ w'.ownsRow w.heap.size 46 1 v (drainL s).1.length (strs (drainL s).1) ∧ EndRaw w' x n (drainL s).2 ∧ Only x.In w w'
def TwGo (w : World) (x : Blk) (n : Nat) (s : St) (bs : List Bytes) (k : Nat) (v3 : Value) (wr : World) : Prop :=
  ∃ i, k + i = bs.length ∧ wr.ownsRow w.heap.size 46 1 v3 i (strs (bs.take i)) ∧ EndRaw wr x n (stAt s i) ∧ Only x.In w wr
theorem EndRaw.drewN {W : World} {x : Blk} {n : Nat} {s : St} (h : EndRaw W x n s) (m : Nat) : EndRaw (W.drewN m) x n s := h.same fun _ _ => rfl
theorem EndRaw.froze {W : World} {x : Blk} {n : Nat} {s : St} (h : EndRaw W x n s) (j : Nat) : W.frozen? ⟨x.g, j, none⟩ = false := by
  have e := h.own
  simp only [World.frozen?]
  rw [e]
  simp
theorem blk_set {W : World} {b : Nat} {t : TypeId} {o0 o1 o2 o3 o4 o5 : Value} (h : W.heap[b]? = some (.cells #[o0, o1, o2, o3, o4, o5] t (0, 0))) (v : Value) : (W.setCell ⟨b, 4, none⟩ v).heap[b]? = some (.cells #[o0, o1, o2, o3, v, o5] t (0, 0)) := by
  obtain ⟨hlt, hk⟩ := Array.getElem?_eq_some_iff.1 h
  show (W.heap.modify b _)[b]? = _
  rw [Array.getElem?_eq_getElem (by rw [Array.size_modify]; exact hlt), Array.getElem_modify_self, hk]
  rfl
theorem EndRaw.setTaken {W : World} {x : Blk} {n : Nat} {s : St} (h : EndRaw W x n s) (m : Nat) : EndRaw (W.setCell ⟨x.g, 4, none⟩ (.int .i64 (m : Int))) x n { s with taken := m } := by
  have ha := h.apart
  refine ⟨?_, h.queue.same (Below.heap_setCell _ _ _ _ (fun e => ha.1 e.symm)) (Below.heap_setCell _ _ _ _ (fun e => ha.2.1 e.symm)), h.map.same (Below.heap_setCell _ _ _ _ (fun e => ha.2.2.1 e.symm))⟩
  have e := h.own
  unfold endCells at e
  exact blk_set e (.int .i64 (m : Int))

set_option maxRecDepth 100000 in
set_option maxHeartbeats 4000000 in
theorem drain_calls {w : World} {x : Blk} {n : Nat} {s : St} (h : EndRaw w x n s) (ht : s.taken ≤ 2147483647) (hw : ∀ n b, s.wait n = some b → s.taken < n ∧ n ≤ s.taken + 32 ∧ n ≤ 2147483647 ∧ b.length ≤ 20000) :
    Calls Tryz.prog 62 #[.pointer (some ⟨x.g, 0, none⟩)] w (DrainOut w x n s) := by
  obtain ⟨i0, hi, hz0, hz1, hz2⟩ := info_parts info_term
  have hfew := drain_few (t := s.taken) (fun n b e => (hw n b e).2.1) (Nat.le_refl _)
  obtain ⟨bs, hbs⟩ : ∃ bs, drain 33 s.taken s.wait = bs := ⟨_, rfl⟩
  have hget : Hid (∀ i, i ≤ bs.length → s.wait (s.taken + 1 + i) = bs[i]?) := fun i hi => by
    rcases Nat.lt_or_eq_of_le hi with hi | rfl
    · rw [← hbs]; exact drain_get 33 _ _ i (by rw [hbs]; exact hi)
    · have := drain_end 33 s.taken s.wait hfew
      rw [hbs] at this
      rw [this]; simp
  have hlen : Hid (bs.length ≤ 32 ∧ s.taken ≤ 2147483647) := ⟨by rw [hbs] at hfew; omega, ht⟩
  have hshort : Hid (∀ b ∈ bs, b.length ≤ 20000) := fun b hb => by
    obtain ⟨i, hi, rfl⟩ := List.getElem_of_mem hb
    have h1 := hget.out i (by omega)
    rw [List.getElem?_eq_getElem hi] at h1
    exact (hw _ _ h1).2.2.2
  have hHid := Lib.hid h
  have H0 : Hid (TwGo w x n s bs bs.length (.slice none 0 0) w) := by
    refine ⟨0, by omega, ⟨rfl, .inl ⟨rfl, rfl⟩⟩, ?_, Only.refl _ _⟩
    have e : stAt s 0 = s := by
      unfold stAt
      have : (fun n => if n ≤ s.taken + 0 then none else s.wait n) = s.wait := by
        funext k
        split
        · rename_i hk
          cases hc : s.wait k with
          | none => rfl
          | some b => have := (hw k b hc).1; omega
        · rfl
      rw [this]
      rfl
    rw [e]
    exact h
  have hEnd : Hid (∀ v wr, wr.ownsRow w.heap.size 46 1 v bs.length (strs bs) → EndRaw wr x n (stAt s bs.length) → Only x.In w wr → DrainOut w x n s (.returned v) wr) := fun v wr k1 k2 k3 => by
    have e1 : (drainL s).1 = bs := hbs
    have e2 : (drainL s).2 = stAt s bs.length := by unfold drainL stAt; rw [hbs]
    exact ⟨v, rfl, by rw [e1]; exact k1, by rw [e2]; exact k2, k3⟩
  clear h hw hfew hbs ht
  go_enter Tryz.func62, Tryz.ntmps62
  go_wp2
  refine wp_scope_straight ?_
  go_wp2
  refine wp_label ?_
  go_wp2
  go_loopg [3] bs.length (fun k v3 wr => TwGo w x n s bs k v3 wr)
  case atStart => exact H0.out
  case round =>
    obtain ⟨i, hk, hrow, hE, hO⟩ := hrel
    have hle : i ≤ bs.length := by omega
    obtain ⟨tk, htk⟩ : ∃ tk, s.taken + i = tk := ⟨_, rfl⟩
    have hg := hget.out i hle
    have hcs := hE.cells
    have hst : (stAt s i).taken = tk := htk
    have htb : tk ≤ 2147483680 := by have := hlen.out; omega
    have hlook : ∀ y : World, y.heap[x.b]? = wr.heap[x.b]? → (Instr.lookup 75 (.map (some x.b)) (.int .i64 ((tk : Int) + 1)) true).run Tryz.prog y = .ok (lookV bs[i]?) y := fun y hy => by
      have := (hE.map.same hy).look (k := tk + 1) (by omega)
      have e : (stAt s i).wait (tk + 1) = bs[i]? := by
        show (if tk + 1 ≤ s.taken + i then none else s.wait (tk + 1)) = bs[i]?
        rw [if_neg (by omega), ← hg]
        congr 1
        omega
      rw [e] at this
      exact this
    obtain ⟨m0, m1, m2, m3, m4, m5⟩ := hcs
    rw [hst] at m4
    have hne : ¬ x.g = wr.heap.size := by have := hE.lt; omega
    have hneb : ¬ x.b = wr.heap.size := by have := hE.lt; omega
    unfold lookV earlyV at hlook
    have HE := Lib.hid hE
    have HO := Lib.hid hO
    have HRow := Lib.hid hrow
    by_cases hlt : i < bs.length
    · obtain ⟨b, hb⟩ : ∃ b, bs[i]? = some b := ⟨_, List.getElem?_eq_getElem hlt⟩
      rw [hb] at hlook
      have HLk : Hid (∀ y : World, y.heap[x.b]? = wr.heap[x.b]? → (Instr.lookup 75 (.map (some x.b)) (.int .i64 ((tk : Int) + 1)) true).run Tryz.prog y = .ok (.tuple #[.agg #[.string ⟨b.toArray⟩], .bool true]) y) := hlook
      have HA : Hid ((wr.drew.alloc (.cells #[.string ⟨#[]⟩] 158)).cell? ⟨x.g, 5, none⟩ = some (.map (some x.b)) ∧ (wr.drew.alloc (.cells #[.string ⟨#[]⟩] 158)).cell? ⟨x.g, 4, none⟩ = some (.int .i64 tk) ∧ (wr.drew.alloc (.cells #[.string ⟨#[]⟩] 158)).heap[x.b]? = wr.heap[x.b]?) := by
        have k : Below wr.heap.size wr (wr.drew.alloc (.cells #[.string ⟨#[]⟩] 158)) := (Below.refl _ wr).drew.alloc (Nat.le_refl _) _
        exact ⟨(k.cell (p := ⟨x.g, 5, none⟩) hE.lt.1).trans m5, (k.cell (p := ⟨x.g, 4, none⟩) hE.lt.1).trans m4, k.block _ hE.lt.2.2.2⟩
      obtain ⟨V1, hV1⟩ : ∃ V1, (wr.alloc (.cells #[.string ⟨b.toArray⟩] 158)).drew = V1 := ⟨_, rfl⟩
      have hB1 : Below wr.heap.size wr V1 := by rw [← hV1]; exact ((Below.refl _ wr).alloc (Nat.le_refl _) _).drew
      have hz1' : V1.heap.size = wr.heap.size + 1 := by rw [← hV1]; show (wr.alloc _).heap.size = _; simp
      have hn1 : V1.heap[wr.heap.size]? = some (.cells #[.string ⟨b.toArray⟩] 158 (0, 0)) := by
        rw [← hV1]
        exact World.alloc_heap_new wr _
      have hE1 := hE.below hB1
      have HA2 : Hid (V1.cell? ⟨x.g, 5, none⟩ = some (.map (some x.b)) ∧ V1.cell? ⟨x.g, 4, none⟩ = some (.int .i64 tk) ∧ V1.heap[x.b]? = wr.heap[x.b]?) := ⟨(hB1.cell (p := ⟨x.g, 5, none⟩) hE.lt.1).trans m5, (hB1.cell (p := ⟨x.g, 4, none⟩) hE.lt.1).trans m4, hB1.block _ hE.lt.2.2.2⟩
      have hE2 := hE1.setTaken (tk + 1)
      obtain ⟨V2, hV2⟩ : ∃ V2, V1.setCell ⟨x.g, 4, none⟩ (.int .i64 ((tk + 1 : Nat) : Int)) = V2 := ⟨_, rfl⟩
      rw [hV2] at hE2
      have hO2 : Only x.In w V2 := by rw [← hV2]; exact (hO.trans (Only.of_below hB1)).setCell (.inl (.inl rfl)) _
      have hn2 : V2.heap[wr.heap.size]? = some (.cells #[.string ⟨b.toArray⟩] 158 (0, 0)) := by
        rw [← hV2, Below.heap_setCell _ _ _ _ (by simpa using Ne.symm hne)]
        exact hn1
      have hz2' : V2.heap.size = wr.heap.size + 1 := by rw [← hV2]; simpa using hz1'
      have hE3 : EndRaw V2.drew x n { stAt s i with taken := tk + 1 } := hE2.same fun _ _ => rfl
      obtain ⟨V4, hdel, hm4, hg4, hz4⟩ := hE3.map.drop (k := tk + 1) (by omega) 0
      have hap := hE3.apart
      have hlt3 := hE3.lt
      have e4 : dropW (stAt s i).wait (tk + 1) = (stAt s (i + 1)).wait := by
        funext k
        show (if k = tk + 1 then none else if k ≤ s.taken + i then none else s.wait k) = if k ≤ s.taken + (i + 1) then none else s.wait k
        by_cases k1 : k ≤ s.taken + i
        · rw [if_pos k1, if_pos (show k ≤ s.taken + (i + 1) by omega)]; split <;> rfl
        · rw [if_neg k1]
          by_cases k2 : k = tk + 1
          · rw [if_pos k2, if_pos (by omega)]
          · rw [if_neg k2, if_neg (by omega)]
      have hE4 : EndRaw V4 x n (stAt s (i + 1)) := by
        refine ⟨?_, hE3.queue.same (hg4.block _ hlt3.2.1 (fun e => hap.2.2.2.2.1 (Option.some.inj e))) (hg4.block _ hlt3.2.2.1 (fun e => hap.2.2.2.2.2 (Option.some.inj e))), by rw [← e4]; exact hm4⟩
        have k := (hg4.block _ hlt3.1 (fun e => hap.2.2.1 (Option.some.inj e))).trans hE3.own
        have e5 : s.taken + (i + 1) = tk + 1 := by omega
        show V4.heap[x.g]? = some (.cells (endCells x (stAt s (i + 1))) _ (0, 0))
        unfold endCells stAt at k ⊢
        dsimp only at k ⊢
        rw [e5]
        exact k
      have hO4 : Only x.In w V4 := hO2.trans ((Only.refl x.In V2).drewN 1 |>.trans (Only.of_grown hg4 (.inr (.inr rfl))))
      have hn4 : V4.cell? ⟨wr.heap.size, 0, none⟩ = some (.string ⟨b.toArray⟩) := by
        have k := (hg4.block wr.heap.size (by show wr.heap.size < V2.heap.size; omega) (fun e => hneb (Option.some.inj e).symm)).trans hn2
        simp only [World.cell?]
        rw [k]
        rfl
      obtain ⟨A3, c3, rfl⟩ := L5.own_slice hrow
      have hrl := hrow.lt
      have hrow4 : V4.ownsRow w.heap.size 46 1 (.slice A3 i c3) i (strs (bs.take i)) := by
        refine L5.own_same hrow (fun q e => ?_)
        have hq := hrl q e
        have hl0 := hHid.out.lt
        have k1 := hg4.block q (by show q < V2.heap.size; omega) (fun e => by have := Option.some.inj e; omega)
        have k2 : V2.heap[q]? = V1.heap[q]? := by rw [← hV2]; exact Below.heap_setCell _ _ _ _ (by show q ≠ x.g; omega)
        exact k1.trans (k2.trans (hB1.block q hq.2))
      have hrow5 : V4.ownsRow w.heap.size 46 1 (.slice A3 i c3) i (strs (bs.take i)) := hrow4
      have HRow4 := Lib.hid hrow4
      have HNext : Hid (∀ v5 w5, w5.ownsRow w.heap.size 46 1 v5 (i + 1) (strs (bs.take i) ++ [.string ⟨b.toArray⟩]) → (V4.alloc (.cells #[.string ⟨b.toArray⟩] 46)).grownBy w5 (Value.slice A3 i c3).ownBlock → TwGo w x n s bs (bs.length - (i + 1)) v5 w5) := fun v5 w5 k1 k2 => by
        have k3 := L5.grow_trans (World.grownBy_alloc V4 (.cells #[.string ⟨b.toArray⟩] 46) _) k2
        have hl0 := hHid.out.lt
        have hsw : ∀ k, k < w.heap.size → w5.heap[k]? = V4.heap[k]? := fun k hk => k3.block k (Nat.lt_of_lt_of_le hk hO4.size) (fun e => by have := (hrow4.lt k e.symm).1; omega)
        refine ⟨i + 1, by omega, ?_, hE4.same (fun k hk => hsw k (by rcases hk with rfl | rfl | rfl | rfl <;> omega)), ?_⟩
        · have e : bs.take (i + 1) = bs.take i ++ [b] := by rw [List.take_add_one, hb]; rfl
          rw [e]
          simpa [strs] using k1
        · exact ⟨k3.os.trans hO4.os, k3.tape.trans hO4.tape, k3.output.trans hO4.output, Nat.le_trans hO4.size k3.size, fun k hk hn => (hsw k hk).trans (hO4.block k hk hn)⟩
      have hmeas := Lib.hid (show bs.length - (i + 1) < gk by omega)
      have hi32 : i ≤ 32 := by have := hlen.out; omega
      have hc4 := hE1.cells.2.2.2.2.1
      rw [hst] at hc4
      have hf4 := hE1.froze 4
      have hc5 := hE3.cells
      have hc54 : V2.drew.cell? ⟨x.g, 4, none⟩ = some (.int .i64 ((tk + 1 : Nat) : Int)) := hc5.2.2.2.2.1
      have hc55 : V2.drew.cell? ⟨x.g, 5, none⟩ = some (.map (some x.b)) := hc5.2.2.2.2.2
      have hsz4 : w.heap.size ≤ V4.heap.size := hO4.size
      have HS4 : Hid (V4.cell? ⟨x.g, 5, none⟩ = some (.map (some x.b)) ∧ V4.cell? ⟨x.g, 4, none⟩ = some (.int .i64 ((tk : Int) + 1))) := by
        have k4 := hE4.cells.2.2.2.2.1
        have e5 : (((stAt s (i + 1)).taken : Nat) : Int) = (tk : Int) + 1 := by
          show ((s.taken + (i + 1) : Nat) : Int) = _
          omega
        rw [e5] at k4
        exact ⟨hE4.cells.2.2.2.2.2, k4⟩
      clear hlook hE hO hrow hg hk hle m0 m1 m2 m3 hB1 hn1 hE1 hE2 hO2 hn2 hE3 hm4 hg4 hz4 hap hlt3 e4 hE4 hO4 hrl hrow4 hrow5 hc5 hz1' hz2' hst htk
      have hcast : ((tk + 1 : Nat) : Int) = (tk : Int) + 1 := by omega
      rw [hcast] at hV2 hdel hc54
      clear hcast
      have hwr : IntKind.i64.wrap ((tk : Int) + 1) = (tk : Int) + 1 := by rw [IntKind.wrap_i64]; omega
      go_wp2
      refine wp_region_held_drew (S := (fun w' => w'.cell? ⟨x.g, 5, none⟩ = some (.map (some x.b)) ∧ w'.cell? ⟨x.g, 4, none⟩ = some (.int .i64 tk) ∧ w'.heap[x.b]? = wr.heap[x.b]?)) (by kernel_rfl) ?_ (fun hHeld => ?_)
      · exact ⟨m5, m4, rfl⟩
      refine wpAnyH_take (i := 0) (v := ?_) rfl (by kernel_rfl) (by kernel_rfl) (by kernel_rfl) (fun _ _ _ h => h) (Or.inl ⟨by rfl, ?_⟩) (by assumption) ?_
      rotate_left 1
      · (intro w hSw; (try dsimp only at hSw); go_simp; try with_reducible rfl)
      try simp only [List.getElem_toArray, List.getElem_cons_zero, Act.put, List.setIfInBounds_toArray, List.set_cons_zero, List.set_cons_succ]
      refine wpAnyH_take (i := 1) (v := ?_) rfl (by kernel_rfl) (by kernel_rfl) (by kernel_rfl) (fun _ _ _ h => h) (Or.inl ⟨by rfl, ?_⟩) (by assumption) ?_
      rotate_left 1
      · (intro w hSw; (try dsimp only at hSw); go_simp; try with_reducible rfl)
      try simp only [List.getElem_toArray, List.getElem_cons_zero, List.getElem_cons_succ, Act.put, List.setIfInBounds_toArray, List.set_cons_zero, List.set_cons_succ]
      refine wpAnyH_take (i := 2) (v := ?_) rfl (by kernel_rfl) (by kernel_rfl) (by kernel_rfl) (fun _ _ _ h => h) (Or.inl ⟨by rfl, ?_⟩) (by assumption) ?_
      rotate_left 1
      · (intro w hSw; (try dsimp only at hSw); go_simp; try with_reducible rfl)
      try simp only [List.getElem_toArray, List.getElem_cons_zero, List.getElem_cons_succ, Act.put, List.setIfInBounds_toArray, List.set_cons_zero, List.set_cons_succ]
      refine wpAnyH_take (i := 3) (v := ?_) rfl (by kernel_rfl) (by kernel_rfl) (by kernel_rfl) (fun _ _ _ h => h) (Or.inl ⟨by rfl, ?_⟩) (by assumption) ?_
      rotate_left 1
      · (intro w hSw; (try dsimp only at hSw); go_simp; try with_reducible rfl)
      try simp only [List.getElem_toArray, List.getElem_cons_zero, List.getElem_cons_succ, Act.put, List.setIfInBounds_toArray, List.set_cons_zero, List.set_cons_succ]
      refine wpAnyH_take (i := 4) (v := ?_) rfl (by kernel_rfl) (by kernel_rfl) (by kernel_rfl) (fun _ _ _ h => h) (Or.inl ⟨by rfl, ?_⟩) (by assumption) ?_
      rotate_left 1
      · (intro w hSw; (try dsimp only at hSw); go_simp; try with_reducible rfl)
      try simp only [List.getElem_toArray, List.getElem_cons_zero, List.getElem_cons_succ, Act.put, List.setIfInBounds_toArray, List.set_cons_zero, List.set_cons_succ]
      refine wpAnyH_take (i := 5) (v := ?_) rfl (by kernel_rfl) (by kernel_rfl) (by kernel_rfl) (fun _ _ _ h => h) (Or.inl ⟨by rfl, ?_⟩) (by assumption) ?_
      rotate_left 1
      · (intro w hSw; (try dsimp only at hSw); go_simp; try with_reducible rfl)
      try simp only [List.getElem_toArray, List.getElem_cons_zero, List.getElem_cons_succ, Act.put, List.setIfInBounds_toArray, List.set_cons_zero, List.set_cons_succ]
      refine wpAnyH_take (i := 6) (v := ?_) rfl (by kernel_rfl) (by kernel_rfl) (by kernel_rfl) (fun _ _ _ h => h) (Or.inl ⟨by rfl, ?_⟩) (by assumption) ?_
      rotate_left 1
      · (intro w hSw; (try dsimp only at hSw); go_simp; try with_reducible rfl)
      try simp only [List.getElem_toArray, List.getElem_cons_zero, List.getElem_cons_succ, Act.put, List.setIfInBounds_toArray, List.set_cons_zero, List.set_cons_succ]
      refine wpAnyH_take (i := 7) (v := ?_) rfl (by kernel_rfl) (by kernel_rfl) (by kernel_rfl) (fun _ _ _ h => h) (Or.inl ⟨by rfl, ?_⟩) (by assumption) ?_
      rotate_left 1
      · (intro w hSw; (try dsimp only at hSw); go_simp; try with_reducible rfl)
      try simp only [List.getElem_toArray, List.getElem_cons_zero, List.getElem_cons_succ, Act.put, List.setIfInBounds_toArray, List.set_cons_zero, List.set_cons_succ]
      refine wpAnyH_take (i := 8) (v := ?_) rfl (by kernel_rfl) (by kernel_rfl) (by kernel_rfl) (fun _ _ _ h => h) (Or.inl ⟨by rfl, ?_⟩) (by assumption) ?_
      rotate_left 1
      · (intro w hSw; (try dsimp only at hSw); go_simp; try with_reducible rfl)
      try simp only [List.getElem_toArray, List.getElem_cons_zero, List.getElem_cons_succ, Act.put, List.setIfInBounds_toArray, List.set_cons_zero, List.set_cons_succ]
      refine wpAnyH_take (i := 9) (v := ?_) rfl (by kernel_rfl) (by kernel_rfl) (by kernel_rfl) (fun _ _ _ h => h) (Or.inl ⟨by rfl, ?_⟩) (by assumption) ?_
      rotate_left 1
      · (intro w hSw; (try dsimp only at hSw); (have hlk := HLk.out w hSw.2.2; go_simp); try with_reducible rfl)
      try simp only [List.getElem_toArray, List.getElem_cons_zero, List.getElem_cons_succ, Act.put, List.setIfInBounds_toArray, List.set_cons_zero, List.set_cons_succ]
      refine wpAnyH_take (i := 10) (v := ?_) rfl (by kernel_rfl) (by kernel_rfl) (by kernel_rfl) (fun _ _ _ h => h) (Or.inl ⟨by rfl, ?_⟩) (by assumption) ?_
      rotate_left 1
      · (intro w hSw; (try dsimp only at hSw); go_simp; try with_reducible rfl)
      try simp only [List.getElem_toArray, List.getElem_cons_zero, List.getElem_cons_succ, Act.put, List.setIfInBounds_toArray, List.set_cons_zero, List.set_cons_succ]
      refine wpAnyH_take (i := 11) (v := ?_) rfl (by kernel_rfl) (by kernel_rfl) (by kernel_rfl) (fun _ _ _ h => h) (Or.inl ⟨by rfl, ?_⟩) (by assumption) ?_
      rotate_left 1
      · (intro w hSw; (try dsimp only at hSw); go_simp; try with_reducible rfl)
      try simp only [List.getElem_toArray, List.getElem_cons_zero, List.getElem_cons_succ, Act.put, List.setIfInBounds_toArray, List.set_cons_zero, List.set_cons_succ]
      refine wpAnyH_take (i := 12) (v := ?_) rfl (by kernel_rfl) (by kernel_rfl) (by kernel_rfl) (fun _ _ _ h => h) (Or.inl ⟨by rfl, ?_⟩) (by assumption) ?_
      rotate_left 1
      · (intro w hSw; (try dsimp only at hSw); go_simp; try with_reducible rfl)
      try simp only [List.getElem_toArray, List.getElem_cons_zero, List.getElem_cons_succ, Act.put, List.setIfInBounds_toArray, List.set_cons_zero, List.set_cons_succ]
      refine wpAnyH_ready (rs := [13]) (by kernel_rfl) (by simp) ?_
      refine AllReadyH.cons rfl (fun K hK => ?_) AllReadyH.nil
      try simp only [List.getElem_toArray, List.getElem_cons_zero, List.getElem_cons_succ]
      go_simp
      refine hK.out _ _ ?_ (fun hHeld => ?_)
      · exact ⟨HA.out.1, HA.out.2.1, HA.out.2.2⟩
      clear hK K
      try simp only [List.getElem_toArray, List.getElem_cons_zero, List.getElem_cons_succ, Act.put, List.setIfInBounds_toArray, List.set_cons_zero, List.set_cons_succ]
      refine wpAnyH_ready (rs := [14]) (by kernel_rfl) (by simp) ?_
      refine AllReadyH.cons rfl (fun K hK => ?_) AllReadyH.nil
      try simp only [List.getElem_toArray, List.getElem_cons_zero, List.getElem_cons_succ]
      go_simp
      refine hK.out _ _ ?_ (fun hHeld => ?_)
      · exact ⟨HA2.out.1, HA2.out.2.1, HA2.out.2.2⟩
      clear hK K
      try simp only [List.getElem_toArray, List.getElem_cons_zero, List.getElem_cons_succ, Act.put, List.setIfInBounds_toArray, List.set_cons_zero, List.set_cons_succ]
      refine wpAnyH_take (i := 15) (v := ?_) rfl (by kernel_rfl) (by kernel_rfl) (by kernel_rfl) (fun _ _ _ h => h) (Or.inl ⟨by rfl, ?_⟩) (by assumption) ?_
      rotate_left 1
      · (intro w hSw; (try dsimp only at hSw); go_simp; try with_reducible rfl)
      try simp only [List.getElem_toArray, List.getElem_cons_zero, List.getElem_cons_succ, Act.put, List.setIfInBounds_toArray, List.set_cons_zero, List.set_cons_succ]
      refine wpAnyH_done (by kernel_rfl) ?_ _
      clear hV1
      go_wp2
      refine wp_region_held_drew (S := (fun w' => w'.cell? ⟨x.g, 5, none⟩ = some (.map (some x.b)) ∧ w'.cell? ⟨x.g, 4, none⟩ = some (.int .i64 ((tk : Int) + 1)))) (by kernel_rfl) ?_ (fun hHeld => ?_)
      · exact ⟨hc55, hc54⟩
      refine wpAnyH_take (i := 0) (v := ?_) rfl (by kernel_rfl) (by kernel_rfl) (by kernel_rfl) (fun _ _ _ h => h) (Or.inl ⟨by rfl, ?_⟩) (by assumption) ?_
      rotate_left 1
      · (intro w hSw; (try dsimp only at hSw); go_simp; try with_reducible rfl)
      try simp only [List.getElem_toArray, List.getElem_cons_zero, Act.put, List.setIfInBounds_toArray, List.set_cons_zero, List.set_cons_succ]
      refine wpAnyH_take (i := 1) (v := ?_) rfl (by kernel_rfl) (by kernel_rfl) (by kernel_rfl) (fun _ _ _ h => h) (Or.inl ⟨by rfl, ?_⟩) (by assumption) ?_
      rotate_left 1
      · (intro w hSw; (try dsimp only at hSw); go_simp; try with_reducible rfl)
      try simp only [List.getElem_toArray, List.getElem_cons_zero, List.getElem_cons_succ, Act.put, List.setIfInBounds_toArray, List.set_cons_zero, List.set_cons_succ]
      refine wpAnyH_take (i := 2) (v := ?_) rfl (by kernel_rfl) (by kernel_rfl) (by kernel_rfl) (fun _ _ _ h => h) (Or.inl ⟨by rfl, ?_⟩) (by assumption) ?_
      rotate_left 1
      · (intro w hSw; (try dsimp only at hSw); go_simp; try with_reducible rfl)
      try simp only [List.getElem_toArray, List.getElem_cons_zero, List.getElem_cons_succ, Act.put, List.setIfInBounds_toArray, List.set_cons_zero, List.set_cons_succ]
      refine wpAnyH_take (i := 3) (v := ?_) rfl (by kernel_rfl) (by kernel_rfl) (by kernel_rfl) (fun _ _ _ h => h) (Or.inl ⟨by rfl, ?_⟩) (by assumption) ?_
      rotate_left 1
      · (intro w hSw; (try dsimp only at hSw); go_simp; try with_reducible rfl)
      try simp only [List.getElem_toArray, List.getElem_cons_zero, List.getElem_cons_succ, Act.put, List.setIfInBounds_toArray, List.set_cons_zero, List.set_cons_succ]
      refine wpAnyH_take (i := 4) (v := ?_) rfl (by kernel_rfl) (by kernel_rfl) (by kernel_rfl) (fun _ _ _ h => h) (Or.inl ⟨by rfl, ?_⟩) (by assumption) ?_
      rotate_left 1
      · (intro w hSw; (try dsimp only at hSw); go_simp; try with_reducible rfl)
      try simp only [List.getElem_toArray, List.getElem_cons_zero, List.getElem_cons_succ, Act.put, List.setIfInBounds_toArray, List.set_cons_zero, List.set_cons_succ]
      refine wpAnyH_take (i := 5) (v := ?_) rfl (by kernel_rfl) (by kernel_rfl) (by kernel_rfl) (fun _ _ _ h => h) (Or.inl ⟨by rfl, ?_⟩) (by assumption) ?_
      rotate_left 1
      · (intro w hSw; (try dsimp only at hSw); go_simp; try with_reducible rfl)
      try simp only [List.getElem_toArray, List.getElem_cons_zero, List.getElem_cons_succ, Act.put, List.setIfInBounds_toArray, List.set_cons_zero, List.set_cons_succ]
      refine wpAnyH_take (i := 6) (v := ?_) rfl (by kernel_rfl) (by kernel_rfl) (by kernel_rfl) (fun _ _ _ h => h) (Or.inl ⟨by rfl, ?_⟩) (by assumption) ?_
      rotate_left 1
      · (intro w hSw; (try dsimp only at hSw); go_simp; try with_reducible rfl)
      try simp only [List.getElem_toArray, List.getElem_cons_zero, List.getElem_cons_succ, Act.put, List.setIfInBounds_toArray, List.set_cons_zero, List.set_cons_succ]
      refine wpAnyH_take (i := 7) (v := ?_) rfl (by kernel_rfl) (by kernel_rfl) (by kernel_rfl) (fun _ _ _ h => h) (Or.inl ⟨by rfl, ?_⟩) (by assumption) ?_
      rotate_left 1
      · (intro w hSw; (try dsimp only at hSw); go_simp; try with_reducible rfl)
      try simp only [List.getElem_toArray, List.getElem_cons_zero, List.getElem_cons_succ, Act.put, List.setIfInBounds_toArray, List.set_cons_zero, List.set_cons_succ]
      refine wpAnyH_ready (rs := [8]) (by kernel_rfl) (by simp) ?_
      refine AllReadyH.cons rfl (fun K hK => ?_) AllReadyH.nil
      try simp only [List.getElem_toArray, List.getElem_cons_zero, List.getElem_cons_succ]
      go_simp
      refine hK.out _ _ ?_ (fun hHeld => ?_)
      · exact HS4.out
      clear hK K
      try simp only [List.getElem_toArray, List.getElem_cons_zero, List.getElem_cons_succ, Act.put, List.setIfInBounds_toArray, List.set_cons_zero, List.set_cons_succ]
      refine wpAnyH_done (by kernel_rfl) ?_ _
      have hsz4' := hsz4
      clear hV2 hdel hc54 hc55 hf4 hc4 hwr
      go_wp2_with (at_builtin; refine wpList_append_own_at _ rfl _ _ 34 rfl (w.heap.size) 46 i0 _ 1 16 Tryz.underlying34 hi hz0 hz1 hz2 rfl (by decide) _ _ _ rfl (HRow4.out.alloc _) ⟨V4.heap.size, 0, none⟩ 1 1 [.string ⟨b.toArray⟩] rfl rfl (cell_one_new _ _ _) (by simp [Value.oneCell']) (by unfold maxLen; omega) (by omega) (by simp; omega) ?_; intro v3 w3 hown' hgrow hnil hat; have HF := Lib.hid (HNext.out v3 w3 hown' hgrow); clear hown' hgrow hnil hat)
      go_roundg (bs.length - (i + 1))
      case measure => exact hmeas.out
      case rel => exact HF.out
    · obtain rfl : i = bs.length := by omega
      have hb : bs[bs.length]? = none := by simp
      rw [hb] at hlook
      have HLk : Hid (∀ y : World, y.heap[x.b]? = wr.heap[x.b]? → (Instr.lookup 75 (.map (some x.b)) (.int .i64 ((tk : Int) + 1)) true).run Tryz.prog y = .ok (.tuple #[.agg #[.string ⟨#[]⟩], .bool false]) y) := hlook
      have hB1 : Below wr.heap.size wr ((wr.alloc (.cells #[.string ⟨#[]⟩] 158)).drew) := ((Below.refl _ wr).alloc (Nat.le_refl _) _).drew
      have HA : Hid ((wr.drew.alloc (.cells #[.string ⟨#[]⟩] 158)).cell? ⟨x.g, 5, none⟩ = some (.map (some x.b)) ∧ (wr.drew.alloc (.cells #[.string ⟨#[]⟩] 158)).cell? ⟨x.g, 4, none⟩ = some (.int .i64 tk) ∧ (wr.drew.alloc (.cells #[.string ⟨#[]⟩] 158)).heap[x.b]? = wr.heap[x.b]?) := by
        have k : Below wr.heap.size wr (wr.drew.alloc (.cells #[.string ⟨#[]⟩] 158)) := (Below.refl _ wr).drew.alloc (Nat.le_refl _) _
        exact ⟨(k.cell (p := ⟨x.g, 5, none⟩) hE.lt.1).trans m5, (k.cell (p := ⟨x.g, 4, none⟩) hE.lt.1).trans m4, k.block _ hE.lt.2.2.2⟩
      have HA2 := HA
      rw [List.take_length] at hrow
      have HF := Lib.hid (hEnd.out _ ((wr.alloc (.cells #[.string ⟨#[]⟩] 158)).drew) (L5.own_below hrow (hB1.mono (Nat.le_refl _))) (hE.below hB1) (hO.trans (Only.of_below hB1)))
      clear hlook hE hO hrow hg hk hle m0 m1 m2 m3 hB1
      have hwr : IntKind.i64.wrap ((tk : Int) + 1) = (tk : Int) + 1 := by rw [IntKind.wrap_i64]; omega
      go_wp2
      refine wp_region_held_drew (S := (fun w' => w'.cell? ⟨x.g, 5, none⟩ = some (.map (some x.b)) ∧ w'.cell? ⟨x.g, 4, none⟩ = some (.int .i64 tk) ∧ w'.heap[x.b]? = wr.heap[x.b]?)) (by kernel_rfl) ?_ (fun hHeld => ?_)
      · exact ⟨m5, m4, rfl⟩
      refine wpAnyH_take (i := 0) (v := ?_) rfl (by kernel_rfl) (by kernel_rfl) (by kernel_rfl) (fun _ _ _ h => h) (Or.inl ⟨by rfl, ?_⟩) (by assumption) ?_
      rotate_left 1
      · (intro w hSw; (try dsimp only at hSw); go_simp; try with_reducible rfl)
      try simp only [List.getElem_toArray, List.getElem_cons_zero, Act.put, List.setIfInBounds_toArray, List.set_cons_zero, List.set_cons_succ]
      refine wpAnyH_take (i := 1) (v := ?_) rfl (by kernel_rfl) (by kernel_rfl) (by kernel_rfl) (fun _ _ _ h => h) (Or.inl ⟨by rfl, ?_⟩) (by assumption) ?_
      rotate_left 1
      · (intro w hSw; (try dsimp only at hSw); go_simp; try with_reducible rfl)
      try simp only [List.getElem_toArray, List.getElem_cons_zero, List.getElem_cons_succ, Act.put, List.setIfInBounds_toArray, List.set_cons_zero, List.set_cons_succ]
      refine wpAnyH_take (i := 2) (v := ?_) rfl (by kernel_rfl) (by kernel_rfl) (by kernel_rfl) (fun _ _ _ h => h) (Or.inl ⟨by rfl, ?_⟩) (by assumption) ?_
      rotate_left 1
      · (intro w hSw; (try dsimp only at hSw); go_simp; try with_reducible rfl)
      try simp only [List.getElem_toArray, List.getElem_cons_zero, List.getElem_cons_succ, Act.put, List.setIfInBounds_toArray, List.set_cons_zero, List.set_cons_succ]
      refine wpAnyH_take (i := 3) (v := ?_) rfl (by kernel_rfl) (by kernel_rfl) (by kernel_rfl) (fun _ _ _ h => h) (Or.inl ⟨by rfl, ?_⟩) (by assumption) ?_
      rotate_left 1
      · (intro w hSw; (try dsimp only at hSw); go_simp; try with_reducible rfl)
      try simp only [List.getElem_toArray, List.getElem_cons_zero, List.getElem_cons_succ, Act.put, List.setIfInBounds_toArray, List.set_cons_zero, List.set_cons_succ]
      refine wpAnyH_take (i := 4) (v := ?_) rfl (by kernel_rfl) (by kernel_rfl) (by kernel_rfl) (fun _ _ _ h => h) (Or.inl ⟨by rfl, ?_⟩) (by assumption) ?_
      rotate_left 1
      · (intro w hSw; (try dsimp only at hSw); go_simp; try with_reducible rfl)
      try simp only [List.getElem_toArray, List.getElem_cons_zero, List.getElem_cons_succ, Act.put, List.setIfInBounds_toArray, List.set_cons_zero, List.set_cons_succ]
      refine wpAnyH_take (i := 5) (v := ?_) rfl (by kernel_rfl) (by kernel_rfl) (by kernel_rfl) (fun _ _ _ h => h) (Or.inl ⟨by rfl, ?_⟩) (by assumption) ?_
      rotate_left 1
      · (intro w hSw; (try dsimp only at hSw); go_simp; try with_reducible rfl)
      try simp only [List.getElem_toArray, List.getElem_cons_zero, List.getElem_cons_succ, Act.put, List.setIfInBounds_toArray, List.set_cons_zero, List.set_cons_succ]
      refine wpAnyH_take (i := 6) (v := ?_) rfl (by kernel_rfl) (by kernel_rfl) (by kernel_rfl) (fun _ _ _ h => h) (Or.inl ⟨by rfl, ?_⟩) (by assumption) ?_
      rotate_left 1
      · (intro w hSw; (try dsimp only at hSw); go_simp; try with_reducible rfl)
      try simp only [List.getElem_toArray, List.getElem_cons_zero, List.getElem_cons_succ, Act.put, List.setIfInBounds_toArray, List.set_cons_zero, List.set_cons_succ]
      refine wpAnyH_take (i := 7) (v := ?_) rfl (by kernel_rfl) (by kernel_rfl) (by kernel_rfl) (fun _ _ _ h => h) (Or.inl ⟨by rfl, ?_⟩) (by assumption) ?_
      rotate_left 1
      · (intro w hSw; (try dsimp only at hSw); go_simp; try with_reducible rfl)
      try simp only [List.getElem_toArray, List.getElem_cons_zero, List.getElem_cons_succ, Act.put, List.setIfInBounds_toArray, List.set_cons_zero, List.set_cons_succ]
      refine wpAnyH_take (i := 8) (v := ?_) rfl (by kernel_rfl) (by kernel_rfl) (by kernel_rfl) (fun _ _ _ h => h) (Or.inl ⟨by rfl, ?_⟩) (by assumption) ?_
      rotate_left 1
      · (intro w hSw; (try dsimp only at hSw); go_simp; try with_reducible rfl)
      try simp only [List.getElem_toArray, List.getElem_cons_zero, List.getElem_cons_succ, Act.put, List.setIfInBounds_toArray, List.set_cons_zero, List.set_cons_succ]
      refine wpAnyH_take (i := 9) (v := ?_) rfl (by kernel_rfl) (by kernel_rfl) (by kernel_rfl) (fun _ _ _ h => h) (Or.inl ⟨by rfl, ?_⟩) (by assumption) ?_
      rotate_left 1
      · (intro w hSw; (try dsimp only at hSw); (have hlk := HLk.out w hSw.2.2; go_simp); try with_reducible rfl)
      try simp only [List.getElem_toArray, List.getElem_cons_zero, List.getElem_cons_succ, Act.put, List.setIfInBounds_toArray, List.set_cons_zero, List.set_cons_succ]
      refine wpAnyH_take (i := 10) (v := ?_) rfl (by kernel_rfl) (by kernel_rfl) (by kernel_rfl) (fun _ _ _ h => h) (Or.inl ⟨by rfl, ?_⟩) (by assumption) ?_
      rotate_left 1
      · (intro w hSw; (try dsimp only at hSw); go_simp; try with_reducible rfl)
      try simp only [List.getElem_toArray, List.getElem_cons_zero, List.getElem_cons_succ, Act.put, List.setIfInBounds_toArray, List.set_cons_zero, List.set_cons_succ]
      refine wpAnyH_take (i := 11) (v := ?_) rfl (by kernel_rfl) (by kernel_rfl) (by kernel_rfl) (fun _ _ _ h => h) (Or.inl ⟨by rfl, ?_⟩) (by assumption) ?_
      rotate_left 1
      · (intro w hSw; (try dsimp only at hSw); go_simp; try with_reducible rfl)
      try simp only [List.getElem_toArray, List.getElem_cons_zero, List.getElem_cons_succ, Act.put, List.setIfInBounds_toArray, List.set_cons_zero, List.set_cons_succ]
      refine wpAnyH_take (i := 12) (v := ?_) rfl (by kernel_rfl) (by kernel_rfl) (by kernel_rfl) (fun _ _ _ h => h) (Or.inl ⟨by rfl, ?_⟩) (by assumption) ?_
      rotate_left 1
      · (intro w hSw; (try dsimp only at hSw); go_simp; try with_reducible rfl)
      try simp only [List.getElem_toArray, List.getElem_cons_zero, List.getElem_cons_succ, Act.put, List.setIfInBounds_toArray, List.set_cons_zero, List.set_cons_succ]
      refine wpAnyH_ready (rs := [13]) (by kernel_rfl) (by simp) ?_
      refine AllReadyH.cons rfl (fun K hK => ?_) AllReadyH.nil
      try simp only [List.getElem_toArray, List.getElem_cons_zero, List.getElem_cons_succ]
      go_simp
      refine hK.out _ _ ?_ (fun hHeld => ?_)
      · exact ⟨HA.out.1, HA.out.2.1, HA.out.2.2⟩
      clear hK K
      try simp only [List.getElem_toArray, List.getElem_cons_zero, List.getElem_cons_succ, Act.put, List.setIfInBounds_toArray, List.set_cons_zero, List.set_cons_succ]
      refine wpAnyH_ready (rs := [14]) (by kernel_rfl) (by simp) ?_
      refine AllReadyH.cons rfl (fun K hK => ?_) AllReadyH.nil
      try simp only [List.getElem_toArray, List.getElem_cons_zero, List.getElem_cons_succ]
      go_simp
      refine hK.out _ _ ?_ (fun hHeld => ?_)
      · exact ⟨HA2.out.1, HA2.out.2.1, HA2.out.2.2⟩
      clear hK K
      try simp only [List.getElem_toArray, List.getElem_cons_zero, List.getElem_cons_succ, Act.put, List.setIfInBounds_toArray, List.set_cons_zero, List.set_cons_succ]
      refine wpAnyH_take (i := 15) (v := ?_) rfl (by kernel_rfl) (by kernel_rfl) (by kernel_rfl) (fun _ _ _ h => h) (Or.inl ⟨by rfl, ?_⟩) (by assumption) ?_
      rotate_left 1
      · (intro w hSw; (try dsimp only at hSw); go_simp; try with_reducible rfl)
      try simp only [List.getElem_toArray, List.getElem_cons_zero, List.getElem_cons_succ, Act.put, List.setIfInBounds_toArray, List.set_cons_zero, List.set_cons_succ]
      refine wpAnyH_done (by kernel_rfl) ?_ _
      clear HA HA2 hwr m4 m5
      go_wp2
      go_ret
      exact HF.out
end Go.Proofs.YtiodphkmllcjdaaGreat.L7
end
