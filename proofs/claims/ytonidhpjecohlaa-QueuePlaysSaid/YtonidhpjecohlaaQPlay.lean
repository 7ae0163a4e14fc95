/- Two queues beside the document's two: what a turn of either leaves; the document's Either. -/
import Derived.Test.YtonidhpjecohlaaQRef
namespace Go.Proofs.Ytonidhpjecohlaa.L6
open Go.ChangeShapes Go.WideShapes Go.ChangeAt Go.RowKit L5

structure PlayAt (w0 : World) (B ga ca rm gb cb rm' hx hy : Nat) (W : World) (vx vy : Value) (la lb : List ByteArray) : Prop where
  two : Two W ga ca rm gb cb rm' la lb
  x : RAt W hx rm B vx la
  y : RAt W hy rm' B vy lb
  hxy : hx ≠ hy
  rows : ∀ q, vx.ownBlock = some q → vy.ownBlock ≠ some q
  la : la.length ≤ rm
  lb : lb.length ≤ rm'
  low : w0.heap.size ≤ ca ∧ w0.heap.size ≤ cb ∧ w0.heap.size ≤ hx ∧ w0.heap.size ≤ hy ∧ w0.heap.size ≤ B
  bel : Below w0.heap.size w0 W
  base : B ≤ W.heap.size
  rm : rm ≤ 1000 ∧ rm' ≤ 1000

variable {w0 : World} {B ga ca rm gb cb rm' hx hy : Nat} {W : World} {vx vy : Value} {la lb : List ByteArray}
theorem PlayAt.swap (p : PlayAt w0 B ga ca rm gb cb rm' hx hy W vx vy la lb) : PlayAt w0 B gb cb rm' ga ca rm hy hx W vy vx lb la :=
  ⟨⟨p.two.two, p.two.one, p.two.apart.symm⟩, p.y, p.x, p.hxy.symm, fun q h1 h2 => p.rows q h2 h1, p.lb, p.la, ⟨p.low.2.1, p.low.1, p.low.2.2.2.1, p.low.2.2.1, p.low.2.2.2.2⟩, p.bel, p.base, p.rm.2, p.rm.1⟩
theorem PlayAt.drewN (p : PlayAt w0 B ga ca rm gb cb rm' hx hy W vx vy la lb) (m : Nat) : PlayAt w0 B ga ca rm gb cb rm' hx hy (W.drewN m) vx vy la lb :=
  ⟨⟨p.two.one.same rfl rfl, p.two.two.same rfl rfl, p.two.apart⟩, p.x.same rfl (fun _ _ => rfl), p.y.same rfl (fun _ _ => rfl), p.hxy, p.rows, p.la, p.lb, p.low, below_drewN p.bel m, p.base, p.rm⟩
theorem PlayAt.drew (p : PlayAt w0 B ga ca rm gb cb rm' hx hy W vx vy la lb) : PlayAt w0 B ga ca rm gb cb rm' hx hy W.drew vx vy la lb :=
  ⟨⟨p.two.one.same rfl rfl, p.two.two.same rfl rfl, p.two.apart⟩, p.x.same rfl (fun _ _ => rfl), p.y.same rfl (fun _ _ => rfl), p.hxy, p.rows, p.la, p.lb, p.low, below_drewN p.bel 1, p.base, p.rm⟩

/-- What a turn of the program's own queues leaves. -/
structure Turn (w0 : World) (ga ca rm gb cb rm' : Nat) (W W1 : World) (la lb : List ByteArray) : Prop where
  two : Two W1 ga ca rm gb cb rm' la lb
  bel : Below w0.heap.size w0 W1
  size : W.heap.size ≤ W1.heap.size
  block : ∀ k, k < W.heap.size → k ≠ ca → k ≠ cb → W1.heap[k]? = W.heap[k]?
theorem Turn.refl (p : PlayAt w0 B ga ca rm gb cb rm' hx hy W vx vy la lb) : Turn w0 ga ca rm gb cb rm' W W la lb := ⟨p.two, p.bel, Nat.le_refl _, fun _ _ _ _ => rfl⟩
theorem Turn.swap {W1 : World} (t : Turn w0 ga ca rm gb cb rm' W W1 la lb) : Turn w0 gb cb rm' ga ca rm W W1 lb la := ⟨⟨t.two.two, t.two.one, t.two.apart.symm⟩, t.bel, t.size, fun k h1 h2 h3 => t.block k h1 h3 h2⟩
theorem Turn.oneA {la' : List ByteArray} {W1 : World} (p : PlayAt w0 B ga ca rm gb cb rm' hx hy W vx vy la lb) (q : QAt W1 ga ca rm la') (g : W.grownBy W1 (some ca)) : Turn w0 ga ca rm gb cb rm' W W1 la' lb :=
  ⟨⟨q, p.two.two.other p.two.one p.two.apart.symm g, p.two.apart⟩, below_turn p.bel g p.two.one.lt.2 p.low.1, g.size, fun k h1 h2 _ => g.block k h1 (fun e => h2 (Option.some.inj e))⟩

theorem two_ne {W : World} {h c rm B : Nat} {v : Value} {l : List ByteArray} {s r n : Nat} {b : Array Value} {d f : Bool} (r1 : RAt W h rm B v l) (e : W.heap[c]? = some (.chan n b d s r f)) : h ≠ c ∧ v.ownBlock ≠ some c := by
  refine ⟨fun q => ?_, fun q => ?_⟩
  · rw [← q, r1.own] at e; cases e
  · obtain ⟨cur, hc⟩ := r1.tail.kind c q
    rw [e] at hc; cases hc
theorem RAt.ne_chan {W : World} {h rm B : Nat} {v : Value} {l : List ByteArray} (r : RAt W h rm B v l) {g c n : Nat} {q : List ByteArray} (a : QAt W g c n q) : h ≠ c ∧ v.ownBlock ≠ some c := by
  obtain ⟨s, t, e⟩ := a.chan
  exact two_ne r e
theorem RAt.ne_own {W : World} {h rm B : Nat} {v : Value} {l : List ByteArray} (r : RAt W h rm B v l) {g c n : Nat} {q : List ByteArray} (a : QAt W g c n q) : h ≠ g ∧ v.ownBlock ≠ some g := by
  refine ⟨fun e => ?_, fun e => ?_⟩
  · have := a.own
    rw [← e, r.own] at this; cases this
  · obtain ⟨cur, hc⟩ := r.tail.kind g e
    rw [a.own] at hc; cases hc
/-- The document's queues lie as they lay behind a turn of the program's. -/
theorem PlayAt.mid (p : PlayAt w0 B ga ca rm gb cb rm' hx hy W vx vy la lb) {la' lb' : List ByteArray} {W1 : World} (t : Turn w0 ga ca rm gb cb rm' W W1 la' lb') : RAt W1 hx rm B vx la ∧ RAt W1 hy rm' B vy lb := by
  have x1 := p.x.ne_chan p.two.one
  have x2 := p.x.ne_chan p.two.two
  have y1 := p.y.ne_chan p.two.one
  have y2 := p.y.ne_chan p.two.two
  refine ⟨p.x.same (t.block _ p.x.lt x1.1 x2.1) (fun q hq => t.block q (p.x.tail.lt q hq).2 (fun e => ?_) (fun e => ?_)), p.y.same (t.block _ p.y.lt y1.1 y2.1) (fun q hq => t.block q (p.y.tail.lt q hq).2 (fun e => ?_) (fun e => ?_))⟩
  · exact x1.2 (e ▸ hq)
  · exact x2.2 (e ▸ hq)
  · exact y1.2 (e ▸ hq)
  · exact y2.2 (e ▸ hq)
/-- Behind a turn of the program's and one of the document's first queue. -/
theorem PlayAt.turnA (p : PlayAt w0 B ga ca rm gb cb rm' hx hy W vx vy la lb) {la' : List ByteArray} {W1 W2 : World} (t : Turn w0 ga ca rm gb cb rm' W W1 la' lb) {vx' : Value} (r : RAt W2 hx rm B vx' la') (m : Moved W1 hx vx.ownBlock W2)
    (hb : vx'.ownBlock = vx.ownBlock ∨ ∀ q, vx'.ownBlock = some q → W1.heap.size ≤ q) (hl : la'.length ≤ rm) : PlayAt w0 B ga ca rm gb cb rm' hx hy W2 vx' vy la' lb := by
  obtain ⟨mx, my⟩ := p.mid t
  have o1 := mx.ne_own t.two.one
  have o2 := mx.ne_own t.two.two
  have c1 := mx.ne_chan t.two.one
  have c2 := mx.ne_chan t.two.two
  have nsome : ∀ {k : Nat}, vx.ownBlock ≠ some k → some k ≠ vx.ownBlock := fun h e => h e.symm
  have yh : some hy ≠ vx.ownBlock := fun e => by
    obtain ⟨cur, hc⟩ := mx.tail.kind hy e.symm
    rw [my.own] at hc; cases hc
  have hxq : ∀ q, vy.ownBlock = some q → q ≠ hx := fun q hq e => by
    obtain ⟨cur, hc⟩ := my.tail.kind q hq
    rw [e, mx.own] at hc; cases hc
  refine ⟨⟨t.two.one.same (m.block _ t.two.one.lt.1 o1.1.symm (nsome o1.2)) (m.block _ t.two.one.lt.2 c1.1.symm (nsome c1.2)), t.two.two.same (m.block _ t.two.two.lt.1 o2.1.symm (nsome o2.2)) (m.block _ t.two.two.lt.2 c2.1.symm (nsome c2.2)), t.two.apart⟩, r, ?_, p.hxy, ?_, hl, p.lb, p.low, ?_, ?_, p.rm⟩
  · exact my.same (m.block _ my.lt p.hxy.symm yh) (fun q hq => m.block q (my.tail.lt q hq).2 (hxq q hq) (fun e => p.rows q e.symm hq))
  · intro q h1 h2
    rcases hb with hb | hb
    · exact p.rows q (hb ▸ h1) h2
    · have := hb q h1
      have := (my.tail.lt q h2).2
      omega
  · have hlow := p.low
    refine ⟨m.os.trans t.bel.os, m.tape.trans t.bel.tape, m.output.trans t.bel.output, Nat.le_trans t.bel.size m.size, fun k hk => ?_⟩
    have hsz := t.bel.size
    refine (m.block k (by omega) (by omega) (fun e => ?_)).trans (t.bel.block k hk)
    have := (mx.tail.lt k e.symm).1
    omega
  · exact Nat.le_trans p.base (Nat.le_trans t.size m.size)
/-- Behind a turn of the program's that leaves what waits. -/
theorem PlayAt.still (p : PlayAt w0 B ga ca rm gb cb rm' hx hy W vx vy la lb) {W1 : World} (t : Turn w0 ga ca rm gb cb rm' W W1 la lb) : PlayAt w0 B ga ca rm gb cb rm' hx hy W1 vx vy la lb := by
  obtain ⟨mx, my⟩ := p.mid t
  exact ⟨t.two, mx, my, p.hxy, p.rows, p.la, p.lb, p.low, t.bel, Nat.le_trans p.base t.size, p.rm⟩

set_option maxRecDepth 100000 in
set_option maxHeartbeats 1000000 in
theorem REither_one {w : World} {h room h' : Nat} {v : Value} {y : ByteArray} {xs : List ByteArray} (r : RAt w h room B v (y :: xs)) (hl : xs.length ≤ 1000) :
    Calls Try.prog 16 #[.pointer (some ⟨h, 0, none⟩), .pointer (some ⟨h', 0, none⟩)] w (RTurned w h room B v.ownBlock xs (.tuple #[.string y, .int .i64 1])) := by
  have HP := Lib.hid (RPop_some r hl)
  clear r hl
  go_enter Try.func16, Try.ntmps16
  go_wp2_with fail
  refine HP.out.mono ?_
  rintro e w1 ⟨rfl, v', k1, k2, k3⟩
  have HF : Hid (RTurned w h room B v.ownBlock xs (.tuple #[.string y, .int .i64 1]) (.returned (.tuple #[.string y, .int .i64 1])) w1) := ⟨rfl, v', k1, k2, k3⟩
  clear k1 k2 k3 HP
  go_wp2
  go_ret2
  exact HF.out
set_option maxRecDepth 100000 in
set_option maxHeartbeats 1000000 in
theorem REither_two {w : World} {h room h' room' : Nat} {v v' : Value} {y : ByteArray} {xs : List ByteArray} (r : RAt w h room B v []) (r' : RAt w h' room' B v' (y :: xs)) (hl : xs.length ≤ 1000) :
    Calls Try.prog 16 #[.pointer (some ⟨h, 0, none⟩), .pointer (some ⟨h', 0, none⟩)] w (RTurned w h' room' B v'.ownBlock xs (.tuple #[.string y, .int .i64 2])) := by
  have HP0 := Lib.hid (RPop_none r)
  have HP := Lib.hid (RPop_some r' hl)
  clear r r' hl
  go_enter Try.func16, Try.ntmps16
  go_wp2_with fail
  refine HP0.out.mono ?_
  rintro e w1 ⟨rfl, rfl⟩
  go_wp2_with fail
  refine HP.out.mono ?_
  rintro e w1 ⟨rfl, v2, k1, k2, k3⟩
  have HF : Hid (RTurned w h' room' B v'.ownBlock xs (.tuple #[.string y, .int .i64 2]) (.returned (.tuple #[.string y, .int .i64 2])) w1) := ⟨rfl, v2, k1, k2, k3⟩
  clear k1 k2 k3 HP
  go_wp2
  go_ret2
  exact HF.out
set_option maxRecDepth 100000 in
set_option maxHeartbeats 1000000 in
theorem REither_none {w : World} {h room h' room' : Nat} {v v' : Value} (r : RAt w h room B v []) (r' : RAt w h' room' B v' []) :
    Calls Try.prog 16 #[.pointer (some ⟨h, 0, none⟩), .pointer (some ⟨h', 0, none⟩)] w fun e w' => e = .returned (.tuple #[.string ⟨#[]⟩, .int .i64 0]) ∧ w = w' := by
  have HP0 := Lib.hid (RPop_none r)
  have HP := Lib.hid (RPop_none r')
  clear r r'
  go_enter Try.func16, Try.ntmps16
  go_wp2_with fail
  refine HP0.out.mono ?_
  rintro e w1 ⟨rfl, rfl⟩
  go_wp2_with fail
  refine HP.out.mono ?_
  rintro e w1 ⟨rfl, rfl⟩
  go_wp2
  go_ret2
  exact ⟨rfl, rfl⟩

end Go.Proofs.Ytonidhpjecohlaa.L6
