/- WatchTells: how many ticks ago each process was heard, and who seems to be there, by when each was heard last. -/
import Derived.Test.YtildapcdkipakaaWtLimP
import Derived.Test.YtildapcdkipakaaWtRef2
namespace Go.Proofs.Ytildapcdkipakaa.L9
open Go.ChangeShapes Go.WideShapes Go.ChangeAt Go.RowKit Go.Deep

/-- The program's watch in a variable, and the document's, side by side. -/
structure Two (w W : World) (g d : Nat) (v vh : Value) (me lim now : Int) (H L : List Int) : Prop where
  a : HAt W g v me lim L
  d : DAt W w.heap.size d vh me lim now H
  ne : ∀ q, v.ownBlock = some q → vh.ownBlock ≠ some q
  below : Below w.heap.size w W
  low : w.heap.size ≤ g
  ok : WOk me lim L
  hok : HOk now H
  says : Says me lim now H L
theorem Two.step {w W W' : World} {g d : Nat} {v vh : Value} {me lim now : Int} {H L : List Int} (h : Two w W g d v vh me lim now H L) (hb : Below W.heap.size W W') : Two w W' g d v vh me lim now H L :=
  ⟨h.a.below hb, h.d.below hb, h.ne, h.below.trans (hb.mono h.below.size), h.low, h.ok, h.hok, h.says⟩
theorem DAt.other {W W' : World} {B d g : Nat} {vh : Value} {me lim now : Int} {H : List Int} (h : DAt W B d vh me lim now H) {c : Array Value} (hb : W.heap[g]? = some (.cells c 55 (0, 0))) (hk : ∀ k, k ≠ g → W'.heap[k]? = W.heap[k]?) : DAt W' B d vh me lim now H := by
  have hd : d ≠ g := by
    intro e
    have h1 := h.blk
    rw [e, hb] at h1
    cases h1
  refine ⟨h.low, (hk d hd).trans h.blk, L5.own_same h.row (fun q e => hk q ?_)⟩
  intro e2
  rcases h.row.2 with ⟨rfl, _⟩ | ⟨g2, cap, cur, rfl, _, h1, _⟩
  · cases e
  · have hk2 : g2 = q := by cases e; rfl
    rw [hk2, e2, hb] at h1
    cases h1
/-- Another watch is stored into the variable. -/
theorem Two.put {w W0 W : World} {g d : Nat} {v vh v' : Value} {me lim now : Int} {H L L' : List Int} (h0 : Two w W0 g d v vh me lim now H L) (hb : Below W0.heap.size W0 W) (r : W.ownsRow W0.heap.size 3 1 v' 8 (ints L')) : ∃ (q c : Nat) (u1 u2 u3 : World), v' = .slice (some ⟨q, 0, none⟩) 8 c ∧ (W.setCell ⟨g, 0, none⟩ (.int .i64 me) = u1 ∧ W.cell? ⟨g, 0, none⟩ = some (.int .i64 me) ∧ W.frozen? ⟨g, 0, none⟩ = false) ∧ (u1.setCell ⟨g, 1, none⟩ (.int .i64 lim) = u2 ∧ u1.cell? ⟨g, 1, none⟩ = some (.int .i64 lim) ∧ u1.frozen? ⟨g, 1, none⟩ = false) ∧ (u2.setCell ⟨g, 2, none⟩ v' = u3 ∧ u2.cell? ⟨g, 2, none⟩ = some v ∧ u2.frozen? ⟨g, 2, none⟩ = false) ∧
    HAt u3 g v' me lim L' ∧ DAt u3 w.heap.size d vh me lim now H ∧ (∀ q, v'.ownBlock = some q → vh.ownBlock ≠ some q) ∧ Below w.heap.size w u3 := by
  have h := h0.step hb
  obtain ⟨q, c, u1, u2, u3, e, k1, k2, k3, ha, hB, hk⟩ := h.a.put r
  refine ⟨q, c, u1, u2, u3, e, k1, k2, k3, ha, h.d.other h.a.blk hk, fun q' e1 e2 => ?_, h.below.trans (hB.mono h.low)⟩
  have l1 := (h0.d.row.lt q' e2).2
  have l2 := (r.lt q' e1).1
  omega
theorem Two.quiet {w W : World} {g d : Nat} {v vh : Value} {me lim now : Int} {H L : List Int} (h : Two w W g d v vh me lim now H L) : thereL lim (quiets me lim now H) = thereL lim L :=
  thereTo_congr 8 (fun j hj => by rw [quiets_get _ _ _ _ hj, ← h.says j hj])
/-- The document hears. -/
theorem Two.heard {w W W' : World} {g d : Nat} {v vh : Value} {me lim now : Int} {H L : List Int} {p : Int} (ha : HAt W g v me lim (hearL L p)) (hn : ∀ q, v.ownBlock = some q → vh.ownBlock ≠ some q) (hB : Below w.heap.size w W) (hlow : w.heap.size ≤ g) (ok : WOk me lim L) (hok : HOk now H) (says : Says me lim now H L) (hd : DAt W w.heap.size d vh me lim now H) (k1 : DAt W' w.heap.size d vh me lim now (hearD now H p)) (k2 : W.grownBy W' vh.ownBlock) : Two w W' g d v vh me lim now (hearD now H p) (hearL L p) := by
  refine ⟨⟨(k2.block g ha.lt ?_).trans ha.blk, L5.own_same ha.row (fun q e => k2.block q (ha.row.lt q e).2 (fun e2 => hn q e e2.symm))⟩, k1, hn, hB.grown k2 hB.size (fun q e => (hd.row.lt q e).1), hlow, ok.hear p, hok.hear p, says.hear ok.len hok ok.l1 p⟩
  intro e
  rcases hd.row.2 with ⟨rfl, _⟩ | ⟨g2, cap, cur, rfl, _, h1, _⟩
  · cases e
  · have hk2 : g = g2 := by cases e; rfl
    rw [← hk2, ha.blk] at h1
    cases h1
/-- The document's time goes by. -/
theorem Two.ticked {w W : World} {g d : Nat} {v vh : Value} {me lim now : Int} {H L : List Int} (ha : HAt W g v me lim (tickL me lim L)) (hn : ∀ q, v.ownBlock = some q → vh.ownBlock ≠ some q) (hB : Below w.heap.size w W) (hlow : w.heap.size ≤ g) (ok : WOk me lim L) (hok : HOk now H) (hnow : now < 1000) (says : Says me lim now H L) (hd : DAt W w.heap.size d vh me lim now H) : Two w (W.setCell ⟨d, 2, none⟩ (.int .i64 (now + 1))) g d v vh me lim (now + 1) H (tickL me lim L) := by
  have hgd : g ≠ d := by
    intro e
    have h1 := ha.blk
    rw [e, hd.blk] at h1
    cases h1
  refine ⟨⟨(other_blk hgd _).trans ha.blk, L5.own_same ha.row (fun q e => other_blk (fun e2 => ?_) _)⟩, hd.now _, hn, hB.setCell hd.low _, hlow, ok.tick, hok.tick hnow, says.tick ok.len hok⟩
  rcases ha.row.2 with ⟨rfl, _⟩ | ⟨g2, cap, cur, rfl, _, h1, _⟩
  · cases e
  · have hk2 : g2 = q := by cases e; rfl
    rw [hk2, e2, hd.blk] at h1
    cases h1
def TellGo (w : World) (g d : Nat) (me lim : Int) (n k : Nat) (v12 : Value) (wr : World) : Prop := ∃ (i : Nat) (v vh : Value) (now : Int) (H L : List Int), k + i = n ∧ v12 = .int .i64 i ∧ now ≤ i ∧ Two w wr g d v vh me lim now H L
def TellIn (w : World) (g d : Nat) (v vh : Value) (me lim now : Int) (H L : List Int) (k : Nat) (v13 : Value) (wr : World) : Prop := ∃ j : Nat, k + j = 8 ∧ v13 = .int .i64 ((j : Int) + 1) ∧ Two w wr g d v vh me lim now H L

set_option maxRecDepth 100000 in
set_option maxHeartbeats 4000000 in
theorem tells_out (me lim : Int) (v : Value) (l : List Int) (w : World) (hI : IRow w v l) (hlen : l.length ≤ maxLen) (h : me < 1 ∨ 8 < me ∨ lim < 1 ∨ 100 < lim) : Calls Try.prog 4 #[.int .i64 me, .int .i64 lim, v] w (L5.One w (.bool true)) := by
  obtain ⟨A, c, rfl, _⟩ := hI
  have HS := Lib.hid (shown_calls w)
  have HN := Lib.hid (fun V => New_no me lim V h)
  have HR := Lib.hid (fun V => RNew_no me lim V h)
  unfold maxLen at hlen
  clear h
  by_cases hl : 100 < l.length
  · have hl2 : (100 : Int) < (l.length : Int) := by omega
    go_enter Try.func4, Try.ntmps4
    go_wp2_with fail
    refine HS.out.mono ?_
    rintro e w1 ⟨rfl, b1⟩
    have HB1 := Lib.hid b1
    clear b1 HS
    go_wp2
    go_ret
    exact ⟨rfl, HB1.out⟩
  · have hl2 : ¬ (100 : Int) < (l.length : Int) := by omega
    go_enter Try.func4, Try.ntmps4
    go_wp2_with fail
    refine HS.out.mono ?_
    rintro e w1 ⟨rfl, b1⟩
    have HB1 := Lib.hid b1
    clear b1 HS
    go_wp2_with fail
    refine (HN.out _).mono ?_
    rintro e w2 ⟨rfl, b2⟩
    obtain ⟨W1, u1, u2, u3, k0, ⟨k1, k2, k3⟩, ⟨k4, k5, k6⟩, ⟨k7, k8, k9⟩, hblk, B3⟩ := fresh3 w2 (.int .i64 0) (.int .i64 0) (.slice none 0 0)
    have HB2 := HB1.out.trans (b2.mono HB1.out.size)
    have HB3 := Lib.hid (HB2.trans (B3.mono HB2.size))
    have HBk := Lib.hid hblk
    clear HN HB1 HB2 b2 B3 hblk
    go_wp2_with fail
    refine (HR.out _).mono ?_
    rintro e w4 ⟨rfl, b4⟩
    have hblk := (b4.block _ (Array.getElem?_eq_some_iff.1 HBk.out).1).trans HBk.out
    obtain ⟨z0, z1, z2, _, _, _⟩ := cells3 hblk
    have HB4 := Lib.hid (HB3.out.trans (b4.mono HB3.out.size))
    clear HR HB3 HBk b4 hblk k0 k1 k2 k3 k4 k5 k6 k7 k8 k9
    go_wp2
    go_ret
    exact ⟨rfl, HB4.out⟩
end Go.Proofs.Ytildapcdkipakaa.L9
