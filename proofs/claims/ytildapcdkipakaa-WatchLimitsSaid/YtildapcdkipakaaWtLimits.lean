/- WatchLimits: one that is heard is there for as many ticks as the limit, and not behind the next one; me is always there. -/
import Derived.Test.YtildapcdkipakaaWtLimP
namespace Go.Proofs.Ytildapcdkipakaa.L9
open Go.ChangeShapes Go.WideShapes Go.ChangeAt Go.RowKit Go.Deep

/-- Three watches in variables: the first one, the one that heard, the one that ticks. -/
structure Three (w W : World) (g1 g2 g3 : Nat) (v1 v2 v3 : Value) (me lim : Int) (L1 L2 L3 : List Int) : Prop where
  a : HAt W g1 v1 me lim L1
  b : HAt W g2 v2 me lim L2
  c : HAt W g3 v3 me lim L3
  below : Below w.heap.size w W
  low : w.heap.size ≤ g3
  ac : g1 ≠ g3
  bc : g2 ≠ g3
theorem Three.step {w W W' : World} {g1 g2 g3 : Nat} {v1 v2 v3 : Value} {me lim : Int} {L1 L2 L3 : List Int} (h : Three w W g1 g2 g3 v1 v2 v3 me lim L1 L2 L3) (hb : Below W.heap.size W W') : Three w W' g1 g2 g3 v1 v2 v3 me lim L1 L2 L3 :=
  ⟨h.a.below hb, h.b.below hb, h.c.below hb, h.below.trans (hb.mono h.below.size), h.low, h.ac, h.bc⟩
def LimGo (w : World) (g1 g2 g3 : Nat) (v1 v2 : Value) (me lim : Int) (L1 L2 : List Int) (n k : Nat) (v14 : Value) (wr : World) : Prop := ∃ (i : Nat) (v3 : Value), k + i = n ∧ v14 = .int .i64 i ∧ Three w wr g1 g2 g3 v1 v2 v3 me lim L1 L2 (tickN me lim L2 i)
def InGo (me p : Int) (l : List Int) (w2 : World) (k : Nat) (v15 v16 v18 : Value) (wr : World) : Prop := ∃ i : Nat, k + i = l.length ∧ v18 = .int .i64 i ∧ v15 = .bool (decide (p ∈ l.take i)) ∧ v16 = .bool (decide (me ∈ l.take i)) ∧ w2 = wr
theorem mem_take_succ {l : List Int} {i : Nat} {x : Int} (h : l[i]? = some x) (p : Int) : decide (p ∈ l.take (i + 1)) = (decide (p ∈ l.take i) || (x == p)) := by
  rw [List.take_add_one, h]
  by_cases h1 : p ∈ l.take i
  · simp [h1]
  · by_cases h2 : x = p
    · subst h2; simp
    · have h3 : ¬ p = x := fun e => h2 e.symm
      have h4 : (x == p) = false := by rw [beq_eq_false_iff_ne]; exact h2
      simp [h1, h3, h4]

set_option maxRecDepth 100000 in
set_option maxHeartbeats 4000000 in
theorem limits_out (me lim p ticks : Int) (w : World) (h : me < 1 ∨ 8 < me ∨ lim < 1 ∨ 100 < lim) : Calls Try.prog 5 #[.int .i64 me, .int .i64 lim, .int .i64 p, .int .i64 ticks] w (L5.One w (.bool true)) := by
  have HS := Lib.hid (shown_calls w)
  have HN := Lib.hid (fun V => New_no me lim V h)
  clear h
  go_enter Try.func5, Try.ntmps5
  go_wp2_with fail
  refine HS.out.mono ?_
  rintro e w1 ⟨rfl, b1⟩
  have HB1 := Lib.hid b1
  clear b1 HS
  go_wp2_with fail
  refine (HN.out _).mono ?_
  rintro e w2 ⟨rfl, b2⟩
  obtain ⟨W1, u1, u2, u3, k0, ⟨k1, k2, k3⟩, ⟨k4, k5, k6⟩, ⟨k7, k8, k9⟩, _, B3⟩ := fresh3 w2 (.int .i64 0) (.int .i64 0) (.slice none 0 0)
  have HB2 := HB1.out.trans (b2.mono HB1.out.size)
  have HB3 := Lib.hid (HB2.trans (B3.mono HB2.size))
  clear HN HB1 HB2 b2 B3
  go_wp2
  go_ret
  exact ⟨rfl, HB3.out⟩

set_option maxRecDepth 100000 in
set_option maxHeartbeats 4000000 in
theorem limits_args (me lim p ticks : Int) (w : World) (m1 : 1 ≤ me) (m2 : me ≤ 8) (l1 : 1 ≤ lim) (l2 : lim ≤ 100) (h : p < 1 ∨ 8 < p ∨ ticks < 0 ∨ 300 < ticks) : Calls Try.prog 5 #[.int .i64 me, .int .i64 lim, .int .i64 p, .int .i64 ticks] w (L5.One w (.bool true)) := by
  have HS := Lib.hid (shown_calls w)
  have HN := Lib.hid (fun V => New_yes me lim V m1 m2 l1 l2)
  clear m1 m2 l1 l2
  go_enter Try.func5, Try.ntmps5
  go_wp2_with fail
  refine HS.out.mono ?_
  rintro e w1 ⟨rfl, b1⟩
  have HB1 := Lib.hid b1
  clear b1 HS
  go_wp2_with fail
  refine (HN.out _).mono ?_
  rintro e w2 ⟨v2, rfl, r2, b2⟩
  obtain ⟨q2, c2, W2, u1, u2, u3, rfl, k0, ⟨k1, k2, k3⟩, ⟨k4, k5, k6⟩, ⟨k7, k8, k9⟩, _, B3, _⟩ := HAt.fresh (w := w) (me := me) (lim := lim) r2 (HB1.out.trans (b2.mono HB1.out.size))
  have HB3 := Lib.hid B3
  clear HN HB1 b2 r2 B3
  rcases h with h | h | h | h
  · go_wp2
    go_ret
    exact ⟨rfl, HB3.out⟩
  · have h1 : ¬ p < 1 := by omega
    go_wp2
    go_ret
    exact ⟨rfl, HB3.out⟩
  · by_cases h1 : p < 1
    · go_wp2
      go_ret
      exact ⟨rfl, HB3.out⟩
    · by_cases h2 : 8 < p
      · go_wp2
        go_ret
        exact ⟨rfl, HB3.out⟩
      · go_wp2
        go_ret
        exact ⟨rfl, HB3.out⟩
  · by_cases h1 : p < 1
    · go_wp2
      go_ret
      exact ⟨rfl, HB3.out⟩
    · by_cases h2 : 8 < p
      · go_wp2
        go_ret
        exact ⟨rfl, HB3.out⟩
      · have h3 : ¬ ticks < 0 := by omega
        go_wp2
        go_ret
        exact ⟨rfl, HB3.out⟩
end Go.Proofs.Ytildapcdkipakaa.L9
