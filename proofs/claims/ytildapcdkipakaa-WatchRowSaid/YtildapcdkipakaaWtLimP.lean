/- Pure facts for WatchLimits and WatchRow: watches behind many ticks, and how many are there. -/
import Derived.Test.YtildapcdkipakaaWtShown
namespace Go.Proofs.Ytildapcdkipakaa.L9
open Go.ChangeShapes Go.WideShapes Go.ChangeAt Go.RowKit Go.Deep

def tickN (me lim : Int) (L : List Int) : Nat → List Int
  | 0 => L
  | n + 1 => tickL me lim (tickN me lim L n)
theorem WOk.ticks {me lim : Int} {L : List Int} (h : WOk me lim L) (n : Nat) : WOk me lim (tickN me lim L n) := by
  induction n with
  | zero => exact h
  | succ n ih => exact ih.tick
/-- Who is there, told by a truth for each. -/
def tB (b : Nat → Bool) : Nat → List Int
  | 0 => []
  | i + 1 => if b i = true then tB b i ++ [(i : Int) + 1] else tB b i
theorem thereTo_tB {lim : Int} {L : List Int} {b : Nat → Bool} (i : Nat) (h : ∀ j, j < i → (L.getD j 0 ≤ lim ↔ b j = true)) : thereTo lim L i = tB b i := by
  induction i with
  | zero => rfl
  | succ i ih =>
    unfold thereTo tB
    rw [ih (fun j hj => h j (by omega))]
    by_cases hb : L.getD i 0 ≤ lim
    · rw [if_pos hb, if_pos ((h i (by omega)).1 hb)]
    · rw [if_neg hb, if_neg (fun e => hb ((h i (by omega)).2 e))]
theorem tB_one : ∀ m : Fin 8, (tB (fun j => decide (j = m.1)) 8).length = 1 := by decide
theorem tB_two : ∀ m p : Fin 8, (tB (fun j => decide (j = m.1) || decide (j = p.1)) 8).length = if p = m then 1 else 2 := by decide
/-- Behind New me alone is there. -/
theorem there_new {me lim : Int} (h : WOk me lim (newL me lim)) : (thereL lim (newL me lim)).length = 1 := by
  have m1 := h.m1
  have m2 := h.m2
  have l1 := h.l1
  rw [← tB_one ⟨(me - 1).toNat, by omega⟩]
  unfold thereL
  rw [thereTo_tB (b := fun j => decide (j = (me - 1).toNat)) 8]
  intro j hj
  rw [newL_get hj, decide_eq_true_iff]
  split <;> omega
theorem heard_get {me lim p : Int} (h : WOk me lim (newL me lim)) {j : Nat} (hj : j < 8) : (hearL (newL me lim) p).getD j 0 = if (j : Int) + 1 = p then 0 else if (j : Int) + 1 = me then 0 else lim + 1 := by
  rw [hearL_get h.len p hj, newL_get hj]
theorem there_heard {me lim p : Int} (h : WOk me lim (newL me lim)) (p1 : 1 ≤ p) (p2 : p ≤ 8) : (thereL lim (hearL (newL me lim) p)).length = if p = me then 1 else 2 := by
  have m1 := h.m1
  have m2 := h.m2
  have l1 := h.l1
  have e := tB_two ⟨(me - 1).toNat, by omega⟩ ⟨(p - 1).toNat, by omega⟩
  have e2 : ((⟨(p - 1).toNat, by omega⟩ : Fin 8) = ⟨(me - 1).toNat, by omega⟩) ↔ p = me := by
    rw [Fin.mk.injEq]
    omega
  by_cases hp : p = me
  · rw [if_pos hp]
    rw [if_pos (e2.2 hp)] at e
    rw [← e]
    unfold thereL
    rw [thereTo_tB (b := fun j => decide (j = (me - 1).toNat) || decide (j = (p - 1).toNat)) 8]
    intro j hj
    rw [heard_get h hj, Bool.or_eq_true, decide_eq_true_iff, decide_eq_true_iff]
    split
    · omega
    · split <;> omega
  · rw [if_neg hp]
    rw [if_neg (fun k => hp (e2.1 k))] at e
    rw [← e]
    unfold thereL
    rw [thereTo_tB (b := fun j => decide (j = (me - 1).toNat) || decide (j = (p - 1).toNat)) 8]
    intro j hj
    rw [heard_get h hj, Bool.or_eq_true, decide_eq_true_iff, decide_eq_true_iff]
    split
    · omega
    · split <;> omega
theorem ticked_get {me lim p : Int} (h : WOk me lim (newL me lim)) (n : Nat) {j : Nat} (hj : j < 8) : (tickN me lim (hearL (newL me lim) p) n).getD j 0 = if (j : Int) + 1 = me then 0 else if (j : Int) + 1 = p then min (n : Int) (lim + 1) else lim + 1 := by
  have l1 := h.l1
  induction n with
  | zero =>
    show (hearL (newL me lim) p).getD j 0 = _
    rw [heard_get h hj]
    split
    · split <;> omega
    · split <;> omega
  | succ n ih =>
    show (tickL me lim (tickN me lim (hearL (newL me lim) p) n)).getD j 0 = _
    rw [tickL_get me lim ((h.hear p).ticks n).len hj, ih]
    split
    · rfl
    · split <;> omega
theorem ticked_me {me lim p : Int} (h : WOk me lim (newL me lim)) (n : Nat) : me ∈ thereL lim (tickN me lim (hearL (newL me lim) p) n) := by
  have m1 := h.m1
  have m2 := h.m2
  have l1 := h.l1
  refine (thereL_mem lim _ me).2 ⟨(me - 1).toNat, by omega, by omega, ?_⟩
  rw [ticked_get h n (by omega), if_pos (by omega)]
  omega
theorem ticked_p {me lim p : Int} (h : WOk me lim (newL me lim)) (p1 : 1 ≤ p) (p2 : p ≤ 8) (n : Nat) : p ∈ thereL lim (tickN me lim (hearL (newL me lim) p) n) ↔ (p = me ∨ (n : Int) ≤ lim) := by
  have m1 := h.m1
  have m2 := h.m2
  have l1 := h.l1
  rw [thereL_mem]
  constructor
  · rintro ⟨j, h1, h2, h3⟩
    rw [ticked_get h n h1] at h3
    by_cases hp : p = me
    · exact .inl hp
    · rw [if_neg (by omega), if_pos (by omega)] at h3
      exact .inr (by omega)
  · intro hh
    refine ⟨(p - 1).toNat, by omega, by omega, ?_⟩
    rw [ticked_get h n (by omega)]
    split
    · omega
    · rw [if_pos (by omega)]
      omega

/-- A watch is stored into a variable that held one. -/
theorem HAt.put {W : World} {B g : Nat} {v v' : Value} {me lim : Int} {L L' : List Int} (h : HAt W g v me lim L) (r : W.ownsRow B 3 1 v' 8 (ints L')) : ∃ (q c : Nat) (u1 u2 u3 : World), v' = .slice (some ⟨q, 0, none⟩) 8 c ∧ (W.setCell ⟨g, 0, none⟩ (.int .i64 me) = u1 ∧ W.cell? ⟨g, 0, none⟩ = some (.int .i64 me) ∧ W.frozen? ⟨g, 0, none⟩ = false) ∧ (u1.setCell ⟨g, 1, none⟩ (.int .i64 lim) = u2 ∧ u1.cell? ⟨g, 1, none⟩ = some (.int .i64 lim) ∧ u1.frozen? ⟨g, 1, none⟩ = false) ∧ (u2.setCell ⟨g, 2, none⟩ v' = u3 ∧ u2.cell? ⟨g, 2, none⟩ = some v ∧ u2.frozen? ⟨g, 2, none⟩ = false) ∧
    HAt u3 g v' me lim L' ∧ Below g W u3 ∧ ∀ k, k ≠ g → u3.heap[k]? = W.heap[k]? := by
  obtain ⟨q, c, e, _⟩ := own_eight r
  obtain ⟨u1, u2, u3, k1, k2, k3, k4, k5, k6⟩ := store3 (.int .i64 me) (.int .i64 lim) v' h.blk
  refine ⟨q, c, u1, u2, u3, e, k1, k2, k3, ⟨k4, L5.own_same (own_base r (Nat.zero_le _)) (fun k hk => k6 k ?_)⟩, k5, k6⟩
  intro e0
  have h2 := h.blk
  rcases r.2 with ⟨rfl, _⟩ | ⟨g', cap, cur, rfl, _, h1, _⟩
  · cases hk
  · have hk2 : g' = k := by cases hk; rfl
    rw [← e0, ← hk2, h1] at h2
    cases h2
/-- Another block was changed: this watch is as it was. -/
theorem HAt.same {W W' : World} {g g' : Nat} {v : Value} {me lim : Int} {L : List Int} (h : HAt W g v me lim L) (hk : ∀ k, k ≠ g' → W'.heap[k]? = W.heap[k]?) (hg : g ≠ g') {c : Array Value} (hb : W.heap[g']? = some (.cells c 55 (0, 0))) : HAt W' g v me lim L := by
  refine ⟨(hk g hg).trans h.blk, L5.own_same h.row (fun k e => hk k ?_)⟩
  intro e2
  rcases h.row.2 with ⟨rfl, _⟩ | ⟨g2, cap, cur, rfl, _, h1, _⟩
  · cases e
  · have hk2 : g2 = k := by cases e; rfl
    rw [← e2, ← hk2, h1] at hb
    cases hb
end Go.Proofs.Ytildapcdkipakaa.L9
