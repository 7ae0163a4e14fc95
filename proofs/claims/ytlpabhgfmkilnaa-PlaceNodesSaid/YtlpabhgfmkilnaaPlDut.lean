/- Pure: who answers for which node. -/
import Derived.Test.YtlpabhgfmkilnaaPlFact
namespace Go.Proofs.Ytlpabhgfmkilnaa.L13

theorem filter_take {α : Type} (P : α → Bool) (U : List α) (h : ∀ i a b, U[i]? = some a → U[i + 1]? = some b → P b = true → P a = true) : U.filter P = U.take (U.filter P).length := by
  induction U with
  | nil => rfl
  | cons a U ih =>
    have ih' := ih (fun i x y hx hy => h (i + 1) x y (by simpa using hx) (by simpa using hy))
    by_cases ha : P a = true
    · rw [List.filter_cons, if_pos ha]
      simp only [List.length_cons, List.take_succ_cons]
      rw [← ih']
    · rw [List.filter_cons, if_neg ha]
      have : U.filter P = [] := by
        cases U with
        | nil => rfl
        | cons b U =>
          have hb : ¬ P b = true := fun hb => ha (h 0 a b rfl rfl hb)
          rw [ih', List.filter_cons, if_neg hb]
          rw [List.filter_cons, if_neg hb] at ih'
          cases hU : U.filter P with
          | nil => rfl
          | cons c V =>
            rw [hU, List.length_cons, List.take_succ_cons] at ih'
            have hc : c = b := (List.cons.inj ih').1
            have : b ∈ U.filter P := by rw [hU, hc]; simp
            exact absurd (List.mem_filter.1 this).2 hb
      rw [this]; rfl
def isDuty (p : Nat) (s : Nd) : Bool := decide (s.1 ≠ [] ∧ low s.2 = p)
def Tr.duty (t : Tr) (p : Nat) : List (List UInt8) := ((t.up p).filter (isDuty p)).map (·.1)
theorem Tr.duty_mem (t : Tr) (p : Nat) (x : List UInt8) : x ∈ t.duty p ↔ x ≠ [] ∧ ∃ u, t.at x = some u ∧ low u = p := by
  rw [Tr.duty, List.mem_map]
  constructor
  · rintro ⟨⟨y, u⟩, h, rfl⟩
    obtain ⟨h1, h2⟩ := List.mem_filter.1 h
    have h2 := of_decide_eq_true h2
    exact ⟨h2.1, u, ((t.up_at p y u).1 h1).1, h2.2⟩
  · rintro ⟨h0, u, h1, h2⟩
    exact ⟨(x, u), List.mem_filter.2 ⟨(t.up_at p x u).2 ⟨h1, h2 ▸ low_mem u⟩, decide_eq_true ⟨h0, h2⟩⟩, rfl⟩
theorem Tr.duty_nodup (t : Tr) (p : Nat) : (t.duty p).Nodup := (t.up_nodup p).sublist (List.filter_sublist.map _)
theorem Tr.ok.duty_take {t : Tr} (h : t.ok) {p : Nat} (hp : p ∈ t.procs) : t.duty p = ((t.up p).map (·.1)).take (t.duty p).length := by
  have := filter_take (isDuty p) (t.up p) (fun i a b ha hb hd => by
    have hs := h.up_steps hp i a b ha hb
    obtain ⟨l, r, c, e1, e2, e3⟩ := hs
    have hd := of_decide_eq_true hd
    have hap : p ∈ a.2.procs := ((t.up_at p a.1 a.2).1 (List.mem_of_getElem? ha)).2
    refine decide_eq_true ⟨by rw [e2]; simp, ?_⟩
    have h1 := low_le a.2 p hap
    have h2 := hd.2
    rw [e1] at h2
    simp only [low] at h2
    rcases e3 with ⟨_, e⟩ | ⟨_, e⟩ <;> rw [e] at h1 ⊢ <;> omega)
  unfold Tr.duty
  rw [List.length_map, ← List.map_take, ← this]
theorem Tr.ok.duty_len {t : Tr} (h : t.ok) {p : Nat} (hp : p ∈ t.procs) : (t.duty p).length < (t.up p).length := by
  obtain ⟨U, e, _⟩ := h.up_root hp
  unfold Tr.duty
  rw [List.length_map, e, List.filter_append]
  have : isDuty p ([], t) = false := by simp [isDuty]
  rw [List.filter_cons, this]
  have := List.length_filter_le (isDuty p) U
  simp only [List.length_append, List.length_cons, List.length_nil, Bool.false_eq_true, if_false, List.filter_nil]
  omega
theorem Tr.ok.duty_some {t : Tr} (h : t.ok) {p : Nat} (hp : p ∈ t.procs) (h1 : 1 < t.procs.length) : (t.duty p).length ≠ 0 := by
  obtain ⟨y, U, e⟩ := h.up_leaf hp
  obtain ⟨V, e2, h3⟩ := h.up_root hp
  have hm : (y, Tr.leaf p) ∈ t.up p := by rw [e]; simp
  have hy : y ≠ [] := by
    rintro rfl
    have h4 := ((t.up_at p [] (.leaf p)).1 hm).1
    rw [t.at_nil] at h4
    cases h4
    simp [Tr.procs] at h1
  have : y ∈ t.duty p := (t.duty_mem p y).2 ⟨hy, .leaf p, ((t.up_at p y _).1 hm).1, rfl⟩
  intro h0
  rw [List.eq_nil_of_length_eq_zero h0] at this
  cases this
/-- How many of these answer for a node. -/
def Tr.many (t : Tr) (x : List UInt8) : List Nat → Nat
  | [] => 0
  | p :: ps => (t.duty p).count x + t.many x ps
theorem Tr.many_append (t : Tr) (x : List UInt8) (a b : List Nat) : t.many x (a ++ b) = t.many x a + t.many x b := by
  induction a with
  | nil => simp [Tr.many]
  | cons p a ih => simp only [List.cons_append, Tr.many, ih]; omega
theorem Tr.many_none (t : Tr) (x : List UInt8) (ps : List Nat) (h : ∀ p ∈ ps, x ∉ t.duty p) : t.many x ps = 0 := by
  induction ps with
  | nil => rfl
  | cons p ps ih =>
    rw [Tr.many, ih (fun q hq => h q (by simp [hq])), List.count_eq_zero.2 (h p (by simp))]
theorem Tr.many_one (t : Tr) {x : List UInt8} {u : Tr} (h0 : x ≠ []) (hu : t.at x = some u) {ps : List Nat} (hn : ps.Nodup) (hm : low u ∈ ps) : t.many x ps = 1 := by
  obtain ⟨a, b, rfl⟩ := List.append_of_mem hm
  rw [t.many_append, Tr.many]
  have hx : ∀ p, x ∈ t.duty p → p = low u := fun p hp => by
    obtain ⟨_, v, hv, e⟩ := (t.duty_mem p x).1 hp
    rw [hu] at hv
    cases hv
    exact e.symm
  rw [List.nodup_append] at hn
  have e1 := t.many_none x a (fun p hp hx' => by have := hx p hx'; subst this; exact hn.2.2 _ hp _ (by simp) rfl)
  have e2 := t.many_none x b (fun p hp hx' => by have := hx p hx'; subst this; exact (List.nodup_cons.1 hn.2.1).1 hp)
  have e3 : (t.duty (low u)).count x = 1 := by
    have := (t.duty_nodup (low u)).count (a := x)
    rw [this, if_pos ((t.duty_mem _ x).2 ⟨h0, u, hu, rfl⟩)]
  omega
theorem Tr.many_root (t : Tr) (ps : List Nat) : t.many [] ps = 0 := t.many_none [] ps (fun p _ h => ((t.duty_mem p []).1 h).1 rfl)
end Go.Proofs.Ytlpabhgfmkilnaa.L13
