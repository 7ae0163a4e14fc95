/- Pure: what stands at a path's nodes, and beside them. -/
import Derived.Test.YtlpabhgfmkilnaaGreatDoorPlLaw
namespace Go.Proofs.YtlpabhgfmkilnaaGreatDoor.L14
open Go.Proofs.YtlpabhgfmkilnaaGreatDoor.L13

theorem co_is {t : Tr} (h : t.ok) {p : Nat} (hp : p ∈ t.procs) : ∃ U, t.up p = U ++ [([], t)] ∧ coL (t.up p) = U.map (fun y => besideL y.1) := by
  obtain ⟨U, e, hU⟩ := h.up_root hp
  refine ⟨U, e, ?_⟩
  rw [e]
  unfold coL
  rw [List.filter_append]
  have h1 : U.filter (fun y => decide (y.1 ≠ [])) = U := List.filter_eq_self.2 (fun y hy => decide_eq_true (hU y hy))
  rw [h1]
  simp
theorem turn_turn {c : UInt8} (h : c = 108 ∨ c = 114) : turn (turn c) = c := by rcases h with rfl | rfl <;> rfl
/-- What a law asks of one step of a path. -/
structure StepAt (t : Tr) (p : Nat) (y z y' : List UInt8) (u s u' : Tr) : Prop where
  at0 : t.at y = some u
  at1 : t.at z = some s
  at2 : t.at y' = some u'
  out : p ∉ s.procs
  back : besideL z = y
  small : y.length ≤ 7 ∧ z.length ≤ 7 ∧ y'.length ≤ 7
  text : u'.text = 40 :: (u.text ++ (s.text ++ [41])) ∨ (u'.text = 40 :: (s.text ++ (u.text ++ [41])) ∧ ¬ u'.text = 40 :: (u.text ++ (s.text ++ [41])))
theorem path_step {t : Tr} (h : t.ok) {p : Nat} (hp : p ∈ t.procs) {i : Nat} (hi : i + 1 < (t.up p).length) : ∃ y z y' u s u', ((t.up p).map (fun s => s.1))[i]? = some y ∧ ((t.up p).map (fun s => s.1))[i + 1]? = some y' ∧ (coL (t.up p))[i]? = some z ∧ StepAt t p y z y' u s u' := by
  obtain ⟨U, e, hco⟩ := co_is h hp
  obtain ⟨⟨y, u⟩, hy⟩ : ∃ a, (t.up p)[i]? = some a := ⟨_, List.getElem?_eq_getElem (by omega)⟩
  obtain ⟨⟨y', u'⟩, hy'⟩ : ∃ a, (t.up p)[i + 1]? = some a := ⟨_, List.getElem?_eq_getElem hi⟩
  obtain ⟨l, r, c, e1, e2, e3⟩ := h.up_steps hp i _ _ hy hy'
  dsimp only at e1 e2 e3
  obtain ⟨a1, a2⟩ := (t.up_at p y u).1 (List.mem_of_getElem? hy)
  obtain ⟨b1, b2⟩ := (t.up_at p y' u').1 (List.mem_of_getElem? hy')
  have ho' := h.at b1
  have hd := h.deep8
  have ly := at_len a1
  have ly' := at_len b1
  have hz : (coL (t.up p))[i]? = some (besideL y) := by
    have hiU : i < U.length := by rw [e, List.length_append] at hi; simpa using hi
    have hUy : U[i]? = some (y, u) := by rw [e, List.getElem?_append_left hiU] at hy; exact hy
    rw [hco, List.getElem?_map, hUy]
    rfl
  have hbe : besideL y = y' ++ [turn c] := by rw [e2, besideL_snoc]
  subst e1
  have key : ∀ s : Tr, t.at (y' ++ [turn c]) = some s → p ∉ s.procs → ((Tr.node l r).text = 40 :: (u.text ++ (s.text ++ [41])) ∨ ((Tr.node l r).text = 40 :: (s.text ++ (u.text ++ [41])) ∧ ¬ (Tr.node l r).text = 40 :: (u.text ++ (s.text ++ [41])))) → (c = 108 ∨ c = 114) → StepAt t p y (besideL y) y' u s (Tr.node l r) := by
    intro s hs hps ht hc
    refine ⟨a1, by rw [hbe]; exact hs, b1, hps, by rw [hbe, besideL_snoc, turn_turn hc, ← e2], ⟨by omega, by rw [hbe, List.length_append]; have := congrArg List.length e2; simp at this ⊢; omega, by omega⟩, ht⟩
  refine ⟨y, besideL y, y', u, ?_⟩
  have hap : ∀ b : UInt8, t.at (y' ++ [b]) = (Tr.node l r).at [b] := fun b => by rw [Tr.at_append, b1]; rfl
  rcases e3 with ⟨rfl, rfl⟩ | ⟨rfl, rfl⟩
  · refine ⟨r, .node u r, by rw [List.getElem?_map, hy]; rfl, by rw [List.getElem?_map, hy']; rfl, hz, key r ?_ (ho'.apart p a2) (.inl rfl) (.inl rfl)⟩
    rw [hap]
    simp [turn, Tr.at, Tr.at_nil]
  · refine ⟨l, .node l u, by rw [List.getElem?_map, hy]; rfl, by rw [List.getElem?_map, hy']; rfl, hz, key l ?_ (fun hl => ho'.apart p hl a2) (.inr ⟨rfl, ?_⟩) (.inr rfl)⟩
    · rw [hap]
      simp [turn, Tr.at, Tr.at_nil]
    · have hsw : (Tr.node u l).ok := ho'.right.node ho'.left (fun q hq hq2 => ho'.apart q hq2 hq)
      intro he
      have := text_inj ho' hsw he
      cases this
      exact ho'.apart p a2 a2
theorem path_ends {t : Tr} (h : t.ok) {p : Nat} (hp : p ∈ t.procs) : (coL (t.up p)).length + 1 = (t.up p).length ∧ ((t.up p).map (fun s => s.1))[(coL (t.up p)).length]? = some [] ∧ ∃ y0, ((t.up p).map (fun s => s.1))[0]? = some y0 ∧ t.at y0 = some (.leaf p) ∧ y0.length ≤ 7 := by
  obtain ⟨U, e, hco⟩ := co_is h hp
  obtain ⟨y0, V, e0⟩ := h.up_leaf hp
  have hl : (coL (t.up p)).length = U.length := by rw [hco]; simp
  have hat := ((t.up_at p y0 (.leaf p)).1 (by rw [e0]; simp)).1
  refine ⟨by rw [hl, e]; simp, ?_, y0, by rw [e0]; rfl, hat, by have := at_len hat; have := h.deep8; omega⟩
  rw [hl, e, List.map_append, List.getElem?_append_right (by simp)]
  simp
end Go.Proofs.YtlpabhgfmkilnaaGreatDoor.L14
