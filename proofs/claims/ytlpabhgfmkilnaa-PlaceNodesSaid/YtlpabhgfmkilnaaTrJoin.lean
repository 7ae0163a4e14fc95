/- Contract of join: one more stands in the tree. -/
import Derived.Test.YtlpabhgfmkilnaaTrPlace
namespace Go.Proofs.Ytlpabhgfmkilnaa.L13
open Go.ChangeShapes Go.WideShapes Go.ChangeAt Go.RowKit Go.Deep

attribute [local go_sem] store_func13
theorem SpotIs.mem {w : World} : ∀ {t : Tr} {a r : Nat} {F : List Nat}, TreeAt w t a F → SpotIs w t a r → r ∈ F := by
  intro t
  induction t with
  | leaf p => intro a r F ht h; cases h; exact ht.head
  | node x y ihx ihy =>
    intro a r F ht h
    obtain ⟨b, c, G, H, c0, c1, c2, tx, ty, rfl⟩ := ht.cells12
    unfold SpotIs at h
    split at h
    · subst h; simp
    · obtain ⟨b', c', e1, e2, h⟩ := h
      rw [c1] at e1
      rw [c2] at e2
      cases e1
      cases e2
      split at h
      · have := ihy ty h; simp [this]
      · have := ihx tx h; simp [this]
theorem TreeAt.moved {w V : World} {t : Tr} {a b : Nat} {F : List Nat} (h : TreeAt w t a F) (hn : F.Nodup) (hb : V.heap[b]? = w.heap[a]?) (hs : ∀ q ∈ F, q ≠ a → V.heap[q]? = w.heap[q]?) : ∃ R, F = a :: R ∧ TreeAt V t b (b :: R) := by
  cases t with
  | leaf p =>
    obtain ⟨h1, h2, rfl⟩ := h
    exact ⟨[], rfl, hb.trans h1, h2, rfl⟩
  | node x y =>
    obtain ⟨p, q, G, H, h1, tx, ty, rfl⟩ := h
    have hna := (List.nodup_cons.1 hn).1
    refine ⟨G ++ H, rfl, p, q, G, H, hb.trans h1, tx.same (fun r hr => hs r (by simp [hr]) (fun e => hna (by subst e; simp [hr]))), ty.same (fun r hr => hs r (by simp [hr]) (fun e => hna (by subst e; simp [hr]))), rfl⟩
theorem join_full {w V : World} {t : Tr} {a b c p : Nat} {F : List Nat} (h : TreeAt w t a F) (hn : F.Nodup) (hp : 1 ≤ p ∧ p ≤ 8)
    (h1 : V.heap[a]? = some (.cells #[.int .i64 0, .pointer (some ⟨b, 0, none⟩), .pointer (some ⟨c, 0, none⟩)] 71 (0, 0))) (h2 : V.heap[b]? = w.heap[a]?) (h3 : V.heap[c]? = some (.cells #[.int .i64 p, .pointer none, .pointer none] 71 (0, 0)))
    (hs : ∀ q ∈ F, q ≠ a → V.heap[q]? = w.heap[q]?) (hb : b ∉ F) (hc : c ∉ F) (hbc : b ≠ c) : ∃ F', TreeAt V (.node t (.leaf p)) a F' ∧ F'.Nodup ∧ ∀ q ∈ F', q ∈ F ∨ q = b ∨ q = c := by
  obtain ⟨R, rfl, ht⟩ := h.moved hn h2 hs
  refine ⟨a :: ((b :: R) ++ [c]), ⟨b, c, b :: R, [c], h1, ht, ⟨h3, hp, rfl⟩, rfl⟩, ?_, ?_⟩
  · have hn' := List.nodup_cons.1 hn
    simp only [List.mem_cons, not_or] at hb hc
    refine List.nodup_cons.2 ⟨?_, ?_⟩
    · simp only [List.cons_append, List.mem_cons, List.mem_append, not_or, List.not_mem_nil]
      exact ⟨fun e => hb.1 e.symm, hn'.1, fun e => hc.1 e.symm, fun e => e⟩
    · refine List.nodup_cons.2 ⟨?_, List.nodup_append.2 ⟨hn'.2, by simp, ?_⟩⟩
      · show b ∉ R ++ [c]
        rw [List.mem_append, List.mem_singleton]
        exact fun e => e.elim hb.2 hbc
      · intro x hx y hy e
        rw [List.mem_singleton] at hy
        subst e
        subst hy
        exact hc.2 hx
  · intro q hq
    simp only [List.cons_append, List.mem_cons, List.mem_append] at hq ⊢
    rcases hq with e | e | e | e | e
    · exact .inl (.inl e)
    · exact .inr (.inl e)
    · exact .inl (.inr e)
    · exact .inr (.inr e)
    · cases e
theorem join_mem {w V : World} {r b c p : Nat} (hp : 1 ≤ p ∧ p ≤ 8)
    (h1 : V.heap[r]? = some (.cells #[.int .i64 0, .pointer (some ⟨b, 0, none⟩), .pointer (some ⟨c, 0, none⟩)] 71 (0, 0))) (h2 : V.heap[b]? = w.heap[r]?) (h3 : V.heap[c]? = some (.cells #[.int .i64 p, .pointer none, .pointer none] 71 (0, 0)))
    (hbc : b ≠ c) : ∀ {t : Tr} {a : Nat} {F : List Nat}, TreeAt w t a F → F.Nodup → SpotIs w t a r → (∀ q ∈ F, q ≠ r → V.heap[q]? = w.heap[q]?) → b ∉ F → c ∉ F → ∃ F', TreeAt V (t.put p) a F' ∧ F'.Nodup ∧ ∀ q ∈ F', q ∈ F ∨ q = b ∨ q = c := by
  intro t
  induction t with
  | leaf q =>
    intro a F h hn hr hs hb hc
    cases hr
    exact join_full h hn hp h1 h2 h3 hs hb hc hbc
  | node x y ihx ihy =>
    intro a F h hn hr hs hb hc
    have h0 := h
    obtain ⟨b', c', G, H, g, tx, ty, rfl⟩ := h
    by_cases hf : (Tr.node x y).full = true
    · have e : r = a := by unfold SpotIs at hr; rw [if_pos hf] at hr; exact hr
      subst e
      have := join_full h0 hn hp h1 h2 h3 hs hb hc hbc
      rw [Tr.put, if_pos hf]
      exact this
    · have hr0 := hr
      unfold SpotIs at hr
      rw [if_neg hf] at hr
      obtain ⟨b2, c2, e1, e2, hr⟩ := hr
      rw [cells_of g] at e1 e2
      obtain rfl : b' = b2 := by simpa using e1
      obtain rfl : c' = c2 := by simpa using e2
      obtain ⟨ha, hn2⟩ := List.nodup_cons.1 hn
      obtain ⟨nG, nH, nd⟩ := List.nodup_append.1 hn2
      simp only [List.mem_cons, List.mem_append, not_or] at hb hc ha
      rw [Tr.put, if_neg hf]
      split at hr
      · rename_i hb'
        rw [if_pos hb']
        have hm := SpotIs.mem ty hr
        obtain ⟨F', t', n', m'⟩ := ihy ty nH hr (fun q hq hne => hs q (by simp [hq]) hne) hb.2.2 hc.2.2
        refine ⟨a :: (G ++ F'), ⟨b', c', G, F', (hs a (by simp) (fun e => ha.2 (by rw [e]; exact hm))).trans g, tx.same (fun q hq => hs q (by simp [hq]) (fun e => nd q hq r hm e)), t', rfl⟩, ?_, ?_⟩
        · refine List.nodup_cons.2 ⟨?_, List.nodup_append.2 ⟨nG, n', ?_⟩⟩
          · rw [List.mem_append, not_or]
            refine ⟨ha.1, fun hq => ?_⟩
            rcases m' a hq with e | e | e
            · exact ha.2 e
            · exact hb.1 e.symm
            · exact hc.1 e.symm
          · intro q hq q' hq' e
            subst e
            rcases m' q hq' with e | e | e
            · exact nd q hq q e rfl
            · exact hb.2.1 (e ▸ hq)
            · exact hc.2.1 (e ▸ hq)
        · intro q hq
          rcases List.mem_cons.1 hq with e | hq
          · exact .inl (by simp [e])
          · rcases List.mem_append.1 hq with e | e
            · exact .inl (by simp [e])
            · rcases m' q e with e | e
              · exact .inl (by simp [e])
              · exact .inr e
      · rename_i hb'
        rw [if_neg hb']
        have hm := SpotIs.mem tx hr
        obtain ⟨F', t', n', m'⟩ := ihx tx nG hr (fun q hq hne => hs q (by simp [hq]) hne) hb.2.1 hc.2.1
        refine ⟨a :: (F' ++ H), ⟨b', c', F', H, (hs a (by simp) (fun e => ha.1 (by rw [e]; exact hm))).trans g, t', ty.same (fun q hq => hs q (by simp [hq]) (fun e => nd r hm q hq e.symm)), rfl⟩, ?_, ?_⟩
        · refine List.nodup_cons.2 ⟨?_, List.nodup_append.2 ⟨n', nH, ?_⟩⟩
          · rw [List.mem_append, not_or]
            refine ⟨fun hq => ?_, ha.2⟩
            rcases m' a hq with e | e | e
            · exact ha.1 e
            · exact hb.1 e.symm
            · exact hc.1 e.symm
          · intro q hq q' hq' e
            subst e
            rcases m' q hq with e | e | e
            · exact nd q e q hq' rfl
            · exact hb.2.2 (e ▸ hq')
            · exact hc.2.2 (e ▸ hq')
        · intro q hq
          rcases List.mem_cons.1 hq with e | hq
          · exact .inl (by simp [e])
          · rcases List.mem_append.1 hq with e | e
            · rcases m' q e with e | e
              · exact .inl (by simp [e])
              · exact .inr e
            · exact .inl (by simp [e])
theorem store3 {W : World} {b : Nat} {t : TypeId} {o0 o1 o2 : Value} (n0 n1 n2 : Value) (h : W.heap[b]? = some (.cells #[o0, o1, o2] t (0, 0))) :
    ∃ u1 u2 u3 : World, (W.setCell ⟨b, 0, none⟩ n0 = u1 ∧ W.cell? ⟨b, 0, none⟩ = some o0 ∧ W.frozen? ⟨b, 0, none⟩ = false) ∧ (u1.setCell ⟨b, 1, none⟩ n1 = u2 ∧ u1.cell? ⟨b, 1, none⟩ = some o1 ∧ u1.frozen? ⟨b, 1, none⟩ = false) ∧ (u2.setCell ⟨b, 2, none⟩ n2 = u3 ∧ u2.cell? ⟨b, 2, none⟩ = some o2 ∧ u2.frozen? ⟨b, 2, none⟩ = false) ∧
      u3.heap[b]? = some (.cells #[n0, n1, n2] t (0, 0)) ∧ Below b W u3 ∧ ∀ k, k ≠ b → u3.heap[k]? = W.heap[k]? := by
  have h1 : (W.setCell ⟨b, 0, none⟩ n0).heap[b]? = some (.cells #[n0, o1, o2] t (0, 0)) := set_blk h n0
  have hB1 : Below b W (W.setCell ⟨b, 0, none⟩ n0) := (Below.refl b W).setCell (by simp) n0
  have hk1 : ∀ k, k ≠ b → (W.setCell ⟨b, 0, none⟩ n0).heap[k]? = W.heap[k]? := fun k hk => (Below.heap_setCell _ _ _ _ (by simpa using hk))
  obtain ⟨x1, hx1⟩ : ∃ x, W.setCell ⟨b, 0, none⟩ n0 = x := ⟨_, rfl⟩
  rw [hx1] at h1 hB1 hk1
  have h2 : (x1.setCell ⟨b, 1, none⟩ n1).heap[b]? = some (.cells #[n0, n1, o2] t (0, 0)) := set_blk h1 n1
  have hB2 : Below b W (x1.setCell ⟨b, 1, none⟩ n1) := hB1.setCell (by simp) n1
  have hk2 : ∀ k, k ≠ b → (x1.setCell ⟨b, 1, none⟩ n1).heap[k]? = W.heap[k]? := fun k hk => (Below.heap_setCell _ _ _ _ (by simpa using hk)).trans (hk1 k hk)
  obtain ⟨x2, hx2⟩ : ∃ x, x1.setCell ⟨b, 1, none⟩ n1 = x := ⟨_, rfl⟩
  rw [hx2] at h2 hB2 hk2
  have h3 : (x2.setCell ⟨b, 2, none⟩ n2).heap[b]? = some (.cells #[n0, n1, n2] t (0, 0)) := set_blk h2 n2
  have hB3 : Below b W (x2.setCell ⟨b, 2, none⟩ n2) := hB2.setCell (by simp) n2
  have hk3 : ∀ k, k ≠ b → (x2.setCell ⟨b, 2, none⟩ n2).heap[k]? = W.heap[k]? := fun k hk => (Below.heap_setCell _ _ _ _ (by simpa using hk)).trans (hk2 k hk)
  obtain ⟨x3, hx3⟩ : ∃ x, x2.setCell ⟨b, 2, none⟩ n2 = x := ⟨_, rfl⟩
  rw [hx3] at h3 hB3 hk3
  exact ⟨x1, x2, x3, ⟨hx1, (by rw [cells_of h]; rfl), frozen_of h 0⟩, ⟨hx2, (by rw [cells_of h1]; rfl), frozen_of h1 1⟩, ⟨hx3, (by rw [cells_of h2]; rfl), frozen_of h2 2⟩, h3, hB3, hk3⟩
theorem TreeAt.cells3 {w : World} : ∀ {t : Tr} {a : Nat} {F : List Nat}, TreeAt w t a F → ∀ q ∈ F, ∃ (n : Nat) (u v : Option Addr), w.heap[q]? = some (.cells #[.int .i64 n, .pointer u, .pointer v] 71 (0, 0)) := by
  intro t
  induction t with
  | leaf p =>
    rintro a F ⟨h, _, rfl⟩ q hq
    obtain rfl := List.mem_singleton.1 hq
    exact ⟨p, none, none, h⟩
  | node x y ihx ihy =>
    rintro a F ⟨b, c, G, H, h, tx, ty, rfl⟩ q hq
    rcases List.mem_cons.1 hq with rfl | hq
    · exact ⟨0, _, _, h⟩
    · rcases List.mem_append.1 hq with hq | hq
      · exact ihx tx q hq
      · exact ihy ty q hq
end Go.Proofs.Ytlpabhgfmkilnaa.L13
