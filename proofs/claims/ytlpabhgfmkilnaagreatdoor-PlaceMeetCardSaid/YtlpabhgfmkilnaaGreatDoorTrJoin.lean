/- Contract of join: one more stands in the tree. -/
import Derived.Test.YtlpabhgfmkilnaaGreatDoorTrPlace
namespace Go.Proofs.YtlpabhgfmkilnaaGreatDoor.L13
open Go.ChangeShapes Go.WideShapes Go.ChangeAt Go.RowKit Go.Deep

attribute [local go_sem] store_func13
theorem SpotIs.mem {w : World} : ∀ {t : Tr} {a r : Nat} {F : List Nat}, TreeAt w t a F → SpotIs w t a r → r ∈ F := by
  intro t
  induction t with
  | leaf p => intro a r F ht h; cases h; exact ht.head
  | node x y ihx ihy =>
    intro a r F ht h
    obtain ⟨b, c, G, H, c0, c1, c2, tx, ty, rfl⟩ := ht.cells12
    unfold SpotIs at h
    split at h
    · subst h; simp
    · obtain ⟨b', c', e1, e2, h⟩ := h
      rw [c1] at e1
      rw [c2] at e2
      cases e1
      cases e2
      split at h
      · have := ihy ty h; simp [this]
      · have := ihx tx h; simp [this]
theorem TreeAt.moved {w V : World} {t : Tr} {a b : Nat} {F : List Nat} (h : TreeAt w t a F) (hn : F.Nodup) (hb : V.heap[b]? = w.heap[a]?) (hs : ∀ q ∈ F, q ≠ a → V.heap[q]? = w.heap[q]?) : ∃ R, F = a :: R ∧ TreeAt V t b (b :: R) := by
  cases t with
  | leaf p =>
    obtain ⟨h1, h2, rfl⟩ := h
    exact ⟨[], rfl, hb.trans h1, h2, rfl⟩
  | node x y =>
    obtain ⟨p, q, G, H, h1, tx, ty, rfl⟩ := h
    have hna := (List.nodup_cons.1 hn).1
    refine ⟨G ++ H, rfl, p, q, G, H, hb.trans h1, tx.same (fun r hr => hs r (by simp [hr]) (fun e => hna (by subst e; simp [hr]))), ty.same (fun r hr => hs r (by simp [hr]) (fun e => hna (by subst e; simp [hr]))), rfl⟩
theorem join_full {w V : World} {t : Tr} {a b c p : Nat} {F : List Nat} (h : TreeAt w t a F) (hn : F.Nodup) (hp : 1 ≤ p ∧ p ≤ 8)
    (h1 : V.heap[a]? = some (.cells #[.int .i64 0, .pointer (some ⟨b, 0, none⟩), .pointer (some ⟨c, 0, none⟩)] 57 (0, 0))) (h2 : V.heap[b]? = w.heap[a]?) (h3 : V.heap[c]? = some (.cells #[.int .i64 p, .pointer none, .pointer none] 57 (0, 0)))
    (hs : ∀ q ∈ F, q ≠ a → V.heap[q]? = w.heap[q]?) (hb : b ∉ F) (hc : c ∉ F) (hbc : b ≠ c) : ∃ F', TreeAt V (.node t (.leaf p)) a F' ∧ F'.Nodup ∧ ∀ q ∈ F', q ∈ F ∨ q = b ∨ q = c := by
  obtain ⟨R, rfl, ht⟩ := h.moved hn h2 hs
  refine ⟨a :: ((b :: R) ++ [c]), ⟨b, c, b :: R, [c], h1, ht, ⟨h3, hp, rfl⟩, rfl⟩, ?_, ?_⟩
  · have hn' := List.nodup_cons.1 hn
    simp only [List.mem_cons, not_or] at hb hc
    refine List.nodup_cons.2 ⟨?_, ?_⟩
    · simp only [List.cons_append, List.mem_cons, List.mem_append, not_or, List.not_mem_nil]
      exact ⟨fun e => hb.1 e.symm, hn'.1, fun e => hc.1 e.symm, fun e => e⟩
    · refine List.nodup_cons.2 ⟨?_, List.nodup_append.2 ⟨hn'.2, by simp, ?_⟩⟩
      · show b ∉ R ++ [c]
        rw [List.mem_append, List.mem_singleton]
        exact fun e => e.elim hb.2 hbc
      · intro x hx y hy e
        rw [List.mem_singleton] at hy
        subst e
        subst hy
        exact hc.2 hx
  · intro q hq
    simp only [List.cons_append, List.mem_cons, List.mem_append] at hq ⊢
    rcases hq with e | e | e | e | e
    · exact .inl (.inl e)
    · exact .inr (.inl e)
    · exact .inl (.inr e)
    · exact .inr (.inr e)
    · cases e
theorem join_mem {w V : World} {r b c p : Nat} (hp : 1 ≤ p ∧ p ≤ 8)
    (h1 : V.heap[r]? = some (.cells #[.int .i64 0, .pointer (some ⟨b, 0, none⟩), .pointer (some ⟨c, 0, none⟩)] 57 (0, 0))) (h2 : V.heap[b]? = w.heap[r]?) (h3 : V.heap[c]? = some (.cells #[.int .i64 p, .pointer none, .pointer none] 57 (0, 0)))
    (hbc : b ≠ c) : ∀ {t : Tr} {a : Nat} {F : List Nat}, TreeAt w t a F → F.Nodup → SpotIs w t a r → (∀ q ∈ F, q ≠ r → V.heap[q]? = w.heap[q]?) → b ∉ F → c ∉ F → ∃ F', TreeAt V (t.put p) a F' ∧ F'.Nodup ∧ ∀ q ∈ F', q ∈ F ∨ q = b ∨ q = c := by
  intro t
  induction t with
  | leaf q =>
    intro a F h hn hr hs hb hc
    cases hr
    exact join_full h hn hp h1 h2 h3 hs hb hc hbc
  | node x y ihx ihy =>
    intro a F h hn hr hs hb hc
    have h0 := h
    obtain ⟨b', c', G, H, g, tx, ty, rfl⟩ := h
    by_cases hf : (Tr.node x y).full = true
    · have e : r = a := by unfold SpotIs at hr; rw [if_pos hf] at hr; exact hr
      subst e
      have := join_full h0 hn hp h1 h2 h3 hs hb hc hbc
      rw [Tr.put, if_pos hf]
      exact this
    · have hr0 := hr
      unfold SpotIs at hr
      rw [if_neg hf] at hr
      obtain ⟨b2, c2, e1, e2, hr⟩ := hr
      rw [cells_of g] at e1 e2
      obtain rfl : b' = b2 := by simpa using e1
      obtain rfl : c' = c2 := by simpa using e2
      obtain ⟨ha, hn2⟩ := List.nodup_cons.1 hn
      obtain ⟨nG, nH, nd⟩ := List.nodup_append.1 hn2
      simp only [List.mem_cons, List.mem_append, not_or] at hb hc ha
      rw [Tr.put, if_neg hf]
      split at hr
      · rename_i hb'
        rw [if_pos hb']
        have hm := SpotIs.mem ty hr
        obtain ⟨F', t', n', m'⟩ := ihy ty nH hr (fun q hq hne => hs q (by simp [hq]) hne) hb.2.2 hc.2.2
        refine ⟨a :: (G ++ F'), ⟨b', c', G, F', (hs a (by simp) (fun e => ha.2 (by rw [e]; exact hm))).trans g, tx.same (fun q hq => hs q (by simp [hq]) (fun e => nd q hq r hm e)), t', rfl⟩, ?_, ?_⟩
        · refine List.nodup_cons.2 ⟨?_, List.nodup_append.2 ⟨nG, n', ?_⟩⟩
          · rw [List.mem_append, not_or]
            refine ⟨ha.1, fun hq => ?_⟩
            rcases m' a hq with e | e | e
            · exact ha.2 e
            · exact hb.1 e.symm
            · exact hc.1 e.symm
          · intro q hq q' hq' e
            subst e
            rcases m' q hq' with e | e | e
            · exact nd q hq q e rfl
            · exact hb.2.1 (e ▸ hq)
            · exact hc.2.1 (e ▸ hq)
        · intro q hq
          rcases List.mem_cons.1 hq with e | hq
          · exact .inl (by simp [e])
          · rcases List.mem_append.1 hq with e | e
            · exact .inl (by simp [e])
            · rcases m' q e with e | e
              · exact .inl (by simp [e])
              · exact .inr e
      · rename_i hb'
        rw [if_neg hb']
        have hm := SpotIs.mem tx hr
        obtain ⟨F', t', n', m'⟩ := ihx tx nG hr (fun q hq hne => hs q (by simp [hq]) hne) hb.2.1 hc.2.1
        refine ⟨a :: (F' ++ H), ⟨b', c', F', H, (hs a (by simp) (fun e => ha.1 (by rw [e]; exact hm))).trans g, t', ty.same (fun q hq => hs q (by simp [hq]) (fun e => nd r hm q hq e.symm)), rfl⟩, ?_, ?_⟩
        · refine List.nodup_cons.2 ⟨?_, List.nodup_append.2 ⟨n', nH, ?_⟩⟩
          · rw [List.mem_append, not_or]
            refine ⟨fun hq => ?_, ha.2⟩
            rcases m' a hq with e | e | e
            · exact ha.1 e
            · exact hb.1 e.symm
            · exact hc.1 e.symm
          · intro q hq q' hq' e
            subst e
            rcases m' q hq with e | e | e
            · exact nd q e q hq' rfl
            · exact hb.2.2 (e ▸ hq')
            · exact hc.2.2 (e ▸ hq')
        · intro q hq
          rcases List.mem_cons.1 hq with e | hq
          · exact .inl (by simp [e])
          · rcases List.mem_append.1 hq with e | e
            · rcases m' q e with e | e
              · exact .inl (by simp [e])
              · exact .inr e
            · exact .inl (by simp [e])
theorem store3 {W : World} {b : Nat} {t : TypeId} {o0 o1 o2 : Value} (n0 n1 n2 : Value) (h : W.heap[b]? = some (.cells #[o0, o1, o2] t (0, 0))) :
    ∃ u1 u2 u3 : World, (W.setCell ⟨b, 0, none⟩ n0 = u1 ∧ W.cell? ⟨b, 0, none⟩ = some o0 ∧ W.frozen? ⟨b, 0, none⟩ = false) ∧ (u1.setCell ⟨b, 1, none⟩ n1 = u2 ∧ u1.cell? ⟨b, 1, none⟩ = some o1 ∧ u1.frozen? ⟨b, 1, none⟩ = false) ∧ (u2.setCell ⟨b, 2, none⟩ n2 = u3 ∧ u2.cell? ⟨b, 2, none⟩ = some o2 ∧ u2.frozen? ⟨b, 2, none⟩ = false) ∧
      u3.heap[b]? = some (.cells #[n0, n1, n2] t (0, 0)) ∧ Below b W u3 ∧ ∀ k, k ≠ b → u3.heap[k]? = W.heap[k]? := by
  have h1 : (W.setCell ⟨b, 0, none⟩ n0).heap[b]? = some (.cells #[n0, o1, o2] t (0, 0)) := set_blk h n0
  have hB1 : Below b W (W.setCell ⟨b, 0, none⟩ n0) := (Below.refl b W).setCell (by simp) n0
  have hk1 : ∀ k, k ≠ b → (W.setCell ⟨b, 0, none⟩ n0).heap[k]? = W.heap[k]? := fun k hk => (Below.heap_setCell _ _ _ _ (by simpa using hk))
  obtain ⟨x1, hx1⟩ : ∃ x, W.setCell ⟨b, 0, none⟩ n0 = x := ⟨_, rfl⟩
  rw [hx1] at h1 hB1 hk1
  have h2 : (x1.setCell ⟨b, 1, none⟩ n1).heap[b]? = some (.cells #[n0, n1, o2] t (0, 0)) := set_blk h1 n1
  have hB2 : Below b W (x1.setCell ⟨b, 1, none⟩ n1) := hB1.setCell (by simp) n1
  have hk2 : ∀ k, k ≠ b → (x1.setCell ⟨b, 1, none⟩ n1).heap[k]? = W.heap[k]? := fun k hk => (Below.heap_setCell _ _ _ _ (by simpa using hk)).trans (hk1 k hk)
  obtain ⟨x2, hx2⟩ : ∃ x, x1.setCell ⟨b, 1, none⟩ n1 = x := ⟨_, rfl⟩
  rw [hx2] at h2 hB2 hk2
  have h3 : (x2.setCell ⟨b, 2, none⟩ n2).heap[b]? = some (.cells #[n0, n1, n2] t (0, 0)) := set_blk h2 n2
  have hB3 : Below b W (x2.setCell ⟨b, 2, none⟩ n2) := hB2.setCell (by simp) n2
  have hk3 : ∀ k, k ≠ b → (x2.setCell ⟨b, 2, none⟩ n2).heap[k]? = W.heap[k]? := fun k hk => (Below.heap_setCell _ _ _ _ (by simpa using hk)).trans (hk2 k hk)
  obtain ⟨x3, hx3⟩ : ∃ x, x2.setCell ⟨b, 2, none⟩ n2 = x := ⟨_, rfl⟩
  rw [hx3] at h3 hB3 hk3
  exact ⟨x1, x2, x3, ⟨hx1, (by rw [cells_of h]; rfl), frozen_of h 0⟩, ⟨hx2, (by rw [cells_of h1]; rfl), frozen_of h1 1⟩, ⟨hx3, (by rw [cells_of h2]; rfl), frozen_of h2 2⟩, h3, hB3, hk3⟩
theorem TreeAt.cells3 {w : World} : ∀ {t : Tr} {a : Nat} {F : List Nat}, TreeAt w t a F → ∀ q ∈ F, ∃ (n : Nat) (u v : Option Addr), w.heap[q]? = some (.cells #[.int .i64 n, .pointer u, .pointer v] 57 (0, 0)) := by
  intro t
  induction t with
  | leaf p =>
    rintro a F ⟨h, _, rfl⟩ q hq
    obtain rfl := List.mem_singleton.1 hq
    exact ⟨p, none, none, h⟩
  | node x y ihx ihy =>
    rintro a F ⟨b, c, G, H, h, tx, ty, rfl⟩ q hq
    rcases List.mem_cons.1 hq with rfl | hq
    · exact ⟨0, _, _, h⟩
    · rcases List.mem_append.1 hq with hq | hq
      · exact ihx tx q hq
      · exact ihy ty q hq
set_option maxRecDepth 100000 in
set_option maxHeartbeats 4000000 in
theorem join_calls {w : World} {t : Tr} {a p : Nat} {F : List Nat} (B : Nat) (h : TreeAt w t a F) (hn : F.Nodup) (hd : t.deep ≤ 1000) (hp : 1 ≤ p ∧ p ≤ 8) (hB : B ≤ w.heap.size) (hF : ∀ q ∈ F, B ≤ q) :
    Calls Tryz.prog 33 #[.pointer (some ⟨a, 0, none⟩), .int .i64 p] w fun e w' => e = .returned (.tuple #[]) ∧ Below B w w' ∧ ∃ F', TreeAt w' (t.put p) a F' ∧ F'.Nodup ∧ ∀ q ∈ F', B ≤ q := by
  have hP := place_calls h hd
  have HT := Lib.hid (fun V (hb : Below w.heap.size w V) => And.intro (h.later hb) (And.intro hb.size h.lt))
  have HF := Lib.hid (And.intro hn (And.intro hp (And.intro hB hF)))
  clear h hn hp hB hF hd
  go_enter Tryz.func33, Tryz.ntmps33
  go_wp2_with fail
  refine hP.mono ?_
  rintro e w1 ⟨r, rfl, hs, hb⟩
  obtain ⟨ht, hz, hFl⟩ := HT.out _ hb
  have hr := hs.mem ht
  obtain ⟨n, u, v, hc⟩ := ht.cells3 r hr
  have c0 : w1.cell? ⟨r, 0, none⟩ = some (.int .i64 n) := by rw [cells_of hc]; rfl
  have c1 : w1.cell? ⟨r, 1, none⟩ = some (.pointer u) := by rw [cells_of hc]; rfl
  have c2 : w1.cell? ⟨r, 2, none⟩ = some (.pointer v) := by rw [cells_of hc]; rfl
  have f0 := frozen_of hc 0
  have f1 := frozen_of hc 1
  have f2 := frozen_of hc 2
  have hrl : r < w1.heap.size := Nat.lt_of_lt_of_le (hFl r hr) hz
  have H1 := Lib.hid (And.intro (And.intro ht hs) (And.intro (And.intro hz hFl) (And.intro hb hc)))
  obtain ⟨W2, hW2⟩ : ∃ W2, w1.alloc (.cells #[.int .i64 n, .pointer u, .pointer v] 57) = W2 := ⟨_, rfl⟩
  have s2 : W2.heap.size = w1.heap.size + 1 := by rw [← hW2]; simp
  obtain ⟨W3, hW3⟩ : ∃ W3, W2.alloc (.cells #[.int .i64 p, .pointer none, .pointer none] 57) = W3 := ⟨_, rfl⟩
  have s3 : W3.heap.size = w1.heap.size + 1 + 1 := by rw [← hW3]; simp [s2]
  obtain ⟨W4, hW4⟩ : ∃ W4, W3.alloc (.cells #[.int .i64 0, .pointer (some ⟨w1.heap.size, 0, none⟩), .pointer (some ⟨w1.heap.size + 1, 0, none⟩)] 57) = W4 := ⟨_, rfl⟩
  have s4 : W4.heap.size = w1.heap.size + 1 + 1 + 1 := by rw [← hW4]; simp [s3]
  have o2 : ∀ q, q < w1.heap.size → W2.heap[q]? = w1.heap[q]? := fun q hq => by rw [← hW2]; exact Below.heap_alloc _ _ _ hq
  have o3 : ∀ q, q < w1.heap.size + 1 → W3.heap[q]? = W2.heap[q]? := fun q hq => by rw [← hW3]; exact Below.heap_alloc _ _ _ (by omega)
  have o4 : ∀ q, q < w1.heap.size + 1 + 1 → W4.heap[q]? = W3.heap[q]? := fun q hq => by rw [← hW4]; exact Below.heap_alloc _ _ _ (by omega)
  have n2 : W2.heap[w1.heap.size]? = some (.cells #[.int .i64 n, .pointer u, .pointer v] 57 (0, 0)) := by rw [← hW2]; exact World.alloc_heap_new _ _
  have n3 : W3.heap[w1.heap.size + 1]? = some (.cells #[.int .i64 p, .pointer none, .pointer none] 57 (0, 0)) := by rw [← hW3, ← s2]; exact World.alloc_heap_new _ _
  have n4 : W4.heap[w1.heap.size + 1 + 1]? = some (.cells #[.int .i64 0, .pointer (some ⟨w1.heap.size, 0, none⟩), .pointer (some ⟨w1.heap.size + 1, 0, none⟩)] 57 (0, 0)) := by rw [← hW4, ← s3]; exact World.alloc_heap_new _ _
  have hc4 : W4.heap[r]? = some (.cells #[.int .i64 n, .pointer u, .pointer v] 57 (0, 0)) := by rw [o4 r (by omega), o3 r (by omega), o2 r hrl]; exact hc
  obtain ⟨u1, u2, u3, ⟨e1, d1, g1⟩, ⟨e2, d2, g2⟩, ⟨e3, d3, g3⟩, hlast, hBl, hkl⟩ := store3 (.int .i64 0) (.pointer (some ⟨w1.heap.size, 0, none⟩)) (.pointer (some ⟨w1.heap.size + 1, 0, none⟩)) hc4
  have m0 : W4.cell? ⟨w1.heap.size + 1 + 1, 0, none⟩ = some (.int .i64 0) := by rw [cells_of n4]; rfl
  have m1 : W4.cell? ⟨w1.heap.size + 1 + 1, 1, none⟩ = some (.pointer (some ⟨w1.heap.size, 0, none⟩)) := by rw [cells_of n4]; rfl
  have m2 : W4.cell? ⟨w1.heap.size + 1 + 1, 2, none⟩ = some (.pointer (some ⟨w1.heap.size + 1, 0, none⟩)) := by rw [cells_of n4]; rfl
  have HE : Hid (Below B w u3 ∧ ∃ F', TreeAt u3 (t.put p) a F' ∧ F'.Nodup ∧ ∀ q ∈ F', B ≤ q) := by
    have hnn := HF.out.1
    have hBw := HF.out.2.2.1
    have hFB := HF.out.2.2.2
    have hold : ∀ q, q < w1.heap.size → q ≠ r → u3.heap[q]? = w1.heap[q]? := fun q hq hne => by rw [hkl q hne, o4 q (by omega), o3 q (by omega), o2 q hq]
    have hwas : u3.heap[w1.heap.size]? = w1.heap[r]? := by rw [hkl _ (by omega), o4 _ (by omega), o3 _ (by omega), n2, hc]
    have hleaf : u3.heap[w1.heap.size + 1]? = some (.cells #[.int .i64 p, .pointer none, .pointer none] 57 (0, 0)) := by rw [hkl _ (by omega), o4 _ (by omega), n3]
    obtain ⟨F', t', n', m'⟩ := join_mem (w := w1) (V := u3) HF.out.2.1 hlast hwas hleaf (by omega) ht hnn hs (fun q hq hne => hold q (by have := hFl q hq; omega) hne) (fun hq => by have := hFl _ hq; omega) (fun hq => by have := hFl _ hq; omega)
    refine ⟨?_, F', t', n', fun q hq => ?_⟩
    · have hrB := hFB r hr
      refine ⟨?_, ?_, ?_, ?_, ?_⟩
      · rw [hBl.os, ← hW4, ← hW3, ← hW2]; exact hb.os
      · rw [hBl.tape, ← hW4, ← hW3, ← hW2]; exact hb.tape
      · rw [hBl.output, ← hW4, ← hW3, ← hW2]; exact hb.output
      · have := hBl.size; omega
      · intro q hq
        rw [hold q (by omega) (by omega)]
        exact hb.block q (by omega)
    · rcases m' q hq with e | e | e
      · exact hFB q e
      · omega
      · omega
  clear ht hs hb hc hz hFl hr hP HT hlast hBl hkl hc4 o2 o3 o4 n2 n3 n4 HF H1
  go_wp2_with (go_at_call 38; refine (above_calls _ _ _).mono ?_; rintro e w2 ⟨rfl, rfl⟩)
  refine bodyPost_end (results_none rfl _ _ _) rfl ?_
  exact ⟨rfl, HE.out⟩
end Go.Proofs.YtlpabhgfmkilnaaGreatDoor.L13
