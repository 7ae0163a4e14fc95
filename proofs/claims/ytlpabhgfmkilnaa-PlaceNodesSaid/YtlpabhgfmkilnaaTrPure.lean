/- Pure: trees of processes, their texts, how a text is read, and what joining, leaving and merging make. -/
import Derived.Below
namespace Go.Proofs.Ytlpabhgfmkilnaa.L13

inductive Tr where
  | leaf (p : Nat)
  | node (l r : Tr)
def Tr.text : Tr → List UInt8
  | .leaf p => [UInt8.ofNat (48 + p)]
  | .node l r => 40 :: (l.text ++ (r.text ++ [41]))
def Tr.procs : Tr → List Nat
  | .leaf p => [p]
  | .node l r => l.procs ++ r.procs
def Tr.deep : Tr → Nat
  | .leaf _ => 0
  | .node l r => 1 + max l.deep r.deep
def Tr.least : Tr → Nat
  | .leaf _ => 0
  | .node l r => 1 + min l.least r.least
structure Tr.ok (t : Tr) : Prop where
  small : ∀ p ∈ t.procs, 1 ≤ p ∧ p ≤ 8
  once : t.procs.Nodup

theorem nodup_le : ∀ (n : Nat) (l : List Nat), l.Nodup → (∀ x ∈ l, x < n) → l.length ≤ n
  | 0, l, _, h => by
    cases l with
    | nil => simp
    | cons a l => exact absurd (h a (by simp)) (by omega)
  | n + 1, l, hn, h => by
    have h1 := nodup_le n (l.erase n) (hn.erase n) (fun x hx => by
      have := (hn.mem_erase_iff).1 hx
      have := h x this.2
      omega)
    have h2 : l.length ≤ (l.erase n).length + 1 := by
      rw [List.length_erase]
      split <;> omega
    omega
theorem Tr.text_len (t : Tr) : t.text.length + 2 = 3 * t.procs.length := by
  induction t with
  | leaf p => rfl
  | node l r hl hr => simp only [Tr.text, Tr.procs, List.length_cons, List.length_append, List.length_nil]; omega
theorem Tr.procs_pos (t : Tr) : 1 ≤ t.procs.length := by
  induction t with
  | leaf p => simp [Tr.procs]
  | node l r hl hr => simp only [Tr.procs, List.length_append]; omega
theorem Tr.ok.few {t : Tr} (h : t.ok) : t.procs.length ≤ 8 := by
  have := nodup_le 8 (t.procs.map (· - 1)) (by
    refine (List.pairwise_map).2 ?_
    refine List.Pairwise.imp_of_mem ?_ h.once
    intro a b ha hb hab
    have := h.small a ha
    have := h.small b hb
    omega) (fun x hx => by
    obtain ⟨p, hp, rfl⟩ := List.mem_map.1 hx
    have := h.small p hp
    omega)
  simpa using this
theorem Tr.ok.len {t : Tr} (h : t.ok) : t.text.length ≤ 22 := by
  have := t.text_len
  have := h.few
  omega
theorem Tr.ok.left {l r : Tr} (h : (Tr.node l r).ok) : l.ok := ⟨fun p hp => h.small p (by simp [Tr.procs, hp]), (List.nodup_append.1 h.once).1⟩
theorem Tr.ok.right {l r : Tr} (h : (Tr.node l r).ok) : r.ok := ⟨fun p hp => h.small p (by simp [Tr.procs, hp]), (List.nodup_append.1 h.once).2.1⟩
theorem Tr.ok.apart {l r : Tr} (h : (Tr.node l r).ok) : ∀ p ∈ l.procs, p ∉ r.procs := fun p hp hq => (List.nodup_append.1 h.once).2.2 p hp p hq rfl
theorem Tr.ok.node {l r : Tr} (hl : l.ok) (hr : r.ok) (h : ∀ p ∈ l.procs, p ∉ r.procs) : (Tr.node l r).ok :=
  ⟨fun p hp => (List.mem_append.1 hp).elim (hl.small p) (hr.small p), List.nodup_append.2 ⟨hl.once, hr.once, fun a ha _ hb e => h a ha (e ▸ hb)⟩⟩
theorem Tr.ok.leaf {p : Nat} (h1 : 1 ≤ p) (h8 : p ≤ 8) : (Tr.leaf p).ok := ⟨by simpa [Tr.procs] using ⟨h1, h8⟩, by simp [Tr.procs]⟩

/-- How a text is read: what is still there, and who was seen. -/
def parse : Nat → List Nat → List UInt8 → Option (Tr × List Nat × List UInt8)
  | 0, _, _ => none
  | _ + 1, _, [] => none
  | f + 1, s, b :: x =>
    if 49 ≤ b.toNat ∧ b.toNat ≤ 56 ∧ b.toNat - 48 ∉ s then some (.leaf (b.toNat - 48), (b.toNat - 48) :: s, x)
    else if b ≠ 40 then none
    else match parse f s x with
      | none => none
      | some (l, s1, x1) => match parse f s1 x1 with
        | none => none
        | some (_, _, []) => none
        | some (r, s2, c :: x3) => if c = 41 then some (.node l r, s2, x3) else none

theorem parse_sound : ∀ (f : Nat) (s : List Nat) (x : List UInt8) (t : Tr) (s' : List Nat) (y : List UInt8), parse f s x = some (t, s', y) →
    x = t.text ++ y ∧ s' = t.procs.reverse ++ s ∧ (∀ p ∈ t.procs, (1 ≤ p ∧ p ≤ 8) ∧ p ∉ s) ∧ t.procs.Nodup := by
  intro f
  induction f with
  | zero => intro s x t s' y h; simp [parse] at h
  | succ f ih =>
    intro s x t s' y h
    cases x with
    | nil => simp [parse] at h
    | cons b x =>
      rw [parse] at h
      split at h
      · rename_i hb
        cases h
        refine ⟨?_, by simp [Tr.procs], ?_, by simp [Tr.procs]⟩
        · have : 48 + (b.toNat - 48) = b.toNat := by omega
          simp [Tr.text, this]
        · intro p hp
          simp only [Tr.procs, List.mem_singleton] at hp
          subst hp
          exact ⟨by omega, hb.2.2⟩
      · split at h
        · cases h
        · rename_i hb
          have hb' : b = 40 := by simpa using hb
          split at h
          · cases h
          · rename_i l s1 x1 h1
            split at h
            · cases h
            · cases h
            · rename_i r s2 c x3 h2
              split at h
              · rename_i hc
                cases h
                obtain ⟨e1, e2, e3, e4⟩ := ih _ _ _ _ _ h1
                obtain ⟨g1, g2, g3, g4⟩ := ih _ _ _ _ _ h2
                refine ⟨?_, ?_, ?_, ?_⟩
                · rw [e1, g1, hb', hc]; simp [Tr.text]
                · rw [g2, e2]; simp [Tr.procs]
                · intro p hp
                  rcases List.mem_append.1 hp with hp | hp
                  · exact e3 p hp
                  · refine ⟨(g3 p hp).1, fun hs => (g3 p hp).2 ?_⟩
                    rw [e2]; simp [hs]
                · refine List.nodup_append.2 ⟨e4, g4, fun a ha b hb e => ?_⟩
                  subst e
                  refine (g3 a hb).2 ?_
                  rw [e2]; simp [ha]
              · cases h
theorem digit_byte {p : Nat} (h1 : 1 ≤ p) (h8 : p ≤ 8) : (UInt8.ofNat (48 + p)).toNat = 48 + p := by
  rw [UInt8.toNat_ofNat']; omega
theorem parse_full : ∀ (t : Tr) (f : Nat) (s : List Nat) (y : List UInt8), t.text.length ≤ f → t.ok → (∀ p ∈ t.procs, p ∉ s) → parse f s (t.text ++ y) = some (t, t.procs.reverse ++ s, y) := by
  intro t
  induction t with
  | leaf p =>
    intro f s y hf ho hs
    obtain ⟨f, rfl⟩ : ∃ g, f = g + 1 := ⟨f - 1, by simp [Tr.text] at hf; omega⟩
    have h18 := ho.small p (by simp [Tr.procs])
    have hb := digit_byte h18.1 h18.2
    have hn := hs p (by simp [Tr.procs])
    simp only [Tr.text, List.cons_append, List.nil_append, parse, hb]
    have e : 48 + p - 48 = p := by omega
    rw [e, if_pos ⟨by omega, by omega, hn⟩]
    simp [Tr.procs]
  | node l r hl hr =>
    intro f s y hf ho hs
    simp only [Tr.text, List.length_cons, List.length_append, List.length_nil] at hf
    obtain ⟨f, rfl⟩ : ∃ g, f = g + 1 := ⟨f - 1, by omega⟩
    have e1 := hl f s (r.text ++ 41 :: y) (by omega) ho.left (fun p hp => hs p (by simp [Tr.procs, hp]))
    have e2 := hr f (l.procs.reverse ++ s) (41 :: y) (by omega) ho.right (fun p hp hq => by
      rcases List.mem_append.1 hq with hq | hq
      · exact ho.apart p (List.mem_reverse.1 hq) hp
      · exact hs p (by simp [Tr.procs, hp]) hq)
    have e3 : Tr.text (.node l r) ++ y = 40 :: (l.text ++ (r.text ++ 41 :: y)) := by simp [Tr.text]
    rw [e3, parse, if_neg (fun h => absurd h.1 (by decide)), if_neg (by decide), e1]
    simp only [e2]
    simp [Tr.procs]
/-- The tree that a text is. -/
def readT (x : List UInt8) : Option Tr := if 22 < x.length then none else match parse 23 [] x with
  | some (t, _, []) => some t
  | _ => none
theorem readT_some {x : List UInt8} {t : Tr} (h : readT x = some t) : x = t.text ∧ t.ok := by
  unfold readT at h
  split at h
  · cases h
  · split at h
    · rename_i t' s' hp
      cases h
      obtain ⟨e1, _, e3, e4⟩ := parse_sound _ _ _ _ _ _ hp
      exact ⟨by simpa using e1, ⟨fun p hp => (e3 p hp).1, e4⟩⟩
    · cases h
theorem readT_text {t : Tr} (h : t.ok) : readT t.text = some t := by
  have hl := h.len
  have hp := parse_full t 23 [] [] (by omega) h (by simp)
  rw [List.append_nil] at hp
  unfold readT
  rw [if_neg (by omega), hp]
theorem text_inj {t u : Tr} (ht : t.ok) (hu : u.ok) (h : t.text = u.text) : t = u := by
  have := readT_text ht
  rw [h, readT_text hu] at this
  exact (Option.some.inj this).symm

/-- All leaves as deep as the depth. -/
def Tr.full (t : Tr) : Bool := decide (t.deep ≤ t.least)
theorem Tr.least_le (t : Tr) : t.least ≤ t.deep := by
  induction t with
  | leaf p => exact Nat.le_refl _
  | node l r hl hr => simp only [Tr.least, Tr.deep]; omega
/-- How deep the place is at which one joins. -/
def Tr.best : Tr → Nat
  | .leaf _ => 0
  | .node l r => if (Tr.node l r).full then (Tr.node l r).deep else min l.best r.best
/-- One joins. -/
def Tr.put : Tr → Nat → Tr
  | .leaf q, p => .node (.leaf q) (.leaf p)
  | .node l r, p => if (Tr.node l r).full then .node (.node l r) (.leaf p) else if r.best ≤ l.best then .node l (r.put p) else .node (l.put p) r
/-- One leaves. -/
def both : Option Tr → Option Tr → Option Tr
  | none, y => y
  | some a, none => some a
  | some a, some b => some (.node a b)
def Tr.out (p : Nat) : Tr → Option Tr
  | .leaf q => if q = p then none else some (.leaf q)
  | .node l r => both (l.out p) (r.out p)
end Go.Proofs.Ytlpabhgfmkilnaa.L13
