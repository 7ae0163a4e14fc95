/- What can be taken out of terms; what is told of know.Derivable in general; who knows nothing. What a gatherer has found, kept shut, and has yet to try: without memory. What lies in memory for a gatherer of know, with its locks. Contract of (*gatherer).rouse. Contracts of (*gatherer).rouse and (*gatherer).wake. A gatherer of which a lock, what is fresh, or who is to be tried has turned. -/
import Derived.Test.YtloheongiceliaaGathG
import Derived.Test.YtloheongiceliaaPAllPure
import Derived.Maps.AppendAt
section
namespace Go.Proofs.Ytloheongiceliaa
open Go.ChangeShapes Go.WideShapes Go.ChangeAt Go.RowKit

namespace Tm
/-- Nothing more can be taken out. -/
structure Closed (K : List UInt8 → Prop) : Prop where
  pair : ∀ t, K t → t.getD 0 0 = 112 → ∀ p ∈ ofL t, K p
  sign : ∀ t p, K t → t.getD 0 0 = 120 → (ofL t)[1]? = some p → K p
  nonce : ∀ t p, K t → t.getD 0 0 = 115 → (ofL t)[1]? = some p → K p
  opens : ∀ t k p, K t → t.getD 0 0 = 115 → (ofL t)[0]? = some k → (ofL t)[2]? = some p → Mk K k → K p

/-- Who knows nothing makes what no name, and no private key, stands in. -/
theorem mk_public (n : Nat) : ∀ a : List UInt8, a.length ≤ n → right a = true → (Mk (fun _ => False) a ↔ ∀ x, Sub a x → x.getD 0 0 ≠ 110 ∧ x.getD 0 0 ≠ 105) := by
  induction n with
  | zero =>
    intro a ha hr
    have := (right_ne_nil hr).2
    omega
  | succ n ih =>
    intro a ha hr
    have o2 := (ofL_ok hr).2.1
    have ihp : ∀ p ∈ ofL a, (Mk (fun _ => False) p ↔ ∀ x, Sub p x → x.getD 0 0 ≠ 110 ∧ x.getD 0 0 ≠ 105) := fun p hp => ih p (by have := (o2 p hp).2.2; omega) ((right_iff p).2 (o2 p hp).1)
    constructor
    · intro hm
      have key : (∀ p ∈ ofL a, Mk (fun _ => False) p) ∧ a.getD 0 0 ≠ 110 ∧ a.getD 0 0 ≠ 105 := by
        cases hm with
        | known h => exact h.elim
        | free _ h =>
          refine ⟨fun p hp => ?_, ?_, ?_⟩
          · exfalso
            have h3 := (ofL_ok hr).2.2.1
            have h4 : (begin_ a).2 = 0 := by
              obtain ⟨hb, _⟩ := head_of_right hr
              rw [hb]
              unfold headOf
              rw [if_neg (right_ne_nil hr).1]
              rcases h with h | h | h <;> rw [h] <;> rfl
            rw [h4] at h3
            rw [List.length_eq_zero_iff.1 h3] at hp
            cases hp
          · rcases h with h | h | h <;> rw [h] <;> decide
          · rcases h with h | h | h <;> rw [h] <;> decide
        | parts _ h hp =>
          exact ⟨hp, by rcases h with h | h | h | h | h <;> rw [h] <;> decide, by rcases h with h | h | h | h | h <;> rw [h] <;> decide⟩
        | power _ h bs rest hb hp hm =>
          refine ⟨fun p hp' => ?_, by rw [h]; decide, by rw [h]; decide⟩
          rcases hb with rfl | ⟨b, hb, _⟩
          · exact hm p (hp.mem_iff.2 hp')
          · exact hb.elim
      intro x hx
      cases hx with
      | self => exact key.2
      | part hp hx => exact (ihp _ hp).1 (key.1 _ hp) x hx
    · intro h
      have hself := h a (.self a)
      have hparts : ∀ p ∈ ofL a, Mk (fun _ => False) p := fun p hp => (ihp p hp).2 (fun x hx => h x (.part hp hx))
      rcases right_kinds hr with k | k | k | k | k | k | k
      · exact .free hr (.inl k)
      · exact .free hr (.inr (.inl k))
      · exact .free hr (.inr (.inr k))
      · exact absurd k hself.1
      · exact absurd k hself.2
      · exact .power hr k [] (ofL a) (.inl rfl) (.refl _) hparts
      · exact .parts hr k hparts
end Tm

/-- What is told of Derivable, in general: K is what can be taken out of l. -/
def DerG (W : World) (l : List (List UInt8)) (goal : List UInt8) (e : Ending) (W' : World) : Prop :=
  ∃ (b : Bool) (K : List UInt8 → Prop), e = .returned (.bool b) ∧ (b = true ↔ Tm.right goal = true ∧ Tm.Mk K goal) ∧ (∀ x, K x → Tm.right x = true) ∧ (∀ x ∈ l, Tm.right x = true → K x) ∧
    (∀ S : List UInt8 → Prop, Tm.Closed S → (∀ x ∈ l, Tm.right x = true → S x) → ∀ x, K x → S x) ∧ Tm.Closed K ∧ Below W.heap.size W W'
def DerivableHolds : Prop :=
  ∀ (l : List (List UInt8)) (goal : List UInt8) (v : Value) (W : World), Reads W v l → l.length ≤ 1000000 → l.flatten.length ≤ 200000 → goal.length ≤ 20000 → Calls Try.prog 24 #[v, .string ⟨goal.toArray⟩] W (DerG W l goal)

/-- What is told of Close, in general. -/
def CloseG (W : World) (l : List (List UInt8)) (e : Ending) (W' : World) : Prop :=
  ∃ v xs, e = .returned v ∧ Reads W' v xs ∧ xs.length ≤ 100000000 ∧ (∀ x ∈ xs, Tm.right x = true) ∧ (∀ x ∈ l, Tm.right x = true → x ∈ xs) ∧
    (∀ S : List UInt8 → Prop, Tm.Closed S → (∀ x ∈ l, Tm.right x = true → S x) → ∀ x ∈ xs, S x) ∧ Tm.Closed (fun x => x ∈ xs) ∧ Below W.heap.size W W'
def CloseHolds : Prop :=
  ∀ (l : List (List UInt8)) (v : Value) (W : World), Reads W v l → l.length ≤ 1000000 → l.flatten.length ≤ 200000 → Calls Try.prog 48 #[v] W (CloseG W l)
theorem flat_le {b : Nat} : ∀ {l : List (List UInt8)}, (∀ x ∈ l, x.length ≤ b) → l.flatten.length ≤ l.length * b
  | [], _ => by simp
  | x :: l, h => by
    have h1 := flat_le (fun y hy => h y (List.mem_cons_of_mem _ hy))
    have h2 := h x (by simp)
    rw [List.flatten_cons, List.length_append, List.length_cons, Nat.add_mul]
    omega
theorem rightIn_all {xs : List (List UInt8)} (h : ∀ x ∈ xs, Tm.right x = true) : rightIn xs = fun x => x ∈ xs := by
  funext x
  apply propext
  exact ⟨fun q => q.1, fun q => ⟨q, h x q⟩⟩
set_option maxRecDepth 100000 in
set_option maxHeartbeats 1000000 in
theorem derivable_of_close (H : CloseHolds) : DerivableHolds := by
  intro l goal v W hv hn hx hg
  have HC := Lib.hid (H l v W hv hn hx)
  clear hv hn hx H
  go_enter Try.func24, Try.ntmps24
  go_wp2_with fail
  refine HC.out.mono ?_
  rintro e w1 ⟨v1, xs, rfl, hr1, hl1, h1, h2, h3, h4, b1⟩
  have HD := Lib.hid (Derives_calls xs goal v1 w1 hr1 (by omega) (fun x hx => by have := (Tm.ofL_ok (h1 x hx)).2.2.2.2.2; omega) (by omega))
  have HF := Lib.hid (And.intro (rightIn_all h1) (And.intro h1 (And.intro h2 (And.intro h3 h4))))
  have hb1 := Lib.hid b1
  clear hr1 hl1 h1 h2 h3 h4 b1
  go_wp2_with fail
  refine HD.out.mono ?_
  rintro e w2 ⟨b, rfl, hb, b2⟩
  have hfin : Hid (DerG W l goal (.returned (.bool b)) w2) := by
    obtain ⟨k0, k1, k2, k3, k4⟩ := HF.out
    rw [k0] at hb
    exact ⟨b, fun x => x ∈ xs, rfl, hb, k1, k2, k3, k4, hb1.out.trans (b2.mono hb1.out.size)⟩
  clear hb b2
  go_wp2
  go_ret
  exact hfin.out

end Go.Proofs.Ytloheongiceliaa
end

section
namespace Go.Proofs.Ytloheongiceliaa
open Go.ChangeShapes Go.WideShapes Go.ChangeAt Go.RowKit

namespace Tm
/-- What can be made with one more that is known: it could be made before, or that one stands in it, or the first exponent of that one does. -/
theorem mk_more {K : List UInt8 → Prop} {t : List UInt8} (ht : right t = true) {s : List UInt8} (h : Mk (alsoK K t) s) : Mk K s ∨ Sub s t ∨ (t.getD 0 0 = 101 ∧ ∃ x, (ofL t).head? = some x ∧ Sub s x) := by
  have up : ∀ {s p : List UInt8}, p ∈ ofL s → (Sub p t ∨ (t.getD 0 0 = 101 ∧ ∃ x, (ofL t).head? = some x ∧ Sub p x)) → (Sub s t ∨ (t.getD 0 0 = 101 ∧ ∃ x, (ofL t).head? = some x ∧ Sub s x)) := by
    rintro s p hp (h | ⟨h1, x, h2, h3⟩)
    · exact .inl (.part hp h)
    · exact .inr ⟨h1, x, h2, .part hp h3⟩
  induction h with
  | known h =>
    rcases h with h | rfl
    · exact .inl (.known h)
    · exact .inr (.inl (.self _))
  | free hr hk => exact .inl (.free hr hk)
  | @parts s hr hk hp ih =>
    by_cases hall : ∀ p ∈ ofL s, Mk K p
    · exact .inl (.parts hr hk hall)
    · obtain ⟨p, hp'⟩ := Classical.not_forall.1 hall
      obtain ⟨hps, hn⟩ := Classical.not_imp.1 hp'
      exact .inr (up hps ((ih p hps).resolve_left hn))
  | @power s hr hk bs rest hb hp hm ih =>
    by_cases hall : ∀ x ∈ rest, Mk K x
    · rcases hb with rfl | ⟨b, hb, h2, h3⟩
      · exact .inl (.power hr hk [] rest (.inl rfl) hp hall)
      · rcases hb with hb | rfl
        · exact .inl (.power hr hk bs rest (.inr ⟨b, hb, h2, h3⟩) hp hall)
        · right
          right
          have hne : (ofL b).length ≠ 0 := by
            rw [(ofL_ok ht).2.2.1]
            exact power_some ht h2
          cases hbs : ofL b with
          | nil => rw [hbs] at hne; exact absurd rfl hne
          | cons x xs =>
            refine ⟨h2, x, rfl, .part (hp.mem_iff.1 ?_) (.self x)⟩
            rw [← h3, hbs]
            simp
    · obtain ⟨x, hx'⟩ := Classical.not_forall.1 hall
      obtain ⟨hxr, hn⟩ := Classical.not_imp.1 hx'
      exact .inr (up (hp.mem_iff.1 (List.mem_append_right _ hxr)) ((ih x hxr).resolve_left hn))
end Tm

/-- A lock: where it lies, its key, the texts of seals that were found while it was shut, and the slice that holds them. -/
structure Lk where
  blk : Nat
  key : List UInt8
  texts : List (List UInt8)
  vt : Value
  opened : Bool
  woken : Bool

/-- What has been found of l: K is added, fr is found and not yet added, L are the locks, wk those that are to be tried; ex: seals that are known and not yet kept. -/
structure PInv (l : List (List UInt8)) (K : List UInt8 → Prop) (fr : List (List UInt8)) (L : List Lk) (wk : List Nat) (ex : List UInt8 → Prop) : Prop where
  rights : (∀ x, K x → Tm.right x = true) ∧ (∀ x ∈ fr, Tm.right x = true) ∧ ∀ k ∈ L, Tm.right k.key = true ∧ ∀ p ∈ k.texts, Tm.right p = true
  start : ∀ x ∈ l, Tm.right x = true → K x ∨ x ∈ fr
  pair : ∀ t, K t → t.getD 0 0 = 112 → ∀ p ∈ Tm.ofL t, K p ∨ p ∈ fr
  sign : ∀ t p, K t → t.getD 0 0 = 120 → (Tm.ofL t)[1]? = some p → K p ∨ p ∈ fr
  nonce : ∀ t p, K t → t.getD 0 0 = 115 → (Tm.ofL t)[1]? = some p → K p ∨ p ∈ fr
  shut : ∀ t k p, K t → ¬ ex t → t.getD 0 0 = 115 → (Tm.ofL t)[0]? = some k → (Tm.ofL t)[2]? = some p → ∃ lk ∈ L, lk.key = k ∧ ((lk.opened = true ∧ (K p ∨ p ∈ fr)) ∨ (lk.opened = false ∧ p ∈ lk.texts))
  waits : ∀ (i : Nat) (lk : Lk), L[i]? = some lk → lk.opened = false → lk.woken = false → ¬ Tm.Mk K lk.key
  wakes : ∀ (i : Nat) (lk : Lk), L[i]? = some lk → (lk.woken = true ↔ i ∈ wk)
  sound : ∀ S : List UInt8 → Prop, Tm.Closed S → (∀ x ∈ l, Tm.right x = true → S x) → (∀ x, K x → S x) ∧ (∀ x ∈ fr, S x) ∧ ∀ lk ∈ L, (lk.opened = true → Tm.Mk S lk.key) ∧ ∀ p ∈ lk.texts, Tm.Mk S lk.key → S p
/-- Nothing is fresh, none is to be tried: nothing more can be taken out. -/
theorem PInv.done {l : List (List UInt8)} {K : List UInt8 → Prop} {L : List Lk} (h : PInv l K [] L [] (fun _ => False)) : Tm.Closed K := by
  have no : ∀ {p : List UInt8}, K p ∨ p ∈ ([] : List (List UInt8)) → K p := fun h => h.resolve_right (by simp)
  refine ⟨fun t h1 h2 p hp => no (h.pair t h1 h2 p hp), fun t p h1 h2 h3 => no (h.sign t p h1 h2 h3), fun t p h1 h2 h3 => no (h.nonce t p h1 h2 h3), fun t k p h1 h2 h3 h4 h5 => ?_⟩
  obtain ⟨lk, hm, rfl, ⟨_, h6⟩ | ⟨h6, _⟩⟩ := h.shut t k p h1 (fun q => q) h2 h3 h4
  · exact no h6
  · obtain ⟨i, hi, e⟩ := List.getElem_of_mem hm
    have hi2 : L[i]? = some lk := by rw [List.getElem?_eq_getElem hi, e]
    have hw : lk.woken = false := by
      cases hw : lk.woken with
      | false => rfl
      | true => have := (h.wakes i lk hi2).1 hw; cases this
    exact absurd h5 (h.waits i lk hi2 h6 hw)
theorem PInv.begin (l : List (List UInt8)) : PInv l (fun _ => False) (rightsL l) [] [] (fun _ => False) := by
  refine ⟨⟨fun x h => h.elim, fun x hx => (List.mem_filter.1 hx).2, by simp⟩, fun x hx hr => .inr (List.mem_filter.2 ⟨hx, hr⟩), fun t h => h.elim, fun t p h => h.elim, fun t p h => h.elim, fun t k p h => h.elim, by simp, by simp, fun S hS h => ⟨fun x hx => hx.elim, fun x hx => ?_, by simp⟩⟩
  have := List.mem_filter.1 hx
  exact h x this.1 this.2

/-- What is fresh is known already. -/
theorem PInv.again {l : List (List UInt8)} {K : List UInt8 → Prop} {fr : List (List UInt8)} {x : List UInt8} {L : List Lk} {wk : List Nat} {ex : List UInt8 → Prop} (h : PInv l K (fr ++ [x]) L wk ex) (hx : K x) : PInv l K fr L wk ex := by
  have no : ∀ {p : List UInt8}, K p ∨ p ∈ fr ++ [x] → K p ∨ p ∈ fr := fun {p} q => by
    rcases q with q | q
    · exact .inl q
    · rcases List.mem_append.1 q with q | q
      · exact .inr q
      · simp at q; subst q; exact .inl hx
  refine ⟨⟨h.rights.1, fun z hz => h.rights.2.1 z (List.mem_append_left _ hz), h.rights.2.2⟩, fun z h1 h2 => no (h.start z h1 h2), fun t h1 h2 p hp => no (h.pair t h1 h2 p hp), fun t p h1 h2 h3 => no (h.sign t p h1 h2 h3), fun t p h1 h2 h3 => no (h.nonce t p h1 h2 h3), fun t k p h1 h2 h3 h4 h5 => ?_, h.waits, h.wakes, fun S hS hl => ?_⟩
  · obtain ⟨lk, k1, k2, k3⟩ := h.shut t k p h1 h2 h3 h4 h5
    exact ⟨lk, k1, k2, k3.imp (fun q => ⟨q.1, no q.2⟩) id⟩
  · obtain ⟨k1, k2, k3⟩ := h.sound S hS hl
    exact ⟨k1, fun z hz => k2 z (List.mem_append_left _ hz), k3⟩

/-- Some locks are to be tried now, nothing else has turned. -/
structure Roused (L L' : List Lk) (wk' : List Nat) (who : Nat → Prop) : Prop where
  len : L'.length = L.length
  same : ∀ (i : Nat) (k k' : Lk), L[i]? = some k → L'[i]? = some k' → k'.blk = k.blk ∧ k'.key = k.key ∧ k'.texts = k.texts ∧ k'.vt = k.vt ∧ k'.opened = k.opened ∧ (k.woken = true → k'.woken = true) ∧ (who i → k.opened = false → k'.woken = true)
  wakes : ∀ (i : Nat) (k' : Lk), L'[i]? = some k' → (k'.woken = true ↔ i ∈ wk')
theorem Roused.back {L L' : List Lk} {wk' : List Nat} {who : Nat → Prop} (h : Roused L L' wk' who) {i : Nat} {k' : Lk} (hk : L'[i]? = some k') : ∃ k, L[i]? = some k := by
  have hi := (List.getElem?_eq_some_iff.1 hk).1
  rw [h.len] at hi
  exact ⟨_, List.getElem?_eq_getElem hi⟩
theorem Roused.forth {L L' : List Lk} {wk' : List Nat} {who : Nat → Prop} (h : Roused L L' wk' who) {k : Lk} (hk : k ∈ L) : ∃ k' ∈ L', k'.key = k.key ∧ k'.texts = k.texts ∧ k'.opened = k.opened := by
  obtain ⟨i, hi, e⟩ := List.getElem_of_mem hk
  have h1 : L[i]? = some k := by rw [List.getElem?_eq_getElem hi, e]
  have hi' : i < L'.length := by rw [h.len]; exact hi
  have h2 : L'[i]? = some (L'[i]'hi') := List.getElem?_eq_getElem hi'
  obtain ⟨_, k2, k3, _, k5, _⟩ := h.same i k _ h1 h2
  exact ⟨_, List.getElem_mem hi', k2, k3, k5⟩
theorem Roused.mem {L L' : List Lk} {wk' : List Nat} {who : Nat → Prop} (h : Roused L L' wk' who) {k' : Lk} (hk : k' ∈ L') : ∃ k ∈ L, k'.key = k.key ∧ k'.texts = k.texts ∧ k'.opened = k.opened := by
  obtain ⟨i, hi, e⟩ := List.getElem_of_mem hk
  have h2 : L'[i]? = some k' := by rw [List.getElem?_eq_getElem hi, e]
  obtain ⟨k, h1⟩ := h.back h2
  obtain ⟨_, k2, k3, _, k5, _⟩ := h.same i k _ h1 h2
  exact ⟨k, List.mem_of_getElem? h1, k2, k3, k5⟩

/-- One more is known; those in whose key it stands are to be tried; what it has in it is fresh. -/
theorem PInv.add {l : List (List UInt8)} {K : List UInt8 → Prop} {fr more : List (List UInt8)} {t : List UInt8} {L L' : List Lk} {wk wk' : List Nat} {who : Nat → Prop} (h : PInv l K (fr ++ [t]) L wk (fun _ => False)) (hR : Roused L L' wk' who)
    (hw : ∀ (i : Nat) (lk : Lk), L[i]? = some lk → (Tm.Sub lk.key t ∨ (t.getD 0 0 = 101 ∧ ∃ x, (Tm.ofL t).head? = some x ∧ Tm.Sub lk.key x)) → who i)
    (h1 : t.getD 0 0 = 112 → ∀ p ∈ Tm.ofL t, p ∈ more) (h2 : t.getD 0 0 = 120 → ∀ p, (Tm.ofL t)[1]? = some p → p ∈ more) (h3 : t.getD 0 0 = 115 → ∀ p, (Tm.ofL t)[1]? = some p → p ∈ more)
    (hr : ∀ p ∈ more, Tm.right p = true) (hs : ∀ S : List UInt8 → Prop, Tm.Closed S → S t → ∀ p ∈ more, S p) :
    PInv l (alsoK K t) (fr ++ more) L' wk' (fun x => x = t) := by
  have ht : Tm.right t = true := h.rights.2.1 t (by simp)
  have up : ∀ {p : List UInt8}, K p ∨ p ∈ fr ++ [t] → alsoK K t p ∨ p ∈ fr ++ more := fun {p} q => by
    rcases q with q | q
    · exact .inl (.inl q)
    · rcases List.mem_append.1 q with q | q
      · exact .inr (List.mem_append_left _ q)
      · simp at q; exact .inl (.inr q)
  refine ⟨⟨?_, ?_, ?_⟩, fun z k1 k2 => up (h.start z k1 k2), ?_, ?_, ?_, ?_, ?_, hR.wakes, ?_⟩
  · rintro x (hx | rfl)
    · exact h.rights.1 x hx
    · exact ht
  · intro x hx
    rcases List.mem_append.1 hx with hx | hx
    · exact h.rights.2.1 x (List.mem_append_left _ hx)
    · exact hr x hx
  · intro k' hk'
    obtain ⟨k, k1, k2, k3, _⟩ := hR.mem hk'
    rw [k2, k3]
    exact h.rights.2.2 k k1
  · rintro x (hx | rfl) k1 p hp
    · exact up (h.pair x hx k1 p hp)
    · exact .inr (List.mem_append_right _ (h1 k1 p hp))
  · rintro x p (hx | rfl) k1 k2
    · exact up (h.sign x p hx k1 k2)
    · exact .inr (List.mem_append_right _ (h2 k1 p k2))
  · rintro x p (hx | rfl) k1 k2
    · exact up (h.nonce x p hx k1 k2)
    · exact .inr (List.mem_append_right _ (h3 k1 p k2))
  · rintro x k p (hx | rfl) hne k1 k2 k3
    · obtain ⟨lk, m1, m2, m3⟩ := h.shut x k p hx (fun q => q) k1 k2 k3
      obtain ⟨lk', n1, n2, n3, n4⟩ := hR.forth m1
      refine ⟨lk', n1, n2.trans m2, ?_⟩
      rw [n3, n4]
      exact m3.imp (fun q => ⟨q.1, up q.2⟩) id
    · exact absurd rfl hne
  · intro i lk' hi ho hwk hm
    obtain ⟨lk, hk⟩ := hR.back hi
    obtain ⟨_, k2, _, _, k5, k6, k7⟩ := hR.same i lk lk' hk hi
    rw [k5] at ho
    rw [k2] at hm
    have hold : lk.woken = false := by
      cases q : lk.woken with
      | false => rfl
      | true => rw [k6 q] at hwk; cases hwk
    rcases Tm.mk_more ht hm with q | q
    · exact h.waits i lk hk ho hold q
    · rw [k7 (hw i lk hk q) ho] at hwk
      cases hwk
  · intro S hS hl
    obtain ⟨k1, k2, k3⟩ := h.sound S hS hl
    have hSt : S t := k2 t (by simp)
    refine ⟨?_, ?_, ?_⟩
    · rintro x (hx | rfl)
      · exact k1 x hx
      · exact hSt
    · intro x hx
      rcases List.mem_append.1 hx with hx | hx
      · exact k2 x (List.mem_append_left _ hx)
      · exact hs S hS hSt x hx
    · intro lk' hm
      obtain ⟨lk, m1, m2, m3, m4⟩ := hR.mem hm
      rw [m2, m3, m4]
      exact k3 lk m1
/-- No seal: nothing has to be kept. -/
theorem PInv.noSeal {l : List (List UInt8)} {K : List UInt8 → Prop} {fr : List (List UInt8)} {t : List UInt8} {L : List Lk} {wk : List Nat} (h : PInv l K fr L wk (fun x => x = t)) (ht : t.getD 0 0 ≠ 115) : PInv l K fr L wk (fun _ => False) :=
  ⟨h.rights, h.start, h.pair, h.sign, h.nonce, fun x k p k1 _ k2 k3 k4 => h.shut x k p k1 (fun e => ht (by rw [← e]; exact k2)) k2 k3 k4, h.waits, h.wakes, h.sound⟩


theorem set_get {L : List Lk} {i j : Nat} {k a b : Lk} (hi : L[i]? = some a) (h : (L.set i k)[j]? = some b) : (j = i ∧ b = k) ∨ (j ≠ i ∧ L[j]? = some b) := by
  by_cases e : j = i
  · subst e
    rw [List.getElem?_set_self (List.getElem?_eq_some_iff.1 hi).1] at h
    cases h
    exact .inl ⟨rfl, rfl⟩
  · rw [List.getElem?_set_ne (fun q => e q.symm)] at h
    exact .inr ⟨e, h⟩
theorem set_mem {L : List Lk} {i : Nat} {k a b : Lk} (hi : L[i]? = some a) (h : b ∈ L.set i k) : b = k ∨ b ∈ L := by
  obtain ⟨j, hj, e⟩ := List.getElem_of_mem h
  have h2 : (L.set i k)[j]? = some b := by rw [List.getElem?_eq_getElem hj, e]
  rcases set_get hi h2 with ⟨_, q⟩ | ⟨_, q⟩
  · exact .inl q
  · exact .inr (List.mem_of_getElem? q)
theorem mem_set_self {L : List Lk} {i : Nat} {k a : Lk} (hi : L[i]? = some a) : k ∈ L.set i k := by
  have hl := (List.getElem?_eq_some_iff.1 hi).1
  have : (L.set i k)[i]? = some k := List.getElem?_set_self hl
  exact List.mem_of_getElem? this
theorem mem_set_other {L : List Lk} {i : Nat} {k a b : Lk} (hi : L[i]? = some a) (h : b ∈ L) : b = a ∨ b ∈ L.set i k := by
  obtain ⟨j, hj, e⟩ := List.getElem_of_mem h
  by_cases q : j = i
  · subst q
    have := (List.getElem?_eq_some_iff.1 hi).2
    exact .inl (by rw [← e, this])
  · right
    have : (L.set i k)[j]? = some b := by rw [List.getElem?_set_ne (fun r => q r.symm), List.getElem?_eq_getElem hj, e]
    exact List.mem_of_getElem? this
/-- A lock was tried, and its key cannot be made. -/
theorem PInv.tryNo {l : List (List UInt8)} {K : List UInt8 → Prop} {fr : List (List UInt8)} {L : List Lk} {wk : List Nat} {i : Nat} {lk : Lk} (h : PInv l K fr L (wk ++ [i]) (fun _ => False)) (hn : i ∉ wk) (hi : L[i]? = some lk) (hm : ¬ Tm.Mk K lk.key) :
    PInv l K fr (L.set i { lk with woken := false }) wk (fun _ => False) := by
  have hlm := List.mem_of_getElem? hi
  refine ⟨⟨h.rights.1, h.rights.2.1, fun k hk => ?_⟩, h.start, h.pair, h.sign, h.nonce, fun t k p k1 k2 k3 k4 k5 => ?_, fun j k hj k1 k2 k3 => ?_, fun j k hj => ?_, fun S hS hl => ?_⟩
  · rcases set_mem hi hk with rfl | hk
    · exact h.rights.2.2 lk hlm
    · exact h.rights.2.2 k hk
  · obtain ⟨b, m1, m2, m3⟩ := h.shut t k p k1 k2 k3 k4 k5
    rcases mem_set_other (k := { lk with woken := false }) hi m1 with rfl | m1
    · exact ⟨_, mem_set_self hi, m2, m3⟩
    · exact ⟨b, m1, m2, m3⟩
  · rcases set_get hi hj with ⟨_, rfl⟩ | ⟨_, q⟩
    · exact hm k3
    · exact h.waits j k q k1 k2 k3
  · rcases set_get hi hj with ⟨rfl, rfl⟩ | ⟨hne, q⟩
    · simp [hn]
    · rw [h.wakes j k q]
      simp [hne]
  · obtain ⟨s1, s2, s3⟩ := h.sound S hS hl
    refine ⟨s1, s2, fun k hk => ?_⟩
    rcases set_mem hi hk with rfl | hk
    · exact s3 lk hlm
    · exact s3 k hk
/-- A lock was tried, and opens: what its seals keep is fresh. -/
theorem PInv.tryYes {l : List (List UInt8)} {K : List UInt8 → Prop} {fr : List (List UInt8)} {L : List Lk} {wk : List Nat} {i : Nat} {lk : Lk} (h : PInv l K fr L (wk ++ [i]) (fun _ => False)) (hn : i ∉ wk) (hi : L[i]? = some lk) (hm : Tm.Mk K lk.key) (v : Value) :
    PInv l K (fr ++ lk.texts) (L.set i { lk with woken := false, opened := true, texts := [], vt := v }) wk (fun _ => False) := by
  have hlm := List.mem_of_getElem? hi
  have up : ∀ {p : List UInt8}, K p ∨ p ∈ fr → K p ∨ p ∈ fr ++ lk.texts := fun q => q.imp id (fun r => List.mem_append_left _ r)
  refine ⟨⟨h.rights.1, fun x hx => ?_, fun k hk => ?_⟩, fun x k1 k2 => up (h.start x k1 k2), fun t k1 k2 p hp => up (h.pair t k1 k2 p hp), fun t p k1 k2 k3 => up (h.sign t p k1 k2 k3), fun t p k1 k2 k3 => up (h.nonce t p k1 k2 k3), fun t k p k1 k2 k3 k4 k5 => ?_, fun j k hj k1 k2 k3 => ?_, fun j k hj => ?_, fun S hS hl => ?_⟩
  · rcases List.mem_append.1 hx with hx | hx
    · exact h.rights.2.1 x hx
    · exact (h.rights.2.2 lk hlm).2 x hx
  · rcases set_mem hi hk with rfl | hk
    · exact ⟨(h.rights.2.2 lk hlm).1, by simp⟩
    · exact h.rights.2.2 k hk
  · obtain ⟨b, m1, m2, m3⟩ := h.shut t k p k1 k2 k3 k4 k5
    rcases mem_set_other (k := { lk with woken := false, opened := true, texts := [], vt := v }) hi m1 with rfl | m1
    · refine ⟨_, mem_set_self hi, m2, .inl ⟨rfl, ?_⟩⟩
      rcases m3 with ⟨_, q⟩ | ⟨_, q⟩
      · exact up q
      · exact .inr (List.mem_append_right _ q)
    · exact ⟨b, m1, m2, m3.imp (fun q => ⟨q.1, up q.2⟩) id⟩
  · rcases set_get hi hj with ⟨_, rfl⟩ | ⟨_, q⟩
    · cases k1
    · exact h.waits j k q k1 k2 k3
  · rcases set_get hi hj with ⟨rfl, rfl⟩ | ⟨hne, q⟩
    · simp [hn]
    · rw [h.wakes j k q]
      simp [hne]
  · obtain ⟨s1, s2, s3⟩ := h.sound S hS hl
    have hmS : Tm.Mk S lk.key := hm.mono s1
    refine ⟨s1, fun x hx => ?_, fun k hk => ?_⟩
    · rcases List.mem_append.1 hx with hx | hx
      · exact s2 x hx
      · exact (s3 lk hlm).2 x hx hmS
    · rcases set_mem hi hk with rfl | hk
      · exact ⟨fun _ => hmS, by simp⟩
      · exact s3 k hk
/-- A seal whose lock is open: its text is fresh. -/
theorem PInv.keepOpen {l : List (List UInt8)} {K : List UInt8 → Prop} {fr : List (List UInt8)} {L : List Lk} {wk : List Nat} {t y p : List UInt8} {lk : Lk} (h : PInv l K fr L wk (fun x => x = t)) (ht : K t) (hk : t.getD 0 0 = 115) (ho : Tm.ofL t = [lk.key, y, p]) (hp : Tm.right p = true) (hl : lk ∈ L) (hop : lk.opened = true) :
    PInv l K (fr ++ [p]) L wk (fun _ => False) := by
  have up : ∀ {q : List UInt8}, K q ∨ q ∈ fr → K q ∨ q ∈ fr ++ [p] := fun q => q.imp id (fun r => List.mem_append_left _ r)
  refine ⟨⟨h.rights.1, fun x hx => ?_, h.rights.2.2⟩, fun x k1 k2 => up (h.start x k1 k2), fun t k1 k2 p hp => up (h.pair t k1 k2 p hp), fun t p k1 k2 k3 => up (h.sign t p k1 k2 k3), fun t p k1 k2 k3 => up (h.nonce t p k1 k2 k3), fun t2 k p2 k1 _ k3 k4 k5 => ?_, h.waits, h.wakes, fun S hS hl2 => ?_⟩
  · rcases List.mem_append.1 hx with hx | hx
    · exact h.rights.2.1 x hx
    · simp at hx; rw [hx]; exact hp
  · by_cases e : t2 = t
    · subst e
      rw [ho] at k4 k5
      simp at k4 k5
      subst k4 k5
      exact ⟨lk, hl, rfl, .inl ⟨hop, .inr (by simp)⟩⟩
    · obtain ⟨b, m1, m2, m3⟩ := h.shut t2 k p2 k1 e k3 k4 k5
      exact ⟨b, m1, m2, m3.imp (fun q => ⟨q.1, up q.2⟩) id⟩
  · obtain ⟨s1, s2, s3⟩ := h.sound S hS hl2
    refine ⟨s1, fun x hx => ?_, s3⟩
    rcases List.mem_append.1 hx with hx | hx
    · exact s2 x hx
    · simp at hx
      rw [hx]
      exact hS.opens t lk.key p (s1 t ht) hk (by rw [ho]; rfl) (by rw [ho]; rfl) ((s3 lk hl).1 hop)
/-- A seal whose lock is shut: its text is kept. -/
theorem PInv.keepShut {l : List (List UInt8)} {K : List UInt8 → Prop} {fr : List (List UInt8)} {L : List Lk} {wk : List Nat} {t y p : List UInt8} {lk : Lk} {i : Nat} (h : PInv l K fr L wk (fun x => x = t)) (ht : K t) (hk : t.getD 0 0 = 115) (ho : Tm.ofL t = [lk.key, y, p]) (hp : Tm.right p = true) (hi : L[i]? = some lk) (hop : lk.opened = false) (v : Value) :
    PInv l K fr (L.set i { lk with texts := lk.texts ++ [p], vt := v }) wk (fun _ => False) := by
  have hlm := List.mem_of_getElem? hi
  refine ⟨⟨h.rights.1, h.rights.2.1, fun k hk2 => ?_⟩, h.start, h.pair, h.sign, h.nonce, fun t2 k p2 k1 _ k3 k4 k5 => ?_, fun j k hj k1 k2 k3 => ?_, fun j k hj => ?_, fun S hS hl => ?_⟩
  · rcases set_mem hi hk2 with rfl | hk2
    · refine ⟨(h.rights.2.2 lk hlm).1, fun q hq => ?_⟩
      rcases List.mem_append.1 hq with hq | hq
      · exact (h.rights.2.2 lk hlm).2 q hq
      · simp at hq; rw [hq]; exact hp
    · exact h.rights.2.2 k hk2
  · by_cases e : t2 = t
    · subst e
      rw [ho] at k4 k5
      simp at k4 k5
      subst k4 k5
      exact ⟨_, mem_set_self hi, rfl, .inr ⟨hop, by simp⟩⟩
    · obtain ⟨b, m1, m2, m3⟩ := h.shut t2 k p2 k1 e k3 k4 k5
      rcases mem_set_other (k := { lk with texts := lk.texts ++ [p], vt := v }) hi m1 with rfl | m1
      · exact ⟨_, mem_set_self hi, m2, m3.imp id (fun q => ⟨q.1, List.mem_append_left _ q.2⟩)⟩
      · exact ⟨b, m1, m2, m3⟩
  · rcases set_get hi hj with ⟨e, rfl⟩ | ⟨_, q⟩
    · exact h.waits i lk hi k1 k2 k3
    · exact h.waits j k q k1 k2 k3
  · rcases set_get hi hj with ⟨e, rfl⟩ | ⟨_, q⟩
    · rw [e]; exact h.wakes i lk hi
    · exact h.wakes j k q
  · obtain ⟨s1, s2, s3⟩ := h.sound S hS hl
    refine ⟨s1, s2, fun k hk2 => ?_⟩
    rcases set_mem hi hk2 with rfl | hk2
    · refine ⟨(s3 lk hlm).1, fun q hq hmk => ?_⟩
      rcases List.mem_append.1 hq with hq | hq
      · exact (s3 lk hlm).2 q hq hmk
      · simp at hq
        rw [hq]
        exact hS.opens t lk.key p (s1 t ht) hk (by rw [ho]; rfl) (by rw [ho]; rfl) hmk
    · exact s3 k hk2
/-- A new lock, which is to be tried. -/
theorem PInv.newLock {l : List (List UInt8)} {K : List UInt8 → Prop} {fr : List (List UInt8)} {L : List Lk} {wk : List Nat} {ex : List UInt8 → Prop} (h : PInv l K fr L wk ex) (b : Nat) (key : List UInt8) (hr : Tm.right key = true) (v : Value) :
    PInv l K fr (L ++ [⟨b, key, [], v, false, true⟩]) (wk ++ [L.length]) ex := by
  have get : ∀ (j : Nat) (k : Lk), (L ++ [⟨b, key, [], v, false, true⟩])[j]? = some k → (L[j]? = some k ∧ j < L.length) ∨ (j = L.length ∧ k = ⟨b, key, [], v, false, true⟩) := fun j k hj => by
    by_cases hl : j < L.length
    · rw [List.getElem?_append_left hl] at hj
      exact .inl ⟨hj, hl⟩
    · rw [List.getElem?_append_right (by omega)] at hj
      have := (List.getElem?_eq_some_iff.1 hj).1
      simp at this
      have e : j - L.length = 0 := by omega
      rw [e] at hj
      simp at hj
      exact .inr ⟨by omega, hj.symm⟩
  refine ⟨⟨h.rights.1, h.rights.2.1, fun k hk => ?_⟩, h.start, h.pair, h.sign, h.nonce, fun t k p k1 k2 k3 k4 k5 => ?_, fun j k hj k1 k2 k3 => ?_, fun j k hj => ?_, fun S hS hl => ?_⟩
  · rcases List.mem_append.1 hk with hk | hk
    · exact h.rights.2.2 k hk
    · simp at hk; subst hk; exact ⟨hr, by simp⟩
  · obtain ⟨lk, m1, m2⟩ := h.shut t k p k1 k2 k3 k4 k5
    exact ⟨lk, List.mem_append_left _ m1, m2⟩
  · rcases get j k hj with ⟨q, _⟩ | ⟨_, rfl⟩
    · exact h.waits j k q k1 k2 k3
    · cases k2
  · rcases get j k hj with ⟨q, hlt⟩ | ⟨rfl, rfl⟩
    · rw [h.wakes j k q]
      simp
      omega
    · simp
  · obtain ⟨s1, s2, s3⟩ := h.sound S hS hl
    refine ⟨s1, s2, fun k hk => ?_⟩
    rcases List.mem_append.1 hk with hk | hk
    · exact s3 k hk
    · simp at hk; subst hk; exact ⟨fun q => (by cases q), by simp⟩


end Go.Proofs.Ytloheongiceliaa
end

section
namespace Go.Proofs.Ytloheongiceliaa
open Go.ChangeShapes Go.WideShapes Go.ChangeAt Go.RowKit

def ptrL (L : List Lk) (i : Nat) : Value := .pointer (some ⟨((L[i]?).map Lk.blk).getD 0, 0, none⟩)
theorem ptrL_at {L : List Lk} {i : Nat} {k : Lk} (h : L[i]? = some k) : ptrL L i = .pointer (some ⟨k.blk, 0, none⟩) := by simp [ptrL, h]
/-- The blocks of the locks stay. -/
theorem ptrL_same {L L' : List Lk} (hl : L'.length = L.length) (hb : ∀ (i : Nat) (k k' : Lk), L[i]? = some k → L'[i]? = some k' → k'.blk = k.blk) (i : Nat) : ptrL L' i = ptrL L i := by
  unfold ptrL
  by_cases hi : i < L.length
  · have h1 : L[i]? = some (L[i]'hi) := List.getElem?_eq_getElem hi
    have hi' : i < L'.length := by omega
    have h2 : L'[i]? = some (L'[i]'hi') := List.getElem?_eq_getElem hi'
    rw [h1, h2, Option.map_some, Option.map_some, hb i _ _ h1 h2]
  · rw [List.getElem?_eq_none (by omega), List.getElem?_eq_none (by omega)]

/-- A lock, as it lies in memory. -/
structure LockI (W : World) (T : Nat → Nat) (i : Nat) (k : Lk) : Prop where
  block : W.heap[k.blk]? = some (.cells #[.string ⟨k.key.toArray⟩, k.vt, .bool k.opened, .bool k.woken] 170 (0, 0))
  tag : T k.blk = 6 + 2 * i
  row : W.ownsRow 0 24 1 k.vt k.texts.length (strs k.texts)
  trow : ∀ q, k.vt.ownBlock = some q → T q = 7 + 2 * i
  empty : k.texts = [] → k.vt = .slice none 0 0

/-- A gatherer. Marks: 1 the row's blocks, 2 its own block and maps, 3 what is fresh, 4 who is to be tried, 5 the rows of the map by terms, 6 and 7 (and two more for each lock) a lock and its texts; 0: nobody's. -/
structure GI (W : World) (T : Nat → Nat) (g r sm pm lm wm n N M : Nat) (K : List UInt8 → Prop) (fr : List (List UInt8)) (vf : Value) (L : List Lk) (wk : List Nat) (vw : Value) (Fl Hw : List UInt8 → Option Value) (ids : List UInt8 → List Nat) : Prop where
  block : W.heap[g]? = some (.cells (gCells r vf lm wm vw) 121 (0, 0))
  tags : T g = 2 ∧ T lm = 2 ∧ T wm = 2
  row : RowI W T r sm pm n N K
  fresh : W.ownsRow 0 24 1 vf fr.length (strs fr) ∧ ∀ q, vf.ownBlock = some q → T q = 3
  woken : W.ownsRow 0 153 1 vw wk.length (wk.map (ptrL L)) ∧ ∀ q, vw.ownBlock = some q → T q = 4
  wkin : (∀ i ∈ wk, i < L.length) ∧ wk.Nodup
  lmap : MapAt W lm M Fl
  lfind : ∀ key, (Fl key = none ∧ ∀ k ∈ L, k.key ≠ key) ∨ ∃ i k, L[i]? = some k ∧ k.key = key ∧ Fl key = some (ptrL L i)
  wmap : MapAt W wm (700001 * M) Hw
  within : ∀ t, W.ownsRow 0 153 1 (slot0 Hw t) (ids t).length ((ids t).map (ptrL L)) ∧ (∀ q, (slot0 Hw t).ownBlock = some q → T q = 5) ∧ (∀ i ∈ ids t, i < L.length) ∧ (ids t).length ≤ M
  wsep : ∀ t u q, (slot0 Hw t).ownBlock = some q → (slot0 Hw u).ownBlock = some q → t = u
  covers : ∀ (i : Nat) (k : Lk), L[i]? = some k → ∀ t, Tm.Sub k.key t → i ∈ ids t
  locks : ∀ (i : Nat) (k : Lk), L[i]? = some k → LockI W T i k
  zero : ∀ q, W.heap.size ≤ q → T q = 0

/-- What is nobody's lies as it lay. -/
structure Touch (T : Nat → Nat) (W W' : World) : Prop where
  os : W'.os = W.os
  tape : W'.tape = W.tape
  output : W'.output = W.output
  size : W.heap.size ≤ W'.heap.size
  same : ∀ q, q < W.heap.size → T q = 0 → W'.heap[q]? = W.heap[q]?
theorem Touch.refl (T : Nat → Nat) (W : World) : Touch T W W := ⟨rfl, rfl, rfl, Nat.le_refl _, fun _ _ _ => rfl⟩
theorem Touch.trans {T T' : Nat → Nat} {W W' W'' : World} (h : Touch T W W') (k : Touch T' W' W'') (ht : ∀ q, q < W.heap.size → T' q = T q) : Touch T W W'' :=
  ⟨k.os.trans h.os, k.tape.trans h.tape, k.output.trans h.output, Nat.le_trans h.size k.size, fun q hq h0 => (k.same q (Nat.lt_of_lt_of_le hq h.size) (by rw [ht q hq]; exact h0)).trans (h.same q hq h0)⟩

theorem RowI.retag {W : World} {T T' : Nat → Nat} {r sm pm n N : Nat} {K : List UInt8 → Prop} (h : RowI W T r sm pm n N K) (hT : ∀ q, q < W.heap.size → T' q = T q) (hf : ∀ q, W.heap.size ≤ q → T' q ≠ 1) : RowI W T' r sm pm n N K := by
  obtain ⟨l1, l2, l3⟩ := h.lt
  obtain ⟨G, Pw, p1, p2, p3⟩ := h.pow
  refine ⟨h.block, ⟨(hT r l1).trans h.tags.1, (hT sm l2).trans h.tags.2.1, (hT pm l3).trans h.tags.2.2⟩, h.ne, h.stand, ⟨G, Pw, p1, fun x => ?_, p3⟩, h.right, hf⟩
  obtain ⟨k1, vals, k2, k3⟩ := p2 x
  have lt : ∀ {B : Nat} {e : TypeId} {v : Value} {m : Nat} {xs : List Value} {q : Nat}, W.ownsRow B e 1 v m xs → v.ownBlock = some q → q < W.heap.size := fun hv he => by
    obtain ⟨cur, hc⟩ := row_cells hv he
    exact (Array.getElem?_eq_some_iff.1 hc).1
  refine ⟨fun q e => (hT q (lt k2 e)).trans (k1 q e), vals, k2, fun i l hi => ?_⟩
  obtain ⟨u, m1, m2, m3⟩ := k3 i l hi
  exact ⟨u, m1, m2, fun q e => (hT q (lt m2 e)).trans (m3 q e)⟩
theorem row_lt {W : World} {B : Nat} {e : TypeId} {size m : Nat} {v : Value} {xs : List Value} {q : Nat} (h : W.ownsRow B e size v m xs) (he : v.ownBlock = some q) : q < W.heap.size := by
  obtain ⟨cur, hc⟩ := row_cells h he
  exact (Array.getElem?_eq_some_iff.1 hc).1

section
variable {W W' : World} {T T' : Nat → Nat} {g r sm pm lm wm n N M : Nat} {K : List UInt8 → Prop} {fr : List (List UInt8)} {vf : Value} {L : List Lk} {wk : List Nat} {vw : Value} {Fl Hw : List UInt8 → Option Value} {ids : List UInt8 → List Nat}
/-- What carries over where only blocks of some marks have turned. -/
structure Carried (W' : World) (T' : Nat → Nat) (c : Nat → Prop) (g r sm pm lm wm n N M : Nat) (K : List UInt8 → Prop) (fr : List (List UInt8)) (vf : Value) (L : List Lk) (wk : List Nat) (vw : Value) (Fl Hw : List UInt8 → Option Value) (ids : List UInt8 → List Nat) : Prop where
  tags : T' g = 2 ∧ T' lm = 2 ∧ T' wm = 2
  row : ¬ c 1 → RowI W' T' r sm pm n N K
  block : ¬ c 2 → W'.heap[g]? = some (.cells (gCells r vf lm wm vw) 121 (0, 0))
  lmap : ¬ c 2 → MapAt W' lm M Fl
  wmap : ¬ c 2 → MapAt W' wm (700001 * M) Hw
  fresh : ¬ c 3 → W'.ownsRow 0 24 1 vf fr.length (strs fr) ∧ ∀ q, vf.ownBlock = some q → T' q = 3
  woken : ¬ c 4 → W'.ownsRow 0 153 1 vw wk.length (wk.map (ptrL L)) ∧ ∀ q, vw.ownBlock = some q → T' q = 4
  within : ¬ c 5 → ∀ t, W'.ownsRow 0 153 1 (slot0 Hw t) (ids t).length ((ids t).map (ptrL L)) ∧ (∀ q, (slot0 Hw t).ownBlock = some q → T' q = 5) ∧ (∀ i ∈ ids t, i < L.length) ∧ (ids t).length ≤ M
  locks : ∀ (i : Nat) (k : Lk), L[i]? = some k → ¬ c (6 + 2 * i) → ¬ c (7 + 2 * i) → LockI W' T' i k
theorem GI.carry (h : GI W T g r sm pm lm wm n N M K fr vf L wk vw Fl Hw ids) (hsz : W.heap.size ≤ W'.heap.size) (c : Nat → Prop) (hs : ∀ q, q < W.heap.size → ¬ c (T q) → W'.heap[q]? = W.heap[q]?) (hT : ∀ q, q < W.heap.size → T' q = T q) (h1 : ∀ q, W.heap.size ≤ q → T' q ≠ 1) :
    Carried W' T' c g r sm pm lm wm n N M K fr vf L wk vw Fl Hw ids := by
  have lg := (Array.getElem?_eq_some_iff.1 h.block).1
  have ll := h.lmap.lt
  have lw := h.wmap.lt
  refine ⟨⟨(hT g lg).trans h.tags.1, (hT lm ll).trans h.tags.2.1, (hT wm lw).trans h.tags.2.2⟩, fun hc => ?_, fun hc => ?_, fun hc => ?_, fun hc => ?_, fun hc => ?_, fun hc => ?_, fun hc t => ?_, fun i k hi c1 c2 => ?_⟩
  · exact (h.row.retag hT h1).keep hsz (fun q hq hl => hs q hl (by rw [← hT q hl, hq]; exact hc))
  · exact (hs g lg (by rw [h.tags.1]; exact hc)).trans h.block
  · exact h.lmap.same (hs lm ll (by rw [h.tags.2.1]; exact hc))
  · exact h.wmap.same (hs wm lw (by rw [h.tags.2.2]; exact hc))
  · exact ⟨row_same h.fresh.1 (fun q e => hs q (row_lt h.fresh.1 e) (by rw [h.fresh.2 q e]; exact hc)), fun q e => (hT q (row_lt h.fresh.1 e)).trans (h.fresh.2 q e)⟩
  · exact ⟨row_same h.woken.1 (fun q e => hs q (row_lt h.woken.1 e) (by rw [h.woken.2 q e]; exact hc)), fun q e => (hT q (row_lt h.woken.1 e)).trans (h.woken.2 q e)⟩
  · obtain ⟨k1, k2, k3⟩ := h.within t
    exact ⟨row_same k1 (fun q e => hs q (row_lt k1 e) (by rw [k2 q e]; exact hc)), fun q e => (hT q (row_lt k1 e)).trans (k2 q e), k3⟩
  · have hk := h.locks i k hi
    have lb := (Array.getElem?_eq_some_iff.1 hk.block).1
    exact ⟨(hs k.blk lb (by rw [hk.tag]; exact c1)).trans hk.block, (hT k.blk lb).trans hk.tag, row_same hk.row (fun q e => hs q (row_lt hk.row e) (by rw [hk.trow q e]; exact c2)), fun q e => (hT q (row_lt hk.row e)).trans (hk.trow q e), hk.empty⟩
end

end Go.Proofs.Ytloheongiceliaa
end

section
namespace Go.Proofs.Ytloheongiceliaa
open Go.ChangeShapes Go.WideShapes Go.ChangeAt Go.RowKit

theorem info_lock : (Try.prog.info? 153).map (fun i => (i.zero, i.size, i.bytes)) = some (some (.pointer none), 1, 8) := by kernel_rfl
theorem set_ptr {L : List Lk} {i : Nat} {k k2 : Lk} (hi : L[i]? = some k) (hb : k2.blk = k.blk) : ptrL (L.set i k2) = ptrL L := by
  funext j
  refine ptrL_same (by simp) (fun j a b h1 h2 => ?_) j
  rcases set_get hi h2 with ⟨rfl, rfl⟩ | ⟨_, q⟩
  · rw [hi] at h1; cases h1; exact hb
  · rw [h1] at q; cases q; rfl
def RouseOut (W : World) (T : Nat → Nat) (g r sm pm lm wm n N M : Nat) (K : List UInt8 → Prop) (fr : List (List UInt8)) (vf : Value) (L : List Lk) (wk : List Nat) (Fl Hw : List UInt8 → Option Value) (ids : List UInt8 → List Nat) (i : Nat) (k : Lk) (e : Ending) (W' : World) : Prop :=
  e = .returned (.tuple #[]) ∧ ∃ T' L' wk' vw', GI W' T' g r sm pm lm wm n N M K fr vf L' wk' vw' Fl Hw ids ∧ ((L' = L ∧ wk' = wk ∧ (k.opened = true ∨ k.woken = true)) ∨ (L' = L.set i { k with woken := true } ∧ wk' = wk ++ [i] ∧ k.opened = false ∧ k.woken = false)) ∧ (∀ q, q < W.heap.size → T' q = T q) ∧ Touch T W W'

section
variable {W W' : World} {T T' : Nat → Nat} {g r sm pm lm wm n N M : Nat} {K : List UInt8 → Prop} {fr : List (List UInt8)} {vf : Value} {L : List Lk} {wk : List Nat} {vw : Value} {Fl Hw : List UInt8 → Option Value} {ids : List UInt8 → List Nat}
theorem GI.gcell (h : GI W T g r sm pm lm wm n N M K fr vf L wk vw Fl Hw ids) : W.cell? ⟨g, 0, none⟩ = some (.pointer (some ⟨r, 0, none⟩)) ∧ W.cell? ⟨g, 1, none⟩ = some vf ∧ W.cell? ⟨g, 2, none⟩ = some (.map (some lm)) ∧ W.cell? ⟨g, 3, none⟩ = some (.map (some wm)) ∧ W.cell? ⟨g, 4, none⟩ = some vw ∧ (∀ j, W.frozen? ⟨g, j, none⟩ = false) := by
  have := h.block
  refine ⟨?_, ?_, ?_, ?_, ?_, fun j => ?_⟩ <;> simp [World.cell?, World.frozen?, this, gCells]
theorem LockI.cell {i : Nat} {k : Lk} (h : LockI W T i k) : W.cell? ⟨k.blk, 0, none⟩ = some (.string ⟨k.key.toArray⟩) ∧ W.cell? ⟨k.blk, 1, none⟩ = some k.vt ∧ W.cell? ⟨k.blk, 2, none⟩ = some (.bool k.opened) ∧ W.cell? ⟨k.blk, 3, none⟩ = some (.bool k.woken) ∧ (∀ j, W.frozen? ⟨k.blk, j, none⟩ = false) := by
  have := h.block
  refine ⟨?_, ?_, ?_, ?_, fun j => ?_⟩ <;> simp [World.cell?, World.frozen?, this]

/-- Behind a rouse. -/
theorem GI.roused {i : Nat} {k : Lk} {w2 : World} {v2 : Value} (h : GI W T g r sm pm lm wm n N M K fr vf L wk vw Fl Hw ids) (hi : L[i]? = some k) (hwi : i ∉ wk) (hg : (W.setCell ⟨k.blk, 3, none⟩ (.bool true)).grownBy w2 vw.ownBlock)
    (hown : w2.ownsRow 0 153 1 v2 (wk.length + 1) (wk.map (ptrL L) ++ [ptrL L i])) (hat : v2.ownBlock = vw.ownBlock ∨ ∃ q, v2.ownBlock = some q ∧ W.heap.size ≤ q) :
    GI (w2.setCell ⟨g, 4, none⟩ v2) (fun q => if v2.ownBlock = some q then 4 else T q) g r sm pm lm wm n N M K fr vf (L.set i { k with woken := true }) (wk ++ [i]) v2 Fl Hw ids ∧ (∀ q, q < W.heap.size → (if v2.ownBlock = some q then 4 else T q) = T q) ∧ Touch T W (w2.setCell ⟨g, 4, none⟩ v2) := by
  have hk := h.locks i k hi
  have lg := (Array.getElem?_eq_some_iff.1 h.block).1
  have lb := (Array.getElem?_eq_some_iff.1 hk.block).1
  have hs1 : (W.setCell ⟨k.blk, 3, none⟩ (.bool true)).heap.size = W.heap.size := by simp [World.setCell]
  have hsz2 : W.heap.size ≤ w2.heap.size := by have := hg.size; rw [hs1] at this; exact this
  have hvw : ∀ q, vw.ownBlock = some q → T q = 4 := h.woken.2
  have hsame : ∀ q, q < W.heap.size → q ≠ g → q ≠ k.blk → vw.ownBlock ≠ some q → (w2.setCell ⟨g, 4, none⟩ v2).heap[q]? = W.heap[q]? := fun q hq h1 h2 h3 =>
    ((Below.heap_setCell _ _ _ _ h1).trans (hg.block q (by rw [hs1]; exact hq) (fun e => h3 e.symm))).trans (Below.heap_setCell _ _ _ _ h2)
  have hT : ∀ q, q < W.heap.size → (if v2.ownBlock = some q then 4 else T q) = T q := fun q hq => by
    split
    · rename_i e
      rcases hat with h1 | ⟨q', h1, h2⟩
      · exact (hvw q (h1 ▸ e)).symm
      · rw [h1] at e; cases e; omega
    · rfl
  have hgk : g ≠ k.blk := fun e => by have := h.block; rw [e, hk.block] at this; simp at this
  have hc := h.carry (W' := w2.setCell ⟨g, 4, none⟩ v2) (T' := fun q => if v2.ownBlock = some q then 4 else T q) (by simp [World.setCell]; exact hsz2) (fun x => x = 2 ∨ x = 4 ∨ x = 6 + 2 * i)
    (fun q hq hn => hsame q hq (fun e => hn (.inl (by rw [e]; exact h.tags.1))) (fun e => hn (.inr (.inr (by rw [e]; exact hk.tag)))) (fun e => hn (.inr (.inl (hvw q e))))) hT
    (fun q hq => by
      show (if v2.ownBlock = some q then 4 else T q) ≠ 1
      split
      · omega
      · rw [h.zero q hq]; omega)
  have ep : ptrL (L.set i { k with woken := true }) = ptrL L := set_ptr hi rfl
  have gone : ∀ q, (∃ es clock, W.heap[q]? = some (.map es clock)) → q < W.heap.size → (w2.setCell ⟨g, 4, none⟩ v2).heap[q]? = W.heap[q]? := fun q ⟨es, cl, hm⟩ hq =>
    hsame q hq (fun e => by rw [e, h.block] at hm; cases hm) (fun e => by rw [e, hk.block] at hm; cases hm) (fun e => by
      obtain ⟨cur, hcur⟩ := row_cells h.woken.1 e
      rw [hm] at hcur; cases hcur)
  refine ⟨⟨?_, hc.tags, hc.row (by omega), hc.fresh (by omega), ⟨?_, ?_⟩, ⟨?_, ?_⟩, h.lmap.same (gone lm h.lmap.block h.lmap.lt), ?_, h.wmap.same (gone wm h.wmap.block h.wmap.lt), ?_, h.wsep, ?_, ?_, ?_⟩, hT, ?_⟩
  · have hb2 : w2.heap[g]? = some (.cells (gCells r vf lm wm vw) 121 (0, 0)) := by
      refine ((hg.block g (by rw [hs1]; exact lg) (fun e => ?_)).trans (Below.heap_setCell _ _ _ _ hgk)).trans h.block
      have := hvw g e.symm
      rw [h.tags.1] at this
      omega
    rw [set_block hb2]
    rfl
  · rw [ep]
    have : wk.length + 1 = (wk ++ [i]).length := by simp
    rw [← this, List.map_append]
    refine row_same hown (fun q e => Below.heap_setCell _ _ _ _ (fun e2 => ?_))
    have e3 : q = g := e2
    rw [e3] at e
    rcases hat with h1 | ⟨q', h1, h2⟩
    · have := hvw g (h1 ▸ e); rw [h.tags.1] at this; omega
    · rw [h1] at e
      have e4 : q' = g := by simpa using e
      omega
  · intro q e
    simp [e]
  · intro j hj
    rw [List.length_set]
    rcases List.mem_append.1 hj with hj | hj
    · exact h.wkin.1 j hj
    · simp at hj; subst hj; exact (List.getElem?_eq_some_iff.1 hi).1
  · rw [List.nodup_append]
    exact ⟨h.wkin.2, by simp, by intro a ha b hb; simp at hb; subst hb; rintro rfl; exact hwi ha⟩
  · intro key
    rcases h.lfind key with ⟨h1, h2⟩ | ⟨j, k', h1, h2, h3⟩
    · refine .inl ⟨h1, fun a ha => ?_⟩
      rcases set_mem hi ha with rfl | ha
      · exact h2 k (List.mem_of_getElem? hi)
      · exact h2 a ha
    · rw [ep]
      by_cases e : j = i
      · subst e
        rw [hi] at h1; cases h1
        exact .inr ⟨j, { k with woken := true }, List.getElem?_set_self (List.getElem?_eq_some_iff.1 hi).1, h2, h3⟩
      · exact .inr ⟨j, k', by rw [List.getElem?_set_ne (fun q => e q.symm)]; exact h1, h2, h3⟩
  · intro t
    rw [ep, List.length_set]
    exact hc.within (by omega) t
  · intro j a ha t ht
    rcases set_get hi ha with ⟨rfl, rfl⟩ | ⟨_, q⟩
    · exact h.covers j k hi t ht
    · exact h.covers j a q t ht
  · intro j a ha
    rcases set_get hi ha with ⟨rfl, rfl⟩ | ⟨hne, q⟩
    · have hbk : (w2.setCell ⟨g, 4, none⟩ v2).heap[k.blk]? = some (.cells #[.string ⟨k.key.toArray⟩, k.vt, .bool k.opened, .bool true] 170 (0, 0)) := by
        refine ((Below.heap_setCell _ _ _ _ (fun e => hgk e.symm)).trans (hg.block k.blk (by rw [hs1]; exact lb) (fun e => ?_))).trans ?_
        · have := hvw k.blk e.symm; rw [hk.tag] at this; omega
        · rw [set_block hk.block]; rfl
      refine ⟨hbk, (hT k.blk lb).trans hk.tag, row_same hk.row (fun q e => hsame q (row_lt hk.row e) ?_ ?_ ?_), fun q e => (hT q (row_lt hk.row e)).trans (hk.trow q e), hk.empty⟩
      · intro e2; have := hk.trow q e; rw [e2, h.tags.1] at this; omega
      · intro e2; have := hk.trow q e; rw [e2, hk.tag] at this; omega
      · intro e2; have := hk.trow q e; rw [hvw q e2] at this; omega
    · exact hc.locks j a q (by omega) (by omega)
  · intro q hq
    have hsz : (w2.setCell ⟨g, 4, none⟩ v2).heap.size = w2.heap.size := by simp [World.setCell]
    rw [hsz] at hq
    show (if v2.ownBlock = some q then 4 else T q) = 0
    rw [if_neg (fun e => by have := row_lt hown e; omega)]
    exact h.zero q (by omega)
  · refine ⟨hg.os, hg.tape, hg.output, by simp [World.setCell]; exact hsz2, fun q hq h0 => hsame q hq ?_ ?_ ?_⟩
    · intro e; rw [e, h.tags.1] at h0; omega
    · intro e; rw [e, hk.tag] at h0; omega
    · intro e; rw [hvw q e] at h0; omega
end

end Go.Proofs.Ytloheongiceliaa
end

section
namespace Go.Proofs.Ytloheongiceliaa
open Go.ChangeShapes Go.WideShapes Go.ChangeAt Go.RowKit

theorem nodup_few : ∀ (n : Nat) (l : List Nat), l.Nodup → (∀ i ∈ l, i < n) → l.length ≤ n := by
  intro n
  induction n with
  | zero =>
    intro l _ h
    cases l with
    | nil => simp
    | cons a l => have := h a (by simp); omega
  | succ n ih =>
    intro l hl h
    by_cases hm : n ∈ l
    · have hp := List.perm_cons_erase hm
      have h2 := ih (l.erase n) (hl.erase n) (fun i hi => by
        have h3 := h i (List.mem_of_mem_erase hi)
        have h4 : i ≠ n := fun e => by rw [e] at hi; exact hl.not_mem_erase hi
        omega)
      have h5 := hp.length_eq
      simp only [List.length_cons] at h5
      omega
    · have := ih l hl (fun i hi => by
        have h3 := h i hi
        have h4 : i ≠ n := fun e => hm (e ▸ hi)
        omega)
      omega

set_option maxRecDepth 100000 in
set_option maxHeartbeats 4000000 in
theorem rouse_calls {W : World} {T : Nat → Nat} {g r sm pm lm wm n N M : Nat} {K : List UInt8 → Prop} {fr : List (List UInt8)} {vf : Value} {L : List Lk} {wk : List Nat} {vw : Value} {Fl Hw : List UInt8 → Option Value} {ids : List UInt8 → List Nat}
    (h : GI W T g r sm pm lm wm n N M K fr vf L wk vw Fl Hw ids) {i : Nat} {k : Lk} (hi : L[i]? = some k) (hwi : k.woken = true ↔ i ∈ wk) (hlen : L.length ≤ 1000000000) :
    Calls Try.prog 121 #[.pointer (some ⟨g, 0, none⟩), .pointer (some ⟨k.blk, 0, none⟩)] W (RouseOut W T g r sm pm lm wm n N M K fr vf L wk Fl Hw ids i k) := by
  obtain ⟨i0, hii, hz0, hz1, hz2⟩ := info_parts info_lock
  obtain ⟨_, _, c2, c3, cf⟩ := (h.locks i k hi).cell
  obtain ⟨_, _, _, _, g4, gf⟩ := h.gcell
  have HH := Lib.hid h
  have HI := Lib.hid (And.intro hi hwi)
  have same : (k.opened = true ∨ k.woken = true) → RouseOut W T g r sm pm lm wm n N M K fr vf L wk Fl Hw ids i k (.returned (.tuple #[])) W := fun ho =>
    ⟨rfl, T, L, wk, vw, h, .inl ⟨rfl, rfl, ho⟩, fun _ _ => rfl, Touch.refl _ _⟩
  have HS := Lib.hid same
  cases hop : k.opened with
  | true =>
    rw [hop] at c2
    have hfin := Lib.hid (HS.out (.inl hop))
    clear h hi hwi same hop HH HI HS
    go_enter Try.func121, Try.ntmps121
    go_wp2
    refine bodyPost_end (results_none rfl _ _ _) rfl ?_
    exact hfin.out
  | false =>
    rw [hop] at c2
    cases hwo : k.woken with
    | true =>
      rw [hwo] at c3
      have hfin := Lib.hid (HS.out (.inr hwo))
      clear h hi hwi same hop HH HI HS hwo
      go_enter Try.func121, Try.ntmps121
      go_wp2
      refine bodyPost_end (results_none rfl _ _ _) rfl ?_
      exact hfin.out
    | false =>
      rw [hwo] at c3
      have hni : i ∉ wk := fun q => by have := hwi.2 q; rw [hwo] at this; cases this
      have hwkl : wk.length ≤ 1000000000 := Nat.le_trans (nodup_few L.length wk h.wkin.2 h.wkin.1) hlen
      have hf3 := cf 3
      have hgb : g ≠ k.blk := fun e => by have := h.block; rw [e, (h.locks i k hi).block] at this; simp at this
      have w1b : (W.setCell ⟨k.blk, 3, none⟩ (.bool true)).heap[g]? = W.heap[g]? := Below.heap_setCell _ _ _ _ hgb
      have g4' : (W.setCell ⟨k.blk, 3, none⟩ (.bool true)).cell? ⟨g, 4, none⟩ = some vw := (World.cell?_of_block (a := ⟨g, 4, none⟩) w1b).trans g4
      have hrow1 : (W.setCell ⟨k.blk, 3, none⟩ (.bool true)).ownsRow 0 153 1 vw wk.length (wk.map (ptrL L)) := row_same h.woken.1 (fun q e => Below.heap_setCell _ _ _ _ (fun e2 => by
        have e3 : q = k.blk := e2
        have := h.woken.2 q e
        rw [e3, (h.locks i k hi).tag] at this
        omega))
      have hs1 : (W.setCell ⟨k.blk, 3, none⟩ (.bool true)).heap.size = W.heap.size := by simp [World.setCell]
      have HNew : Hid (∀ (j : Nat) (u : Value), [Value.pointer (some ⟨k.blk, 0, none⟩)][j]? = some u → ((W.setCell ⟨k.blk, 3, none⟩ (.bool true)).alloc (.cells #[.pointer (some ⟨k.blk, 0, none⟩)] 153)).cell? ((⟨W.heap.size, 0, none⟩ : Addr).add j) = some u) := by
        have := cell_one_new (W.setCell ⟨k.blk, 3, none⟩ (.bool true)) (.pointer (some ⟨k.blk, 0, none⟩)) 153
        rw [hs1] at this
        exact this
      have HAft : Hid (∀ w2 : World, ((W.setCell ⟨k.blk, 3, none⟩ (.bool true)).alloc (.cells #[.pointer (some ⟨k.blk, 0, none⟩)] 153)).grownBy w2 vw.ownBlock → w2.cell? ⟨g, 4, none⟩ = some vw ∧ w2.frozen? ⟨g, 4, none⟩ = false) := fun w2 hg => by
        have hg2 := grown_trans (World.grownBy_alloc (W.setCell ⟨k.blk, 3, none⟩ (.bool true)) (.cells #[.pointer (some ⟨k.blk, 0, none⟩)] 153) vw.ownBlock) hg
        have hb : w2.heap[g]? = W.heap[g]? := (hg2.block g (by rw [hs1]; exact (Array.getElem?_eq_some_iff.1 h.block).1) (fun e => by
          have := h.woken.2 g e.symm
          rw [h.tags.1] at this
          omega)).trans w1b
        exact ⟨(World.cell?_of_block (a := ⟨g, 4, none⟩) hb).trans g4, (World.frozen?_of_block (a := ⟨g, 4, none⟩) hb).trans (gf 4)⟩
      have HFin : Hid (∀ (v2 : Value) (w2 : World), w2.ownsRow 0 153 1 v2 (wk.length + 1) (wk.map (ptrL L) ++ [.pointer (some ⟨k.blk, 0, none⟩)]) → ((W.setCell ⟨k.blk, 3, none⟩ (.bool true)).alloc (.cells #[.pointer (some ⟨k.blk, 0, none⟩)] 153)).grownBy w2 vw.ownBlock → (v2.ownBlock = vw.ownBlock ∨ v2.ownBlock = some ((W.setCell ⟨k.blk, 3, none⟩ (.bool true)).alloc (.cells #[.pointer (some ⟨k.blk, 0, none⟩)] 153)).heap.size) →
          RouseOut W T g r sm pm lm wm n N M K fr vf L wk Fl Hw ids i k (.returned (.tuple #[])) (w2.setCell ⟨g, 4, none⟩ v2)) := fun v2 w2 k1 k2 k3 => by
        have hg2 := grown_trans (World.grownBy_alloc (W.setCell ⟨k.blk, 3, none⟩ (.bool true)) (.cells #[.pointer (some ⟨k.blk, 0, none⟩)] 153) vw.ownBlock) k2
        obtain ⟨m1, m2, m3⟩ := HH.out.roused HI.out.1 hni hg2 (by rw [ptrL_at HI.out.1]; exact k1) (k3.imp id (fun e => ⟨_, e, by rw [World.size_alloc, hs1]; omega⟩))
        exact ⟨rfl, _, _, _, _, m1, .inr ⟨rfl, rfl, hop, hwo⟩, m2, m3⟩
      clear h hi hwi same hop HH HI HS hwo g4 gf hgb w1b cf hni
      go_enter Try.func121, Try.ntmps121
      go_wp2_with (at_builtin; refine wpList_append_own_at _ rfl _ _ 119 rfl 0 153 i0 (.pointer none) 1 8 Try.underlying119 hii hz0 hz1 hz2 rfl (by decide) _ _ _ rfl (hrow1.alloc _) ⟨W.heap.size, 0, none⟩ 1 1 [.pointer (some ⟨k.blk, 0, none⟩)] rfl rfl HNew.out (by simp [Value.oneCell']) (by unfold maxLen; omega) (by omega) (by simp) ?_; intro v2 w2 hown' hgrow hnil hat; obtain ⟨g2, cap2, rfl⟩ := ownsRow_succ hown'; have hc4 := (HAft.out w2 hgrow).1; have hf4 := (HAft.out w2 hgrow).2)
      refine bodyPost_end (results_none rfl _ _ _) rfl ?_
      exact HFin.out _ w2 hown' hgrow hat

theorem Roused.start {L : List Lk} {wk : List Nat} (h : ∀ (i : Nat) (k : Lk), L[i]? = some k → (k.woken = true ↔ i ∈ wk)) : Roused L L wk (fun _ => False) :=
  ⟨rfl, fun i k k' h1 h2 => by rw [h1] at h2; cases h2; exact ⟨rfl, rfl, rfl, rfl, rfl, id, fun q => q.elim⟩, h⟩
theorem Roused.step {L L1 L2 : List Lk} {wk1 wk2 : List Nat} {who : Nat → Prop} {i : Nat} {k1 : Lk} (h : Roused L L1 wk1 who) (hi : L1[i]? = some k1)
    (hr : (L2 = L1 ∧ wk2 = wk1 ∧ (k1.opened = true ∨ k1.woken = true)) ∨ (L2 = L1.set i { k1 with woken := true } ∧ wk2 = wk1 ++ [i] ∧ k1.opened = false ∧ k1.woken = false)) : Roused L L2 wk2 (fun j => who j ∨ j = i) := by
  rcases hr with ⟨rfl, rfl, ho⟩ | ⟨rfl, rfl, ho, hw⟩
  · refine ⟨h.len, fun j k k' h1 h2 => ?_, h.wakes⟩
    obtain ⟨a1, a2, a3, a4, a5, a6, a7⟩ := h.same j k k' h1 h2
    refine ⟨a1, a2, a3, a4, a5, a6, fun q q2 => ?_⟩
    rcases q with q | rfl
    · exact a7 q q2
    · rw [hi] at h2
      cases h2
      rcases ho with ho | ho
      · rw [a5, q2] at ho; cases ho
      · exact ho
  · refine ⟨by rw [List.length_set]; exact h.len, fun j k k' h1 h2 => ?_, fun j k' h2 => ?_⟩
    · rcases set_get hi h2 with ⟨rfl, rfl⟩ | ⟨hne, q⟩
      · obtain ⟨a1, a2, a3, a4, a5, a6, a7⟩ := h.same j k k1 h1 hi
        exact ⟨a1, a2, a3, a4, a5, fun _ => rfl, fun _ _ => rfl⟩
      · obtain ⟨a1, a2, a3, a4, a5, a6, a7⟩ := h.same j k k' h1 q
        exact ⟨a1, a2, a3, a4, a5, a6, fun r r2 => a7 (r.resolve_right hne) r2⟩
    · rcases set_get hi h2 with ⟨rfl, rfl⟩ | ⟨hne, q⟩
      · simp
      · rw [h.wakes j k' q]
        simp [hne]
theorem Roused.who {L L' : List Lk} {wk' : List Nat} {who who' : Nat → Prop} (h : Roused L L' wk' who) (hw : ∀ i, who' i → who i) : Roused L L' wk' who' :=
  ⟨h.len, fun i k k' h1 h2 => by
    obtain ⟨a1, a2, a3, a4, a5, a6, a7⟩ := h.same i k k' h1 h2
    exact ⟨a1, a2, a3, a4, a5, a6, fun q => a7 (hw i q)⟩, h.wakes⟩
theorem Roused.trans {L L1 L2 : List Lk} {wk1 wk2 : List Nat} {who1 who2 : Nat → Prop} (h : Roused L L1 wk1 who1) (h' : Roused L1 L2 wk2 who2) : Roused L L2 wk2 (fun i => who1 i ∨ who2 i) := by
  refine ⟨h'.len.trans h.len, fun i k k2 e1 e2 => ?_, h'.wakes⟩
  obtain ⟨k1, e3⟩ := h'.back e2
  obtain ⟨a1, a2, a3, a4, a5, a6, a7⟩ := h.same i k k1 e1 e3
  obtain ⟨b1, b2, b3, b4, b5, b6, b7⟩ := h'.same i k1 k2 e3 e2
  exact ⟨b1.trans a1, b2.trans a2, b3.trans a3, b4.trans a4, b5.trans a5, fun q => b6 (a6 q), fun q q2 => q.elim (fun q => b6 (a7 q q2)) (fun q => b7 q (a5.trans q2))⟩

def WakeOut (W : World) (T : Nat → Nat) (g r sm pm lm wm n N M : Nat) (K : List UInt8 → Prop) (fr : List (List UInt8)) (vf : Value) (L : List Lk) (Fl Hw : List UInt8 → Option Value) (ids : List UInt8 → List Nat) (t : List UInt8) (e : Ending) (W' : World) : Prop :=
  e = .returned (.tuple #[]) ∧ ∃ T' L' wk' vw', GI W' T' g r sm pm lm wm n N M K fr vf L' wk' vw' Fl Hw ids ∧ Roused L L' wk' (fun i => i ∈ ids t) ∧ (∀ q, q < W.heap.size → T' q = T q) ∧ Touch T W W'
def Waking (W : World) (T : Nat → Nat) (g r sm pm lm wm n N M : Nat) (K : List UInt8 → Prop) (fr : List (List UInt8)) (vf : Value) (L : List Lk) (Fl Hw : List UInt8 → Option Value) (ids : List UInt8 → List Nat) (t : List UInt8) (kk : Nat) (v13 : Value) (wr : World) : Prop :=
  ∃ (j : Nat) (T' : Nat → Nat) (L' : List Lk) (wk' : List Nat) (vw' : Value), kk + j = (ids t).length ∧ v13 = .int .i64 j ∧ GI wr T' g r sm pm lm wm n N M K fr vf L' wk' vw' Fl Hw ids ∧ Roused L L' wk' (fun i => i ∈ (ids t).take j) ∧ (∀ q, q < W.heap.size → T' q = T q) ∧ Touch T W wr

set_option maxRecDepth 100000 in
set_option maxHeartbeats 4000000 in
theorem wake_calls {W : World} {T : Nat → Nat} {g r sm pm lm wm n N M : Nat} {K : List UInt8 → Prop} {fr : List (List UInt8)} {vf : Value} {L : List Lk} {wk : List Nat} {vw : Value} {Fl Hw : List UInt8 → Option Value} {ids : List UInt8 → List Nat}
    (h : GI W T g r sm pm lm wm n N M K fr vf L wk vw Fl Hw ids) (hwk : ∀ (i : Nat) (k : Lk), L[i]? = some k → (k.woken = true ↔ i ∈ wk)) (t : List UInt8) (ht : t.length ≤ 20000) (hlen : L.length ≤ 1000000000) (hM : M ≤ 1000000000) :
    Calls Try.prog 111 #[.pointer (some ⟨g, 0, none⟩), .string ⟨t.toArray⟩] W (WakeOut W T g r sm pm lm wm n N M K fr vf L Fl Hw ids t) := by
  have hg3 := h.gcell.2.2.2.1
  have hlook := h.wmap.look Try.underlying118 (zero_locks W) ht
  have hslot : (Hw t).getD (.slice none 0 0) = slot0 Hw t := rfl
  rw [hslot] at hlook
  obtain ⟨A, c, es, hcell⟩ : ∃ A c, slot0 Hw t = .slice A (ids t).length c ∧ ∀ (V : World) (vals : List Value), V.ownsRow 0 153 1 (slot0 Hw t) (ids t).length vals → ∀ (j : Nat) (u : Value), vals[j]? = some u → ∃ b, A = some ⟨b, 0, none⟩ ∧ V.cell? ⟨b, j, none⟩ = some u := by
    rcases (h.within t).1.2 with ⟨h1, h2⟩ | ⟨b, cap, cur, h1, _⟩
    · refine ⟨none, 0, by rw [h1, h2], fun V vals hv j u hu => ?_⟩
      have := hv.1
      rw [h2] at this
      have e : vals = [] := List.length_eq_zero_iff.1 (by simpa using this)
      rw [e] at hu
      simp at hu
    · refine ⟨some ⟨b, 0, none⟩, cap, h1, fun V vals hv j u hu => ⟨b, rfl, ?_⟩⟩
      rw [h1] at hv
      have hl := hv.1
      have hj : j < (ids t).length := by have := (List.getElem?_eq_some_iff.1 hu).1; omega
      rw [hv.cellAt j (by omega)]
      exact hu
  rw [es] at hlook hcell
  have HCell := Lib.hid hcell
  have HES := Lib.hid es
  have hidl := (h.within t).2.2.2
  have H0 : Hid (Waking W T g r sm pm lm wm n N M K fr vf L Fl Hw ids t (ids t).length (.int .i64 0) W) :=
    ⟨0, T, L, wk, vw, by omega, rfl, h, (Roused.start hwk).who (by simp), fun _ _ => rfl, Touch.refl _ _⟩
  clear h hwk hslot es hcell
  go_enter Try.func111, Try.ntmps111
  go_wp2
  go_loopg [13] (ids t).length (fun kk v13 wr => Waking W T g r sm pm lm wm n N M K fr vf L Fl Hw ids t kk v13 wr)
  case atStart => exact H0.out
  case round =>
    obtain ⟨j, T', L', wk', vw', hk, rfl, hG, hR, hT, hTo⟩ := hrel
    have HK := Lib.hid hk
    by_cases hj : j < (ids t).length
    · obtain ⟨i, hi⟩ : ∃ i, (ids t)[j]? = some i := ⟨_, List.getElem?_eq_getElem hj⟩
      have hil := (hG.within t).2.2.1 i (List.mem_of_getElem? hi)
      obtain ⟨k, hki⟩ : ∃ k, L'[i]? = some k := ⟨_, List.getElem?_eq_getElem hil⟩
      have hrow := (hG.within t).1
      rw [HES.out] at hrow
      obtain ⟨b, rfl, hcb⟩ := HCell.out wr _ hrow j (ptrL L' i) (by rw [List.getElem?_map, hi]; rfl)
      rw [ptrL_at hki] at hcb
      have HRo := Lib.hid (rouse_calls hG hki (hR.wakes i k hki) (by rw [hR.len]; exact hlen))
      have j1 : (j : Int) < ((ids t).length : Int) := by omega
      have j2 : (0 : Int) ≤ (j : Int) := by omega
      have hgk : gk - 1 < gk := by omega
      have HRel : Hid (∀ w2, RouseOut wr T' g r sm pm lm wm n N M K fr vf L' wk' Fl Hw ids i k (.returned (.tuple #[])) w2 → Waking W T g r sm pm lm wm n N M K fr vf L Fl Hw ids t (gk - 1) (.int .i64 ((j + 1 : Nat) : Int)) w2) := by
        rintro w2 ⟨_, T2, L2, wk2, vw2, m1, m2, m3, m4⟩
        refine ⟨j + 1, T2, L2, wk2, vw2, by have := HK.out; omega, rfl, m1, (hR.step hki m2).who (fun x hx => ?_), fun q hq => ?_, hTo.trans m4 (fun q hq => hT q hq)⟩
        · have e := List.take_add_one (l := ids t) (i := j)
          rw [hi] at e
          rw [e] at hx
          rcases List.mem_append.1 hx with hx | hx
          · exact .inl hx
          · simp at hx; exact .inr hx
        · rw [m3 q (Nat.lt_of_lt_of_le hq hTo.size)]
          exact hT q hq
      clear hG hR hT hTo hk hi hil hki hrow H0
      go_wp2_with fail
      refine HRo.out.mono ?_
      rintro e w2 hro
      obtain rfl := hro.1
      have hRel := Lib.hid (HRel.out w2 hro)
      clear hro
      go_wp2
      go_roundg (gk - 1)
      case measure => exact hgk
      case rel => exact hRel.out
    · obtain rfl : j = (ids t).length := by omega
      have j1 : ¬ (((ids t).length : Int) < ((ids t).length : Int)) := by omega
      have hfin : Hid (WakeOut W T g r sm pm lm wm n N M K fr vf L Fl Hw ids t (.returned (.tuple #[])) wr) := by
        rw [List.take_length] at hR
        exact ⟨rfl, T', L', wk', vw', hG, hR, hT, hTo⟩
      clear hG hR hT hTo hk H0
      go_wp2
      refine bodyPost_end (results_none rfl _ _ _) rfl ?_
      exact hfin.out

end Go.Proofs.Ytloheongiceliaa
end

section
namespace Go.Proofs.Ytloheongiceliaa
open Go.ChangeShapes Go.WideShapes Go.ChangeAt Go.RowKit

section
variable {W W' : World} {T T' : Nat → Nat} {g r sm pm lm wm n N M : Nat} {K : List UInt8 → Prop} {fr : List (List UInt8)} {vf : Value} {L : List Lk} {wk : List Nat} {vw : Value} {Fl Hw : List UInt8 → Option Value} {ids : List UInt8 → List Nat}
/-- What a world must tell of the marks. -/
structure Marked (W W' : World) (T T' : Nat → Nat) : Prop where
  size : W.heap.size ≤ W'.heap.size
  old : ∀ q, q < W.heap.size → T' q = T q
  new : ∀ q, W.heap.size ≤ q → T' q ≠ 1
  zero : ∀ q, W'.heap.size ≤ q → T' q = 0
theorem GI.marked (h : GI W T g r sm pm lm wm n N M K fr vf L wk vw Fl Hw ids) (hs : W.heap.size ≤ W'.heap.size) : Marked W W' T T := ⟨hs, fun _ _ => rfl, fun q hq => by rw [h.zero q hq]; omega, fun q hq => h.zero q (by omega)⟩

/-- A lock has turned. -/
theorem GI.lockTurn {i : Nat} {k k2 : Lk} (h : GI W T g r sm pm lm wm n N M K fr vf L wk vw Fl Hw ids) (hi : L[i]? = some k) (hm : Marked W W' T T') (hb : k2.blk = k.blk) (hk : k2.key = k.key)
    (hs : ∀ q, q < W.heap.size → q ≠ k.blk → T q ≠ 7 + 2 * i → W'.heap[q]? = W.heap[q]?) (hl : LockI W' T' i k2) : GI W' T' g r sm pm lm wm n N M K fr vf (L.set i k2) wk vw Fl Hw ids := by
  have hkI := h.locks i k hi
  have hc := h.carry hm.size (fun x => x = 6 + 2 * i ∨ x = 7 + 2 * i) (fun q hq hn => hs q hq (fun e => hn (.inl (by rw [e]; exact hkI.tag))) (fun e => hn (.inr e))) hm.old hm.new
  have ep : ptrL (L.set i k2) = ptrL L := set_ptr hi hb
  refine ⟨hc.block (by omega), hc.tags, hc.row (by omega), hc.fresh (by omega), by rw [ep]; exact hc.woken (by omega), ⟨fun j hj => by rw [List.length_set]; exact h.wkin.1 j hj, h.wkin.2⟩, hc.lmap (by omega), fun key => ?_, hc.wmap (by omega), fun t => by rw [ep, List.length_set]; exact hc.within (by omega) t, h.wsep, fun j a ha t ht => ?_, fun j a ha => ?_, hm.zero⟩
  · rcases h.lfind key with ⟨h1, h2⟩ | ⟨j, k', h1, h2, h3⟩
    · refine .inl ⟨h1, fun a ha => ?_⟩
      rcases set_mem hi ha with rfl | ha
      · rw [hk]; exact h2 k (List.mem_of_getElem? hi)
      · exact h2 a ha
    · rw [ep]
      by_cases e : j = i
      · subst e
        rw [hi] at h1; cases h1
        exact .inr ⟨j, k2, List.getElem?_set_self (List.getElem?_eq_some_iff.1 hi).1, hk.trans h2, h3⟩
      · exact .inr ⟨j, k', by rw [List.getElem?_set_ne (fun q => e q.symm)]; exact h1, h2, h3⟩
  · rcases set_get hi ha with ⟨rfl, rfl⟩ | ⟨_, q⟩
    · exact h.covers j k hi t (by rw [← hk]; exact ht)
    · exact h.covers j a q t ht
  · rcases set_get hi ha with ⟨rfl, rfl⟩ | ⟨hne, q⟩
    · exact hl
    · exact hc.locks j a q (by omega) (by omega)
/-- Blocks of maps are not the gatherer's own. -/
theorem GI.own_ne (h : GI W T g r sm pm lm wm n N M K fr vf L wk vw Fl Hw ids) : lm ≠ g ∧ wm ≠ g := by
  constructor
  · rintro rfl
    obtain ⟨es, cl, hm⟩ := h.lmap.block
    rw [h.block] at hm; cases hm
  · rintro rfl
    obtain ⟨es, cl, hm⟩ := h.wmap.block
    rw [h.block] at hm; cases hm
/-- What is fresh has turned. -/
theorem GI.freshTurn {fr2 : List (List UInt8)} {vf2 : Value} (h : GI W T g r sm pm lm wm n N M K fr vf L wk vw Fl Hw ids) (hm : Marked W W' T T')
    (hs : ∀ q, q < W.heap.size → q ≠ g → T q ≠ 3 → W'.heap[q]? = W.heap[q]?) (hb : W'.heap[g]? = some (.cells (gCells r vf2 lm wm vw) 121 (0, 0)))
    (hf : W'.ownsRow 0 24 1 vf2 fr2.length (strs fr2)) (ht : ∀ q, vf2.ownBlock = some q → T' q = 3) : GI W' T' g r sm pm lm wm n N M K fr2 vf2 L wk vw Fl Hw ids := by
  have hc := h.carry hm.size (fun x => x = 2 ∨ x = 3) (fun q hq hn => hs q hq (fun e => hn (.inl (by rw [e]; exact h.tags.1))) (fun e => hn (.inr e))) hm.old hm.new
  have hne := h.own_ne
  have t3 : T lm ≠ 3 ∧ T wm ≠ 3 := by rw [h.tags.2.1, h.tags.2.2]; omega
  exact ⟨hb, hc.tags, hc.row (by omega), ⟨hf, ht⟩, hc.woken (by omega), h.wkin, h.lmap.same (hs lm h.lmap.lt hne.1 t3.1), h.lfind, h.wmap.same (hs wm h.wmap.lt hne.2 t3.2), hc.within (by omega), h.wsep, h.covers, fun i k hi => hc.locks i k hi (by omega) (by omega), hm.zero⟩
/-- Who is to be tried has turned. -/
theorem GI.wokenTurn {wk2 : List Nat} {vw2 : Value} (h : GI W T g r sm pm lm wm n N M K fr vf L wk vw Fl Hw ids) (hm : Marked W W' T T')
    (hs : ∀ q, q < W.heap.size → q ≠ g → T q ≠ 4 → W'.heap[q]? = W.heap[q]?) (hb : W'.heap[g]? = some (.cells (gCells r vf lm wm vw2) 121 (0, 0)))
    (hf : W'.ownsRow 0 153 1 vw2 wk2.length (wk2.map (ptrL L))) (ht : ∀ q, vw2.ownBlock = some q → T' q = 4) (hw : (∀ i ∈ wk2, i < L.length) ∧ wk2.Nodup) : GI W' T' g r sm pm lm wm n N M K fr vf L wk2 vw2 Fl Hw ids := by
  have hc := h.carry hm.size (fun x => x = 2 ∨ x = 4) (fun q hq hn => hs q hq (fun e => hn (.inl (by rw [e]; exact h.tags.1))) (fun e => hn (.inr e))) hm.old hm.new
  have hne := h.own_ne
  have t4 : T lm ≠ 4 ∧ T wm ≠ 4 := by rw [h.tags.2.1, h.tags.2.2]; omega
  exact ⟨hb, hc.tags, hc.row (by omega), hc.fresh (by omega), ⟨hf, ht⟩, hw, h.lmap.same (hs lm h.lmap.lt hne.1 t4.1), h.lfind, h.wmap.same (hs wm h.wmap.lt hne.2 t4.2), hc.within (by omega), h.wsep, h.covers, fun i k hi => hc.locks i k hi (by omega) (by omega), hm.zero⟩
/-- The row has turned (its own blocks, and new ones). -/
theorem GI.rowTurn {n2 N2 : Nat} {K2 : List UInt8 → Prop} (h : GI W T g r sm pm lm wm n N M K fr vf L wk vw Fl Hw ids) (hr : RowI W' T' r sm pm n2 N2 K2) (hs : ∀ q, q < W.heap.size → T q ≠ 1 → W'.heap[q]? = W.heap[q]?) (hT : ∀ q, q < W.heap.size → T' q = T q) (hz2 : ∀ q, W'.heap.size ≤ q → T' q = 0) :
    GI W' T' g r sm pm lm wm n2 N2 M K2 fr vf L wk vw Fl Hw ids := by
  have lg := (Array.getElem?_eq_some_iff.1 h.block).1
  have at_ : ∀ q, q < W.heap.size → T q ≠ 1 → W'.heap[q]? = W.heap[q]? := hs
  have n2 : ∀ {a : Nat}, T a = 2 → T a ≠ 1 := fun e => by omega
  refine ⟨(at_ g lg (n2 h.tags.1)).trans h.block, ⟨(hT g lg).trans h.tags.1, (hT lm h.lmap.lt).trans h.tags.2.1, (hT wm h.wmap.lt).trans h.tags.2.2⟩, hr, ⟨row_same h.fresh.1 (fun q e => at_ q (row_lt h.fresh.1 e) (by rw [h.fresh.2 q e]; omega)), fun q e => (hT q (row_lt h.fresh.1 e)).trans (h.fresh.2 q e)⟩, ⟨row_same h.woken.1 (fun q e => at_ q (row_lt h.woken.1 e) (by rw [h.woken.2 q e]; omega)), fun q e => (hT q (row_lt h.woken.1 e)).trans (h.woken.2 q e)⟩, h.wkin, h.lmap.same (at_ lm h.lmap.lt (n2 h.tags.2.1)), h.lfind, h.wmap.same (at_ wm h.wmap.lt (n2 h.tags.2.2)), fun t => ?_, h.wsep, h.covers, fun i k hi => ?_, hz2⟩
  · obtain ⟨k1, k2, k3⟩ := h.within t
    exact ⟨row_same k1 (fun q e => at_ q (row_lt k1 e) (by rw [k2 q e]; omega)), fun q e => (hT q (row_lt k1 e)).trans (k2 q e), k3⟩
  · have hk := h.locks i k hi
    have lb := (Array.getElem?_eq_some_iff.1 hk.block).1
    exact ⟨(at_ k.blk lb (by rw [hk.tag]; omega)).trans hk.block, (hT k.blk lb).trans hk.tag, row_same hk.row (fun q e => at_ q (row_lt hk.row e) (by rw [hk.trow q e]; omega)), fun q e => (hT q (row_lt hk.row e)).trans (hk.trow q e), hk.empty⟩
end

end Go.Proofs.Ytloheongiceliaa
end
