/- Contracts of know.newRow and of slices.Clone; a row of rows, with one more. Contract of (*row).add: one more term is known. Contract of (*row).add at a power: its exponents are kept by each of them. Contract of (*row).known: the terms of a row. Contract of know.Derives: can a term be made of the right ones of a row? -/
import Derived.Test.YtloheongiceliaaRowG
import Derived.Test.YtloheongiceliaaPAll
import Derived.Deep.AppendLies
import Derived.Test.YtloheongiceliaaRowM
import Derived.Shelf.SortM.SortNone
section
namespace Go.Proofs.Ytloheongiceliaa
open Go.ChangeShapes Go.WideShapes Go.ChangeAt Go.RowKit

def rowWorld (w : World) : World := ((w.alloc (.map #[] 0)).alloc (.map #[] 0)).alloc (.cells #[.map (some w.heap.size), .map (some (w.heap.size + 1))] 145)
set_option maxHeartbeats 400000 in
theorem newRow_calls (w : World) : Calls Try.prog 71 #[] w fun e w' => e = .returned (.pointer (some ⟨w.heap.size + 2, 0, none⟩)) ∧ rowWorld w = w' := by
  have hmm := @run_makeMap Try.prog
  go_enter Try.func71, Try.ntmps71
  go_wp2
  go_ret
  exact ⟨by simp, rfl⟩

/-- The marks of a new row. -/
def rowTags (T : Nat → Nat) (s : Nat) : Nat → Nat := fun k => if k = s ∨ k = s + 1 ∨ k = s + 2 then 1 else if s ≤ k then 0 else T k
theorem newRow_inv (w : World) (T : Nat → Nat) : RowI (rowWorld w) (rowTags T w.heap.size) (w.heap.size + 2) w.heap.size (w.heap.size + 1) 0 0 (fun _ => False) := by
  have s1 : (w.alloc (.map #[] 0)).heap.size = w.heap.size + 1 := by simp
  have s2 : ((w.alloc (.map #[] 0)).alloc (.map #[] 0)).heap.size = w.heap.size + 2 := by simp
  have m1 := (MapAt.made w).kept (World.grownBy_alloc (w.alloc (.map #[] 0)) (.map #[] 0) none) (by simp)
  have m2 := MapAt.made (w.alloc (.map #[] 0))
  rw [s1] at m2
  have k1 := m1.kept (World.grownBy_alloc ((w.alloc (.map #[] 0)).alloc (.map #[] 0)) (.cells #[.map (some w.heap.size), .map (some (w.heap.size + 1))] 145) none) (by simp)
  have k2 := m2.kept (World.grownBy_alloc ((w.alloc (.map #[] 0)).alloc (.map #[] 0)) (.cells #[.map (some w.heap.size), .map (some (w.heap.size + 1))] 145) none) (by simp)
  have hb := World.alloc_heap_new ((w.alloc (.map #[] 0)).alloc (.map #[] 0)) (.cells #[.map (some w.heap.size), .map (some (w.heap.size + 1))] 145)
  rw [s2] at hb
  refine ⟨hb, by simp [rowTags], by omega, ⟨_, k1, fun k => .inl ⟨rfl, fun h => h⟩⟩, ⟨_, fun _ => [], k2, fun x => ⟨by simp [slot0, Value.ownBlock], [], ?_, by simp⟩, by simp [slot0, Value.ownBlock], by simp, by simp, by simp⟩, by simp, ?_⟩
  · exact World.ownsRow_nil _ _ _ _
  · intro k hk
    have : (rowWorld w).heap.size = w.heap.size + 3 := by simp [rowWorld]
    unfold rowTags
    rw [if_neg (by omega), if_pos (by omega)]
    omega

theorem info_slice : (Try.prog.info? 38).map (fun i => (i.zero, i.size, i.bytes)) = some (some (.slice none 0 0), 1, 24) := by kernel_rfl

def CloneOut (W : World) (l : List (List UInt8)) (e : Ending) (W' : World) : Prop := ∃ v', e = .returned v' ∧ W'.ownsRow W.heap.size 24 1 v' l.length (strs l) ∧ Below W.heap.size W W'
set_option maxRecDepth 100000 in
set_option maxHeartbeats 1000000 in
/-- slices.Clone at a row. -/
theorem Clone_row (l : List (List UInt8)) (B : Nat) (v : Value) (W : World) (h : W.ownsRow B 24 1 v l.length (strs l)) (hne : l ≠ []) (hl : l.length ≤ 4000000000) :
    Calls Try.prog 92 #[v] W (CloneOut W l) := by
  obtain ⟨i0, hi, hz0, hz1, hz2⟩ := info_parts info_term
  obtain ⟨g, cap, rfl, hT, hg⟩ := row_slice h hne
  have hlit : (W.alloc (.cells #[] 24)).ownsRow W.heap.size 24 1 (.slice (some ⟨W.heap.size, 0, none⟩) 0 0) 0 [] :=
    ⟨rfl, .inr ⟨W.heap.size, 0, #[], rfl, Nat.le_refl _, World.alloc_heap_new _ _, Nat.le_refl _, by decide, rfl, rfl⟩⟩
  have hnews : ∀ (j : Nat) (u : Value), (strs l)[j]? = some u → (W.alloc (.cells #[] 24)).cell? ((⟨g, 0, none⟩ : Addr).add j) = some u := by
    intro j u hu
    unfold strs at hu
    rw [List.getElem?_map, Option.map_eq_some_iff] at hu
    obtain ⟨x, hx, rfl⟩ := hu
    have h1 := hT j x hx
    have hb : Below W.heap.size W (W.alloc (.cells #[] 24)) := (Below.refl _ W).alloc (Nat.le_refl _) _
    have h2 : (W.alloc (.cells #[] 24)).cell? ⟨g, j, none⟩ = W.cell? ⟨g, j, none⟩ := hb.cell (p := ⟨g, j, none⟩) hg
    have e : (⟨g, 0, none⟩ : Addr).add j = ⟨g, j, none⟩ := by
      by_cases hj : j = 0
      · subst hj; simp [Addr.add]
      · simp [Addr.add, hj]
    rw [e]
    exact h2.trans h1
  have hcmp := fun w : World => Lib.run_eql_slice_nil (P := Try.prog) w 38 24 (some ⟨g, 0, none⟩) l.length cap 0 0 Try.underlying38
  have HLit := Lib.hid hlit
  have HNews := Lib.hid hnews
  have H1 : Hid (∀ u ∈ strs l, u.oneCell' = true) := fun u hu => by
    unfold strs at hu
    obtain ⟨x, _, rfl⟩ := List.mem_map.1 hu
    rfl
  have hpos : 0 < l.length := List.length_pos_iff.2 hne
  clear hlit hnews h hT
  go_enter Try.func92, Try.ntmps92
  go_wp2_with (at_builtin; refine wpList_append_own _ rfl _ _ 38 rfl W.heap.size 24 i0 (.string ⟨#[]⟩) 1 16 Try.underlying38 hi hz0 hz1 hz2 rfl (by decide) _ _ _ rfl HLit.out ⟨g, 0, none⟩ l.length cap (strs l) rfl (by simp [strs]) HNews.out H1.out (by unfold maxLen; omega) (by omega) (by simp) ?_; intro v2 w2 hown' hgrow _)
  go_ret
  rw [Nat.zero_add, List.nil_append] at hown'
  have hga : W.grownBy w2 (some W.heap.size) := grown_trans (World.grownBy_alloc W _ (some W.heap.size)) hgrow
  exact ⟨v2, rfl, hown', ⟨hga.os, hga.tape, hga.output, hga.size, fun k hk => hga.block k hk (fun e => by cases e; omega)⟩⟩

/-- What the map of powers holds, and where. -/
structure PowP (W : World) (T : Nat → Nat) (pm M : Nat) (G : List UInt8 → Option Value) (Cur : List UInt8 → List (List (List UInt8))) : Prop where
  map : MapAt W pm M G
  rows : ∀ x, Rows2 W T (slot0 G x) (Cur x)
  sep : ∀ x y g, (slot0 G x).ownBlock = some g → (slot0 G y).ownBlock = some g → x = y
theorem slot0_same (G : List UInt8 → Option Value) (x : List UInt8) (v : Value) : slot0 (setAt G x v) x = v := by simp [slot0, setAt_same]
theorem slot0_other (G : List UInt8 → Option Value) {x y : List UInt8} (v : Value) (h : y ≠ x) : slot0 (setAt G x v) y = slot0 G y := by simp [slot0, setAt_other _ _ h]

/-- One row of the map gets one more. -/
theorem PowP.step {wr wA w3 : World} {T : Nat → Nat} {pm M : Nat} {G : List UInt8 → Option Value} {Cur : List UInt8 → List (List (List UInt8))} (h : PowP wr T pm M G Cur) 
    {x : List UInt8} {vals : List Value} (hvals : wr.ownsRow 0 38 1 (slot0 G x) (Cur x).length vals)
    (hin : ∀ (i : Nat) (l : List (List UInt8)), (Cur x)[i]? = some l → ∃ u, vals[i]? = some u ∧ wr.ownsRow 0 24 1 u l.length (strs l) ∧ ∀ g, u.ownBlock = some g → T g = 1)
    {v5 : Value} {es : List (List UInt8)} (hv5 : wr.ownsRow 0 24 1 v5 es.length (strs es)) (ht5 : ∀ g, v5.ownBlock = some g → T g = 1)
    {g cap : Nat} (hown : wA.ownsRow 0 38 1 (.slice (some ⟨g, 0, none⟩) ((Cur x).length + 1) cap) ((Cur x).length + 1) (vals ++ [v5])) (hgA : wr.grownBy wA (slot0 G x).ownBlock) (hat : (slot0 G x).ownBlock = some g ∨ wr.heap.size ≤ g)
    (hg3 : wA.grownBy w3 (some pm)) (hmap3 : MapAt w3 pm (M + 1) (setAt G x (.slice (some ⟨g, 0, none⟩) ((Cur x).length + 1) cap))) :
    PowP w3 (fun q => if q = g then 1 else T q) pm (M + 1) (setAt G x (.slice (some ⟨g, 0, none⟩) ((Cur x).length + 1) cap)) (fun y => if y = x then Cur x ++ [es] else Cur y) ∧
      (∀ q, q < wr.heap.size → (¬ ∃ cur, wr.heap[q]? = some (.cells cur 38 (0, 0))) → q ≠ pm → w3.heap[q]? = wr.heap[q]?) ∧ (∀ q, q < wr.heap.size → T q ≠ 1 → q ≠ pm → w3.heap[q]? = wr.heap[q]?) := by
  obtain ⟨es0, cl0, hpm⟩ := h.map.block
  have hgt : (slot0 G x).ownBlock = some g → T g = 1 := fun e => (h.rows x).1 g e
  have hkeep : ∀ q, q < wr.heap.size → (slot0 G x).ownBlock ≠ some q → q ≠ pm → w3.heap[q]? = wr.heap[q]? := fun q hq h1 h2 =>
    (hg3.block q (Nat.lt_of_lt_of_le hq hgA.size) (fun e => h2 (by cases e; rfl))).trans (hgA.block q hq (fun e => h1 e.symm))
  have hk23 : ∀ q, q < wr.heap.size → (¬ ∃ cur, wr.heap[q]? = some (.cells cur 38 (0, 0))) → q ≠ pm → w3.heap[q]? = wr.heap[q]? := fun q hq h1 h2 =>
    hkeep q hq (fun e => h1 (row_cells hvals e)) h2
  have inner : ∀ (u : Value) (l : List (List UInt8)), wr.ownsRow 0 24 1 u l.length (strs l) → w3.ownsRow 0 24 1 u l.length (strs l) := fun u l hu =>
    row_same hu (fun q e => by
      obtain ⟨cur, hc⟩ := row_cells hu e
      refine hk23 q (Array.getElem?_eq_some_iff.1 hc).1 ?_ ?_
      · rintro ⟨cur', hc'⟩
        rw [hc] at hc'
        simp at hc'
      · rintro rfl
        rw [hpm] at hc
        cases hc)
  refine ⟨⟨hmap3, fun y => ?_, fun y z q h1 h2 => ?_⟩, hk23, fun q hq h1 h2 => hkeep q hq (fun e => h1 ((h.rows x).1 q e)) h2⟩
  · by_cases hy : y = x
    · subst hy
      rw [slot0_same, if_pos rfl]
      refine ⟨fun q e => by cases e; simp, vals ++ [v5], ?_, fun i l hi => ?_⟩
      · rw [List.length_append]
        exact row_map hown hg3 (by
          obtain ⟨cur, hc⟩ := row_cells hown rfl
          have hpA : wA.heap[pm]? = wr.heap[pm]? := hgA.block pm (Array.getElem?_eq_some_iff.1 hpm).1 (fun e => by
            obtain ⟨cur', hc'⟩ := row_cells hvals e.symm
            rw [hpm] at hc'
            cases hc')
          exact ⟨_, _, hpA.trans hpm⟩)
      · by_cases hil : i < (Cur y).length
        · rw [List.getElem?_append_left hil] at hi
          obtain ⟨u, h1, h2, h3⟩ := hin i l hi
          refine ⟨u, ?_, inner u l h2, fun q e => ?_⟩
          · rw [List.getElem?_append_left (List.getElem?_eq_some_iff.1 h1).1]
            exact h1
          · have := h3 q e
            by_cases hq : q = g <;> simp [hq, this]
        · have hlen := hvals.1
          rw [List.getElem?_append_right (by omega)] at hi
          have hi0 : i - (Cur y).length = 0 := by
            have := (List.getElem?_eq_some_iff.1 hi).1
            simp at this
            omega
          rw [hi0] at hi
          simp at hi
          subst hi
          refine ⟨v5, ?_, inner v5 es hv5, fun q e => ?_⟩
          · rw [List.getElem?_append_right (by omega), show i - vals.length = 0 by omega]
            rfl
          · have := ht5 q e
            by_cases hq : q = g <;> simp [hq, this]
    · rw [slot0_other _ _ hy, if_neg hy]
      obtain ⟨k1, vals', k2, k3⟩ := h.rows y
      refine ⟨fun q e => by have := k1 q e; by_cases hq : q = g <;> simp [hq, this], vals', row_same k2 (fun q e => ?_), fun i l hi => ?_⟩
      · obtain ⟨cur, hc⟩ := row_cells k2 e
        exact hkeep q (Array.getElem?_eq_some_iff.1 hc).1 (fun e2 => hy (h.sep y x q e e2)) (by rintro rfl; rw [hpm] at hc; cases hc)
      · obtain ⟨u, h1, h2, h3⟩ := k3 i l hi
        exact ⟨u, h1, inner u l h2, fun q e => by have := h3 q e; by_cases hq : q = g <;> simp [hq, this]⟩
  · have old : ∀ z, z ≠ x → (slot0 G z).ownBlock = some g → False := fun z hz e => by
      rcases hat with h3 | h3
      · exact hz (h.sep z x g e h3)
      · obtain ⟨cur, hc⟩ := row_cells (h.rows z).2.choose_spec.1 e
        have := (Array.getElem?_eq_some_iff.1 hc).1
        omega
    by_cases hy : y = x
    · by_cases hz : z = x
      · rw [hy, hz]
      · subst hy
        rw [slot0_same] at h1
        rw [slot0_other _ _ hz] at h2
        cases h1
        exact (old z hz h2).elim
    · by_cases hz : z = x
      · subst hz
        rw [slot0_same] at h2
        rw [slot0_other _ _ hy] at h1
        cases h2
        exact (old y hy h1).elim
      · rw [slot0_other _ _ hy] at h1
        rw [slot0_other _ _ hz] at h2
        exact h.sep y z q h1 h2

end Go.Proofs.Ytloheongiceliaa
end

section
namespace Go.Proofs.Ytloheongiceliaa
open Go.ChangeShapes Go.WideShapes Go.ChangeAt Go.RowKit

/-- What bears no mark lies as it lay. -/
structure Apart (T : Nat → Nat) (W W' : World) : Prop where
  os : W'.os = W.os
  tape : W'.tape = W.tape
  output : W'.output = W.output
  size : W.heap.size ≤ W'.heap.size
  same : ∀ k, k < W.heap.size → T k ≠ 1 → W'.heap[k]? = W.heap[k]?
theorem Apart.of_grown {T : Nat → Nat} {W W' : World} {row : Option Nat} (h : W.grownBy W' row) (hr : ∀ g, row = some g → g < W.heap.size → T g = 1) : Apart T W W' :=
  ⟨h.os, h.tape, h.output, h.size, fun k hk ht => h.block k hk (fun e => ht (hr k e.symm hk))⟩
theorem Apart.of_below {T : Nat → Nat} {W W' : World} (h : Below W.heap.size W W') : Apart T W W' := ⟨h.os, h.tape, h.output, h.size, fun k hk _ => h.block k hk⟩
theorem Apart.trans {T T' : Nat → Nat} {W W' W'' : World} (h : Apart T W W') (k : Apart T' W' W'') (ht : ∀ q, q < W.heap.size → T' q = T q) : Apart T W W'' :=
  ⟨k.os.trans h.os, k.tape.trans h.tape, k.output.trans h.output, Nat.le_trans h.size k.size, fun q hq hT => (k.same q (Nat.lt_of_lt_of_le hq h.size) (by rw [ht q hq]; exact hT)).trans (h.same q hq hT)⟩

def alsoK (K : List UInt8 → Prop) (t : List UInt8) : List UInt8 → Prop := fun x => K x ∨ x = t
def AddOut (W : World) (T : Nat → Nat) (r sm pm n N : Nat) (K : List UInt8 → Prop) (t : List UInt8) (e : Ending) (W' : World) : Prop :=
  ∃ (b : Bool) (T' : Nat → Nat), e = .returned (.bool b) ∧ (b = true ↔ ¬ K t) ∧ RowI W' T' r sm pm (n + 1) (N + 1) (alsoK K t) ∧ (∀ q, q < W.heap.size → T' q = T q) ∧ Apart T W W'

theorem alsoK_in {K : List UInt8 → Prop} {t : List UInt8} (h : K t) : alsoK K t = K := by
  funext x
  apply propext
  constructor
  · rintro (hx | rfl)
    · exact hx
    · exact h
  · exact .inl
theorem PowI.grow {W : World} {T : Nat → Nat} {pm N : Nat} {K : List UInt8 → Prop} (h : PowI W T pm N K) : PowI W T pm (N + 1) K := by
  obtain ⟨G, Pw, ⟨D, h1, h1'⟩, h2, h3, h4, h5⟩ := h
  exact ⟨G, Pw, ⟨D, h1.mono (by omega), h1'⟩, h2, h3, fun x => Nat.le_succ_of_le (h4 x), h5⟩
theorem RowI.grow {W : World} {T : Nat → Nat} {r sm pm n N : Nat} {K : List UInt8 → Prop} (h : RowI W T r sm pm n N K) : RowI W T r sm pm (n + 1) (N + 1) K := by
  have h2 := h.more (n' := n + 1) (by omega)
  exact ⟨h2.block, h2.tags, h2.ne, h2.stand, h2.pow.grow, h2.right, h2.fresh⟩
/-- The standing of one more that is known. -/
theorem StandI.also {W' : World} {sm n : Nat} {K : List UInt8 → Prop} {F : List UInt8 → Option Value} (hF : ∀ k, (F k = none ∧ ¬ K k) ∨ (F k = some (.int .i64 1) ∧ ¬ K k ∧ Tm.Mk K k) ∨ (F k = some (.int .i64 2) ∧ K k)) {t : List UInt8}
    (h : MapAt W' sm n (setAt F t (.int .i64 2))) : StandI W' sm n (alsoK K t) := by
  refine ⟨_, h, fun k => ?_⟩
  by_cases hk : k = t
  · subst hk
    rw [setAt_same]
    exact .inr (.inr ⟨rfl, .inr rfl⟩)
  · rw [setAt_other _ _ hk]
    rcases hF k with ⟨h1, h2⟩ | ⟨h1, h2, h3⟩ | ⟨h1, h2⟩
    · exact .inl ⟨h1, fun h => h.elim h2 hk⟩
    · exact .inr (.inl ⟨h1, fun h => h.elim h2 hk, h3.mono (fun _ hx => .inl hx)⟩)
    · exact .inr (.inr ⟨h1, .inl h2⟩)
theorem PowI.also {W : World} {T : Nat → Nat} {pm N : Nat} {K : List UInt8 → Prop} {t : List UInt8} (h : PowI W T pm N K) (ht : t.getD 0 0 ≠ 101) : PowI W T pm N (alsoK K t) := by
  obtain ⟨G, Pw, h1, h2, h3, h4, h5, h6⟩ := h
  refine ⟨G, Pw, h1, h2, h3, h4, fun x l hl => ?_, fun x b hb hk hx => ?_⟩
  · obtain ⟨b, k1, k2⟩ := h5 x l hl
    exact ⟨b, .inl k1, k2⟩
  · rcases hb with hb | rfl
    · exact h6 x b hb hk hx
    · exact absurd hk ht

/-- All but the standings, behind a store into their map. -/
theorem RowI.rest {W W' : World} {T : Nat → Nat} {r sm pm n N : Nat} {K : List UInt8 → Prop} (h : RowI W T r sm pm n N K) (hg : W.grownBy W' (some sm)) : W'.heap[r]? = some (.cells #[.map (some sm), .map (some pm)] 145 (0, 0)) ∧ PowI W' T pm N K ∧ ∀ k, W'.heap.size ≤ k → T k ≠ 1 := by
  obtain ⟨l1, l2, l3⟩ := h.lt
  obtain ⟨es, clock, hm⟩ := h.map
  have key : ∀ k, k < W.heap.size → (∃ cur e fr, W.heap[k]? = some (.cells cur e fr)) → W'.heap[k]? = W.heap[k]? := fun k hk ⟨cur, e, fr, hc⟩ => hg.block k hk (fun e1 => by
    cases e1
    rw [hm] at hc
    cases hc)
  exact ⟨(key r l1 ⟨_, _, _, h.block⟩).trans h.block, h.pow.keep (hg.block pm l3 (fun e => h.ne (by cases e; rfl))) (fun k _ hk ⟨cur, e, hc⟩ => key k hk ⟨cur, e, _, hc⟩), fun k hk => h.fresh k (Nat.le_trans hg.size hk)⟩

set_option maxRecDepth 100000 in
set_option maxHeartbeats 4000000 in
theorem add_known (t : List UInt8) (hr : Tm.right t = true) {T : Nat → Nat} {r sm pm n N : Nat} {K : List UInt8 → Prop} (W : World) (hI : RowI W T r sm pm n N K) (hK : K t) :
    Calls Try.prog 72 #[.pointer (some ⟨r, 0, none⟩), .string ⟨t.toArray⟩] W (AddOut W T r sm pm n N K t) := by
  have o6 := (Tm.ofL_ok hr).2.2.2.2.2
  obtain ⟨F, hF, hF2⟩ := hI.stand
  have hlook := hF.look Try.underlying142 (zero_standing W) (k := t) o6
  have hcr := hI.cells.1
  have hF3 : F t = some (.int .i64 2) := by
    rcases hF2 t with ⟨_, h⟩ | ⟨_, h, _⟩ | ⟨h, _⟩
    · exact absurd hK h
    · exact absurd hK h
    · exact h
  rw [hF3, Option.getD_some] at hlook
  have hfin : Hid (AddOut W T r sm pm n N K t (.returned (.bool false)) W) := ⟨false, T, rfl, by simp [hK], by rw [alsoK_in hK]; exact hI.grow, fun _ _ => rfl, ⟨rfl, rfl, rfl, Nat.le_refl _, fun _ _ _ => rfl⟩⟩
  clear hI hF hF2 hF3 hr hK
  go_enter Try.func72, Try.ntmps72
  go_wp2
  go_ret
  exact hfin.out

set_option maxRecDepth 100000 in
set_option maxHeartbeats 4000000 in
theorem add_other (c : UInt8) (t' : List UInt8) (hr : Tm.right (c :: t') = true) (hc : c ≠ 101) {T : Nat → Nat} {r sm pm n N : Nat} {K : List UInt8 → Prop} (W : World) (hI : RowI W T r sm pm n N K) (hn : n < roomK) (hK : ¬ K (c :: t')) :
    Calls Try.prog 72 #[.pointer (some ⟨r, 0, none⟩), .string ⟨(c :: t').toArray⟩] W (AddOut W T r sm pm n N K (c :: t')) := by
  have o6 := (Tm.ofL_ok hr).2.2.2.2.2
  obtain ⟨F, hF, hF2⟩ := hI.stand
  have hlook := hF.look Try.underlying142 (zero_standing W) (k := c :: t') o6
  have hcr := hI.cells.1
  obtain ⟨w1, hrun, hm1, hg1⟩ := hF.set Try.underlying142 (by unfold roomK at hn; unfold maxLen; omega) o6 (.int .i64 2)
  have hS := StandI.also hF2 hm1
  obtain ⟨r1, r2, r3⟩ := hI.rest hg1
  have hI1 : RowI w1 T r sm pm (n + 1) (N + 1) (alsoK K (c :: t')) := by
    refine ⟨r1, hI.tags, hI.ne, hS, (r2.also (by simpa using hc)).grow, fun x hx => ?_, r3⟩
    rcases hx with hx | rfl
    · exact hI.right x hx
    · exact hr
  have hfin : Hid (AddOut W T r sm pm n N K (c :: t') (.returned (.bool true)) w1) := ⟨true, T, rfl, by simp [hK], hI1, fun _ _ => rfl, Apart.of_grown hg1 (fun g e _ => by cases e; exact hI.tags.2.1)⟩
  have hq : ((F (c :: t')).getD (.int .i64 0)) = .int .i64 0 ∨ ((F (c :: t')).getD (.int .i64 0)) = .int .i64 1 := by
    rcases hF2 (c :: t') with ⟨h, _⟩ | ⟨h, _⟩ | ⟨_, h⟩
    · exact .inl (by rw [h]; rfl)
    · exact .inr (by rw [h]; rfl)
    · exact absurd h hK
  have hi0 : (0 : Int) < ((⟨(c :: t').toArray⟩ : ByteArray).size : Int) := by rw [size_list, List.length_cons]; omega
  have hc1 : ((c.toNat : Int) == 101) = false := by
    rw [beq_eq_false_iff_ne]
    intro h
    apply hc
    apply UInt8.toNat_inj.1
    exact Int.ofNat.inj h
  have hc3 : ∀ h, (((((⟨(c :: t').toArray⟩ : ByteArray)[0]'h).toNat : Nat) : Int) == 101) = false := fun _ => hc1
  rcases hq with hq | hq
  all_goals
    rw [hq] at hlook
    clear hI hF hF2 hr hK hm1 hg1 hS r1 r2 r3 hI1 hq
    go_enter Try.func72, Try.ntmps72
    go_wp2
    go_ret
    exact hfin.out

end Go.Proofs.Ytloheongiceliaa
end

section
namespace Go.Proofs.Ytloheongiceliaa
open Go.ChangeShapes Go.WideShapes Go.ChangeAt Go.RowKit

theorem Tm.power_some {l : List UInt8} (h : Tm.right l = true) (hk : l.getD 0 0 = 101) : (Tm.begin_ l).2 ≠ 0 := by
  have h1 := Tm.right_begin h
  have hne := (Tm.right_ne_nil h).1
  unfold Tm.begin_ at h1 ⊢
  by_cases hl : l.length < (Tm.headOf l).1
  · rw [if_pos hl] at h1
    exact absurd rfl h1
  · rw [if_neg hl] at h1 ⊢
    have e : Tm.headOf l = (if 2 ≤ l.length ∧ 1 ≤ (l.getD 1 0).toNat ∧ (l.getD 1 0).toNat ≤ 32 then (2, (l.getD 1 0).toNat) else (0, 0)) := by
      unfold Tm.headOf
      rw [if_neg hne, hk]
      rfl
    rw [e] at h1 ⊢
    split
    · rename_i hc
      have := hc.2.1
      show (l.getD 1 0).toNat ≠ 0
      omega
    · rename_i hc
      rw [if_neg hc] at h1
      exact absurd rfl h1

def curOf (Pw : List UInt8 → List (List (List UInt8))) (es done : List (List UInt8)) : List UInt8 → List (List (List UInt8)) := fun y => if y ∈ done then Pw y ++ [es] else Pw y
def AddLoop (w4 : World) (T1 : Nat → Nat) (pm M : Nat) (Pw : List UInt8 → List (List (List UInt8))) (es cs : List (List UInt8)) (k : Nat) (v29 : Value) (wr : World) : Prop :=
  ∃ (i : Nat) (T' : Nat → Nat) (G : List UInt8 → Option Value), k + i = cs.length ∧ v29 = .int .i64 i ∧ PowP wr T' pm (M + i) G (curOf Pw es (cs.take i)) ∧ (∀ q, q < w4.heap.size → T' q = T1 q) ∧ (∀ q, wr.heap.size ≤ q → T' q ≠ 1) ∧
    (∀ q, q < w4.heap.size → (¬ ∃ cur, w4.heap[q]? = some (.cells cur 38 (0, 0))) → q ≠ pm → wr.heap[q]? = w4.heap[q]?) ∧ Apart T1 w4 wr
theorem curOf_nil (Pw : List UInt8 → List (List (List UInt8))) (es : List (List UInt8)) : curOf Pw es [] = Pw := by funext y; simp [curOf]
theorem curOf_step {Pw : List UInt8 → List (List (List UInt8))} {es cs : List (List UInt8)} {i : Nat} {x : List UInt8} (hx : cs[i]? = some x) (hn : x ∉ cs.take i) :
    (fun y => if y = x then curOf Pw es (cs.take i) x ++ [es] else curOf Pw es (cs.take i) y) = curOf Pw es (cs.take (i + 1)) := by
  have e := List.take_add_one (l := cs) (i := i)
  rw [hx] at e
  funext y
  unfold curOf
  rw [e]
  by_cases hy : y = x
  · subst hy
    simp [hn]
  · simp [hy]

theorem row_zero {W : World} {B : Nat} {e : TypeId} {size n : Nat} {v : Value} {xs : List Value} (h : W.ownsRow B e size v n xs) : W.ownsRow 0 e size v n xs := by
  refine ⟨h.1, ?_⟩
  rcases h.2 with hn | ⟨g, cap, cur, rfl, h1, h2⟩
  · exact .inl hn
  · exact .inr ⟨g, cap, cur, rfl, Nat.zero_le _, h2⟩
theorem Rows2.tags {W : World} {T T' : Nat → Nat} {v : Value} {L : List (List (List UInt8))} (h : Rows2 W T v L) (ht : ∀ q, T q = 1 → T' q = 1) : Rows2 W T' v L := by
  obtain ⟨h1, vals, h2, h3⟩ := h
  exact ⟨fun g e => ht g (h1 g e), vals, h2, fun i l hi => by
    obtain ⟨u, k1, k2, k3⟩ := h3 i l hi
    exact ⟨u, k1, k2, fun g e => ht g (k3 g e)⟩⟩
theorem PowP.below {W W' : World} {T T' : Nat → Nat} {pm M : Nat} {G : List UInt8 → Option Value} {Cur : List UInt8 → List (List (List UInt8))} (h : PowP W T pm M G Cur) (hb : Below W.heap.size W W') (ht : ∀ q, T q = 1 → T' q = 1) : PowP W' T' pm M G Cur :=
  ⟨h.map.same (hb.block pm h.map.lt), fun x => ((h.rows x).keep (fun k _ hk _ => hb.block k hk)).tags ht, h.sep⟩

set_option maxRecDepth 100000 in
set_option maxHeartbeats 8000000 in
theorem add_power (t' : List UInt8) (hr : Tm.right (101 :: t') = true) {T : Nat → Nat} {r sm pm n N : Nat} {K : List UInt8 → Prop} (W : World) (hI : RowI W T r sm pm n N K) (hn : n < roomK) (hN : N < 1000000000) (hK : ¬ K (101 :: t')) :
    Calls Try.prog 72 #[.pointer (some ⟨r, 0, none⟩), .string ⟨(101 :: t').toArray⟩] W (AddOut W T r sm pm n N K (101 :: t')) := by
  obtain ⟨i0, hi, hz0, hz1, hz2⟩ := info_parts info_slice
  obtain ⟨o1, o2, o3, o4, o5, o6⟩ := Tm.ofL_ok hr
  obtain ⟨F, hF, hF2⟩ := hI.stand
  have hlook := hF.look Try.underlying142 (zero_standing W) (k := 101 :: t') o6
  have hcr := hI.cells.1
  obtain ⟨w1, hrun, hm1, hg1⟩ := hF.set Try.underlying142 (by unfold roomK at hn; unfold maxLen; omega) o6 (.int .i64 2)
  have HStd := Lib.hid hm1.block
  have hS := StandI.also hF2 hm1
  obtain ⟨r1, r2, r3⟩ := hI.rest hg1
  obtain ⟨G, Pw, p1, p2, p3, p4, p5, p6⟩ := r2
  have hPw0 : PowP w1 T pm (40 * N) G Pw := ⟨p1, p2, p3⟩
  have hlen : (Tm.ofL (101 :: t')).length ≤ 32 := by rw [o3]; exact (Tm.begin_le _).2
  have hne : Tm.ofL (101 :: t') ≠ [] := by
    intro h
    have h1 := Tm.right_begin hr
    have h2 : (Tm.ofL (101 :: t')).length = 0 := by rw [h]; rfl
    rw [o3] at h2
    exact Tm.power_some hr rfl h2
  have hst := Tm.ofL_sorted hr rfl
  obtain ⟨c1, c2, c3⟩ := Tm.compact_chain hst
  have hshort : ∀ x ∈ Tm.ofL (101 :: t'), x.length ≤ 20000 := fun x hx => by have := (o2 x hx).2.2; omega
  have HFin : Hid (∀ (W' : World) (T' : Nat → Nat) (G' : List UInt8 → Option Value), (∀ q, q < W.heap.size → T' q = T q) → Apart T W W' → W'.heap[r]? = some (.cells #[.map (some sm), .map (some pm)] 145 (0, 0)) → W'.heap[sm]? = w1.heap[sm]? →
      PowP W' T' pm (40 * N + (Lib.compact (Tm.ofL (101 :: t'))).length) G' (curOf Pw (Tm.ofL (101 :: t')) (Lib.compact (Tm.ofL (101 :: t')))) → (∀ q, W'.heap.size ≤ q → T' q ≠ 1) → AddOut W T r sm pm n N K (101 :: t') (.returned (.bool true)) W') := by
    intro W' T' G' h1 h2 h3 h4 h5 h6
    have hl := hI.lt
    refine ⟨true, T', rfl, by simp [hK], ⟨h3, ⟨(h1 r hl.1).trans hI.tags.1, (h1 sm hl.2.1).trans hI.tags.2.1, (h1 pm hl.2.2).trans hI.tags.2.2⟩, hI.ne, ?_, ?_, ?_, h6⟩, h1, h2⟩
    · obtain ⟨F', k1, k2⟩ := hS
      exact ⟨F', k1.same h4, k2⟩
    · obtain ⟨D, d1, d2⟩ := h5.map
      refine ⟨G', _, ⟨D, d1.mono (by omega), d2⟩, h5.rows, h5.sep, fun x => ?_, fun x l hl => ?_, fun x b hb hk hx => ?_⟩
      · unfold curOf
        have := p4 x
        split
        · simp; omega
        · omega
      · unfold curOf at hl
        split at hl
        · rcases List.mem_append.1 hl with hl | hl
          · obtain ⟨b, k1, k2⟩ := p5 x l hl
            exact ⟨b, .inl k1, k2⟩
          · simp at hl
            exact ⟨101 :: t', .inr rfl, rfl, hl.symm⟩
        · obtain ⟨b, k1, k2⟩ := p5 x l hl
          exact ⟨b, .inl k1, k2⟩
      · unfold curOf
        rcases hb with hb | rfl
        · have := p6 x b hb hk hx
          split
          · exact List.mem_append_left _ this
          · exact this
        · rw [if_pos ((c2 x).2 hx)]
          simp
    · intro x hx
      rcases hx with hx | rfl
      · exact hI.right x hx
      · exact hr
  have hq : ((F (101 :: t')).getD (.int .i64 0)) = .int .i64 0 ∨ ((F (101 :: t')).getD (.int .i64 0)) = .int .i64 1 := by
    rcases hF2 (101 :: t') with ⟨h, _⟩ | ⟨h, _⟩ | ⟨_, h⟩
    · exact .inl (by rw [h]; rfl)
    · exact .inr (by rw [h]; rfl)
    · exact absurd h hK
  have hi0 : (0 : Int) < ((⟨(101 :: t').toArray⟩ : ByteArray).size : Int) := by rw [size_list, List.length_cons]; omega
  have HOf := Lib.hid (Of_right ⟨(101 :: t').toArray⟩ (by simpa using hr) w1)
  have hbase : Hid (RowI W T r sm pm n N K) := hI
  have HP0 := Lib.hid hPw0
  have HR := Lib.hid (And.intro r1 r3)
  have HC := Lib.hid (And.intro c1 c2)
  have HSt := Lib.hid hst
  have HSh := Lib.hid hshort
  have HG1 := Lib.hid hg1
  have HPl := Lib.hid p4
  have hcl := c3
  obtain ⟨v0, hv0⟩ : ∃ v0, (F (101 :: t')).getD (.int .i64 0) = v0 := ⟨_, rfl⟩
  rw [hv0] at hlook hq
  generalize hes : Tm.ofL (101 :: t') = es at *
  clear hI hF hF2 hr hK hm1 hg1 hS r1 r3 p1 p2 p3 p4 p5 p6 hPw0 c1 c2 hst hshort o1 o2 o3 o4 o5 hv0 hes
  have hv0 : (v0 = .int .i64 0) ∨ (v0 = .int .i64 1) := hq
  clear hq
  obtain ⟨z, rfl, hz⟩ : ∃ z : Int, v0 = .int .i64 z ∧ (z == 2) = false := by
    rcases hv0 with rfl | rfl
    · exact ⟨0, rfl, rfl⟩
    · exact ⟨1, rfl, rfl⟩
  clear hv0
  go_enter Try.func72, Try.ntmps72
  go_wp2_with fail
  refine HOf.out.mono ?_
  rintro e1 w2 ⟨v5, rfl, hrow5, _, b2⟩
  obtain ⟨g5, c5, rfl, _, _⟩ := row_slice hrow5 hne
  have HCl := Lib.hid (Clone_row es _ (.slice (some ⟨g5, 0, none⟩) es.length c5) w2 hrow5 hne (by omega))
  have H5 := Lib.hid (And.intro hrow5 b2)
  clear hrow5 b2
  go_wp2_with fail
  refine HCl.out.mono ?_
  rintro e2 w3 ⟨vc, rfl, hrc, b3⟩
  have HCo := Lib.hid (Compact_row es _ vc w3 hrc hne (by omega) hcl)
  have H3 := Lib.hid (And.intro hrc b3)
  clear hrc b3 HCl
  go_wp2_with fail
  refine HCo.out.mono ?_
  rintro e3 w4 ⟨v27, rfl, hrow27, hg4⟩
  obtain ⟨hrow5, b2⟩ := H5.out
  obtain ⟨hrc, b3⟩ := H3.out
  have hcb : ∀ g, vc.ownBlock = some g → w2.heap.size ≤ g := fun g e => (hrc.lt g e).1
  have b34 : Below w2.heap.size w2 w4 := b3.grown hg4 b3.size hcb
  have b14 : Below w1.heap.size w1 w4 := b2.trans (b34.mono b2.size)
  have hv5 : w4.ownsRow 0 24 1 (.slice (some ⟨g5, 0, none⟩) es.length c5) es.length (strs es) := row_zero (row_same hrow5 (fun g e => b34.block g (hrow5.lt g e).2))
  obtain ⟨T1, hT1⟩ : ∃ T1 : Nat → Nat, T1 = fun q => if (Value.slice (some ⟨g5, 0, none⟩) es.length c5).ownBlock = some q then 1 else T q := ⟨_, rfl⟩
  have ht5 : ∀ g, (Value.slice (some ⟨g5, 0, none⟩) es.length c5).ownBlock = some g → T1 g = 1 := fun g e => by rw [hT1]; simp [e]
  have hT1T : ∀ q, q < w1.heap.size → T1 q = T q := fun q hq => by
    rw [hT1]
    simp only
    rw [if_neg (fun e => by have := (hrow5.lt q e).1; omega)]
  have hT1f : ∀ q, w4.heap.size ≤ q → T1 q ≠ 1 := fun q hq => by
    rw [hT1]
    simp only
    rw [if_neg (fun e => by have := (hrow5.lt q e).2; have := b34.size; omega)]
    exact HR.out.2 q (by have := b14.size; omega)
  have hP4 : PowP w4 T1 pm (40 * N) G Pw := HP0.out.below b14 (fun q hq => by rw [hT1]; simp only; split <;> first | rfl | exact hq)
  have hr4 : w4.heap[r]? = some (.cells #[.map (some sm), .map (some pm)] 145 (0, 0)) := (b14.block r (Array.getElem?_eq_some_iff.1 HR.out.1).1).trans HR.out.1
  have hA4 : Apart T W w4 := (Apart.of_grown HG1.out (fun g e _ => by cases e; exact hbase.out.tags.2.1)).trans (T' := T) (Apart.of_below b14) (fun _ _ => rfl)
  have hlts := hbase.out.lt
  have hs1 := HG1.out.size
  have hb14s := b14.size
  have hsm4 : w4.heap[sm]? = w1.heap[sm]? := b14.block sm (by omega)
  obtain ⟨A27, c27, e27, hc27⟩ := reads_terms hrow27
  subst e27
  obtain ⟨cs, hcs⟩ : ∃ cs, Lib.compact es = cs := ⟨_, rfl⟩
  rw [hcs] at hc27 HFin HC hcl ⊢
  have HC27 := Lib.hid hc27
  have HRow27 : Hid (∃ B, w4.ownsRow B 24 1 (.slice A27 cs.length c27) cs.length (strs cs)) := by rw [hcs] at hrow27; exact ⟨_, hrow27⟩
  have HH5 := Lib.hid (And.intro hv5 ht5)
  have HT1 := Lib.hid (And.intro hT1T hT1f)
  have HP4 := Lib.hid hP4
  have HR4 := Lib.hid (And.intro hr4 (And.intro hA4 hsm4))
  clear hrow27 hg4 hrow5 b2 hrc b3 hcb b34 hv5 ht5 hT1T hT1f hP4 hr4 hA4 hsm4 hc27 H5 H3 HCo hcs hT1 HOf hlook hrun
  go_wp2
  go_loopg [29] cs.length (fun k v29 wr => AddLoop w4 T1 pm (40 * N) Pw es cs k v29 wr)
  case atStart => exact ⟨0, T1, G, by omega, rfl, by rw [List.take_zero, curOf_nil]; exact HP4.out, fun _ _ => rfl, HT1.out.2, fun _ _ _ _ => rfl, ⟨rfl, rfl, rfl, Nat.le_refl _, fun _ _ _ => rfl⟩⟩
  case round =>
    obtain ⟨i, T', G', hk, rfl, hP, hTT, hTf, hsame, hAp⟩ := hrel
    have hszr := hAp.size
    have hcs32 : cs.length ≤ 32 := by omega
    by_cases hil : i < cs.length
    · obtain ⟨x, hx⟩ : ∃ x, cs[i]? = some x := ⟨_, List.getElem?_eq_getElem hil⟩
      obtain ⟨g27, rfl, hg27, hc27⟩ := HC27.out i x hx
      have hxe : x ∈ es := (HC.out.2 x).1 (List.mem_of_getElem? hx)
      have hxs := HSh.out x hxe
      have hnx : x ∉ cs.take i := by
        intro hm
        obtain ⟨j, hj, e⟩ := List.getElem_of_mem hm
        rw [List.getElem_take] at e
        rw [List.length_take] at hj
        have h1 := List.pairwise_iff_getElem.1 HC.out.1 j i (by omega) hil (by omega)
        rw [e, (List.getElem?_eq_some_iff.1 hx).2] at h1
        unfold Tm.strict at h1
        have h2 := Tm.less_irr x
        rw [h1] at h2
        cases h2
      have hnot34 : ∀ q, q < w4.heap.size → (¬ ∃ cur, w4.heap[q]? = some (.cells cur 38 (0, 0))) → q ≠ pm → wr.heap[q]? = w4.heap[q]? := hsame
      obtain ⟨em, clm, hpm⟩ := hP.map.block
      have hpm4 : pm < w4.heap.size := HP4.out.map.lt
      have ne23 : ∀ q cur e fr, w4.heap[q]? = some (.cells cur e fr) → q ≠ pm := fun q cur e fr h1 h2 => by
        obtain ⟨es0, cl0, hm0⟩ := HP4.out.map.block
        rw [← h2, h1] at hm0
        cases hm0
      have hcell27 : wr.cell? ⟨g27, i, none⟩ = some (.string ⟨x.toArray⟩) := by
        obtain ⟨o, ho, hoc⟩ := cells_of_cell hc27
        obtain ⟨B27, hB27⟩ := HRow27.out
        obtain ⟨cur, hcur⟩ := row_cells hB27 rfl
        have : wr.heap[g27]? = w4.heap[g27]? := hnot34 g27 hg27 (by rintro ⟨cur', hc'⟩; rw [hcur] at hc'; simp at hc') (ne23 g27 _ _ _ hcur)
        exact (World.cell?_of_block this).trans hc27
      have hr4 := HR4.out.1
      have hrr : wr.heap[r]? = w4.heap[r]? := hnot34 r (by omega) (by rintro ⟨cur', hc'⟩; rw [hr4] at hc'; simp at hc') (ne23 r _ _ _ hr4)
      have hcr1 : wr.cell? ⟨r, 1, none⟩ = some (.map (some pm)) := by
        have : wr.heap[r]? = some (.cells #[.map (some sm), .map (some pm)] 145 (0, 0)) := hrr.trans hr4
        simp [World.cell?, this]
      have hv5r : wr.ownsRow 0 24 1 (.slice (some ⟨g5, 0, none⟩) es.length c5) es.length (strs es) := row_same HH5.out.1 (fun q e => by
        obtain ⟨cur, hcur⟩ := row_cells HH5.out.1 e
        exact hnot34 q (Array.getElem?_eq_some_iff.1 hcur).1 (by rintro ⟨cur', hc'⟩; rw [hcur] at hc'; simp at hc') (ne23 q _ _ _ hcur))
      have ht5r : ∀ g, (Value.slice (some ⟨g5, 0, none⟩) es.length c5).ownBlock = some g → T' g = 1 := fun g e => by
        obtain ⟨cur, hcur⟩ := row_cells HH5.out.1 e
        rw [hTT g (Array.getElem?_eq_some_iff.1 hcur).1]
        exact HH5.out.2 g e
      obtain ⟨htag, vals, hvals, hin⟩ := hP.rows x
      have hcurx : curOf Pw es (cs.take i) x = Pw x := by unfold curOf; rw [if_neg hnx]
      have hLN : (curOf Pw es (cs.take i) x).length ≤ N := by rw [hcurx]; exact HPl.out x
      have hlookR : Hid (∀ y : World, y.heap[pm]? = wr.heap[pm]? → (Instr.lookup 143 (.map (some pm)) (.string ⟨x.toArray⟩) false).run Try.prog y = .ok (slot0 G' x) y) := fun y hy =>
        (hP.map.same hy).look Try.underlying143 (zero_powers y) hxs
      have hset : Hid (∀ (v : Value) (y : World), y.heap[pm]? = wr.heap[pm]? → ∃ w5, (Instr.mapUpdate 143 (.map (some pm)) (.string ⟨x.toArray⟩) v).run Try.prog y = .ok () w5 ∧ MapAt w5 pm (40 * N + i + 1) (setAt G' x v) ∧ y.grownBy w5 (some pm)) := fun v y hy =>
        (hP.map.same hy).set Try.underlying143 (by unfold maxLen; omega) hxs v
      have hpmA : Hid (∀ y : World, ((wr.alloc (.cells #[(.slice (some ⟨g5, 0, none⟩) es.length c5)] 38)).drew).grownBy y (slot0 G' x).ownBlock → y.heap[pm]? = wr.heap[pm]?) := fun y hg => by
        refine (hg.block pm (by simp [World.drew]; omega) (fun e => ?_)).trans ?_
        · obtain ⟨cur, hcur⟩ := row_cells hvals e.symm
          rw [hpm] at hcur
          cases hcur
        · exact (World.grownBy_alloc wr (.cells #[(.slice (some ⟨g5, 0, none⟩) es.length c5)] 38) none).block pm hP.map.lt (by simp)
      have HL0 := Lib.hid (hlookR.out wr rfl)
      have HRow0 := Lib.hid hvals
      have hrlt : r < wr.heap.size := by omega
      have hrne : Hid ((slot0 G' x).ownBlock ≠ some r) := fun e => by
        obtain ⟨cur, hcur⟩ := row_cells hvals e
        rw [hrr, hr4] at hcur
        simp at hcur
      obtain ⟨vs, hvs⟩ : ∃ vs, slot0 G' x = vs := ⟨_, rfl⟩
      obtain ⟨L, hL⟩ : ∃ L, (curOf Pw es (cs.take i) x).length = L := ⟨_, rfl⟩
      have HStep : Hid (∀ (g cap : Nat) (wA w5 : World), wA.ownsRow 0 38 1 (.slice (some ⟨g, 0, none⟩) (L + 1) cap) (L + 1) (vals ++ [(.slice (some ⟨g5, 0, none⟩) es.length c5)]) → ((wr.alloc (.cells #[(.slice (some ⟨g5, 0, none⟩) es.length c5)] 38)).drew).grownBy wA vs.ownBlock → (vs.ownBlock = some g ∨ g = wr.heap.size + 1) → g < wA.heap.size →
          wA.grownBy w5 (some pm) → MapAt w5 pm (40 * N + i + 1) (setAt G' x (.slice (some ⟨g, 0, none⟩) (L + 1) cap)) → AddLoop w4 T1 pm (40 * N) Pw es cs (gk - 1) (.int .i64 ((i + 1 : Nat) : Int)) w5) := by
        intro g cap wA w5 k1 k2 k3 k3b k4 k5
        subst hvs hL
        have hgA : wr.grownBy wA (slot0 G' x).ownBlock := grown_trans (World.grownBy_alloc wr (.cells #[(.slice (some ⟨g5, 0, none⟩) es.length c5)] 38) _) ⟨k2.os, k2.tape, k2.output, k2.size, k2.block⟩
        obtain ⟨s1, s2, s3⟩ := hP.step hvals hin hv5r ht5r k1 hgA (k3.imp id (fun e => by omega)) k4 k5
        have hz5 : wr.heap.size ≤ w5.heap.size := Nat.le_trans hgA.size k4.size
        refine ⟨i + 1, (fun q => if q = g then 1 else T' q), setAt G' x (.slice (some ⟨g, 0, none⟩) ((curOf Pw es (cs.take i) x).length + 1) cap), by omega, rfl, ?_, fun q hq => ?_, fun q hq => ?_, fun q hq h1 h2 => ?_, ?_⟩
        · rw [← curOf_step hx hnx]
          exact s1
        · by_cases hqg : q = g
          · subst hqg
            simp only [if_true]
            rcases k3 with e | e
            · rw [← hTT q hq]
              exact (htag q e).symm
            · omega
          · simp only [hqg, if_false]
            exact hTT q hq
        · have : q ≠ g := by have := k4.size; omega
          simp only [this, if_false]
          exact hTf q (by omega)
        · exact (s2 q (by omega) (by rintro ⟨cur, hc⟩; rw [hsame q hq h1 h2] at hc; exact h1 ⟨cur, hc⟩) h2).trans (hsame q hq h1 h2)
        · refine ⟨k4.os.trans (hgA.os.trans hAp.os), k4.tape.trans (hgA.tape.trans hAp.tape), k4.output.trans (hgA.output.trans hAp.output), Nat.le_trans hszr hz5, fun q hq ht => ?_⟩
          refine (s3 q (by omega) (by rw [hTT q hq]; exact ht) (fun e => ht ?_)).trans (hAp.same q hq ht)
          rw [e, HT1.out.1 pm (by omega)]
          exact hbase.out.tags.2.2
      rw [hvs] at HL0 hlookR hpmA HRow0 hrne
      rw [hL] at HRow0 hLN
      have hgk : gk - 1 < gk := by omega
      have j1 : (i : Int) < (cs.length : Int) := by omega
      have j2 : (0 : Int) ≤ (i : Int) := by omega
      have hlk := HL0.out
      have hlk1 := hlookR.out wr.drew rfl
      have hlk2 := hlookR.out ((wr.alloc (.cells #[.slice (some ⟨g5, 0, none⟩) es.length c5] 38)).drew) ((World.grownBy_alloc wr (.cells #[.slice (some ⟨g5, 0, none⟩) es.length c5] 38) none).block pm (by omega) (by simp))
      have hrpm : ¬ r = pm := fun e => by
        obtain ⟨es0, cl0, hm0⟩ := HP4.out.map.block
        have := HR4.out.1
        rw [e, hm0] at this
        cases this
      clear hx hc27 hxe hxs hnx hnot34 hpm ne23 hr4 hrr hv5r ht5r htag hin hvals hcurx hP hTT hTf hsame hAp hk hvs hL
      go_wp2
      go_region_held3 (fun w' => w'.cell? ⟨r, 1, none⟩ = some (.map (some pm)))
        (first
          | go_keep
          | (rw [hgrow.cell_far _ (by simp; omega) (Ne.symm hrne.out)]; assumption)
          | (rw [hg5.cell_far ⟨r, 1, none⟩ (by simp; have := hgrow.size; simp at this; omega) (by simp; exact hrpm)]; assumption))
        ((refine step_append_lies _ (by rfl) _ _ _ (by rfl) 0 38 i0 _ 1 24 Try.underlying147 hi hz0 hz1 hz2 rfl (by omega) vs L vals (by rfl) ((HRow0.out.alloc _).drew)
            ⟨wr.heap.size, 0, none⟩ 1 1 [(.slice (some ⟨g5, 0, none⟩) es.length c5)] (by rfl) (by rfl) (World.news_of_block (cs := #[(.slice (some ⟨g5, 0, none⟩) es.length c5)]) (t := 38) (fr := (0, 0)) (heap_alloc_new wr _)) (by simp [Value.oneCell'])
            (by omega) (by unfold maxLen; omega) (by omega) (by simp) (wr.heap.size + 1) (by simp) ?_; intro gg cap wA hown1 hgrow hat hlt; obtain ⟨w5, hrun5, hm5, hg5⟩ := hset.out (.slice (some ⟨gg, 0, none⟩) (L + 1) cap) wA (hpmA.out _ hgrow)))
      all_goals
        have hRel := Lib.hid (HStep.out gg cap wA w5 hown1 hgrow hat hlt hg5 hm5)
        clear hown1 hgrow hat hlt hg5 hm5 hrun5 hlk hlk1 hlk2
        go_wp2
        go_roundg (gk - 1)
        case measure => exact hgk
        case rel => exact hRel.out
    · obtain rfl : i = cs.length := by omega
      have j1 : ¬ ((cs.length : Int) < (cs.length : Int)) := by omega
      rw [List.take_length] at hP
      have not34 : ∀ q, (¬ ∃ cur, w4.heap[q]? = some (.cells cur 38 (0, 0))) → q < w4.heap.size → q ≠ pm → wr.heap[q]? = w4.heap[q]? := fun q h1 h2 h3 => hsame q h2 h1 h3
      have hfin : Hid (AddOut W T r sm pm n N K (101 :: t') (.returned (.bool true)) wr) := by
        obtain ⟨k1, k2, k3⟩ := HR4.out
        refine HFin.out wr T' G' (fun q hq => ?_) (k2.trans hAp (fun q hq => HT1.out.1 q (by omega))) ?_ ?_ hP hTf
        · rw [hTT q (by omega), HT1.out.1 q (by omega)]
        · refine (not34 r ?_ (by omega) ?_).trans k1
          · rintro ⟨cur, hc⟩
            rw [k1] at hc
            simp at hc
          · intro e
            obtain ⟨es0, cl0, hm0⟩ := HP4.out.map.block
            rw [← e, k1] at hm0
            cases hm0
        · refine (not34 sm ?_ (by omega) hbase.out.ne).trans k3
          rintro ⟨cur, hc⟩
          rw [k3] at hc
          obtain ⟨es0, cl0, hm0⟩ := HStd.out
          rw [hm0] at hc
          cases hc
      clear hP hTT hTf hsame hAp not34
      go_wp2
      go_ret
      exact hfin.out

theorem add_calls (t : List UInt8) (hr : Tm.right t = true) {T : Nat → Nat} {r sm pm n N : Nat} {K : List UInt8 → Prop} (W : World) (hI : RowI W T r sm pm n N K) (hn : n < roomK) (hN : N < 1000000000) :
    Calls Try.prog 72 #[.pointer (some ⟨r, 0, none⟩), .string ⟨t.toArray⟩] W (AddOut W T r sm pm n N K t) := by
  by_cases hK : K t
  · exact add_known t hr W hI hK
  · cases t with
    | nil => exact absurd rfl (Tm.right_ne_nil hr).1
    | cons c t' =>
      by_cases hc : c = 101
      · subst hc
        exact add_power t' hr W hI hn hN hK
      · exact add_other c t' hr hc W hI hn hK

end Go.Proofs.Ytloheongiceliaa
end

section
namespace Go.Proofs.Ytloheongiceliaa
open Go.ChangeShapes Go.WideShapes Go.ChangeAt Go.RowKit

theorem Sort_any (l : List (List UInt8)) (B : Nat) (v : Value) (W : World) (h : W.ownsRow B 24 1 v l.length (strs l)) (hl : l.length ≤ 4000000000) :
    Calls Try.prog 99 #[v] W fun e W' => e = .returned (.tuple #[]) ∧ W'.ownsRow B 24 1 v l.length (strs (sortedL l)) ∧ W.grownBy W' v.ownBlock := by
  by_cases hne : l = []
  · subst hne
    have hs : ∃ p cap, v = .slice p 0 cap := by
      rcases h.2 with ⟨rfl, _⟩ | ⟨g, cap, cur, rfl, _⟩
      · exact ⟨none, 0, rfl⟩
      · exact ⟨_, cap, rfl⟩
    obtain ⟨p, cap, rfl⟩ := hs
    refine (AnyM.slices_Sort_string_none Try.laysSort p cap W).mono ?_
    rintro e W' ⟨rfl, rfl⟩
    exact ⟨rfl, by simpa [sortedL] using h, grown_refl _ _⟩
  · exact Sort_row l B v W h hne hl

def KnownOut (W : World) (n : Nat) (K : List UInt8 → Prop) (e : Ending) (W' : World) : Prop :=
  ∃ v xs, e = .returned v ∧ Reads W' v xs ∧ (∀ x, x ∈ xs ↔ K x) ∧ xs.length ≤ n ∧ Below W.heap.size W W'
def Gathered (W : World) (sm n : Nat) (D : DataW Value) (K : List UInt8 → Prop) (cnt : Nat) (v3 : Value) (wr : World) : Prop :=
  ∃ (left : Lit → Bool) (ss : List (List UInt8)), wr.ranges Try.prog 24 heldElem sm W.heap.size n D left cnt ∧ wr.ownsRow (W.heap.size + 1) 24 1 v3 ss.length (strs ss) ∧ ss.Nodup ∧ (∀ k, k ∈ ss ↔ K k ∧ left (.string k) = false) ∧ Below W.heap.size W wr ∧ W.heap.size + 1 ≤ wr.heap.size

theorem nodup_len : ∀ {ss us : List (List UInt8)}, ss.Nodup → (∀ x ∈ ss, x ∈ us) → ss.length ≤ us.length
  | [], _, _, _ => by simp
  | a :: ss, us, h, hs => by
    have ha := hs a (by simp)
    have hp := List.perm_cons_erase ha
    have h1 := List.nodup_cons.1 h
    have h2 := nodup_len (ss := ss) (us := us.erase a) h1.2 (fun x hx => (List.mem_erase_of_ne (fun e : x = a => h1.1 (by rw [← e]; exact hx))).2 (hs x (List.mem_cons_of_mem _ hx)))
    have h3 := hp.length_eq
    simp only [List.length_cons] at h3 ⊢
    omega
set_option maxRecDepth 100000 in
set_option maxHeartbeats 4000000 in
theorem known_calls {T : Nat → Nat} {r sm pm n N : Nat} {K : List UInt8 → Prop} (W : World) (hI : RowI W T r sm pm n N K) (us : List (List UInt8)) (hus : ∀ k, K k → k ∈ us) (hul : us.length ≤ 1000000000) :
    Calls Try.prog 76 #[.pointer (some ⟨r, 0, none⟩)] W (KnownOut W us.length K) := by
  obtain ⟨i0, hi, hz0, hz1, hz2⟩ := info_parts info_term
  obtain ⟨F, ⟨D, hD, hDF⟩, hF⟩ := hI.stand
  have hcr := hI.cells.1
  obtain ⟨w0, hrun, hrg0, hg0, hs0⟩ := hD.range keyed_term Try.underlying142
  have hb0 : Below W.heap.size W w0 := ⟨hg0.os, hg0.tape, hg0.output, hg0.size, fun k hk => hg0.block k hk (by simp)⟩
  have hsz := hD.size_le
  have hleft0 : ∀ k, K k → Maps.has D (.string k) = true := fun k hk => by
    have hk2 : F k = some (.int .i64 2) := by
      rcases hF k with ⟨_, h⟩ | ⟨_, h, _⟩ | ⟨h, _⟩
      · exact absurd hk h
      · exact absurd hk h
      · exact h
    exact Maps.has_true_of_atKey (y := .held (.int .i64 2)) (fun z => by rw [hDF k z, hk2])
  have hval : ∀ k v, (∀ zd, D.atKey (.string k) zd = .held v) → (v = .int .i64 1 ∧ ¬ K k) ∨ (v = .int .i64 2 ∧ K k) := fun k v h => by
    have h1 := h .nil
    rw [hDF k .nil] at h1
    rcases hF k with ⟨e, _⟩ | ⟨e, h2, _⟩ | ⟨e, h2⟩
    · rw [e] at h1
      cases h1
    · rw [e] at h1
      simp at h1
      exact .inl ⟨h1.symm, h2⟩
    · rw [e] at h1
      simp at h1
      exact .inr ⟨h1.symm, h2⟩
  have HVal := Lib.hid hval
  have HUs := Lib.hid hus
  have H0 : Hid (Gathered W sm n D K (Maps.size D) (.slice none 0 0) w0) :=
    ⟨_, [], hrg0, World.ownsRow_nil _ _ _ _, List.nodup_nil, (fun k => by
      constructor
      · intro h; cases h
      · rintro ⟨h1, h2⟩
        rw [hleft0 k h1] at h2
        cases h2), hb0, by omega⟩
  clear hI hD hDF hF hrg0 hg0 hs0 hb0 hsz hleft0 hval hus
  go_enter Try.func76, Try.ntmps76
  go_wp2
  go_loopg [3] (Maps.size D) (fun k v3 wr => Gathered W sm n D K k v3 wr)
  case atStart => exact H0.out
  case round =>
    obtain ⟨left, ss, hrg, hrow, hnd, hmem, hB, hsz⟩ := hrel
    have hss : ss.length ≤ us.length := nodup_len hnd (fun x hx => HUs.out x ((hmem x).1 hx).1)
    have HNd := Lib.hid hnd
    clear hnd
    rcases hrg.next keyed_term 0 with ⟨h0, hl, hnext⟩ | ⟨key, v, kl, y, w1, cnt', hkey, hlk, hv, hat, hnext, hrg1, hlt, hg1, hs1, hen⟩
    · have HFin := Lib.hid (And.intro hrow (And.intro hmem (And.intro hB hl)))
      have HS := Lib.hid (Sort_any ss _ u3 wr hrow (by omega))
      clear hrg hrow hmem hB hl H0 hrun
      go_wp2_with fail
      refine HS.out.mono ?_
      rintro e w2 ⟨rfl, hrow2, hg2⟩
      have hfin : Hid (KnownOut W us.length K (.returned u3) w2) := by
        obtain ⟨k1, k2, k3, k4⟩ := HFin.out
        refine ⟨u3, sortedL ss, rfl, ?_, fun x => ?_, by rw [sortedL_length]; exact hss, ?_⟩
        · have h5 : w2.ownsRow (W.heap.size + 1) 24 1 u3 (sortedL ss).length (strs (sortedL ss)) := by rw [sortedL_length]; exact hrow2
          exact reads_terms h5
        · unfold sortedL
          rw [List.mem_mergeSort, k2 x, k4]
          simp
        · exact k3.grown hg2 k3.size (fun j hj => by have := (k1.lt j hj).1; omega)
      clear hrow2 hg2
      go_wp2
      go_ret
      exact hfin.out
    · obtain ⟨s, rfl, rfl, hsl⟩ := WideMaps.string_of_keyOf Try.underlying24 hkey
      obtain ⟨k0, rfl⟩ : ∃ k0 : List UInt8, s = ⟨k0.toArray⟩ := ⟨s.data.toList, by cases s; simp⟩
      rw [list_data] at hlk hat hrg1
      have hy : y = (.held v, []) := by unfold heldElem at hv; simpa using hv.symm
      subst hy
      have hor := HVal.out k0 v hat
      have hB1 : Below W.heap.size W w1 := hB.grown hg1 hB.size (fun j hj => by cases hj; omega)
      have hrow1 : w1.ownsRow (W.heap.size + 1) 24 1 u3 ss.length (strs ss) := hrow.kept hg1 (by
        rcases hrow.2 with ⟨h1, _⟩ | ⟨g, cap, cur, h1, h2, _⟩
        · left; rw [h1]; rfl
        · right; rw [h1]; simp [Value.ownBlock]; omega)
      have hkey2 : ∀ k, ((fun x : Lit => left x && !x.sameKey (.string k0)) (.string k) = false) ↔ (left (.string k) = false ∨ k = k0) := fun k => by
        have : (Lit.string k).sameKey (.string k0) = true ↔ k = k0 := by
          rw [WideAt.sameKey_iff (key_lit k0)]
          simp
        cases h1 : left (.string k) with
        | false => simp [h1]
        | true =>
          simp only [h1, Bool.true_and]
          rw [Bool.not_eq_false', this]
          simp
      have hnk0 : k0 ∉ ss := fun h => by
        have := (hmem k0).1 h
        rw [hlk] at this
        cases this.2
      have HRg := Lib.hid hrg1
      have HK2 := Lib.hid hkey2
      have HMem := Lib.hid hmem
      have HB1 := Lib.hid hB1
      rcases hor with ⟨rfl, hnK⟩ | ⟨rfl, hyK⟩
      · have hRel : Hid (Gathered W sm n D K cnt' u3 w1) := by
          refine ⟨_, ss, HRg.out, hrow1, HNd.out, fun k => ?_, HB1.out, by omega⟩
          rw [HK2.out k, HMem.out k]
          constructor
          · rintro ⟨h1, h2⟩
            exact ⟨h1, .inl h2⟩
          · rintro ⟨h1, h2 | rfl⟩
            · exact ⟨h1, h2⟩
            · exact absurd h1 hnK
        clear hrg hrow hmem hB hlk hat hrg1 hrow1 hB1 hkey2 hv hkey HRg HMem H0 hrun hnK
        go_wp2
        go_roundg cnt'
        case measure => exact hlt
        case rel => exact hRel.out
      · have hRel : Hid (∀ (v2 : Value) (w2 : World), w2.ownsRow (W.heap.size + 1) 24 1 v2 (ss.length + 1) (strs ss ++ [.string ⟨k0.toArray⟩]) → w1.grownBy w2 u3.ownBlock → Gathered W sm n D K cnt' v2 w2) := by
          intro v2 w2 k1 k2
          have hur : ∀ j, u3.ownBlock = some j → W.heap.size + 1 ≤ j := fun j hj => (hrow1.lt j hj).1
          refine ⟨_, ss ++ [k0], HRg.out.kept k2 ?_ ?_, by simpa [strs] using k1, List.nodup_append.2 ⟨HNd.out, by simp, fun a ha b hb e => by simp at hb; rw [e, hb] at ha; exact hnk0 ha⟩, fun k => ?_, HB1.out.grown k2 HB1.out.size (fun j hj => by have := hur j hj; omega), Nat.le_trans (by omega) k2.size⟩
          · intro e
            obtain ⟨cur, hc⟩ := row_cells hrow1 e.symm
            obtain ⟨es, clock, h1, _⟩ := HRg.out.owns
            rw [h1] at hc
            cases hc
          · intro e
            have := hur _ e.symm
            omega
          · rw [HK2.out k, List.mem_append, HMem.out k]
            simp only [List.mem_singleton]
            constructor
            · rintro (⟨h1, h2⟩ | rfl)
              · exact ⟨h1, .inl h2⟩
              · exact ⟨hyK, .inr rfl⟩
            · rintro ⟨h1, h2 | rfl⟩
              · exact .inl ⟨h1, h2⟩
              · exact .inr rfl
        have hw1 : W.heap.size + 1 ≤ w1.heap.size := by omega
        clear hrg hrow hmem hB hlk hat hrg1 hB1 hkey2 hv hkey HRg HMem H0 hrun hyK hs1 hg1 hsz
        go_wp2_with (at_builtin; refine wpList_append_own _ rfl _ _ 38 rfl (W.heap.size + 1) 24 i0 (.string ⟨#[]⟩) 1 16 Try.underlying38 hi hz0 hz1 hz2 rfl (by decide) _ _ _ rfl (hrow1.alloc _) ⟨w1.heap.size, 0, none⟩ 1 1 [.string ⟨k0.toArray⟩] rfl rfl (cell_one_new _ _ _) (by simp [Value.oneCell']) (by unfold maxLen; omega) (by omega) (by simp; omega) ?_; intro v2 w2 hown' hgrow _)
        go_roundg cnt'
        case measure => exact hlt
        case rel => exact hRel.out v2 w2 hown' (grown_trans (World.grownBy_alloc w1 _ u3.ownBlock) hgrow)

end Go.Proofs.Ytloheongiceliaa
end

section
namespace Go.Proofs.Ytloheongiceliaa
open Go.ChangeShapes Go.WideShapes Go.ChangeAt Go.RowKit

/-- The right ones of a row. -/
def rightIn (l : List (List UInt8)) : List UInt8 → Prop := fun x => x ∈ l ∧ Tm.right x = true
theorem rightIn_yes {l : List (List UInt8)} {i : Nat} {x : List UInt8} (hx : l[i]? = some x) (hr : Tm.right x = true) : alsoK (rightIn (l.take i)) x = rightIn (l.take (i + 1)) := by
  have e := List.take_add_one (l := l) (i := i)
  rw [hx] at e
  funext y
  apply propext
  unfold alsoK rightIn
  rw [e]
  constructor
  · rintro (⟨h1, h2⟩ | rfl)
    · exact ⟨List.mem_append_left _ h1, h2⟩
    · exact ⟨by simp, hr⟩
  · rintro ⟨h1, h2⟩
    rcases List.mem_append.1 h1 with h1 | h1
    · exact .inl ⟨h1, h2⟩
    · simp at h1
      exact .inr h1
theorem rightIn_no {l : List (List UInt8)} {i : Nat} {x : List UInt8} (hx : l[i]? = some x) (hr : Tm.right x = false) : rightIn (l.take i) = rightIn (l.take (i + 1)) := by
  have e := List.take_add_one (l := l) (i := i)
  rw [hx] at e
  funext y
  apply propext
  unfold rightIn
  rw [e]
  constructor
  · rintro ⟨h1, h2⟩
    exact ⟨List.mem_append_left _ h1, h2⟩
  · rintro ⟨h1, h2⟩
    rcases List.mem_append.1 h1 with h1 | h1
    · exact ⟨h1, h2⟩
    · simp at h1
      rw [h1, hr] at h2
      cases h2

def DerOut (W : World) (K : List UInt8 → Prop) (goal : List UInt8) (e : Ending) (W' : World) : Prop :=
  ∃ b : Bool, e = .returned (.bool b) ∧ (b = true ↔ Tm.right goal = true ∧ Tm.Mk K goal) ∧ Below W.heap.size W W'
def Taking (W : World) (r sm pm : Nat) (l : List (List UInt8)) (k : Nat) (v14 : Value) (wr : World) : Prop :=
  ∃ (i : Nat) (T' : Nat → Nat), k + i = l.length ∧ v14 = .int .i64 i ∧ RowI wr T' r sm pm i i (rightIn (l.take i)) ∧ (∀ q, q < W.heap.size → T' q ≠ 1) ∧ Below W.heap.size W wr
theorem Below.apart {T : Nat → Nat} {B : Nat} {W w w' : World} (h : Below B W w) (ha : Apart T w w') (hB : B ≤ w.heap.size) (hT : ∀ q, q < B → T q ≠ 1) : Below B W w' :=
  ⟨ha.os.trans h.os, ha.tape.trans h.tape, ha.output.trans h.output, Nat.le_trans h.size ha.size, fun k hk => (ha.same k (by omega) (hT k hk)).trans (h.block k hk)⟩

set_option maxRecDepth 100000 in
set_option maxHeartbeats 4000000 in
theorem Derives_calls (l : List (List UInt8)) (goal : List UInt8) (v : Value) (W : World) (hv : Reads W v l) (hn : l.length ≤ 100000000) (hx : ∀ x ∈ l, x.length ≤ 1000000) (hg : goal.length ≤ 1000000) :
    Calls Try.prog 47 #[v, .string ⟨goal.toArray⟩] W (DerOut W (rightIn l) goal) := by
  obtain ⟨A, c, rfl, hcells⟩ := hv
  have cG := fun w => Right_calls ⟨goal.toArray⟩ (by rw [size_list]; unfold maxLen; omega) w
  rw [list_data] at cG
  cases hr : Tm.right goal with
  | false =>
    rw [hr] at cG
    have HG := Lib.hid cG
    have hno : Hid (¬ (Tm.right goal = true ∧ Tm.Mk (rightIn l) goal)) := fun h => by rw [hr] at h; cases h.1
    clear cG hr hcells hx
    go_enter Try.func47, Try.ntmps47
    go_wp2_with fail
    refine (HG.out _).mono ?_
    rintro e w1 ⟨rfl, b1⟩
    go_wp2
    go_ret
    exact ⟨false, rfl, by simp only [Bool.false_eq_true, false_iff]; exact hno.out, b1⟩
  | true =>
    rw [hr] at cG
    have HG := Lib.hid cG
    have HC := Lib.hid hcells
    have HX := Lib.hid hx
    have HR := Lib.hid hr
    clear cG hr hcells hx
    go_enter Try.func47, Try.ntmps47
    go_wp2_with fail
    refine (HG.out _).mono ?_
    rintro e w1 ⟨rfl, b1⟩
    have HN := Lib.hid (newRow_calls w1)
    go_wp2_with fail
    refine HN.out.mono ?_
    rintro e w2 ⟨rfl, hw2⟩
    have hI0 := newRow_inv w1 (fun _ => 0)
    rw [hw2] at hI0
    have hb1 := b1.size
    have hsz2 : w2.heap.size = w1.heap.size + 3 := by rw [← hw2]; simp [rowWorld]
    have hB2 : Below W.heap.size W w2 := by
      rw [← hw2]
      exact ((b1.alloc hb1 _).alloc (by simp; omega) _).alloc (by simp; omega) _
    have HI0 : Hid (RowI w2 (rowTags (fun _ => 0) w1.heap.size) (w1.heap.size + 2) w1.heap.size (w1.heap.size + 1) 0 0 (rightIn (l.take 0))) := by
      have e : rightIn (l.take 0) = fun _ => False := by funext x; simp [rightIn]
      show RowI _ _ _ _ _ _ _ _
      rw [e]
      exact hI0
    have HB2 := Lib.hid hB2
    obtain ⟨s, hs⟩ : ∃ s, s = w1.heap.size := ⟨_, rfl⟩
    rw [← hs] at HI0 hb1 hsz2 ⊢
    clear hI0 hB2 hw2 b1 HN hs
    go_wp2
    go_loopg [14] l.length (fun k v14 wr => Taking W (s + 2) s (s + 1) l k v14 wr)
    case atStart =>
      refine ⟨0, _, by omega, rfl, HI0.out, fun q hq => ?_, HB2.out⟩
      unfold rowTags
      rw [if_neg (by omega), if_neg (by omega)]
      exact Nat.zero_ne_one
    case round =>
      obtain ⟨i, T', hk, rfl, hI, hT, hB⟩ := hrel
      have hszr := hB.size
      by_cases hil : i < l.length
      · obtain ⟨x, hx⟩ : ∃ x, l[i]? = some x := ⟨_, List.getElem?_eq_getElem hil⟩
        obtain ⟨g, rfl, hgl, hcell0⟩ := HC.out i x hx
        have hcell : wr.cell? ⟨g, i, none⟩ = some (.string ⟨x.toArray⟩) := (hB.cell (p := ⟨g, i, none⟩) hgl).trans hcell0
        have cX := fun w => Right_calls ⟨x.toArray⟩ (by rw [size_list]; have := HX.out x (List.mem_of_getElem? hx); unfold maxLen; omega) w
        rw [list_data] at cX
        have j1 : (i : Int) < (l.length : Int) := by omega
        have j2 : (0 : Int) ≤ (i : Int) := by omega
        have HI := Lib.hid hI
        have HT := Lib.hid hT
        have HB := Lib.hid hB
        have hgk : gk - 1 < gk := by omega
        have hgk2 : gk - 1 + (i + 1) = l.length := by omega
        have HK := Lib.hid hgk2
        cases hrx : Tm.right x with
        | false =>
          rw [hrx] at cX
          have HRX := Lib.hid cX
          have HE := Lib.hid (rightIn_no hx hrx)
          clear hx hcell0 cX hI hT hB hrx hk hgk2
          go_wp2_with fail
          refine (HRX.out _).mono ?_
          rintro e w3 ⟨rfl, b3⟩
          have hRel : Hid (Taking W (s + 2) s (s + 1) l (gk - 1) (.int .i64 ((i + 1 : Nat) : Int)) w3) := by
            refine ⟨i + 1, T', HK.out, rfl, ?_, HT.out, HB.out.trans (b3.mono HB.out.size)⟩
            rw [← HE.out]
            exact (HI.out.below b3).grow
          clear b3
          go_wp2
          go_roundg (gk - 1)
          case measure => exact hgk
          case rel => exact hRel.out
        | true =>
          rw [hrx] at cX
          have HRX := Lib.hid cX
          have HE := Lib.hid (rightIn_yes hx hrx)
          have HRx := Lib.hid hrx
          clear hx hcell0 cX hI hT hB hrx hk hgk2
          go_wp2_with fail
          refine (HRX.out _).mono ?_
          rintro e w3 ⟨rfl, b3⟩
          have HAdd := Lib.hid (add_calls x HRx.out w3 (HI.out.below b3) (by unfold roomK; omega) (by omega))
          have HB3 := Lib.hid (HB.out.trans (b3.mono HB.out.size))
          have hb3 := b3.size
          clear b3
          go_wp2_with fail
          refine HAdd.out.mono ?_
          rintro e w4 ⟨b, T2, rfl, _, hI4, hTT, hAp⟩
          have hRel : Hid (Taking W (s + 2) s (s + 1) l (gk - 1) (.int .i64 ((i + 1 : Nat) : Int)) w4) := by
            refine ⟨i + 1, T2, HK.out, rfl, ?_, fun q hq => ?_, Below.apart HB3.out hAp HB3.out.size HT.out⟩
            · rw [← HE.out]
              exact hI4
            · rw [hTT q (by omega)]
              exact HT.out q hq
          clear hI4 hTT hAp
          go_wp2
          go_roundg (gk - 1)
          case measure => exact hgk
          case rel => exact hRel.out
      · obtain rfl : i = l.length := by omega
        have j1 : ¬ ((l.length : Int) < (l.length : Int)) := by omega
        rw [List.take_length] at hI
        have HMk := Lib.hid (makes_calls (N := l.length) (by omega) goal.length goal (Nat.le_refl _) HR.out wr _ hI (by unfold roomK; omega))
        have HT := Lib.hid hT
        have HB := Lib.hid hB
        have HI := Lib.hid hI
        clear hI hT hB hk
        go_wp2_with fail
        refine HMk.out.mono ?_
        rintro e w3 ⟨b, rfl, hb, hI3, hg3⟩
        have hfin : Hid (DerOut W (rightIn l) goal (.returned (.bool b)) w3) := by
          refine ⟨b, rfl, ?_, HB.out.grown hg3 HB.out.size (fun q e => ?_)⟩
          · rw [hb]
            exact ⟨fun h => ⟨HR.out, h⟩, fun h => h.2⟩
          · cases e
            exact hb1
        clear hb hI3 hg3
        go_wp2
        go_ret
        exact hfin.out

end Go.Proofs.Ytloheongiceliaa
end
