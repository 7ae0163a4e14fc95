/- What lies in memory for a gatherer of know, as long as no seal was found; newGatherer, pop, wake. Contract of (*gatherer).add at terms out of which nothing can be taken. Contract of (*gatherer).gather where nothing can be taken out of what is fresh. Contracts of know.Close and know.Derivable where nothing can be taken out of what is known. -/
import Derived.Test.YtloheongiceliaaRowH
import Derived.Scope
import Derived.Maps.AppendAt
section
namespace Go.Proofs.Ytloheongiceliaa
open Go.ChangeShapes Go.WideShapes Go.ChangeAt Go.RowKit

def gCells (r : Nat) (vf : Value) (lm wm : Nat) (vw : Value) : Array Value := #[.pointer (some ⟨r, 0, none⟩), vf, .map (some lm), .map (some wm), vw]
def gathWorld (w : World) : World := (((rowWorld w).alloc (.map #[] 0)).alloc (.map #[] 0)).alloc (.cells (gCells (w.heap.size + 2) (.slice none 0 0) (w.heap.size + 3) (w.heap.size + 4) (.slice none 0 0)) 121)
set_option maxHeartbeats 400000 in
theorem newGatherer_calls (w : World) : Calls Try.prog 74 #[] w fun e w' => e = .returned (.pointer (some ⟨w.heap.size + 5, 0, none⟩)) ∧ gathWorld w = w' := by
  have hmm := @run_makeMap Try.prog
  have HN := Lib.hid (newRow_calls w)
  have hs : (rowWorld w).heap.size = w.heap.size + 3 := by simp [rowWorld]
  go_enter Try.func74, Try.ntmps74
  go_wp2_with fail
  refine HN.out.mono ?_
  rintro e w1 ⟨rfl, rfl⟩
  go_wp2
  go_ret
  exact ⟨by simp, by simp [gathWorld, gCells]⟩

theorem set_block {W : World} {b i : Nat} {cs : Array Value} {t : TypeId} {fr : Nat × Nat} (h : W.heap[b]? = some (.cells cs t fr)) (v : Value) : (W.setCell ⟨b, i, none⟩ v).heap[b]? = some (.cells (cs.setIfInBounds i v) t fr) := by
  obtain ⟨hlt, hk⟩ := Array.getElem?_eq_some_iff.1 h
  show (W.heap.modify b _)[b]? = _
  rw [Array.getElem?_eq_getElem (by rw [Array.size_modify]; exact hlt), Array.getElem_modify_self, hk]
  rfl

/-- A row without its last one. -/
theorem row_init {W : World} {B : Nat} {b cap : Nat} {xs : List (List UInt8)} {x : List UInt8} (h : W.ownsRow B 24 1 (.slice (some ⟨b, 0, none⟩) (xs.length + 1) cap) (xs.length + 1) (strs (xs ++ [x]))) :
    W.ownsRow B 24 1 (.slice (some ⟨b, 0, none⟩) xs.length cap) xs.length (strs xs) := by
  rcases h.2 with ⟨h1, _⟩ | ⟨g, cap', cur, h1, h2, h3, h4, h5, h6, h7⟩
  · cases h1
  · cases h1
    refine ⟨by simp [strs], .inr ⟨b, cap, cur, rfl, h2, h3, by omega, h5, h6, ?_⟩⟩
    have := congrArg (List.take xs.length) h7
    rw [List.take_take] at this
    rw [Nat.mul_one] at *
    rw [show min xs.length (xs.length + 1) = xs.length by omega] at this
    rw [this]
    unfold strs
    rw [List.map_append, List.take_left' (by simp)]

def PopOut (W : World) (g : Nat) (fr : List (List UInt8)) (x : List UInt8) (b cap : Nat) (e : Ending) (W' : World) : Prop :=
  e = .returned (.string ⟨x.toArray⟩) ∧ W.setCell ⟨g, 1, none⟩ (.slice (some ⟨b, 0, none⟩) fr.length cap) = W'
set_option maxRecDepth 100000 in
set_option maxHeartbeats 1000000 in
theorem pop_calls (W : World) (B g b cap : Nat) (fr : List (List UInt8)) (x : List UInt8) (hc : W.cell? ⟨g, 1, none⟩ = some (.slice (some ⟨b, 0, none⟩) (fr.length + 1) cap)) (hf : W.frozen? ⟨g, 1, none⟩ = false)
    (hrow : W.ownsRow B 24 1 (.slice (some ⟨b, 0, none⟩) (fr.length + 1) cap) (fr.length + 1) (strs (fr ++ [x]))) (hlen : fr.length ≤ 1000000000) :
    Calls Try.prog 96 #[.pointer (some ⟨g, 1, none⟩)] W (PopOut W g fr x b cap) := by
  have hcx : W.cell? ⟨b, fr.length, none⟩ = some (.string ⟨x.toArray⟩) := by
    have h2 : W.ownsRow B 24 1 (.slice (some ⟨b, 0, none⟩) (fr ++ [x]).length cap) (fr ++ [x]).length (strs (fr ++ [x])) := by rw [List.length_append]; exact hrow
    exact texts_of_row h2 fr.length x (by simp)
  have hcap : fr.length + 1 ≤ cap := by
    rcases hrow.2 with ⟨h1, _⟩ | ⟨_, _, _, h1, _, _, h4, _⟩
    · cases h1
    · cases h1; exact h4
  have j1 : (fr.length : Int) ≤ (cap : Int) := by omega
  have j2 : (fr.length : Int) ≤ (fr.length : Int) + 1 := by omega
  have j3 : (0 : Int) ≤ (fr.length : Int) := by omega
  have j4 : (fr.length : Int) < (fr.length : Int) + 1 := by omega
  have j5 : IntKind.i64.wrap (fr.length : Int) = (fr.length : Int) := by rw [IntKind.wrap_i64]; omega
  clear hrow
  go_enter Try.func96, Try.ntmps96
  go_wp2
  go_ret
  exact ⟨rfl, rfl⟩

set_option maxRecDepth 100000 in
set_option maxHeartbeats 1000000 in
/-- Nothing waits: nobody is woken. -/
theorem wake_none (W : World) (g wm n : Nat) (t : List UInt8) (ht : t.length ≤ 20000) (hc : W.cell? ⟨g, 3, none⟩ = some (.map (some wm))) (hm : MapAt W wm n (fun _ => none)) :
    Calls Try.prog 111 #[.pointer (some ⟨g, 0, none⟩), .string ⟨t.toArray⟩] W fun e w' => e = .returned (.tuple #[]) ∧ W = w' := by
  have hlook := hm.look Try.underlying118 (zero_locks W) ht
  simp only [Option.getD_none] at hlook
  clear hm
  go_enter Try.func111, Try.ntmps111
  go_wp2
  refine wp_loop_rounds 1 ?_
  rw [rounds_succ]
  go_wp2
  refine ⟨rfl, .tuple #[], ?_, rfl, rfl⟩
  simp [results, Try.f111, go_sem]

end Go.Proofs.Ytloheongiceliaa
end

section
namespace Go.Proofs.Ytloheongiceliaa
open Go.ChangeShapes Go.WideShapes Go.ChangeAt Go.RowKit

/-- A gatherer at block g, as long as no seal was found: fr is what is fresh. -/
structure GathI (W : World) (T : Nat → Nat) (B g r sm pm lm wm n N : Nat) (K : List UInt8 → Prop) (fr : List (List UInt8)) (vf : Value) : Prop where
  block : W.heap[g]? = some (.cells (gCells r vf lm wm (.slice none 0 0)) 121 (0, 0))
  row : RowI W T r sm pm n N K
  fresh : W.ownsRow B 24 1 vf fr.length (strs fr)
  within : MapAt W wm 0 (fun _ => none)
  tags : T g ≠ 1 ∧ T wm ≠ 1 ∧ ∀ q, vf.ownBlock = some q → T q ≠ 1
theorem GathI.cells {W : World} {T : Nat → Nat} {B g r sm pm lm wm n N : Nat} {K : List UInt8 → Prop} {fr : List (List UInt8)} {vf : Value} (h : GathI W T B g r sm pm lm wm n N K fr vf) :
    W.cell? ⟨g, 0, none⟩ = some (.pointer (some ⟨r, 0, none⟩)) ∧ W.cell? ⟨g, 1, none⟩ = some vf ∧ W.cell? ⟨g, 3, none⟩ = some (.map (some wm)) ∧ W.cell? ⟨g, 4, none⟩ = some (.slice none 0 0) ∧ W.frozen? ⟨g, 1, none⟩ = false := by
  have := h.block
  refine ⟨?_, ?_, ?_, ?_, ?_⟩ <;> simp [World.cell?, World.frozen?, this, gCells]
theorem GathI.lt {W : World} {T : Nat → Nat} {B g r sm pm lm wm n N : Nat} {K : List UInt8 → Prop} {fr : List (List UInt8)} {vf : Value} (h : GathI W T B g r sm pm lm wm n N K fr vf) : g < W.heap.size := (Array.getElem?_eq_some_iff.1 h.block).1
/-- The row has turned, nothing else. -/
theorem GathI.apart {W W' : World} {T T' : Nat → Nat} {B g r sm pm lm wm n N n' N' : Nat} {K K' : List UInt8 → Prop} {fr : List (List UInt8)} {vf : Value} (h : GathI W T B g r sm pm lm wm n N K fr vf) (hI : RowI W' T' r sm pm n' N' K') (hT : ∀ q, q < W.heap.size → T' q = T q) (ha : Apart T W W') :
    GathI W' T' B g r sm pm lm wm n' N' K' fr vf := by
  have hlf : ∀ q, vf.ownBlock = some q → q < W.heap.size := fun q e => (h.fresh.lt q e).2
  refine ⟨(ha.same g h.lt h.tags.1).trans h.block, hI, row_same h.fresh (fun q e => ha.same q (hlf q e) (h.tags.2.2 q e)), h.within.same (ha.same wm h.within.lt h.tags.2.1), ?_, ?_, fun q e => ?_⟩
  · rw [hT g h.lt]; exact h.tags.1
  · rw [hT wm h.within.lt]; exact h.tags.2.1
  · rw [hT q (hlf q e)]; exact h.tags.2.2 q e
theorem GathI.below {W W' : World} {T : Nat → Nat} {B g r sm pm lm wm n N : Nat} {K : List UInt8 → Prop} {fr : List (List UInt8)} {vf : Value} (h : GathI W T B g r sm pm lm wm n N K fr vf) (hb : Below W.heap.size W W') : GathI W' T B g r sm pm lm wm n N K fr vf :=
  h.apart (h.row.below hb) (fun _ _ => rfl) (.of_below hb)

def GAddOut (W : World) (T : Nat → Nat) (B g r sm pm lm wm n N : Nat) (K : List UInt8 → Prop) (fr : List (List UInt8)) (vf : Value) (t : List UInt8) (e : Ending) (W' : World) : Prop :=
  e = .returned (.tuple #[]) ∧ ∃ T', GathI W' T' B g r sm pm lm wm (n + 1) (N + 1) (alsoK K t) fr vf ∧ (∀ q, q < W.heap.size → T' q = T q) ∧ Apart T W W'

set_option maxRecDepth 100000 in
set_option maxHeartbeats 4000000 in
theorem gadd_plain (c : UInt8) (t' : List UInt8) (hr : Tm.right (c :: t') = true) (h1 : c ≠ 112) (h2 : c ≠ 120) (h3 : c ≠ 115) {T : Nat → Nat} {B g r sm pm lm wm n N : Nat} {K : List UInt8 → Prop} {fr : List (List UInt8)} {vf : Value} (W : World)
    (hG : GathI W T B g r sm pm lm wm n N K fr vf) (hn : n < roomK) (hN : N < 1000000000) :
    Calls Try.prog 95 #[.pointer (some ⟨g, 0, none⟩), .string ⟨(c :: t').toArray⟩] W (GAddOut W T B g r sm pm lm wm n N K fr vf (c :: t')) := by
  have o6 := (Tm.ofL_ok hr).2.2.2.2.2
  have hc0 := hG.cells.1
  have HAdd := Lib.hid (add_calls (c :: t') hr W hG.row hn hN)
  have hi0 : (0 : Int) < ((⟨(c :: t').toArray⟩ : ByteArray).size : Int) := by rw [size_list, List.length_cons]; omega
  have ne : ∀ d : UInt8, c ≠ d → ∀ h, (((((⟨(c :: t').toArray⟩ : ByteArray)[0]'h).toNat : Nat) : Int) == (d.toNat : Int)) = false := fun d hd _ => by
    rw [beq_eq_false_iff_ne]
    intro h
    apply hd
    apply UInt8.toNat_inj.1
    exact Int.ofNat.inj h
  have n1 : ∀ h, (((((⟨(c :: t').toArray⟩ : ByteArray)[0]'h).toNat : Nat) : Int) == 112) = false := ne 112 h1
  have n2 : ∀ h, (((((⟨(c :: t').toArray⟩ : ByteArray)[0]'h).toNat : Nat) : Int) == 120) = false := ne 120 h2
  have n3 : ∀ h, (((((⟨(c :: t').toArray⟩ : ByteArray)[0]'h).toNat : Nat) : Int) == 115) = false := ne 115 h3
  have HG := Lib.hid hG
  have HR := Lib.hid hr
  by_cases hc : c = 101
  · subst hc
    clear hG hr ne n1 n2 n3 h1 h2 h3
    go_enter Try.func95, Try.ntmps95
    go_wp2_with fail
    refine HAdd.out.mono ?_
    rintro e w1 ⟨b, T', rfl, hb, hI, hT, hAp⟩
    have hG1 := HG.out.apart hI hT hAp
    have HE := Lib.hid (And.intro hG1 (And.intro hT hAp))
    clear hb hI hT hAp
    cases b with
    | false =>
      clear hG1
      go_wp2
      refine bodyPost_ret (results_none rfl _ _ _) rfl ?_
      exact ⟨rfl, T', HE.out⟩
    | true =>
      have HW := Lib.hid (wake_none w1 g wm 0 (101 :: t') o6 hG1.cells.2.2.1 hG1.within)
      have HOf := Lib.hid (Of_right ⟨(101 :: t').toArray⟩ (by simpa using HR.out) w1)
      have HG1 := Lib.hid hG1
      have hne : Tm.ofL (101 :: t') ≠ [] := by
        intro h
        have h2 : (Tm.ofL (101 :: t')).length = 0 := by rw [h]; rfl
        rw [(Tm.ofL_ok HR.out).2.2.1] at h2
        exact Tm.power_some HR.out rfl h2
      have HSh : Hid (∀ x ∈ Tm.ofL (101 :: t'), x.length ≤ 20000) := fun x hx => by have := ((Tm.ofL_ok HR.out).2.1 x hx).2.2; omega
      clear hG1
      go_wp2_with fail
      refine HW.out.mono ?_
      rintro e w2 ⟨rfl, rfl⟩
      go_wp2_with fail
      refine HOf.out.mono ?_
      rintro e w3 ⟨v3, rfl, hrow3, _, b3⟩
      obtain ⟨x, xs, hxs⟩ : ∃ x xs, Tm.ofL (101 :: t') = x :: xs := by
        cases h : Tm.ofL (101 :: t') with
        | nil => exact absurd h hne
        | cons x xs => exact ⟨x, xs, rfl⟩
      obtain ⟨g3, c3, rfl, hT3, _⟩ := row_slice hrow3 hne
      have hcx := hT3 0 x (by rw [hxs]; rfl)
      have hpos : (0 : Int) < ((Tm.ofL (101 :: t')).length : Int) := by rw [hxs, List.length_cons]; omega
      have hG3 := HG1.out.below b3
      have HW3 := Lib.hid (wake_none w3 g wm 0 x (HSh.out x (by rw [hxs]; simp)) hG3.cells.2.2.1 hG3.within)
      have HE3 : Hid (GAddOut W T B g r sm pm lm wm n N K fr vf (101 :: t') (.returned (.tuple #[])) w3) := by
        obtain ⟨_, k2, k3⟩ := HE.out
        exact ⟨rfl, T', hG3, k2, k3.trans (T' := T') (.of_below b3) k2⟩
      generalize Tm.ofL (101 :: t') = es at *
      clear hrow3 b3 hT3 hG3 HE HG1 HOf HW HAdd hxs
      go_wp2_with fail
      refine HW3.out.mono ?_
      rintro e w4 ⟨rfl, rfl⟩
      go_wp2
      refine bodyPost_end (results_none rfl _ _ _) rfl ?_
      exact HE3.out
  · have n0 : ∀ h, (((((⟨(c :: t').toArray⟩ : ByteArray)[0]'h).toNat : Nat) : Int) == 101) = false := ne 101 hc
    clear hG hr ne h1 h2 h3
    go_enter Try.func95, Try.ntmps95
    go_wp2_with fail
    refine HAdd.out.mono ?_
    rintro e w1 ⟨b, T', rfl, hb, hI, hT, hAp⟩
    have hG1 := HG.out.apart hI hT hAp
    have HE := Lib.hid (And.intro hG1 (And.intro hT hAp))
    clear hb hI hT hAp
    cases b with
    | false =>
      clear hG1
      go_wp2
      refine bodyPost_ret (results_none rfl _ _ _) rfl ?_
      exact ⟨rfl, T', HE.out⟩
    | true =>
      have HW := Lib.hid (wake_none w1 g wm 0 (c :: t') o6 hG1.cells.2.2.1 hG1.within)
      clear hG1
      go_wp2_with fail
      refine HW.out.mono ?_
      rintro e w2 ⟨rfl, rfl⟩
      go_wp2
      refine bodyPost_end (results_none rfl _ _ _) rfl ?_
      exact ⟨rfl, T', HE.out⟩

end Go.Proofs.Ytloheongiceliaa
end

section
namespace Go.Proofs.Ytloheongiceliaa
open Go.ChangeShapes Go.WideShapes Go.ChangeAt Go.RowKit

def withG (T : Nat → Nat) (g : Nat) : Nat → Nat := fun q => if q = g then 1 else T q
/-- Terms out of which nothing can be taken. -/
def plainT (x : List UInt8) : Prop := Tm.right x = true ∧ x.getD 0 0 ≠ 112 ∧ x.getD 0 0 ≠ 120 ∧ x.getD 0 0 ≠ 115
def alsoL (K : List UInt8 → Prop) (l : List (List UInt8)) : List UInt8 → Prop := fun x => K x ∨ x ∈ l
theorem alsoL_step (K : List UInt8 → Prop) {fr : List (List UInt8)} {j : Nat} {x : List UInt8} (hx : fr[j]? = some x) : alsoK (alsoL K (fr.drop (j + 1))) x = alsoL K (fr.drop j) := by
  have hj := (List.getElem?_eq_some_iff.1 hx).1
  have e := List.drop_eq_getElem_cons hj
  rw [(List.getElem?_eq_some_iff.1 hx).2] at e
  funext y
  apply propext
  unfold alsoK alsoL
  rw [e, List.mem_cons]
  constructor
  · rintro ((h | h) | h)
    · exact .inl h
    · exact .inr (.inr h)
    · exact .inr (.inl h)
  · rintro (h | h | h)
    · exact .inl (.inl h)
    · exact .inr h
    · exact .inl (.inr h)

/-- What is fresh has one less. -/
theorem GathI.popped {W : World} {T : Nat → Nat} {B g r sm pm lm wm n N : Nat} {K : List UInt8 → Prop} {fr : List (List UInt8)} {x : List UInt8} {b cap : Nat} (h : GathI W T B g r sm pm lm wm n N K (fr ++ [x]) (.slice (some ⟨b, 0, none⟩) (fr.length + 1) cap)) :
    GathI (W.setCell ⟨g, 1, none⟩ (.slice (some ⟨b, 0, none⟩) fr.length cap)) T B g r sm pm lm wm n N K fr (.slice (some ⟨b, 0, none⟩) fr.length cap) := by
  have hother : ∀ k, k ≠ g → (W.setCell ⟨g, 1, none⟩ (.slice (some ⟨b, 0, none⟩) fr.length cap)).heap[k]? = W.heap[k]? := fun k hk => Below.heap_setCell _ _ _ _ hk
  have hfr := h.fresh
  rw [List.length_append] at hfr
  obtain ⟨cur, hcur⟩ := row_cells hfr rfl
  have hbg : b ≠ g := by
    rintro rfl
    rw [h.block] at hcur
    simp at hcur
  have hwm : wm ≠ g := by
    rintro rfl
    obtain ⟨es, clock, hm⟩ := h.within.block
    rw [h.block] at hm
    cases hm
  refine ⟨?_, h.row.keep (by simp [World.setCell]) (fun k hk _ => hother k (fun e => h.tags.1 (by rw [← e]; exact hk))), ?_, h.within.same (hother wm hwm), h.tags.1, h.tags.2.1, fun q e => ?_⟩
  · rw [set_block h.block]
    rfl
  · exact row_same (row_init hfr) (fun q e => hother q (by cases e; exact hbg))
  · exact h.tags.2.2 q (by cases e; rfl)

def GatherOut (W : World) (T : Nat → Nat) (B g r sm pm lm wm n N : Nat) (K : List UInt8 → Prop) (fr : List (List UInt8)) (e : Ending) (W' : World) : Prop :=
  e = .returned (.tuple #[]) ∧ ∃ T' vf', GathI W' T' B g r sm pm lm wm (n + fr.length) (N + fr.length) (alsoL K fr) [] vf' ∧ (∀ q, q < W.heap.size → T' q = T q) ∧ Apart (withG T g) W W'
def Adding2 (W : World) (T : Nat → Nat) (B g r sm pm lm wm n N : Nat) (K : List UInt8 → Prop) (fr : List (List UInt8)) (j : Nat) (wr : World) : Prop :=
  ∃ T' vf', j ≤ fr.length ∧ GathI wr T' B g r sm pm lm wm (n + (fr.length - j)) (N + (fr.length - j)) (alsoL K (fr.drop j)) (fr.take j) vf' ∧ (∀ q, q < W.heap.size → T' q = T q) ∧ Apart (withG T g) W wr

set_option maxRecDepth 100000 in
set_option maxHeartbeats 4000000 in
theorem gather_plain {T : Nat → Nat} {B g r sm pm lm wm n N : Nat} {K : List UInt8 → Prop} {fr : List (List UInt8)} {vf : Value} (W : World) (hG : GathI W T B g r sm pm lm wm n N K fr vf) (hp : ∀ x ∈ fr, plainT x) (hn : n + fr.length < roomK) (hN : N + fr.length < 1000000000) :
    Calls Try.prog 75 #[.pointer (some ⟨g, 0, none⟩)] W (GatherOut W T B g r sm pm lm wm n N K fr) := by
  have HP := Lib.hid hp
  have hgW := hG.lt
  have H0 : Hid (Adding2 W T B g r sm pm lm wm n N K fr fr.length W) := by
    refine ⟨T, vf, Nat.le_refl _, ?_, fun _ _ => rfl, ⟨rfl, rfl, rfl, Nat.le_refl _, fun _ _ _ => rfl⟩⟩
    have e : alsoL K (fr.drop fr.length) = K := by funext x; simp [alsoL]
    rw [e, Nat.sub_self, List.take_length]
    exact hG
  clear hp hG
  go_enter Try.func75, Try.ntmps75
  go_wp2
  refine wp_scope_straight ?_
  go_wp2
  refine wp_label ?_
  go_wp2
  refine wp_loop_rounds 1 ?_
  rw [rounds_succ]
  go_wp2
  go_loopg [] fr.length (fun j wr => Adding2 W T B g r sm pm lm wm n N K fr j wr)
  case atStart => exact H0.out
  case round =>
    obtain ⟨T', vf', hj, hG, hT, hAp⟩ := hrel
    have hszr := hAp.size
    rcases gk with _ | j
    · have hc1 := hG.cells.2.1
      have hc4 := hG.cells.2.2.2.1
      obtain ⟨A, c, e, _⟩ := reads_terms hG.fresh
      subst e
      simp only [List.take_zero, List.length_nil] at hc1
      have hfin : Hid (GatherOut W T B g r sm pm lm wm n N K fr (.returned (.tuple #[])) wr) := by
        have h0 := hG
        rw [List.drop_zero, Nat.sub_zero, List.take_zero] at h0
        exact ⟨rfl, T', _, h0, hT, hAp⟩
      clear hG hT hAp H0
      go_wp2
      refine wp_loop_rounds 1 ?_
      rw [rounds_succ]
      go_wp2
      refine bodyPost_ret (results_none rfl _ _ _) rfl ?_
      exact hfin.out
    · obtain ⟨x, hx⟩ : ∃ x, fr[j]? = some x := ⟨_, List.getElem?_eq_getElem (by omega)⟩
      have e : fr.take (j + 1) = fr.take j ++ [x] := by
        have := List.take_add_one (l := fr) (i := j)
        rw [hx] at this
        exact this
      have hl : (fr.take j).length = j := by rw [List.length_take]; omega
      rw [e] at hG
      obtain ⟨b, cap, rfl, _, _⟩ := row_slice hG.fresh (by simp)
      have e2 : (fr.take j ++ [x]).length = (fr.take j).length + 1 := by simp
      have hfr := hG.fresh
      rw [e2] at hG hfr
      have hc1 := hG.cells.2.1
      have hf1 := hG.cells.2.2.2.2
      have hpl := HP.out x (List.mem_of_getElem? hx)
      have HPop := Lib.hid (pop_calls wr B g b cap (fr.take j) x hc1 hf1 hfr (by rw [hl]; omega))
      have hG2 := hG.popped
      have hs := alsoL_step K hx
      obtain ⟨cx, tx, rfl⟩ : ∃ cx tx, x = cx :: tx := by
        cases x with
        | nil => exact absurd rfl (Tm.right_ne_nil hpl.1).1
        | cons cx tx => exact ⟨cx, tx, rfl⟩
      obtain ⟨p1, p2, p3, p4⟩ := hpl
      simp only [List.getD_cons_zero] at p2 p3 p4
      have HAdd := Lib.hid (gadd_plain cx tx p1 p2 p3 p4 _ hG2 (by omega) (by omega))
      have HRel : Hid (∀ w3, GAddOut (wr.setCell ⟨g, 1, none⟩ (.slice (some ⟨b, 0, none⟩) (fr.take j).length cap)) T' B g r sm pm lm wm (n + (fr.length - (j + 1))) (N + (fr.length - (j + 1))) (alsoL K (fr.drop (j + 1))) (fr.take j) (.slice (some ⟨b, 0, none⟩) (fr.take j).length cap) (cx :: tx) (.returned (.tuple #[])) w3 → Adding2 W T B g r sm pm lm wm n N K fr j w3) := by
        rintro w3 ⟨_, T2, k1, k2, k3⟩
        have hsz : (wr.setCell ⟨g, 1, none⟩ (.slice (some ⟨b, 0, none⟩) (fr.take j).length cap)).heap.size = wr.heap.size := by simp [World.setCell]
        refine ⟨T2, .slice (some ⟨b, 0, none⟩) (fr.take j).length cap, by omega, ?_, fun q hq => ?_, ?_⟩
        · rw [hs] at k1
          have a1 : n + (fr.length - (j + 1)) + 1 = n + (fr.length - j) := by omega
          have a2 : N + (fr.length - (j + 1)) + 1 = N + (fr.length - j) := by omega
          rw [a1, a2] at k1
          exact k1
        · rw [k2 q (by rw [hsz]; omega)]
          exact hT q hq
        · refine ⟨k3.os.trans hAp.os, k3.tape.trans hAp.tape, k3.output.trans hAp.output, Nat.le_trans hszr (by have := k3.size; rw [hsz] at this; exact this), fun q hq ht => ?_⟩
          have hqg : q ≠ g := fun h => ht (by unfold withG; rw [if_pos h])
          have hTq : T q ≠ 1 := fun h => ht (by unfold withG; rw [if_neg hqg]; exact h)
          exact ((k3.same q (by rw [hsz]; omega) (by rw [hT q hq]; exact hTq)).trans (Below.heap_setCell _ _ _ _ hqg)).trans (hAp.same q hq ht)
      have j1 : (0 : Int) < ((fr.take j).length : Int) + 1 := by omega
      clear hG hT hAp H0 hfr hG2 hs hx e e2 hl hf1 p1 p2 p3 p4
      generalize fr.take j = fr1 at *
      go_wp2_with fail
      refine HPop.out.mono ?_
      rintro e w2 ⟨rfl, rfl⟩
      go_wp2_with fail
      refine HAdd.out.mono ?_
      rintro e w3 hadd
      obtain rfl := hadd.1
      have hRel := Lib.hid (HRel.out w3 hadd)
      clear hadd
      go_wp2
      go_roundg j
      case measure => omega
      case rel => exact hRel.out

end Go.Proofs.Ytloheongiceliaa
end

section
namespace Go.Proofs.Ytloheongiceliaa
open Go.ChangeShapes Go.WideShapes Go.ChangeAt Go.RowKit

theorem gath_start (w : World) : GathI (gathWorld w) (rowTags (fun _ => 0) w.heap.size) w.heap.size (w.heap.size + 5) (w.heap.size + 2) w.heap.size (w.heap.size + 1) (w.heap.size + 3) (w.heap.size + 4) 0 0 (fun _ => False) [] (.slice none 0 0) := by
  have s1 : (rowWorld w).heap.size = w.heap.size + 3 := by simp [rowWorld]
  have s2 : ((rowWorld w).alloc (.map #[] 0)).heap.size = w.heap.size + 4 := by simp [rowWorld]
  have s3 : (((rowWorld w).alloc (.map #[] 0)).alloc (.map #[] 0)).heap.size = w.heap.size + 5 := by simp [rowWorld]
  have hB : Below (rowWorld w).heap.size (rowWorld w) (gathWorld w) := (((Below.refl _ (rowWorld w)).alloc (Nat.le_refl _) _).alloc (by simp only [World.size_alloc]; omega) _).alloc (by simp only [World.size_alloc]; omega) _
  have hblk := World.alloc_heap_new (((rowWorld w).alloc (.map #[] 0)).alloc (.map #[] 0)) (.cells (gCells (w.heap.size + 2) (.slice none 0 0) (w.heap.size + 3) (w.heap.size + 4) (.slice none 0 0)) 121)
  rw [s3] at hblk
  have hm := (MapAt.made ((rowWorld w).alloc (.map #[] 0))).kept (World.grownBy_alloc _ (.cells (gCells (w.heap.size + 2) (.slice none 0 0) (w.heap.size + 3) (w.heap.size + 4) (.slice none 0 0)) 121) none) (by simp)
  rw [s2] at hm
  have tag : ∀ k, w.heap.size + 3 ≤ k → rowTags (fun _ => 0) w.heap.size k ≠ 1 := fun k hk => by
    unfold rowTags
    rw [if_neg (by omega), if_pos (by omega)]
    omega
  exact ⟨hblk, (newRow_inv w (fun _ => 0)).below hB, World.ownsRow_nil _ _ _ _, hm, tag _ (by omega), tag _ (by omega), fun q e => by cases e⟩

/-- What is fresh has one more. -/
theorem GathI.pushed {W W2 : World} {T : Nat → Nat} {B g r sm pm lm wm n N : Nat} {K : List UInt8 → Prop} {fr : List (List UInt8)} {x : List UInt8} {vf v2 : Value} (h : GathI W T B g r sm pm lm wm n N K fr vf) (hg : W.grownBy W2 vf.ownBlock)
    (hown : W2.ownsRow B 24 1 v2 (fr ++ [x]).length (strs (fr ++ [x]))) (hat : v2.ownBlock = vf.ownBlock ∨ ∃ q, v2.ownBlock = some q ∧ W.heap.size ≤ q) :
    GathI (W2.setCell ⟨g, 1, none⟩ v2) T B g r sm pm lm wm n N K (fr ++ [x]) v2 := by
  have hother : ∀ k, k ≠ g → (W2.setCell ⟨g, 1, none⟩ v2).heap[k]? = W2.heap[k]? := fun k hk => Below.heap_setCell _ _ _ _ hk
  have hvg : vf.ownBlock ≠ some g := fun e => by
    obtain ⟨cur, hc⟩ := row_cells h.fresh e
    rw [h.block] at hc
    simp at hc
  have hblk : W2.heap[g]? = some (.cells (gCells r vf lm wm (.slice none 0 0)) 121 (0, 0)) := (hg.block g h.lt (fun e => hvg e.symm)).trans h.block
  have hwm : wm ≠ g := by
    rintro rfl
    obtain ⟨es, clock, hm⟩ := h.within.block
    rw [h.block] at hm
    cases hm
  have hrow2 := h.row.beside hg h.tags.2.2
  have hw2 : MapAt W2 wm 0 (fun _ => none) := h.within.kept hg (fun e => by
    obtain ⟨cur, hc⟩ := row_cells h.fresh e.symm
    obtain ⟨es, clock, hm⟩ := h.within.block
    rw [hm] at hc
    cases hc)
  refine ⟨?_, hrow2.keep (by simp [World.setCell]) (fun k hk _ => hother k (fun e => h.tags.1 (by rw [← e]; exact hk))), row_same hown (fun q e => hother q (fun e2 => ?_)), hw2.same (hother wm hwm), h.tags.1, h.tags.2.1, fun q e => ?_⟩
  · rw [set_block hblk]
    rfl
  · subst e2
    obtain ⟨cur, hc⟩ := row_cells hown e
    rw [hblk] at hc
    simp at hc
  · rcases hat with h1 | ⟨q', h1, h2⟩
    · exact h.tags.2.2 q (h1 ▸ e)
    · rw [h1] at e
      cases e
      exact h.row.fresh q h2
theorem GathI.afterAppend {W W2 : World} {T : Nat → Nat} {B g r sm pm lm wm n N : Nat} {K : List UInt8 → Prop} {fr : List (List UInt8)} {vf : Value} (h : GathI W T B g r sm pm lm wm n N K fr vf) (hg : W.grownBy W2 vf.ownBlock) : W2.cell? ⟨g, 1, none⟩ = some vf ∧ W2.frozen? ⟨g, 1, none⟩ = false := by
  have hvg : vf.ownBlock ≠ some g := fun e => by
    obtain ⟨cur, hc⟩ := row_cells h.fresh e
    rw [h.block] at hc
    simp at hc
  have hblk : W2.heap[g]? = some (.cells (gCells r vf lm wm (.slice none 0 0)) 121 (0, 0)) := (hg.block g h.lt (fun e => hvg e.symm)).trans h.block
  constructor <;> simp [World.cell?, World.frozen?, hblk, gCells]

def rightsL (l : List (List UInt8)) : List (List UInt8) := l.filter (fun x => Tm.right x)
theorem rights_step {l : List (List UInt8)} {i : Nat} {x : List UInt8} (hx : l[i]? = some x) : rightsL (l.take (i + 1)) = rightsL (l.take i) ++ (if Tm.right x then [x] else []) := by
  have e := List.take_add_one (l := l) (i := i)
  rw [hx] at e
  rw [e]
  unfold rightsL
  rw [List.filter_append]
  congr 1
  cases h : Tm.right x <;> simp [h]
theorem rights_le (l : List (List UInt8)) : (rightsL l).length ≤ l.length := List.length_filter_le _ _
def CloseOut (W : World) (l : List (List UInt8)) (e : Ending) (W' : World) : Prop :=
  ∃ v xs, e = .returned v ∧ Reads W' v xs ∧ (∀ x, x ∈ xs ↔ rightIn l x) ∧ xs.length ≤ l.length ∧ Below W.heap.size W W'
def Filling (W : World) (s : Nat) (l : List (List UInt8)) (k : Nat) (v9 : Value) (wr : World) : Prop :=
  ∃ (i : Nat) (vf : Value), k + i = l.length ∧ v9 = .int .i64 i ∧ GathI wr (rowTags (fun _ => 0) s) s (s + 5) (s + 2) s (s + 1) (s + 3) (s + 4) 0 0 (fun _ => False) (rightsL (l.take i)) vf ∧ Below W.heap.size W wr

set_option maxRecDepth 100000 in
set_option maxHeartbeats 4000000 in
theorem Close_plain (l : List (List UInt8)) (v : Value) (W : World) (hv : Reads W v l) (hn : l.length ≤ 100000000) (hx : ∀ x ∈ l, x.length ≤ 1000000) (hp : ∀ x ∈ l, Tm.right x = true → plainT x) :
    Calls Try.prog 48 #[v] W (CloseOut W l) := by
  obtain ⟨i0, hi, hz0, hz1, hz2⟩ := info_parts info_term
  obtain ⟨A, c, rfl, hcells⟩ := hv
  have HC := Lib.hid hcells
  have HX := Lib.hid hx
  have HP := Lib.hid hp
  have HN := Lib.hid (newGatherer_calls W)
  obtain ⟨s, hs⟩ : ∃ s, W.heap.size = s := ⟨_, rfl⟩
  have HG0 := Lib.hid (gath_start W)
  have hB0 : Below W.heap.size W (gathWorld W) := ((((((Below.refl _ W).alloc (Nat.le_refl _) _).alloc (by simp only [World.size_alloc]; omega) _).alloc (by simp only [World.size_alloc]; omega) _).alloc (by simp only [World.size_alloc]; omega) _).alloc (by simp only [World.size_alloc]; omega) _).alloc (by simp only [World.size_alloc]; omega) _
  have HB0 := Lib.hid hB0
  rw [hs] at HG0 HN
  clear hcells hx hp hB0
  go_enter Try.func48, Try.ntmps48
  go_wp2_with fail
  refine HN.out.mono ?_
  rintro e w1 ⟨rfl, hw1⟩
  rw [hw1] at HG0 HB0
  have HS := Lib.hid hs
  have hsB := HB0.out.size
  rw [hs] at hsB
  clear hw1 HN hs
  go_wp2
  go_loopg [9] l.length (fun k v9 wr => Filling W s l k v9 wr)
  case atStart => exact ⟨0, _, by omega, rfl, by simpa [rightsL] using HG0.out, HB0.out⟩
  case round =>
    obtain ⟨i, vf, hk, rfl, hG, hB⟩ := hrel
    have hgk2 := Lib.hid hk
    have HB := Lib.hid hB
    have HG := Lib.hid hG
    by_cases hil : i < l.length
    · obtain ⟨x, hx⟩ : ∃ x, l[i]? = some x := ⟨_, List.getElem?_eq_getElem hil⟩
      obtain ⟨g0, rfl, hgl, hcell0⟩ := HC.out i x hx
      have hcell : wr.cell? ⟨g0, i, none⟩ = some (.string ⟨x.toArray⟩) := (hB.cell (p := ⟨g0, i, none⟩) hgl).trans hcell0
      have cX := fun w => Right_calls ⟨x.toArray⟩ (by rw [size_list]; have := HX.out x (List.mem_of_getElem? hx); unfold maxLen; omega) w
      rw [list_data] at cX
      have HRs := Lib.hid (rights_step hx)
      have hle := rights_le (l.take i)
      rw [List.length_take] at hle
      have j1 : (i : Int) < (l.length : Int) := by omega
      have j2 : (0 : Int) ≤ (i : Int) := by omega
      have hgk : gk - 1 < gk := by omega
      cases hrx : Tm.right x with
      | false =>
        rw [hrx] at cX
        have HRX := Lib.hid cX
        have HRf := Lib.hid hrx
        clear hx hcell0 cX hG hB hrx hk
        go_wp2_with fail
        refine (HRX.out _).mono ?_
        rintro e w3 ⟨rfl, b3⟩
        have hRel : Hid (Filling W s l (gk - 1) (.int .i64 ((i + 1 : Nat) : Int)) w3) := by
          refine ⟨i + 1, vf, by have := hgk2.out; omega, rfl, ?_, HB.out.trans (b3.mono HB.out.size)⟩
          rw [HRs.out, HRf.out]
          simpa using HG.out.below b3
        clear b3
        go_wp2
        go_roundg (gk - 1)
        case measure => exact hgk
        case rel => exact hRel.out
      | true =>
        rw [hrx] at cX
        have HRX := Lib.hid cX
        have HRt := Lib.hid hrx
        clear hx hcell0 cX hG hB hrx hk
        go_wp2_with fail
        refine (HRX.out _).mono ?_
        rintro e w3 ⟨rfl, b3⟩
        have hG3 := HG.out.below b3
        have hB3 := Lib.hid (HB.out.trans (b3.mono HB.out.size))
        have hc1 := hG3.cells.2.1
        have hfr := hG3.fresh
        have HG3 := Lib.hid hG3
        have hs3 : s ≤ w3.heap.size := by have := hB3.out.size; rw [HS.out] at this; exact this
        have HAft := Lib.hid (fun (w4 : World) (hg : (w3.alloc (.cells #[.string ⟨x.toArray⟩] 24)).grownBy w4 vf.ownBlock) => HG3.out.afterAppend (grown_trans (World.grownBy_alloc w3 (.cells #[.string ⟨x.toArray⟩] 24) vf.ownBlock) hg))
        generalize hrl : rightsL (l.take i) = fr at *
        clear b3 hG3
        go_wp2_with (at_builtin; refine wpList_append_own_at _ rfl _ _ 38 rfl s 24 i0 (.string ⟨#[]⟩) 1 16 Try.underlying38 hi hz0 hz1 hz2 rfl (by decide) _ _ _ rfl (hfr.alloc _) ⟨w3.heap.size, 0, none⟩ 1 1 [.string ⟨x.toArray⟩] rfl rfl (cell_one_new _ _ _) (by simp [Value.oneCell']) (by unfold maxLen; omega) (by omega) (by simp; omega) ?_; intro v2 w4 hown' hgrow hnil hat; obtain ⟨g2, cap2, rfl⟩ := ownsRow_succ hown'; have hc4 := (HAft.out w4 hgrow).1; have hf4 := (HAft.out w4 hgrow).2)
        have hRel : Hid (Filling W s l (gk - 1) (.int .i64 ((i + 1 : Nat) : Int)) (w4.setCell ⟨s + 5, 1, none⟩ (.slice (some ⟨g2, 0, none⟩) (fr.length + 1) cap2))) := by
          have hg34 : w3.grownBy w4 vf.ownBlock := grown_trans (World.grownBy_alloc w3 (.cells #[.string ⟨x.toArray⟩] 24) vf.ownBlock) hgrow
          refine ⟨i + 1, .slice (some ⟨g2, 0, none⟩) (fr.length + 1) cap2, by have := hgk2.out; omega, rfl, ?_, ?_⟩
          · rw [HRs.out, HRt.out]
            refine HG3.out.pushed hg34 (by simpa [strs] using hown') (hat.imp id (fun e => ⟨_, e, by simp⟩))
          · have h5 : Below W.heap.size W w4 := hB3.out.grown hg34 hB3.out.size (fun q e => by rw [HS.out]; exact (hfr.lt q e).1)
            refine h5.setCell ?_ _
            have := HS.out
            show W.heap.size ≤ s + 5
            omega
        clear hown' hgrow hnil hat hc4 hf4 HAft
        go_roundg (gk - 1)
        case measure => exact hgk
        case rel => exact hRel.out
    · obtain rfl : i = l.length := by omega
      have j1 : ¬ ((l.length : Int) < (l.length : Int)) := by omega
      rw [List.take_length] at hG
      have hle := rights_le l
      have HGa := Lib.hid (gather_plain wr hG (fun x hx => HP.out x (List.mem_filter.1 hx).1 (List.mem_filter.1 hx).2) (by unfold roomK; omega) (by omega))
      have hszr := hB.size
      rw [HS.out] at hszr
      clear hG hB hk HG0 HB0 HG
      go_wp2_with fail
      refine HGa.out.mono ?_
      rintro e w2 ⟨rfl, T', vf', hG2, hT, hAp⟩
      have hc0 := hG2.cells.1
      have HK := Lib.hid (known_calls w2 hG2.row (rightsL l) (fun k hk => hk.resolve_left id) (by omega))
      have hB2 : Hid (Below W.heap.size W w2) := by
        have h1 := HB.out
        refine ⟨hAp.os.trans h1.os, hAp.tape.trans h1.tape, hAp.output.trans h1.output, Nat.le_trans h1.size hAp.size, fun q hq => (hAp.same q (Nat.lt_of_lt_of_le hq h1.size) ?_).trans (h1.block q hq)⟩
        rw [HS.out] at hq
        unfold withG rowTags
        rw [if_neg (by omega), if_neg (by omega), if_neg (by omega)]
        exact Nat.zero_ne_one
      clear hG2 hT hAp
      go_wp2_with fail
      refine HK.out.mono ?_
      rintro e w3 ⟨v3, xs, rfl, hr3, hm3, hl3, b3⟩
      have hfin : Hid (CloseOut W l (.returned v3) w3) := by
        refine ⟨v3, xs, rfl, hr3, fun x => ?_, by omega, hB2.out.trans (b3.mono hB2.out.size)⟩
        rw [hm3 x]
        unfold alsoL rightsL rightIn
        rw [List.mem_filter]
        simp
      clear hr3 hm3 hl3 b3
      go_wp2
      go_ret
      exact hfin.out

set_option maxRecDepth 100000 in
set_option maxHeartbeats 1000000 in
theorem Derivable_plain (l : List (List UInt8)) (goal : List UInt8) (v : Value) (W : World) (hv : Reads W v l) (hn : l.length ≤ 100000000) (hx : ∀ x ∈ l, x.length ≤ 1000000) (hp : ∀ x ∈ l, Tm.right x = true → plainT x) (hg : goal.length ≤ 1000000) :
    Calls Try.prog 24 #[v, .string ⟨goal.toArray⟩] W (DerOut W (rightIn l) goal) := by
  have HC := Lib.hid (Close_plain l v W hv hn hx hp)
  have HL := Lib.hid (And.intro hn (And.intro hx hg))
  clear hv hn hx hp hg
  go_enter Try.func24, Try.ntmps24
  go_wp2_with fail
  refine HC.out.mono ?_
  rintro e w1 ⟨v1, xs, rfl, hr1, hm1, hl1, b1⟩
  obtain ⟨k1, k2, k3⟩ := HL.out
  have HD := Lib.hid (Derives_calls xs goal v1 w1 hr1 (by omega) (fun x hx => k2 x ((hm1 x).1 hx).1) k3)
  have hK : Hid (rightIn xs = rightIn l) := by
    show _ = _
    funext x
    apply propext
    unfold rightIn
    rw [hm1 x]
    unfold rightIn
    exact ⟨fun h => h.1, fun h => ⟨h, h.2⟩⟩
  have hb1 := Lib.hid b1
  clear hr1 hm1 b1
  go_wp2_with fail
  refine HD.out.mono ?_
  rintro e w2 ⟨b, rfl, hb, b2⟩
  have hfin : Hid (DerOut W (rightIn l) goal (.returned (.bool b)) w2) := by
    rw [hK.out] at hb
    exact ⟨b, rfl, hb, hb1.out.trans (b2.mono hb1.out.size)⟩
  clear hb b2
  go_wp2
  go_ret
  exact hfin.out

end Go.Proofs.Ytloheongiceliaa
end
