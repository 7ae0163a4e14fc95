/- Contract of (*gatherer).add, kind by kind: what is known already, what nothing can be taken out of, powers. Contract of (*gatherer).add at pairs and signatures. Contract of (*gatherer).shut in one; of (*gatherer).add at seals. How much a gatherer has yet to do: a list of all that may be found, and what of it is not known. Contract of (*gatherer).add for every right term: what has been found, and how much is yet to do. Contract of (*gatherer).gather: all that can be taken out is known. Contract of know.Close: terms, and all that can be taken out of them. -/
import Derived.Test.YtloheongiceliaaGathC
import Derived.Test.YtloheongiceliaaGathA
import Derived.Scope
section
namespace Go.Proofs.Ytloheongiceliaa
open Go.ChangeShapes Go.WideShapes Go.ChangeAt Go.RowKit

set_option maxRecDepth 100000 in
set_option maxHeartbeats 4000000 in
theorem add_same (t : List UInt8) (hr : Tm.right t = true) {T : Nat → Nat} {r sm pm n N : Nat} {K : List UInt8 → Prop} (W : World) (hI : RowI W T r sm pm n N K) (hK : K t) :
    Calls Try.prog 72 #[.pointer (some ⟨r, 0, none⟩), .string ⟨t.toArray⟩] W (fun e w' => e = .returned (.bool false) ∧ W = w') := by
  have o6 := (Tm.ofL_ok hr).2.2.2.2.2
  obtain ⟨F, hF, hF2⟩ := hI.stand
  have hlook := hF.look Try.underlying142 (zero_standing W) (k := t) o6
  have hcr := hI.cells.1
  have hF3 : F t = some (.int .i64 2) := by
    rcases hF2 t with ⟨_, h⟩ | ⟨_, h, _⟩ | ⟨h, _⟩
    · exact absurd hK h
    · exact absurd hK h
    · exact h
  rw [hF3, Option.getD_some] at hlook
  clear hI hF hF2 hF3 hr hK
  go_enter Try.func72, Try.ntmps72
  go_wp2
  go_ret
  exact ⟨rfl, rfl⟩

section
variable {W W' : World} {T : Nat → Nat} {g r sm pm lm wm n N M : Nat} {K : List UInt8 → Prop} {fr : List (List UInt8)} {vf : Value} {L : List Lk} {wk : List Nat} {vw : Value} {Fl Hw : List UInt8 → Option Value} {ids : List UInt8 → List Nat}
theorem GI.below (h : GI W T g r sm pm lm wm n N M K fr vf L wk vw Fl Hw ids) (hb : Below W.heap.size W W') : GI W' T g r sm pm lm wm n N M K fr vf L wk vw Fl Hw ids :=
  h.rowTurn (h.row.below hb) (fun q hq _ => hb.block q hq) (fun _ _ => rfl) (fun q hq => h.zero q (Nat.le_trans hb.size hq))
theorem touch_below (hb : Below W.heap.size W W') : Touch T W W' := ⟨hb.os, hb.tape, hb.output, hb.size, fun q hq _ => hb.block q hq⟩

def RowAdded (W : World) (T : Nat → Nat) (g r sm pm lm wm n N M : Nat) (K : List UInt8 → Prop) (fr : List (List UInt8)) (vf : Value) (L : List Lk) (wk : List Nat) (vw : Value) (Fl Hw : List UInt8 → Option Value) (ids : List UInt8 → List Nat) (t : List UInt8) (e : Ending) (w1 : World) : Prop :=
  e = .returned (.bool true) ∧ ∃ T1, GI w1 T1 g r sm pm lm wm (n + 1) (N + 1) M (alsoK K t) fr vf L wk vw Fl Hw ids ∧ (∀ q, q < W.heap.size → T1 q = T q) ∧ Touch T W w1
theorem rowadd_gi (h : GI W T g r sm pm lm wm n N M K fr vf L wk vw Fl Hw ids) (t : List UInt8) (hr : Tm.right t = true) (hK : ¬ K t) (hn : n < roomK) (hN : N < 1000000000) :
    Calls Try.prog 72 #[.pointer (some ⟨r, 0, none⟩), .string ⟨t.toArray⟩] W (RowAdded W T g r sm pm lm wm n N M K fr vf L wk vw Fl Hw ids t) := by
  refine (add_calls t hr W h.row hn hN).mono ?_
  rintro e w1 ⟨b, T1, rfl, hb, hI, hT, hAp⟩
  have hbt : b = true := hb.2 hK
  subst hbt
  have hT2 : ∀ q, q < W.heap.size → (if q < w1.heap.size then T1 q else 0) = T q := fun q hq => by
    rw [if_pos (by have := hAp.size; omega)]
    exact hT q hq
  refine ⟨rfl, fun q => if q < w1.heap.size then T1 q else 0, h.rowTurn (hI.retag (fun q hq => if_pos hq) (fun q hq => ?_)) hAp.same hT2 (fun q hq => if_neg (by omega)), hT2, ⟨hAp.os, hAp.tape, hAp.output, hAp.size, fun q hq h0 => hAp.same q hq (by rw [h0]; omega)⟩⟩
  show (if q < w1.heap.size then T1 q else 0) ≠ 1
  rw [if_neg (by omega)]
  omega

def GAdded (W : World) (T : Nat → Nat) (g r sm pm lm wm n N M : Nat) (K : List UInt8 → Prop) (L : List Lk) (Fl Hw : List UInt8 → Option Value) (ids : List UInt8 → List Nat) (t : List UInt8) (fr' : List (List UInt8)) (who : Nat → Prop) (e : Ending) (W' : World) : Prop :=
  e = .returned (.tuple #[]) ∧ ∃ T' vf' L' wk' vw', GI W' T' g r sm pm lm wm (n + 1) (N + 1) M (alsoK K t) fr' vf' L' wk' vw' Fl Hw ids ∧ Roused L L' wk' who ∧ (∀ q, q < W.heap.size → T' q = T q) ∧ Touch T W W'

set_option maxRecDepth 100000 in
set_option maxHeartbeats 4000000 in
theorem gadd_known (h : GI W T g r sm pm lm wm n N M K fr vf L wk vw Fl Hw ids) (t : List UInt8) (hr : Tm.right t = true) (hK : K t) :
    Calls Try.prog 95 #[.pointer (some ⟨g, 0, none⟩), .string ⟨t.toArray⟩] W (fun e w' => e = .returned (.tuple #[]) ∧ W = w') := by
  have HAdd := Lib.hid (add_same t hr W h.row hK)
  have hc0 := h.gcell.1
  clear h hr hK
  go_enter Try.func95, Try.ntmps95
  go_wp2_with fail
  refine HAdd.out.mono ?_
  rintro e w1 ⟨rfl, rfl⟩
  go_wp2
  refine bodyPost_ret (results_none rfl _ _ _) rfl ?_
  exact ⟨rfl, rfl⟩

theorem byte_ne {c : UInt8} {t' : List UInt8} (d : UInt8) (hd : c ≠ d) : ∀ h, (((((⟨(c :: t').toArray⟩ : ByteArray)[0]'h).toNat : Nat) : Int) == (d.toNat : Int)) = false := fun _ => by
  rw [beq_eq_false_iff_ne]
  intro h
  apply hd
  apply UInt8.toNat_inj.1
  exact Int.ofNat.inj h

set_option maxRecDepth 100000 in
set_option maxHeartbeats 4000000 in
theorem gadd_other (c : UInt8) (t' : List UInt8) (h : GI W T g r sm pm lm wm n N M K fr vf L wk vw Fl Hw ids) (hwk : ∀ (i : Nat) (k : Lk), L[i]? = some k → (k.woken = true ↔ i ∈ wk)) (hr : Tm.right (c :: t') = true) (hK : ¬ K (c :: t')) (h0 : c ≠ 101) (h1 : c ≠ 112) (h2 : c ≠ 120) (h3 : c ≠ 115) (hn : n < roomK) (hN : N < 1000000000) (hlen : L.length ≤ 1000000000) (hM : M ≤ 1000000000) :
    Calls Try.prog 95 #[.pointer (some ⟨g, 0, none⟩), .string ⟨(c :: t').toArray⟩] W (GAdded W T g r sm pm lm wm n N M K L Fl Hw ids (c :: t') fr (fun i => i ∈ ids (c :: t'))) := by
  have HAdd := Lib.hid (rowadd_gi h (c :: t') hr hK hn hN)
  have hc0 := h.gcell.1
  have o6 := (Tm.ofL_ok hr).2.2.2.2.2
  have hi0 : (0 : Int) < ((⟨(c :: t').toArray⟩ : ByteArray).size : Int) := by rw [size_list, List.length_cons]; omega
  have n0 : ∀ h, (((((⟨(c :: t').toArray⟩ : ByteArray)[0]'h).toNat : Nat) : Int) == 101) = false := byte_ne 101 h0
  have n1 : ∀ h, (((((⟨(c :: t').toArray⟩ : ByteArray)[0]'h).toNat : Nat) : Int) == 112) = false := byte_ne 112 h1
  have n2 : ∀ h, (((((⟨(c :: t').toArray⟩ : ByteArray)[0]'h).toNat : Nat) : Int) == 120) = false := byte_ne 120 h2
  have n3 : ∀ h, (((((⟨(c :: t').toArray⟩ : ByteArray)[0]'h).toNat : Nat) : Int) == 115) = false := byte_ne 115 h3
  have HW := Lib.hid hwk
  have HO6 := Lib.hid o6
  clear h hr hK hwk h0 h1 h2 h3 o6
  go_enter Try.func95, Try.ntmps95
  go_wp2_with fail
  refine HAdd.out.mono ?_
  rintro e w1 ⟨rfl, T1, hG1, hT1, hTo1⟩
  have HWk := Lib.hid (wake_calls hG1 HW.out (c :: t') HO6.out hlen hM)
  have HT1 := Lib.hid (And.intro hT1 hTo1)
  clear hG1 hT1 hTo1
  go_wp2_with fail
  refine HWk.out.mono ?_
  rintro e w2 ⟨rfl, T2, L2, wk2, vw2, hG2, hR2, hT2, hTo2⟩
  have hfin : Hid (GAdded W T g r sm pm lm wm n N M K L Fl Hw ids (c :: t') fr (fun i => i ∈ ids (c :: t')) (.returned (.tuple #[])) w2) := by
    obtain ⟨a1, a2⟩ := HT1.out
    exact ⟨rfl, T2, _, L2, wk2, vw2, hG2, hR2, fun q hq => (hT2 q (Nat.lt_of_lt_of_le hq a2.size)).trans (a1 q hq), a2.trans hTo2 a1⟩
  clear hG2 hR2 hT2 hTo2
  go_wp2
  refine bodyPost_end (results_none rfl _ _ _) rfl ?_
  exact hfin.out

set_option maxRecDepth 100000 in
set_option maxHeartbeats 4000000 in
theorem gadd_power (t' : List UInt8) (h : GI W T g r sm pm lm wm n N M K fr vf L wk vw Fl Hw ids) (hwk : ∀ (i : Nat) (k : Lk), L[i]? = some k → (k.woken = true ↔ i ∈ wk)) (hr : Tm.right (101 :: t') = true) (hK : ¬ K (101 :: t')) (hn : n < roomK) (hN : N < 1000000000) (hlen : L.length ≤ 1000000000) (hM : M ≤ 1000000000)
    {x : List UInt8} {xs : List (List UInt8)} (hx : Tm.ofL (101 :: t') = x :: xs) :
    Calls Try.prog 95 #[.pointer (some ⟨g, 0, none⟩), .string ⟨(101 :: t').toArray⟩] W (GAdded W T g r sm pm lm wm n N M K L Fl Hw ids (101 :: t') fr (fun i => i ∈ ids (101 :: t') ∨ i ∈ ids x)) := by
  have HAdd := Lib.hid (rowadd_gi h (101 :: t') hr hK hn hN)
  have hc0 := h.gcell.1
  have o6 := (Tm.ofL_ok hr).2.2.2.2.2
  have hi0 : (0 : Int) < ((⟨(101 :: t').toArray⟩ : ByteArray).size : Int) := by rw [size_list, List.length_cons]; omega
  have HW := Lib.hid hwk
  have HO6 := Lib.hid o6
  have HR := Lib.hid hr
  have HX := Lib.hid hx
  have hxl : Hid (x.length ≤ 20000) := by have := ((Tm.ofL_ok hr).2.1 x (by rw [hx]; simp)).2.2; exact Nat.le_trans (Nat.le_of_lt this) o6
  clear h hr hK hwk o6 hx
  go_enter Try.func95, Try.ntmps95
  go_wp2_with fail
  refine HAdd.out.mono ?_
  rintro e w1 ⟨rfl, T1, hG1, hT1, hTo1⟩
  have HWk := Lib.hid (wake_calls hG1 HW.out (101 :: t') HO6.out hlen hM)
  have HT1 := Lib.hid (And.intro hT1 hTo1)
  clear hG1 hT1 hTo1
  go_wp2_with fail
  refine HWk.out.mono ?_
  rintro e w2 ⟨rfl, T2, L2, wk2, vw2, hG2, hR2, hT2, hTo2⟩
  have HOf := Lib.hid (Of_right ⟨(101 :: t').toArray⟩ (by simpa using HR.out) w2)
  have HG2 := Lib.hid (And.intro hG2 (And.intro hR2 (And.intro hT2 hTo2)))
  clear hG2 hR2 hT2 hTo2 HAdd HWk
  go_wp2_with fail
  refine HOf.out.mono ?_
  rintro e w3 ⟨v3, rfl, hrow3, _, b3⟩
  have hne : Tm.ofL (101 :: t') ≠ [] := by rw [HX.out]; simp
  obtain ⟨g3, c3, rfl, hT3, _⟩ := row_slice hrow3 hne
  have hcx := hT3 0 x (by rw [show Tm.ofL (⟨(101 :: t').toArray⟩ : ByteArray).data.toList = x :: xs from HX.out]; rfl)
  have hpos : (0 : Int) < ((Tm.ofL (101 :: t')).length : Int) := by rw [HX.out, List.length_cons]; omega
  obtain ⟨hG2, hR2, hT2, hTo2⟩ := HG2.out
  have HW3 := Lib.hid (wake_calls (hG2.below b3) (fun i k hi => hR2.wakes i k hi) x hxl.out (by rw [hR2.len]; exact hlen) hM)
  have HTo3 : Hid (Touch T W w3 ∧ (∀ q, q < W.heap.size → T2 q = T q)) := by
    obtain ⟨a1, a2⟩ := HT1.out
    have a3 : ∀ q, q < W.heap.size → T2 q = T q := fun q hq => (hT2 q (Nat.lt_of_lt_of_le hq a2.size)).trans (a1 q hq)
    exact ⟨(a2.trans hTo2 a1).trans (T' := T2) (touch_below b3) a3, a3⟩
  have HR2 := Lib.hid hR2
  generalize Tm.ofL (101 :: t') = es at *
  clear hrow3 b3 hT3 HG2 HOf hG2 hR2 hT2 hTo2 HX
  go_wp2_with fail
  refine HW3.out.mono ?_
  rintro e w4 ⟨rfl, T4, L4, wk4, vw4, hG4, hR4, hT4, hTo4⟩
  have hfin : Hid (GAdded W T g r sm pm lm wm n N M K L Fl Hw ids (101 :: t') fr (fun i => i ∈ ids (101 :: t') ∨ i ∈ ids x) (.returned (.tuple #[])) w4) := by
    obtain ⟨a1, a2⟩ := HTo3.out
    exact ⟨rfl, T4, _, L4, wk4, vw4, hG4, HR2.out.trans hR4, fun q hq => (hT4 q (Nat.lt_of_lt_of_le hq a1.size)).trans (a2 q hq), a1.trans hTo4 a2⟩
  clear hG4 hR4 hT4 hTo4
  go_wp2
  refine bodyPost_end (results_none rfl _ _ _) rfl ?_
  exact hfin.out
end

end Go.Proofs.Ytloheongiceliaa
end

section
namespace Go.Proofs.Ytloheongiceliaa
open Go.ChangeShapes Go.WideShapes Go.ChangeAt Go.RowKit

theorem below_drew {B : Nat} {W W' : World} (h : Below B W.drew W') : Below B W W' := ⟨h.os, h.tape, h.output, h.size, h.block⟩
theorem texts_news {w : World} {g : Nat} {ps : List (List UInt8)} (h : Texts w g ps) : ∀ (j : Nat) (u : Value), (strs ps)[j]? = some u → w.cell? ((⟨g, 0, none⟩ : Addr).add j) = some u := fun j u hu => by
  unfold strs at hu
  rw [List.getElem?_map, Option.map_eq_some_iff] at hu
  obtain ⟨z, hz, rfl⟩ := hu
  have e : (⟨g, 0, none⟩ : Addr).add j = ⟨g, j, none⟩ := by
    by_cases hj : j = 0
    · subst hj; simp [Addr.add]
    · simp [Addr.add, hj]
  rw [e]
  exact h j z hz
theorem strs_one (ps : List (List UInt8)) : ∀ u ∈ strs ps, u.oneCell' = true := fun u hu => by
  unfold strs at hu
  obtain ⟨z, _, rfl⟩ := List.mem_map.1 hu
  rfl

section
variable {W W' : World} {T : Nat → Nat} {g r sm pm lm wm n N M : Nat} {K : List UInt8 → Prop} {fr : List (List UInt8)} {vf : Value} {L : List Lk} {wk : List Nat} {vw : Value} {Fl Hw : List UInt8 → Option Value} {ids : List UInt8 → List Nat}
/-- The gatherer's own block behind an append to what is fresh. -/
theorem GI.behind {wA : World} (h : GI W T g r sm pm lm wm n N M K fr vf L wk vw Fl Hw ids) (hg : W.grownBy wA vf.ownBlock) : wA.cell? ⟨g, 1, none⟩ = some vf ∧ wA.frozen? ⟨g, 1, none⟩ = false := by
  have hb : wA.heap[g]? = W.heap[g]? := hg.block g (Array.getElem?_eq_some_iff.1 h.block).1 (fun e => by have := h.fresh.2 g e.symm; rw [h.tags.1] at this; omega)
  exact ⟨(World.cell?_of_block (a := ⟨g, 1, none⟩) hb).trans h.gcell.2.1, (World.frozen?_of_block (a := ⟨g, 1, none⟩) hb).trans (h.gcell.2.2.2.2.2 1)⟩

set_option maxRecDepth 100000 in
set_option maxHeartbeats 8000000 in
theorem gadd_pair (t' : List UInt8) (h : GI W T g r sm pm lm wm n N M K fr vf L wk vw Fl Hw ids) (hwk : ∀ (i : Nat) (k : Lk), L[i]? = some k → (k.woken = true ↔ i ∈ wk)) (hr : Tm.right (112 :: t') = true) (hK : ¬ K (112 :: t')) (hn : n < roomK) (hN : N < 1000000000) (hlen : L.length ≤ 1000000000) (hM : M ≤ 1000000000)
    (hfl : fr.length ≤ 1000000000) {x y : List UInt8} (hx : Tm.ofL (112 :: t') = [x, y]) :
    Calls Try.prog 95 #[.pointer (some ⟨g, 0, none⟩), .string ⟨(112 :: t').toArray⟩] W (GAdded W T g r sm pm lm wm n N M K L Fl Hw ids (112 :: t') (fr ++ [x, y]) (fun i => i ∈ ids (112 :: t'))) := by
  obtain ⟨i0, hii, hz0, hz1, hz2⟩ := info_parts info_term
  have HAdd := Lib.hid (rowadd_gi h (112 :: t') hr hK hn hN)
  have hc0 := h.gcell.1
  have o6 := (Tm.ofL_ok hr).2.2.2.2.2
  have hi0 : (0 : Int) < ((⟨(112 :: t').toArray⟩ : ByteArray).size : Int) := by rw [size_list, List.length_cons]; omega
  have HW := Lib.hid hwk
  have HO6 := Lib.hid o6
  have HR := Lib.hid hr
  have HX := Lib.hid hx
  clear h hr hK hwk o6 hx
  go_enter Try.func95, Try.ntmps95
  go_wp2_with fail
  refine HAdd.out.mono ?_
  rintro e w1 ⟨rfl, T1, hG1, hT1, hTo1⟩
  have HWk := Lib.hid (wake_calls hG1 HW.out (112 :: t') HO6.out hlen hM)
  have HT1 := Lib.hid (And.intro hT1 hTo1)
  clear hG1 hT1 hTo1
  go_wp2_with fail
  refine HWk.out.mono ?_
  rintro e w2 ⟨rfl, T2, L2, wk2, vw2, hG2, hR2, hT2, hTo2⟩
  have hcv := hG2.gcell.2.1
  have HOf : Hid (Calls Try.prog 90 #[.string ⟨(112 :: t').toArray⟩] w2.drew fun e w3 => ∃ g3 c3, e = .returned (.slice (some ⟨g3, 0, none⟩) 2 c3) ∧ w3.cell? ⟨g, 1, none⟩ = some vf ∧
      Hid (GI w3 T2 g r sm pm lm wm (n + 1) (N + 1) M (alsoK K (112 :: t')) fr vf L2 wk2 vw2 Fl Hw ids ∧ Touch T W w3 ∧ (∀ q, q < W.heap.size → T2 q = T q) ∧ Roused L L2 wk2 (fun i => i ∈ ids (112 :: t')) ∧ Texts w3 g3 [x, y])) := by
    refine (Of_right ⟨(112 :: t').toArray⟩ (by simpa using HR.out) w2.drew).mono ?_
    rintro e w3 ⟨v3, rfl, hrow3, _, b3⟩
    have e0 : Tm.ofL (⟨(112 :: t').toArray⟩ : ByteArray).data.toList = [x, y] := HX.out
    rw [e0] at hrow3
    obtain ⟨g3, c3, rfl, hT3, _⟩ := row_slice hrow3 (by simp)
    have hG3 := hG2.below (below_drew b3)
    obtain ⟨a1, a2⟩ := HT1.out
    have a3 : ∀ q, q < W.heap.size → T2 q = T q := fun q hq => (hT2 q (Nat.lt_of_lt_of_le hq a2.size)).trans (a1 q hq)
    exact ⟨g3, c3, rfl, hG3.gcell.2.1, hG3, (a2.trans hTo2 a1).trans (T' := T2) (touch_below (below_drew b3)) a3, a3, hR2, hT3⟩
  clear hG2 hR2 hT2 hTo2 HAdd HWk HT1
  have HFin : Hid (∀ (w3 : World) (g3 gg cap : Nat) (wA : World), (GI w3 T2 g r sm pm lm wm (n + 1) (N + 1) M (alsoK K (112 :: t')) fr vf L2 wk2 vw2 Fl Hw ids ∧ Touch T W w3 ∧ (∀ q, q < W.heap.size → T2 q = T q) ∧ Roused L L2 wk2 (fun i => i ∈ ids (112 :: t')) ∧ Texts w3 g3 [x, y]) →
      wA.ownsRow 0 24 1 (.slice (some ⟨gg, 0, none⟩) (fr.length + 2) cap) (fr.length + 2) (strs fr ++ strs [x, y]) → w3.grownBy wA vf.ownBlock → (vf.ownBlock = some gg ∨ gg = w3.heap.size) →
      GAdded W T g r sm pm lm wm n N M K L Fl Hw ids (112 :: t') (fr ++ [x, y]) (fun i => i ∈ ids (112 :: t')) (.returned (.tuple #[])) (wA.setCell ⟨g, 1, none⟩ (.slice (some ⟨gg, 0, none⟩) (fr.length + 2) cap))) := by
    rintro w3 g3 gg cap wA ⟨hG, hTo, hT, hR, _⟩ k1 k2 k3
    have e1 : (fr ++ [x, y]).length = fr.length + 2 := by simp
    have e2 : strs (fr ++ [x, y]) = strs fr ++ strs [x, y] := by simp [strs]
    obtain ⟨m1, m2, m3⟩ := hG.pushed (ps := [x, y]) (v2 := .slice (some ⟨gg, 0, none⟩) (fr.length + 2) cap) k2 (by rw [e1, e2]; exact k1) (k3.imp (fun e => e.symm) (fun e => ⟨gg, rfl, by omega⟩))
    exact ⟨rfl, _, _, L2, wk2, vw2, m1, hR, fun q hq => (m2 q (Nat.lt_of_lt_of_le hq hTo.size)).trans (hT q hq), hTo.trans m3 hT⟩
  go_wp2
  go_region_law (first
    | (go_simp; go_at_call 90; refine HOf.out.mono ?_; rintro e' w3 ⟨g3, c3, rfl, hq1, HO⟩)
    | (refine step_append_lies _ (by rfl) _ _ _ (by rfl) 0 24 i0 _ 1 16 Try.underlying38 hii hz0 hz1 hz2 rfl (by omega) vf fr.length (strs fr) (by rfl) (HO.out.1.fresh.1)
            ⟨g3, 0, none⟩ 2 c3 (strs [x, y]) (by rfl) (by simp [strs]) (texts_news HO.out.2.2.2.2) (strs_one _)
            (by omega) (by unfold maxLen; omega) (by omega) (by simp) w3.heap.size rfl ?_
       intro gg cap wA hown1 hgrow hat hlt
       obtain ⟨hA1, hA2⟩ := HO.out.1.behind hgrow))
  all_goals
    have hfin := Lib.hid (HFin.out w3 g3 gg cap wA HO.out hown1 hgrow hat)
    clear hown1 hgrow hat hlt HO HFin HOf
    go_wp2
    refine bodyPost_end (results_none rfl _ _ _) rfl ?_
    exact hfin.out

set_option maxRecDepth 100000 in
set_option maxHeartbeats 8000000 in
theorem gadd_sign (t' : List UInt8) (h : GI W T g r sm pm lm wm n N M K fr vf L wk vw Fl Hw ids) (hwk : ∀ (i : Nat) (k : Lk), L[i]? = some k → (k.woken = true ↔ i ∈ wk)) (hr : Tm.right (120 :: t') = true) (hK : ¬ K (120 :: t')) (hn : n < roomK) (hN : N < 1000000000) (hlen : L.length ≤ 1000000000) (hM : M ≤ 1000000000)
    (hfl : fr.length ≤ 1000000000) {x y : List UInt8} (hx : Tm.ofL (120 :: t') = [x, y]) :
    Calls Try.prog 95 #[.pointer (some ⟨g, 0, none⟩), .string ⟨(120 :: t').toArray⟩] W (GAdded W T g r sm pm lm wm n N M K L Fl Hw ids (120 :: t') (fr ++ [y]) (fun i => i ∈ ids (120 :: t'))) := by
  obtain ⟨i0, hii, hz0, hz1, hz2⟩ := info_parts info_term
  have HAdd := Lib.hid (rowadd_gi h (120 :: t') hr hK hn hN)
  have hc0 := h.gcell.1
  have o6 := (Tm.ofL_ok hr).2.2.2.2.2
  have hi0 : (0 : Int) < ((⟨(120 :: t').toArray⟩ : ByteArray).size : Int) := by rw [size_list, List.length_cons]; omega
  have HW := Lib.hid hwk
  have HO6 := Lib.hid o6
  have HR := Lib.hid hr
  have HX := Lib.hid hx
  clear h hr hK hwk o6 hx
  go_enter Try.func95, Try.ntmps95
  go_wp2_with fail
  refine HAdd.out.mono ?_
  rintro e w1 ⟨rfl, T1, hG1, hT1, hTo1⟩
  have HWk := Lib.hid (wake_calls hG1 HW.out (120 :: t') HO6.out hlen hM)
  have HT1 := Lib.hid (And.intro hT1 hTo1)
  clear hG1 hT1 hTo1
  go_wp2_with fail
  refine HWk.out.mono ?_
  rintro e w2 ⟨rfl, T2, L2, wk2, vw2, hG2, hR2, hT2, hTo2⟩
  have hcv := hG2.gcell.2.1
  have HOf : Hid (Calls Try.prog 90 #[.string ⟨(120 :: t').toArray⟩] w2.drew fun e w3 => ∃ g3 c3, e = .returned (.slice (some ⟨g3, 0, none⟩) 2 c3) ∧ w3.cell? ⟨g, 1, none⟩ = some vf ∧ (∀ o, (w3.alloc o).cell? ⟨g, 1, none⟩ = some vf) ∧ w3.cell? ⟨g3, 1, none⟩ = some (.string ⟨y.toArray⟩) ∧
      Hid (GI w3 T2 g r sm pm lm wm (n + 1) (N + 1) M (alsoK K (120 :: t')) fr vf L2 wk2 vw2 Fl Hw ids ∧ Touch T W w3 ∧ (∀ q, q < W.heap.size → T2 q = T q) ∧ Roused L L2 wk2 (fun i => i ∈ ids (120 :: t')) ∧ g3 < w3.heap.size)) := by
    refine (Of_right ⟨(120 :: t').toArray⟩ (by simpa using HR.out) w2.drew).mono ?_
    rintro e w3 ⟨v3, rfl, hrow3, _, b3⟩
    have e0 : Tm.ofL (⟨(120 :: t').toArray⟩ : ByteArray).data.toList = [x, y] := HX.out
    rw [e0] at hrow3
    obtain ⟨g3, c3, rfl, hT3, hg3⟩ := row_slice hrow3 (by simp)
    have hG3 := hG2.below (below_drew b3)
    obtain ⟨a1, a2⟩ := HT1.out
    have a3 : ∀ q, q < W.heap.size → T2 q = T q := fun q hq => (hT2 q (Nat.lt_of_lt_of_le hq a2.size)).trans (a1 q hq)
    exact ⟨g3, c3, rfl, hG3.gcell.2.1, fun o => ((World.grownBy_alloc w3 o none).cell_far ⟨g, 1, none⟩ (Array.getElem?_eq_some_iff.1 hG3.block).1 (by simp)).trans hG3.gcell.2.1, hT3 1 y rfl, hG3, (a2.trans hTo2 a1).trans (T' := T2) (touch_below (below_drew b3)) a3, a3, hR2, hg3⟩
  clear hG2 hR2 hT2 hTo2 HAdd HWk HT1
  have HFin : Hid (∀ (w3 : World) (g3 gg cap : Nat) (wA : World), (GI w3 T2 g r sm pm lm wm (n + 1) (N + 1) M (alsoK K (120 :: t')) fr vf L2 wk2 vw2 Fl Hw ids ∧ Touch T W w3 ∧ (∀ q, q < W.heap.size → T2 q = T q) ∧ Roused L L2 wk2 (fun i => i ∈ ids (120 :: t')) ∧ g3 < w3.heap.size) →
      wA.ownsRow 0 24 1 (.slice (some ⟨gg, 0, none⟩) (fr.length + 1) cap) (fr.length + 1) (strs fr ++ [.string ⟨y.toArray⟩]) → (w3.alloc (.cells #[.string ⟨y.toArray⟩] 24)).grownBy wA vf.ownBlock → (vf.ownBlock = some gg ∨ gg = w3.heap.size + 1) →
      GAdded W T g r sm pm lm wm n N M K L Fl Hw ids (120 :: t') (fr ++ [y]) (fun i => i ∈ ids (120 :: t')) (.returned (.tuple #[])) (wA.setCell ⟨g, 1, none⟩ (.slice (some ⟨gg, 0, none⟩) (fr.length + 1) cap))) := by
    rintro w3 g3 gg cap wA ⟨hG, hTo, hT, hR, _⟩ k1 k2 k3
    have e1 : (fr ++ [y]).length = fr.length + 1 := by simp
    have e2 : strs (fr ++ [y]) = strs fr ++ [.string ⟨y.toArray⟩] := by simp [strs]
    have k2' := grown_trans (World.grownBy_alloc w3 (.cells #[.string ⟨y.toArray⟩] 24) vf.ownBlock) k2
    obtain ⟨m1, m2, m3⟩ := hG.pushed (ps := [y]) (v2 := .slice (some ⟨gg, 0, none⟩) (fr.length + 1) cap) k2' (by rw [e1, e2]; exact k1) (k3.imp (fun e => e.symm) (fun e => ⟨gg, rfl, by omega⟩))
    exact ⟨rfl, _, _, L2, wk2, vw2, m1, hR, fun q hq => (m2 q (Nat.lt_of_lt_of_le hq hTo.size)).trans (hT q hq), hTo.trans m3 hT⟩
  go_wp2
  go_region_law (first
    | (go_simp; go_at_call 90; refine HOf.out.mono ?_; rintro e' w3 ⟨g3, c3, rfl, hq1, hq3, hq2, HO⟩)
    | (refine step_append_lies _ (by rfl) _ _ _ (by rfl) 0 24 i0 _ 1 16 Try.underlying38 hii hz0 hz1 hz2 rfl (by omega) vf fr.length (strs fr) (by rfl) (HO.out.1.fresh.1.alloc _)
            ⟨w3.heap.size, 0, none⟩ 1 1 [.string ⟨y.toArray⟩] (by rfl) (by rfl) (World.news_of_block (cs := #[.string ⟨y.toArray⟩]) (t := 24) (fr := (0, 0)) (heap_alloc_new w3 _)) (by simp [Value.oneCell'])
            (by omega) (by unfold maxLen; omega) (by omega) (by simp) (w3.heap.size + 1) (by simp) ?_
       intro gg cap wA hown1 hgrow hat hlt
       obtain ⟨hA1, hA2⟩ := HO.out.1.behind (grown_trans (World.grownBy_alloc w3 (.cells #[.string ⟨y.toArray⟩] 24) vf.ownBlock) hgrow)))
  all_goals
    have hfin := Lib.hid (HFin.out w3 g3 gg cap wA HO.out hown1 hgrow hat)
    clear hown1 hgrow hat hlt HO HFin HOf
    go_wp2
    refine bodyPost_end (results_none rfl _ _ _) rfl ?_
    exact hfin.out
end

end Go.Proofs.Ytloheongiceliaa
end

section
namespace Go.Proofs.Ytloheongiceliaa
open Go.ChangeShapes Go.WideShapes Go.ChangeAt Go.RowKit

/-- What shut does with a text: it is fresh, or kept by a lock that is there, or by a new one. -/
def Kept (fr : List (List UInt8)) (L : List Lk) (wk : List Nat) (M : Nat) (key p : List UInt8) (fr' : List (List UInt8)) (L' : List Lk) (wk' : List Nat) (M' : Nat) : Prop :=
  (∃ k, k ∈ L ∧ k.key = key ∧ k.opened = true ∧ fr' = fr ++ [p] ∧ L' = L ∧ wk' = wk ∧ M' = M) ∨
  (∃ (i : Nat) (k : Lk) (v : Value), L[i]? = some k ∧ k.key = key ∧ k.opened = false ∧ fr' = fr ∧ L' = L.set i { k with texts := k.texts ++ [p], vt := v } ∧ wk' = wk ∧ M' = M) ∨
  (∃ (b : Nat) (v : Value), fr' = fr ∧ L' = L ++ [⟨b, key, [p], v, false, true⟩] ∧ wk' = wk ++ [L.length] ∧ M' = M + 1)
def ShutOut (W : World) (T : Nat → Nat) (g r sm pm lm wm n N M : Nat) (K : List UInt8 → Prop) (fr : List (List UInt8)) (L : List Lk) (wk : List Nat) (key p : List UInt8) (e : Ending) (W' : World) : Prop :=
  e = .returned (.tuple #[]) ∧ ∃ T' fr' vf' L' wk' vw' Fl' Hw' ids' M', GI W' T' g r sm pm lm wm n N M' K fr' vf' L' wk' vw' Fl' Hw' ids' ∧ Kept fr L wk M key p fr' L' wk' M' ∧ (∀ q, q < W.heap.size → T' q = T q) ∧ Touch T W W'

section
variable {W W' : World} {T : Nat → Nat} {g r sm pm lm wm n N M : Nat} {K : List UInt8 → Prop} {fr : List (List UInt8)} {vf : Value} {L : List Lk} {wk : List Nat} {vw : Value} {Fl Hw : List UInt8 → Option Value} {ids : List UInt8 → List Nat}
theorem shut_calls (h : GI W T g r sm pm lm wm n N M K fr vf L wk vw Fl Hw ids) (hlw : lm ≠ wm) (key p : List UInt8) (hkr : Tm.right key = true) (hM : M ≤ 1000000) (hLl : L.length ≤ 1000000) (hfl : fr.length ≤ 1000000000) (htl : ∀ k ∈ L, k.texts.length ≤ 1000000000) :
    Calls Try.prog 112 #[.pointer (some ⟨g, 0, none⟩), .string ⟨key.toArray⟩, .string ⟨p.toArray⟩] W (ShutOut W T g r sm pm lm wm n N M K fr L wk key p) := by
  have hkl := (Tm.ofL_ok hkr).2.2.2.2.2
  rcases h.lfind key with ⟨h1, _⟩ | ⟨i, k, h1, h2, h3⟩
  · refine (shut_new h hlw key p h1 hkr hM hLl).mono ?_
    rintro e w' ⟨rfl, T', vw', Fl', Hw', ids', b, v, k1, k2, k3⟩
    exact ⟨rfl, T', _, _, _, _, vw', Fl', Hw', ids', _, k1, .inr (.inr ⟨b, v, rfl, rfl, rfl, rfl⟩), k2, k3⟩
  · subst h2
    have hm := List.mem_of_getElem? h1
    have fin : ∀ e w', ShutOld W T g r sm pm lm wm n N M K fr L wk vw Fl Hw ids i k p e w' → ShutOut W T g r sm pm lm wm n N M K fr L wk k.key p e w' := by
      rintro e w' ⟨rfl, T', fr', vf', L', k1, k2, k3, k4⟩
      refine ⟨rfl, T', fr', vf', L', _, _, _, _, _, _, k1, ?_, k3, k4⟩
      rcases k2 with ⟨a1, a2, a3⟩ | ⟨a1, a2, v, a3⟩
      · exact .inl ⟨k, hm, rfl, a1, a2, a3, rfl, rfl⟩
      · exact .inr (.inl ⟨i, k, v, h1, rfl, a1, a2, a3, rfl, rfl⟩)
    cases hop : k.opened with
    | true => exact (shut_open h p h1 h3 hkl hop hfl).mono fin
    | false => exact (shut_kept h p h1 h3 hkl hop (htl k hm)).mono fin

def GAddedS (W : World) (T : Nat → Nat) (g r sm pm lm wm n N M : Nat) (K : List UInt8 → Prop) (fr : List (List UInt8)) (L : List Lk) (ids : List UInt8 → List Nat) (t key y p : List UInt8) (e : Ending) (W' : World) : Prop :=
  e = .returned (.tuple #[]) ∧ ∃ T' L2 wk2 fr' vf' L' wk' vw' Fl' Hw' ids' M', GI W' T' g r sm pm lm wm (n + 1) (N + 1) M' (alsoK K t) fr' vf' L' wk' vw' Fl' Hw' ids' ∧ Roused L L2 wk2 (fun i => i ∈ ids t) ∧ Kept (fr ++ [y]) L2 wk2 M key p fr' L' wk' M' ∧ (∀ q, q < W.heap.size → T' q = T q) ∧ Touch T W W'

set_option maxRecDepth 100000 in
set_option maxHeartbeats 8000000 in
theorem gadd_seal (t' : List UInt8) (h : GI W T g r sm pm lm wm n N M K fr vf L wk vw Fl Hw ids) (hlw : lm ≠ wm) (hwk : ∀ (i : Nat) (k : Lk), L[i]? = some k → (k.woken = true ↔ i ∈ wk)) (hr : Tm.right (115 :: t') = true) (hK : ¬ K (115 :: t')) (hn : n < roomK) (hN : N < 1000000000) (hM : M ≤ 1000000) (hLl : L.length ≤ 1000000)
    (hfl : fr.length ≤ 100000000) (htl : ∀ k ∈ L, k.texts.length ≤ 1000000000) {x y z : List UInt8} (hx : Tm.ofL (115 :: t') = [x, y, z]) :
    Calls Try.prog 95 #[.pointer (some ⟨g, 0, none⟩), .string ⟨(115 :: t').toArray⟩] W (GAddedS W T g r sm pm lm wm n N M K fr L ids (115 :: t') x y z) := by
  obtain ⟨i0, hii, hz0, hz1, hz2⟩ := info_parts info_term
  have HAdd := Lib.hid (rowadd_gi h (115 :: t') hr hK hn hN)
  have hc0 := h.gcell.1
  have o6 := (Tm.ofL_ok hr).2.2.2.2.2
  have hi0 : (0 : Int) < ((⟨(115 :: t').toArray⟩ : ByteArray).size : Int) := by rw [size_list, List.length_cons]; omega
  have HW := Lib.hid hwk
  have HO6 := Lib.hid o6
  have HR := Lib.hid hr
  have HX := Lib.hid hx
  have HXr : Hid (Tm.right x = true) := (Tm.right_iff x).2 ((Tm.ofL_ok hr).2.1 x (by rw [hx]; simp)).1
  have HTl := Lib.hid (And.intro hlw htl)
  clear h hr hK hwk o6 hx hlw htl
  go_enter Try.func95, Try.ntmps95
  go_wp2_with fail
  refine HAdd.out.mono ?_
  rintro e w1 ⟨rfl, T1, hG1, hT1, hTo1⟩
  have HWk := Lib.hid (wake_calls hG1 HW.out (115 :: t') HO6.out (by omega) (by omega))
  have HT1 := Lib.hid (And.intro hT1 hTo1)
  clear hG1 hT1 hTo1
  go_wp2_with fail
  refine HWk.out.mono ?_
  rintro e w2 ⟨rfl, T2, L2, wk2, vw2, hG2, hR2, hT2, hTo2⟩
  have HOf := Lib.hid (Of_right ⟨(115 :: t').toArray⟩ (by simpa using HR.out) w2)
  have HG2 : Hid (GI w2 T2 g r sm pm lm wm (n + 1) (N + 1) M (alsoK K (115 :: t')) fr vf L2 wk2 vw2 Fl Hw ids ∧ Touch T W w2 ∧ (∀ q, q < W.heap.size → T2 q = T q) ∧ Roused L L2 wk2 (fun i => i ∈ ids (115 :: t'))) := by
    obtain ⟨a1, a2⟩ := HT1.out
    exact ⟨hG2, a2.trans hTo2 a1, fun q hq => (hT2 q (Nat.lt_of_lt_of_le hq a2.size)).trans (a1 q hq), hR2⟩
  clear hG2 hR2 hT2 hTo2 HAdd HWk HT1
  go_wp2_with fail
  refine HOf.out.mono ?_
  rintro e w3 ⟨v3, rfl, hrow3, _, b3⟩
  have e0 : Tm.ofL (⟨(115 :: t').toArray⟩ : ByteArray).data.toList = [x, y, z] := HX.out
  rw [e0] at hrow3
  obtain ⟨g3, c3, rfl, hT3, hg3⟩ := row_slice hrow3 (by simp)
  have hlo : w2.heap.size ≤ g3 := (hrow3.lt g3 rfl).1
  have c0 := hT3 0 x rfl
  have c1 := hT3 1 y rfl
  have c2 := hT3 2 z rfl
  have hG3 := HG2.out.1.below b3
  have hcv := hG3.gcell.2.1
  have HG3 : Hid (GI w3 T2 g r sm pm lm wm (n + 1) (N + 1) M (alsoK K (115 :: t')) fr vf L2 wk2 vw2 Fl Hw ids ∧ Touch T W w3 ∧ (∀ q, q < W.heap.size → T2 q = T q) ∧ Roused L L2 wk2 (fun i => i ∈ ids (115 :: t'))) := by
    obtain ⟨_, a2, a3, a4⟩ := HG2.out
    exact ⟨hG3, a2.trans (T' := T2) (touch_below b3) a3, a3, a4⟩
  have HFr := Lib.hid hG3.fresh.1
  have hz3 : T2 g3 = 0 := HG2.out.1.zero g3 hlo
  -- behind the append and the store
  have HAft : Hid (∀ (gg cap : Nat) (wA : World), wA.ownsRow 0 24 1 (.slice (some ⟨gg, 0, none⟩) (fr.length + 1) cap) (fr.length + 1) (strs fr ++ [.string ⟨y.toArray⟩]) → ((w3.alloc (.cells #[.string ⟨y.toArray⟩] 24)).drew).grownBy wA vf.ownBlock → (vf.ownBlock = some gg ∨ gg = w3.heap.size + 1) →
      (wA.cell? ⟨g, 1, none⟩ = some vf ∧ wA.frozen? ⟨g, 1, none⟩ = false) ∧ (∀ j, (wA.setCell ⟨g, 1, none⟩ (.slice (some ⟨gg, 0, none⟩) (fr.length + 1) cap)).cell? ⟨g3, j, none⟩ = w3.cell? ⟨g3, j, none⟩) ∧
      Hid (∃ T5, GI (wA.setCell ⟨g, 1, none⟩ (.slice (some ⟨gg, 0, none⟩) (fr.length + 1) cap)) T5 g r sm pm lm wm (n + 1) (N + 1) M (alsoK K (115 :: t')) (fr ++ [y]) (.slice (some ⟨gg, 0, none⟩) (fr.length + 1) cap) L2 wk2 vw2 Fl Hw ids ∧ Touch T W (wA.setCell ⟨g, 1, none⟩ (.slice (some ⟨gg, 0, none⟩) (fr.length + 1) cap)) ∧ (∀ q, q < W.heap.size → T5 q = T q))) := by
    intro gg cap wA k1 k2 k3
    obtain ⟨hG, hTo, hT, _⟩ := HG3.out
    have k2' := grown_trans (World.grownBy_alloc w3 (.cells #[.string ⟨y.toArray⟩] 24) vf.ownBlock) (⟨k2.os, k2.tape, k2.output, k2.size, k2.block⟩ : (w3.alloc (.cells #[.string ⟨y.toArray⟩] 24)).grownBy wA vf.ownBlock)
    have e1 : (fr ++ [y]).length = fr.length + 1 := by simp
    have e2 : strs (fr ++ [y]) = strs fr ++ [.string ⟨y.toArray⟩] := by simp [strs]
    obtain ⟨m1, m2, m3⟩ := hG.pushed (ps := [y]) (v2 := .slice (some ⟨gg, 0, none⟩) (fr.length + 1) cap) k2' (by rw [e1, e2]; exact k1) (k3.imp (fun e => e.symm) (fun e => ⟨gg, rfl, by omega⟩))
    refine ⟨hG.behind k2', fun j => ?_, _, m1, hTo.trans m3 hT, fun q hq => (m2 q (Nat.lt_of_lt_of_le hq hTo.size)).trans (hT q hq)⟩
    exact World.cell?_of_block (a := ⟨g3, j, none⟩) (m3.same g3 hg3 hz3)
  have hcv2 : ∀ o, (w3.alloc o).cell? ⟨g, 1, none⟩ = some vf := fun o => ((World.grownBy_alloc w3 o none).cell_far ⟨g, 1, none⟩ (Array.getElem?_eq_some_iff.1 hG3.block).1 (by simp)).trans hcv
  have hg31 : (1 : Int) < 3 := by omega
  rw [show ([x, y, z] : List (List UInt8)).length = 3 from rfl]
  clear hrow3 b3 hT3 HG2 HOf hG3 e0
  go_wp2
  go_region_law (first
    | (refine step_append_lies _ (by rfl) _ _ _ (by rfl) 0 24 i0 _ 1 16 Try.underlying38 hii hz0 hz1 hz2 rfl (by omega) vf fr.length (strs fr) (by rfl) ((HFr.out.alloc _).drew)
            ⟨w3.heap.size, 0, none⟩ 1 1 [.string ⟨y.toArray⟩] (by rfl) (by rfl) (World.news_of_block (cs := #[.string ⟨y.toArray⟩]) (t := 24) (fr := (0, 0)) (heap_alloc_new w3 _)) (by simp [Value.oneCell'])
            (by omega) (by unfold maxLen; omega) (by omega) (by simp) (w3.heap.size + 1) (by simp) ?_
       intro gg cap wA hown1 hgrow hat hlt
       obtain ⟨⟨hA1, hA2⟩, hA3, HA4⟩ := HAft.out gg cap wA hown1 hgrow hat))
  all_goals
    obtain ⟨w5, hw5⟩ : ∃ w5, wA.setCell ⟨g, 1, none⟩ (.slice (some ⟨gg, 0, none⟩) (fr.length + 1) cap) = w5 := ⟨_, rfl⟩
    rw [hw5] at hA3 HA4 ⊢
    obtain ⟨T5, hG5, hTo5, hT5⟩ := HA4.out
    have d0 := (hA3 0).trans c0
    have d2 := (hA3 2).trans c2
    obtain ⟨_, _, _, hR2⟩ := HG3.out
    have HShut := Lib.hid (shut_calls (hG5.below (W' := w5.drew) ⟨rfl, rfl, rfl, Nat.le_refl _, fun _ _ => rfl⟩) HTl.out.1 x z HXr.out (by omega) (by rw [hR2.len]; omega) (by simp; omega) (fun k' hk' => by
      obtain ⟨k, k1, _, k3, _⟩ := hR2.mem hk'
      rw [k3]
      exact HTl.out.2 k k1))
    have HTo5 := Lib.hid (And.intro hTo5 hT5)
    clear hA1 hA2 hA3 HA4 hG5 hTo5 hT5 hR2 hown1 hgrow hat hlt c0 c1 c2 hcv hcv2 HAft HFr hw5
    go_wp2
    go_region_law (first | (go_simp; go_at_call 112; refine HShut.out.mono ?_; rintro e' w6 ⟨rfl, HS⟩))
    all_goals
      have hfin : Hid (GAddedS W T g r sm pm lm wm n N M K fr L ids (115 :: t') x y z (.returned (.tuple #[])) w6) := by
        obtain ⟨T', fr', vf', L', wk', vw', Fl', Hw', ids', M', k1, k2, k3, k4⟩ := HS
        obtain ⟨a1, a2⟩ := HTo5.out
        obtain ⟨_, _, _, hR2⟩ := HG3.out
        have k4' : Touch T5 w5 w6 := ⟨k4.os, k4.tape, k4.output, k4.size, k4.same⟩
        exact ⟨rfl, T', L2, wk2, fr', vf', L', wk', vw', Fl', Hw', ids', M', k1, hR2, k2, fun q hq => (k3 q (Nat.lt_of_lt_of_le hq a1.size)).trans (a2 q hq), a1.trans k4' a2⟩
      clear HS HTo5 HShut HG3
      go_wp2
      refine bodyPost_end (results_none rfl _ _ _) rfl ?_
      exact hfin.out
end

end Go.Proofs.Ytloheongiceliaa
end

section
namespace Go.Proofs.Ytloheongiceliaa
open Go.ChangeShapes Go.WideShapes Go.ChangeAt Go.RowKit

namespace Tm
theorem subs_row : ∀ {ps : List (List UInt8)}, (∀ p ∈ ps, ∃ us : List (List UInt8), us.length ≤ p.length ∧ ∀ x, Sub p x → x ∈ us) → ∃ us : List (List UInt8), us.length ≤ ps.flatten.length ∧ ∀ p ∈ ps, ∀ x, Sub p x → x ∈ us
  | [], _ => ⟨[], by simp, by simp⟩
  | p :: ps, h => by
    obtain ⟨u1, h1, h2⟩ := h p (by simp)
    obtain ⟨u2, h3, h4⟩ := subs_row (ps := ps) (fun q hq => h q (List.mem_cons_of_mem _ hq))
    refine ⟨u1 ++ u2, by rw [List.length_append, List.flatten_cons, List.length_append]; omega, fun q hq x hx => ?_⟩
    rcases List.mem_cons.1 hq with rfl | hq
    · exact List.mem_append_left _ (h2 x hx)
    · exact List.mem_append_right _ (h4 q hq x hx)
theorem subs_few (n : Nat) : ∀ t : List UInt8, t.length ≤ n → right t = true → ∃ us : List (List UInt8), us.length ≤ t.length ∧ ∀ x, Sub t x → x ∈ us := by
  induction n with
  | zero =>
    intro t ht hr
    have := (right_ne_nil hr).2
    omega
  | succ n ih =>
    intro t ht hr
    have o := ofL_ok hr
    obtain ⟨us, h1, h2⟩ := subs_row (ps := ofL t) (fun p hp => ih p (by have := (o.2.1 p hp).2.2; omega) ((right_iff p).2 (o.2.1 p hp).1))
    refine ⟨t :: us, ?_, fun x hx => ?_⟩
    · have h3 := o.1
      have h4 := (begin_some (right_begin hr)).1
      have h5 := right_begin hr
      have h6 := (right_ne_nil hr).2
      have h7 : (ofL t).flatten.length = (t.drop (begin_ t).1).length := by rw [h3]
      rw [List.length_drop] at h7
      rw [List.length_cons]
      omega
    · cases hx with
      | self => simp
      | part hp hx => exact List.mem_cons_of_mem _ (h2 _ hp x hx)
/-- What stands in a right one of l. -/
def InL (l : List (List UInt8)) (x : List UInt8) : Prop := ∃ y ∈ l, right y = true ∧ Sub y x
theorem inL_few (l : List (List UInt8)) : ∃ us : List (List UInt8), us.length ≤ l.flatten.length ∧ ∀ x, InL l x → x ∈ us := by
  have key : ∀ l : List (List UInt8), ∃ us : List (List UInt8), us.length ≤ l.flatten.length ∧ ∀ y ∈ l, right y = true → ∀ x, Sub y x → x ∈ us := by
    intro l
    induction l with
    | nil => exact ⟨[], by simp, by simp⟩
    | cons y l ih =>
      obtain ⟨us, h1, h2⟩ := ih
      by_cases hr : right y = true
      · obtain ⟨u1, h3, h4⟩ := subs_few _ y (Nat.le_refl _) hr
        refine ⟨u1 ++ us, by rw [List.length_append, List.flatten_cons, List.length_append]; omega, fun z hz hzr x hx => ?_⟩
        rcases List.mem_cons.1 hz with rfl | hz
        · exact List.mem_append_left _ (h4 x hx)
        · exact List.mem_append_right _ (h2 z hz hzr x hx)
      · refine ⟨us, by rw [List.flatten_cons, List.length_append]; omega, fun z hz hzr x hx => ?_⟩
        rcases List.mem_cons.1 hz with rfl | hz
        · exact absurd hzr hr
        · exact h2 z hz hzr x hx
  obtain ⟨us, h1, h2⟩ := key l
  exact ⟨us, h1, fun x ⟨y, hy, hr, hx⟩ => h2 y hy hr x hx⟩
theorem inL_closed (l : List (List UInt8)) : Closed (InL l) := by
  have up : ∀ {t p : List UInt8}, InL l t → p ∈ ofL t → InL l p := fun ⟨y, h1, h2, h3⟩ hp => ⟨y, h1, h2, h3.snoc hp⟩
  exact ⟨fun t ht _ p hp => up ht hp, fun t p ht _ hp => up ht (List.mem_of_getElem? hp), fun t p ht _ hp => up ht (List.mem_of_getElem? hp), fun t k p ht _ _ hp _ => up ht (List.mem_of_getElem? hp)⟩
end Tm

open Classical in
/-- How many of us are not known. -/
noncomputable def notK (us : List (List UInt8)) (K : List UInt8 → Prop) : Nat := (us.filter (fun x => decide (¬ K x))).length
open Classical in
theorem notK_le (us : List (List UInt8)) (K : List UInt8 → Prop) : notK us K ≤ us.length := List.length_filter_le _ _
open Classical in
theorem notK_also {us : List (List UInt8)} {K : List UInt8 → Prop} {t : List UInt8} (ht : t ∈ us) (hK : ¬ K t) : notK us (alsoK K t) + 1 ≤ notK us K := by
  unfold notK
  induction us with
  | nil => cases ht
  | cons a us ih =>
    have mono : ∀ us : List (List UInt8), (us.filter (fun x => decide (¬ alsoK K t x))).length ≤ (us.filter (fun x => decide (¬ K x))).length := by
      intro us
      induction us with
      | nil => simp
      | cons b us ih2 =>
        by_cases h1 : K b
        · rw [List.filter_cons_of_neg (by simp [alsoK, h1]), List.filter_cons_of_neg (by simp [h1])]
          exact ih2
        · rw [List.filter_cons_of_pos (p := fun x => decide (¬ K x)) (by simp [h1])]
          by_cases h2 : b = t
          · rw [List.filter_cons_of_neg (by simp [alsoK, h2])]
            simp only [List.length_cons]
            omega
          · rw [List.filter_cons_of_pos (by simp [alsoK, h1, h2])]
            simp only [List.length_cons]
            omega
    by_cases e : a = t
    · subst e
      rw [List.filter_cons_of_neg (by simp [alsoK]), List.filter_cons_of_pos (p := fun x => decide (¬ K x)) (by simp [hK])]
      have := mono us
      simp only [List.length_cons]
      omega
    · have hm : t ∈ us := by
        rcases List.mem_cons.1 ht with h | h
        · exact absurd h.symm e
        · exact h
      have h3 := ih hm
      by_cases h1 : K a
      · rw [List.filter_cons_of_neg (by simp [alsoK, h1]), List.filter_cons_of_neg (by simp [h1])]
        exact h3
      · rw [List.filter_cons_of_pos (by simp [alsoK, h1, e]), List.filter_cons_of_pos (p := fun x => decide (¬ K x)) (by simp [h1])]
        simp only [List.length_cons]
        omega

/-- What all locks keep. -/
def keptSum (L : List Lk) : Nat := (L.map (fun k => k.texts.length)).sum
theorem kept_le {L : List Lk} {k : Lk} (h : k ∈ L) : k.texts.length ≤ keptSum L := by
  unfold keptSum
  induction L with
  | nil => cases h
  | cons a L ih =>
    rw [List.map_cons, List.sum_cons]
    rcases List.mem_cons.1 h with rfl | h
    · omega
    · have := ih h; omega
theorem kept_set {L : List Lk} {i : Nat} {k : Lk} (hi : L[i]? = some k) (k2 : Lk) : keptSum (L.set i k2) + k.texts.length = keptSum L + k2.texts.length := by
  unfold keptSum
  induction L generalizing i with
  | nil => cases hi
  | cons a L ih =>
    cases i with
    | zero =>
      simp at hi
      subst hi
      simp only [List.set_cons_zero, List.map_cons, List.sum_cons]
      omega
    | succ i =>
      simp at hi
      have := ih hi
      simp only [List.set_cons_succ, List.map_cons, List.sum_cons]
      omega
theorem kept_more (L : List Lk) (k : Lk) : keptSum (L ++ [k]) = keptSum L + k.texts.length := by simp [keptSum]
theorem kept_same {L L' : List Lk} (hl : L'.length = L.length) (h : ∀ (i : Nat) (k k' : Lk), L[i]? = some k → L'[i]? = some k' → k'.texts = k.texts) : keptSum L' = keptSum L := by
  unfold keptSum
  congr 1
  apply List.ext_getElem?
  intro i
  rw [List.getElem?_map, List.getElem?_map]
  by_cases hi : i < L.length
  · have h1 : L[i]? = some (L[i]'hi) := List.getElem?_eq_getElem hi
    have hi' : i < L'.length := by omega
    have h2 : L'[i]? = some (L'[i]'hi') := List.getElem?_eq_getElem hi'
    rw [h1, h2, Option.map_some, Option.map_some, h i _ _ h1 h2]
  · rw [List.getElem?_eq_none (by omega), List.getElem?_eq_none (by omega)]

/-- How far a gatherer has come: u is as many as may be found, at most. -/
structure CInv (us : List (List UInt8)) (c : Nat) (K : List UInt8 → Prop) (fr : List (List UInt8)) (L : List Lk) (wk : List Nat) (n N M : Nat) : Prop where
  adds : N + notK us K ≤ us.length
  locks : M + notK us K ≤ us.length
  llen : L.length ≤ M
  room : fr.length + keptSum L + 2 * notK us K ≤ c + 2 * us.length
  stand : n + 20001 * (wk.length + (us.length + 1) * notK us K) ≤ 20001 * ((us.length + 1) * us.length)
  wlen : wk.length ≤ L.length

end Go.Proofs.Ytloheongiceliaa
end

section
namespace Go.Proofs.Ytloheongiceliaa
open Go.ChangeShapes Go.WideShapes Go.ChangeAt Go.RowKit

noncomputable def pot (us : List (List UInt8)) (K : List UInt8 → Prop) (wk : List Nat) : Nat := wk.length + (us.length + 1) * notK us K
theorem CInv.add {us : List (List UInt8)} {c : Nat} {K : List UInt8 → Prop} {fr fr' : List (List UInt8)} {t : List UInt8} {L L' : List Lk} {wk wk' : List Nat} {n N M M' : Nat} (h : CInv us c K (fr ++ [t]) L wk n N M) (ht : t ∈ us) (hK : ¬ K t) (hM : M' ≤ M + 1) (hl : L'.length ≤ M') (hw : wk'.length ≤ L'.length) (hroom : fr'.length + keptSum L' ≤ fr.length + keptSum L + 2) (hkept : keptSum L ≤ keptSum L') :
    CInv us c (alsoK K t) fr' L' wk' (n + 1) (N + 1) M' ∧ pot us (alsoK K t) wk' ≤ pot us K wk ∧ fr'.length + 3 * notK us (alsoK K t) < fr.length + 1 + 3 * notK us K := by
  have hq := notK_also ht hK
  obtain ⟨a1, a2, a3, a4, a5, a6⟩ := h
  rw [List.length_append] at a4
  simp only [List.length_singleton] at a4
  unfold pot
  have hm : (us.length + 1) * (notK us (alsoK K t) + 1) ≤ (us.length + 1) * notK us K := Nat.mul_le_mul_left _ hq
  rw [Nat.mul_add, Nat.mul_one] at hm
  exact ⟨⟨by omega, by omega, hl, by omega, by omega, hw⟩, by omega, by omega⟩

def GSt (us l : List (List UInt8)) (c : Nat) (W : World) (T : Nat → Nat) (g r sm pm lm wm : Nat) (K : List UInt8 → Prop) (fr : List (List UInt8)) (wk : List Nat) : Prop :=
  ∃ n N M vf L vw Fl Hw ids, GI W T g r sm pm lm wm n N M K fr vf L wk vw Fl Hw ids ∧ PInv l K fr L wk (fun _ => False) ∧ CInv us c K fr L wk n N M

theorem Tm.pair_parts {t : List UInt8} (h : Tm.right t = true) (hk : t.getD 0 0 = 112) : ∃ x y, Tm.ofL t = [x, y] := by
  have hl := (Tm.ofL_ok h).2.2.1
  have hh : Tm.headOf t = (1, 2) := by unfold Tm.headOf; rw [if_neg (Tm.right_ne_nil h).1, hk]; simp
  rw [(Tm.head_of_right h).1, hh] at hl
  match hx : Tm.ofL t, hl with
  | [x, y], _ => exact ⟨x, y, rfl⟩

def GAll (us l : List (List UInt8)) (c : Nat) (W : World) (T : Nat → Nat) (g r sm pm lm wm : Nat) (K : List UInt8 → Prop) (fr : List (List UInt8)) (wk : List Nat) (e : Ending) (W' : World) : Prop :=
  e = .returned (.tuple #[]) ∧ ∃ T' K' fr' wk', GSt us l c W' T' g r sm pm lm wm K' fr' wk' ∧ pot us K' wk' ≤ pot us K wk ∧ fr'.length + 3 * notK us K' < fr.length + 1 + 3 * notK us K ∧ (∀ q, q < W.heap.size → T' q = T q) ∧ Touch T W W'

theorem CInv.bounds {us : List (List UInt8)} {c : Nat} {K : List UInt8 → Prop} {fr : List (List UInt8)} {L : List Lk} {wk : List Nat} {n N M : Nat} (h : CInv us c K fr L wk n N M) (hu : us.length ≤ 200000) (hc : c ≤ 1000000) : n + 20001 * wk.length ≤ 800060001000000 ∧ N ≤ 200000 ∧ M ≤ 200000 ∧ L.length ≤ 200000 ∧ fr.length ≤ 1400000 ∧ ∀ k ∈ L, k.texts.length ≤ 1400000 := by
  obtain ⟨a1, a2, a3, a4, a5, a6⟩ := h
  have h1 : (us.length + 1) * us.length ≤ 200001 * 200000 := Nat.mul_le_mul (by omega) hu
  generalize (us.length + 1) * us.length = U at *
  refine ⟨?_, by omega, by omega, by omega, by omega, fun k hk => ?_⟩
  · have h2 : 20001 * (wk.length + (us.length + 1) * notK us K) = 20001 * wk.length + 20001 * ((us.length + 1) * notK us K) := Nat.mul_add _ _ _
    rw [h2] at a5
    omega
  · have := kept_le hk
    omega

section
variable {us l : List (List UInt8)} {c : Nat} {W W' : World} {T : Nat → Nat} {g r sm pm lm wm n N M : Nat} {K : List UInt8 → Prop} {fr : List (List UInt8)} {vf : Value} {L : List Lk} {wk : List Nat} {vw : Value} {Fl Hw : List UInt8 → Option Value} {ids : List UInt8 → List Nat}
theorem gaddAll (h : GI W T g r sm pm lm wm n N M K fr vf L wk vw Fl Hw ids) (hlw : lm ≠ wm) (t : List UInt8) (hP : PInv l K (fr ++ [t]) L wk (fun _ => False)) (hC : CInv us c K (fr ++ [t]) L wk n N M) (hus : ∀ x, Tm.InL l x → x ∈ us) (hu : us.length ≤ 200000) (hc : c ≤ 1000000) :
    Calls Try.prog 95 #[.pointer (some ⟨g, 0, none⟩), .string ⟨t.toArray⟩] W (GAll us l c W T g r sm pm lm wm K fr wk) := by
  have ht := hP.rights.2.1 t (by simp)
  have htu : t ∈ us := hus t ((hP.sound _ (Tm.inL_closed l) (fun x hx hr => ⟨x, hx, hr, .self x⟩)).2.1 t (by simp))
  obtain ⟨b1, b2, b3, b4, b5, b6⟩ := hC.bounds hu hc
  rw [List.length_append] at b5
  have hn : n < roomK := by unfold roomK; omega
  by_cases hK : K t
  · refine (gadd_known h t ht hK).mono ?_
    rintro e w' ⟨rfl, rfl⟩
    refine ⟨rfl, T, K, fr, wk, ⟨n, N, M, vf, L, vw, Fl, Hw, ids, h, hP.again hK, ⟨hC.adds, hC.locks, hC.llen, ?_, hC.stand, hC.wlen⟩⟩, Nat.le_refl _, by omega, fun _ _ => rfl, Touch.refl _ _⟩
    have := hC.room
    rw [List.length_append] at this
    simp only [List.length_singleton] at this
    omega
  · have parts := (Tm.ofL_ok ht).2.1
    have fin : ∀ (more : List (List UInt8)) (who : Nat → Prop), more.length ≤ 2 → (∀ p ∈ more, p ∈ Tm.ofL t) → t.getD 0 0 ≠ 115 →
        (∀ (i : Nat) (lk : Lk), L[i]? = some lk → (Tm.Sub lk.key t ∨ (t.getD 0 0 = 101 ∧ ∃ x, (Tm.ofL t).head? = some x ∧ Tm.Sub lk.key x)) → who i) →
        (t.getD 0 0 = 112 → ∀ p ∈ Tm.ofL t, p ∈ more) → (t.getD 0 0 = 120 → ∀ p, (Tm.ofL t)[1]? = some p → p ∈ more) → (∀ S : List UInt8 → Prop, Tm.Closed S → S t → ∀ p ∈ more, S p) →
        ∀ e w', GAdded W T g r sm pm lm wm n N M K L Fl Hw ids t (fr ++ more) who e w' → GAll us l c W T g r sm pm lm wm K fr wk e w' := by
      rintro more who k1 k2 k3 k4 k5 k6 k7 e w' ⟨rfl, T', vf', L', wk', vw', hG', hR, hT, hTo⟩
      have hP' := (hP.add hR k4 k5 k6 (fun q => absurd q k3) (fun p hp => (Tm.right_iff p).2 (parts p (k2 p hp)).1) k7).noSeal k3
      have hks : keptSum L' = keptSum L := kept_same hR.len (fun i k k' h1 h2 => (hR.same i k k' h1 h2).2.2.1)
      have hC' := hC.add (fr' := fr ++ more) (L' := L') (wk' := wk') htu hK (Nat.le_succ M) (by rw [hR.len]; exact hC.llen) (nodup_few _ _ hG'.wkin.2 hG'.wkin.1) (by rw [hks, List.length_append]; omega) (by omega)
      exact ⟨rfl, T', _, _, _, ⟨_, _, _, _, _, _, _, _, _, hG', hP', hC'.1⟩, hC'.2.1, hC'.2.2, hT, hTo⟩
    cases t with
    | nil => exact absurd rfl (Tm.right_ne_nil ht).1
    | cons d t' =>
      have hd : (d :: t').getD 0 0 = d := List.getD_cons_zero
      have cov : ∀ (i : Nat) (lk : Lk), L[i]? = some lk → Tm.Sub lk.key (d :: t') → i ∈ ids (d :: t') := fun i lk hi hs => h.covers i lk hi _ hs
      by_cases e1 : d = 101
      · subst e1
        have hne : (Tm.ofL (101 :: t')).length ≠ 0 := by rw [(Tm.ofL_ok ht).2.2.1]; exact Tm.power_some ht hd
        obtain ⟨x, xs, hx⟩ : ∃ x xs, Tm.ofL (101 :: t') = x :: xs := by
          cases q : Tm.ofL (101 :: t') with
          | nil => rw [q] at hne; exact absurd rfl hne
          | cons x xs => exact ⟨x, xs, rfl⟩
        refine (gadd_power t' h hP.wakes ht hK hn (by omega) (by omega) (by omega) hx).mono ?_
        have := fin [] (fun i => i ∈ ids (101 :: t') ∨ i ∈ ids x) (by simp) (by simp) (by rw [hd]; decide) (fun i lk hi hs => ?_) (fun q => by rw [hd] at q; exact absurd q (by decide)) (fun q => by rw [hd] at q; exact absurd q (by decide)) (by simp)
        · rw [List.append_nil] at this; exact this
        · rcases hs with hs | ⟨_, z, hz, hs⟩
          · exact .inl (cov i lk hi hs)
          · rw [hx] at hz
            cases hz
            exact .inr (h.covers i lk hi _ hs)
      · by_cases e2 : d = 112
        · subst e2
          obtain ⟨x, y, hx⟩ := Tm.pair_parts ht hd
          refine (gadd_pair t' h hP.wakes ht hK hn (by omega) (by omega) (by omega) (by omega) hx).mono ?_
          refine fin [x, y] _ (by simp) (by rw [hx]; simp) (by rw [hd]; decide) (fun i lk hi hs => ?_) (by rw [hx]; simp) (fun q => by rw [hd] at q; exact absurd q (by decide)) (fun S hS hSt p hp => hS.pair _ hSt hd p (by rw [hx]; exact hp))
          rcases hs with hs | ⟨q, _⟩
          · exact cov i lk hi hs
          · rw [hd] at q; exact absurd q (by decide)
        · by_cases e3 : d = 120
          · subst e3
            obtain ⟨x, y, hx⟩ := Tm.sign_parts ht hd
            refine (gadd_sign t' h hP.wakes ht hK hn (by omega) (by omega) (by omega) (by omega) hx).mono ?_
            refine fin [y] _ (by simp) (by rw [hx]; simp) (by rw [hd]; decide) (fun i lk hi hs => ?_) (fun q => by rw [hd] at q; exact absurd q (by decide)) (fun _ p hp => by rw [hx] at hp; simpa using hp.symm) (fun S hS hSt p hp => hS.sign _ p hSt hd (by rw [hx]; simp at hp; rw [hp]; rfl))
            rcases hs with hs | ⟨q, _⟩
            · exact cov i lk hi hs
            · rw [hd] at q; exact absurd q (by decide)
          · by_cases e4 : d = 115
            · subst e4
              obtain ⟨x, y, z, hx⟩ := Tm.seal_parts ht hd
              refine (gadd_seal t' h hlw hP.wakes ht hK hn (by omega) (by omega) (by omega) (by omega) (fun k hk => by have := b6 k hk; omega) hx).mono ?_
              rintro e w' ⟨rfl, T', L2, wk2, fr', vf', L', wk', vw', Fl', Hw', ids', M', hG', hR, hKp, hT, hTo⟩
              have hzr : Tm.right z = true := (Tm.right_iff z).2 (parts z (by rw [hx]; simp)).1
              have hxr : Tm.right x = true := (Tm.right_iff x).2 (parts x (by rw [hx]; simp)).1
              have hP1 := hP.add (more := [y]) hR (fun i lk hi hs => by
                rcases hs with hs | ⟨q, _⟩
                · exact cov i lk hi hs
                · rw [hd] at q; exact absurd q (by decide)) (fun q => by rw [hd] at q; exact absurd q (by decide)) (fun q => by rw [hd] at q; exact absurd q (by decide)) (fun _ p hp => by rw [hx] at hp; simpa using hp.symm) (fun p hp => (Tm.right_iff p).2 (parts p (by rw [hx]; simp at hp; rw [hp]; simp)).1) (fun S hS hSt p hp => hS.nonce _ p hSt hd (by rw [hx]; simp at hp; rw [hp]; rfl))
              have hks : keptSum L2 = keptSum L := kept_same hR.len (fun i k k' h1 h2 => (hR.same i k k' h1 h2).2.2.1)
              have hl2 : L2.length ≤ M := by rw [hR.len]; exact hC.llen
              have hwl := nodup_few _ _ hG'.wkin.2 hG'.wkin.1
              have hKt : alsoK K (115 :: t') (115 :: t') := .inr rfl
              rcases hKp with ⟨k, q1, q2, q3, rfl, rfl, rfl, rfl⟩ | ⟨i, k, v, q1, q2, q3, rfl, rfl, rfl, rfl⟩ | ⟨b, v, rfl, rfl, rfl, rfl⟩
              · have hP' := hP1.keepOpen hKt hd (by rw [hx, q2]) hzr q1 q3
                have hC' := hC.add (fr' := fr ++ [y] ++ [z]) (L' := L') (wk' := wk') htu hK (Nat.le_succ M') hl2 hwl (by rw [hks]; simp; omega) (by omega)
                exact ⟨rfl, T', _, _, _, ⟨_, _, _, _, _, _, _, _, _, hG', hP', hC'.1⟩, hC'.2.1, hC'.2.2, hT, hTo⟩
              · have hP' := hP1.keepShut hKt hd (by rw [hx, q2]) hzr q1 q3 v
                have hst := kept_set q1 { k with texts := k.texts ++ [z], vt := v }
                simp only [List.length_append, List.length_singleton] at hst
                have hC' := hC.add (fr' := fr ++ [y]) (L' := L2.set i { k with texts := k.texts ++ [z], vt := v }) (wk' := wk') htu hK (Nat.le_succ M') (by rw [List.length_set]; exact hl2) hwl (by simp; omega) (by omega)
                exact ⟨rfl, T', _, _, _, ⟨_, _, _, _, _, _, _, _, _, hG', hP', hC'.1⟩, hC'.2.1, hC'.2.2, hT, hTo⟩
              · have hP2 := hP1.newLock b x hxr (.slice none 0 0)
                have hP' := hP2.keepShut (y := y) (p := z) (lk := ⟨b, x, [], .slice none 0 0, false, true⟩) (i := L2.length) hKt hd hx hzr (by simp) rfl v
                have e : (L2 ++ [(⟨b, x, [], .slice none 0 0, false, true⟩ : Lk)]).set L2.length { (⟨b, x, [], .slice none 0 0, false, true⟩ : Lk) with texts := ([] : List (List UInt8)) ++ [z], vt := v } = L2 ++ [⟨b, x, [z], v, false, true⟩] := by
                  rw [List.set_append_right _ _ (Nat.le_refl _), Nat.sub_self]
                  rfl
                have hP' := e ▸ hP'
                have hC' := hC.add (fr' := fr ++ [y]) (L' := L2 ++ [⟨b, x, [z], v, false, true⟩]) (wk' := wk2 ++ [L2.length]) htu hK (Nat.le_refl _) (by simp; omega) hwl (by rw [kept_more, hks]; simp; omega) (by rw [kept_more]; omega)
                exact ⟨rfl, T', _, _, _, ⟨_, _, _, _, _, _, _, _, _, hG', hP', hC'.1⟩, hC'.2.1, hC'.2.2, hT, hTo⟩
            · refine (gadd_other d t' h hP.wakes ht hK e1 e2 e3 e4 hn (by omega) (by omega) (by omega)).mono ?_
              have := fin [] (fun i => i ∈ ids (d :: t')) (by simp) (by simp) (by rw [hd]; exact e4) (fun i lk hi hs => ?_) (fun q => by rw [hd] at q; exact absurd q e2) (fun q => by rw [hd] at q; exact absurd q e3) (by simp)
              · rw [List.append_nil] at this; exact this
              · rcases hs with hs | ⟨q, _⟩
                · exact cov i lk hi hs
                · rw [hd] at q; exact absurd q e1
end

end Go.Proofs.Ytloheongiceliaa
end

section
namespace Go.Proofs.Ytloheongiceliaa
open Go.ChangeShapes Go.WideShapes Go.ChangeAt Go.RowKit

theorem snoc_of {α : Type} {l : List α} (h : l ≠ []) : ∃ a x, l = a ++ [x] := ⟨l.dropLast, l.getLast h, (List.dropLast_concat_getLast h).symm⟩

section
variable {us l : List (List UInt8)} {c : Nat} {W W' : World} {T : Nat → Nat} {g r sm pm lm wm n N M : Nat} {K : List UInt8 → Prop} {fr : List (List UInt8)} {vf : Value} {L : List Lk} {wk : List Nat} {vw : Value} {Fl Hw : List UInt8 → Option Value} {ids : List UInt8 → List Nat}
def OpenAll (us l : List (List UInt8)) (c : Nat) (W : World) (T : Nat → Nat) (g r sm pm lm wm : Nat) (K : List UInt8 → Prop) (wk : List Nat) (e : Ending) (W' : World) : Prop :=
  ∃ (b : Bool) (T' : Nat → Nat) (fr' : List (List UInt8)), e = .returned (.bool b) ∧ (b = false → fr' = []) ∧ GSt us l c W' T' g r sm pm lm wm K fr' wk ∧ (∀ q, q < W.heap.size → T' q = T q) ∧ Touch T W W'
/-- A lock is tried. -/
theorem opensAll {i : Nat} {k : Lk} (h : GI W T g r sm pm lm wm n N M K [] vf L wk vw Fl Hw ids) (hi : L[i]? = some k) (hni : i ∉ wk) (hP : PInv l K [] L (wk ++ [i]) (fun _ => False)) (hC : CInv us c K [] L (wk ++ [i]) n N M) (hu : us.length ≤ 200000) (hc : c ≤ 1000000) :
    Calls Try.prog 97 #[.pointer (some ⟨g, 0, none⟩), .pointer (some ⟨k.blk, 0, none⟩)] W (OpenAll us l c W T g r sm pm lm wm K wk) := by
  have hkm := List.mem_of_getElem? hi
  have hkr := (hP.rights.2.2 k hkm).1
  have hkl := (Tm.ofL_ok hkr).2.2.2.2.2
  obtain ⟨b1, b2, b3, b4, b5, b6⟩ := hC.bounds hu hc
  obtain ⟨a1, a2, a3, a4, a5, a6⟩ := hC
  rw [List.length_append, List.length_singleton] at a5 a6 b1
  have hst : ∀ m, m ≤ 20000 → n + m + 20001 * (wk.length + (us.length + 1) * notK us K) ≤ 20001 * ((us.length + 1) * us.length) := fun m hm => by
    have e1 : 20001 * (wk.length + 1 + (us.length + 1) * notK us K) = 20001 * (wk.length + (us.length + 1) * notK us K) + 20001 := by omega
    rw [e1] at a5
    omega
  have hn : n + k.key.length ≤ roomK := by unfold roomK; omega
  by_cases hm : Tm.Mk K k.key
  · refine (opens_yes h hi hkr hn (by omega) hm (by simp) (by have := b6 k hkm; omega)).mono ?_
    rintro e w' ⟨rfl, T', vf', k1, k2, k3⟩
    rw [List.nil_append] at k1
    have hs := kept_set hi { k with woken := false, opened := true, texts := [], vt := .slice none 0 0 }
    simp only [List.length_nil] at hs
    simp only [List.length_nil] at a4
    refine ⟨true, T', k.texts, rfl, by simp, ⟨_, _, _, _, _, _, _, _, _, k1, ?_, ⟨a1, a2, by rw [List.length_set]; exact a3, by omega, hst _ hkl, by rw [List.length_set]; omega⟩⟩, k2, k3⟩
    have := hP.tryYes hni hi hm (.slice none 0 0)
    rw [List.nil_append] at this
    exact this
  · refine (opens_no h hi hkr hn (by omega) hm).mono ?_
    rintro e w' ⟨rfl, k1, k3⟩
    have hs := kept_set hi { k with woken := false }
    simp only at hs
    refine ⟨false, T, [], rfl, fun _ => rfl, ⟨_, _, _, _, _, _, _, _, _, k1, hP.tryNo hni hi hm, ⟨a1, a2, by rw [List.length_set]; exact a3, by omega, hst _ hkl, by rw [List.length_set]; omega⟩⟩, fun _ _ => rfl, k3⟩

def GatherAll (us l : List (List UInt8)) (c : Nat) (W : World) (T : Nat → Nat) (g r sm pm lm wm : Nat) (e : Ending) (W' : World) : Prop :=
  e = .returned (.tuple #[]) ∧ ∃ T' K', GSt us l c W' T' g r sm pm lm wm K' [] [] ∧ (∀ q, q < W.heap.size → T' q = T q) ∧ Touch T W W'
/-- Between two rounds of the outer loop. -/
def Out0 (us l : List (List UInt8)) (c : Nat) (W : World) (T : Nat → Nat) (g r sm pm lm wm : Nat) (p : Nat) (wr : World) : Prop :=
  ∃ T' K' fr' wk', GSt us l c wr T' g r sm pm lm wm K' fr' wk' ∧ pot us K' wk' ≤ p ∧ (∀ q, q < W.heap.size → T' q = T q) ∧ Touch T W wr
def In1 (us l : List (List UInt8)) (c : Nat) (W : World) (T : Nat → Nat) (g r sm pm lm wm : Nat) (p : Nat) (j : Nat) (wr : World) : Prop :=
  ∃ T' K' fr' wk', GSt us l c wr T' g r sm pm lm wm K' fr' wk' ∧ pot us K' wk' ≤ p ∧ fr'.length + 3 * notK us K' ≤ j ∧ (∀ q, q < W.heap.size → T' q = T q) ∧ Touch T W wr
def In2 (us l : List (List UInt8)) (c : Nat) (W : World) (T : Nat → Nat) (g r sm pm lm wm : Nat) (p : Nat) (j : Nat) (wr : World) : Prop :=
  ∃ T' K' wk', GSt us l c wr T' g r sm pm lm wm K' [] wk' ∧ pot us K' wk' ≤ p ∧ wk'.length = j ∧ (∀ q, q < W.heap.size → T' q = T q) ∧ Touch T W wr

/-- What is fresh is taken, one by one: what pop and add tell. -/
theorem round1 {wr : World} {p j : Nat} (hlw : lm ≠ wm) (hus : ∀ x, Tm.InL l x → x ∈ us) (hu : us.length ≤ 200000) (hc : c ≤ 1000000) (h : In1 us l c W T g r sm pm lm wm p j wr) :
    (∃ A cap, wr.cell? ⟨g, 1, none⟩ = some (.slice A 0 cap) ∧ Out0 us l c W T g r sm pm lm wm p wr ∧ ∃ j', In2 us l c W T g r sm pm lm wm p j' wr) ∨
    (∃ b cap m x, wr.cell? ⟨g, 1, none⟩ = some (.slice (some ⟨b, 0, none⟩) (m + 1) cap) ∧ 0 < j ∧ m ≤ 1400000 ∧ Calls Try.prog 96 #[.pointer (some ⟨g, 1, none⟩)] wr (fun e w' => e = .returned (.string x) ∧
      Calls Try.prog 95 #[.pointer (some ⟨g, 0, none⟩), .string x] w' (fun e w' => e = .returned (.tuple #[]) ∧ In1 us l c W T g r sm pm lm wm p (j - 1) w'))) := by
  obtain ⟨T', K', fr', wk', ⟨n, N, M, vf, L, vw, Fl, Hw, ids, hG, hP, hC⟩, hp, hj, hT, hTo⟩ := h
  by_cases hne : fr' = []
  · subst hne
    left
    obtain ⟨A, cap, e, _⟩ := reads_terms hG.fresh.1
    have hc1 := hG.gcell.2.1
    rw [e] at hc1
    exact ⟨A, cap, hc1, ⟨T', K', [], wk', ⟨n, N, M, vf, L, vw, Fl, Hw, ids, hG, hP, hC⟩, hp, hT, hTo⟩, _, ⟨T', K', wk', ⟨n, N, M, vf, L, vw, Fl, Hw, ids, hG, hP, hC⟩, hp, rfl, hT, hTo⟩⟩
  · right
    obtain ⟨fr, x, rfl⟩ := snoc_of hne
    obtain ⟨b, cap, hvf, _, _⟩ := row_slice hG.fresh.1 hne
    have e2 : (fr ++ [x]).length = fr.length + 1 := by simp
    rw [e2] at hvf
    subst hvf
    obtain ⟨b1, b2, b3, b4, b5, b6⟩ := hC.bounds hu hc
    have hfr := hG.fresh.1
    rw [e2] at hfr b5 hj
    have hc1 := hG.gcell.2.1
    refine ⟨b, cap, fr.length, ⟨x.toArray⟩, hc1, by omega, by omega, (pop_calls wr 0 g b cap fr x hc1 (hG.gcell.2.2.2.2.2 1) hfr (by omega)).mono ?_⟩
    rintro e w2 ⟨rfl, rfl⟩
    refine ⟨rfl, (gaddAll hG.popFresh hlw x hP hC hus hu hc).mono ?_⟩
    rintro e w3 ⟨rfl, T2, K2, fr2, wk2, k1, k2, k3, k4, k5⟩
    have hsz : (wr.setCell ⟨g, 1, none⟩ (.slice (some ⟨b, 0, none⟩) fr.length cap)).heap.size = wr.heap.size := by simp [World.setCell]
    refine ⟨rfl, T2, K2, fr2, wk2, k1, by omega, by omega, fun q hq => (k4 q (by rw [hsz]; exact Nat.lt_of_lt_of_le hq hTo.size)).trans (hT q hq), ?_⟩
    exact (hTo.trans (hG.touch_own _) hT).trans k5 hT

/-- Who is to be tried is tried, one by one. -/
theorem round2 {wr : World} {p j : Nat} (hu : us.length ≤ 200000) (hc : c ≤ 1000000) (h : In2 us l c W T g r sm pm lm wm p j wr) :
    (∃ A cap, wr.cell? ⟨g, 4, none⟩ = some (.slice A 0 cap) ∧ GatherAll us l c W T g r sm pm lm wm (.returned (.tuple #[])) wr) ∨
    (∃ b cap m kb, wr.cell? ⟨g, 4, none⟩ = some (.slice (some ⟨b, 0, none⟩) (m + 1) cap) ∧ 0 < j ∧ 0 < p ∧ m ≤ 1400000 ∧ Calls Try.prog 98 #[.pointer (some ⟨g, 4, none⟩)] wr (fun e w' => e = .returned (.pointer (some ⟨kb, 0, none⟩)) ∧
      Calls Try.prog 97 #[.pointer (some ⟨g, 0, none⟩), .pointer (some ⟨kb, 0, none⟩)] w' (fun e w' => ∃ b : Bool, e = .returned (.bool b) ∧ Out0 us l c W T g r sm pm lm wm (p - 1) w' ∧ (b = false → In2 us l c W T g r sm pm lm wm p (j - 1) w')))) := by
  obtain ⟨T', K', wk', ⟨n, N, M, vf, L, vw, Fl, Hw, ids, hG, hP, hC⟩, hp, hj, hT, hTo⟩ := h
  by_cases hne : wk' = []
  · subst hne
    left
    have hw := hG.woken.1
    have hc4 := hG.gcell.2.2.2.2.1
    have : ∃ A cap, vw = .slice A 0 cap := by
      rcases hw.2 with ⟨h1, _⟩ | ⟨b, cap, cur, h1, _⟩
      · exact ⟨_, _, h1⟩
      · exact ⟨_, _, h1⟩
    obtain ⟨A, cap, rfl⟩ := this
    exact ⟨A, cap, hc4, rfl, T', K', ⟨n, N, M, vf, L, _, Fl, Hw, ids, hG, hP, hC⟩, hT, hTo⟩
  · right
    obtain ⟨wk, i, rfl⟩ := snoc_of hne
    have e2 : (wk ++ [i]).length = wk.length + 1 := by simp
    have hw := hG.woken.1
    have hc4 := hG.gcell.2.2.2.2.1
    rw [e2] at hw hj
    obtain ⟨b, cap, rfl⟩ := ownsRow_succ hw
    obtain ⟨b1, b2, b3, b4, b5, b6⟩ := hC.bounds hu hc
    have hil := hG.wkin.1 i (by simp)
    have hwl := hC.wlen
    rw [e2] at hwl
    obtain ⟨k, hk⟩ : ∃ k, L[i]? = some k := ⟨_, List.getElem?_eq_getElem hil⟩
    have hni : i ∉ wk := fun hm => by
      have := (List.nodup_append.1 hG.wkin.2).2.2 i hm i (by simp)
      exact this rfl
    have hcx : wr.cell? ⟨b, wk.length, none⟩ = some (.pointer (some ⟨k.blk, 0, none⟩)) := by
      rw [hw.cellAt wk.length (by omega), List.map_append, List.getElem?_append_right (by simp)]
      simp [ptrL_at hk]
    have hcap : wk.length + 1 ≤ cap := by
      rcases hw.2 with ⟨h1, _⟩ | ⟨_, _, _, h1, _, _, h4, _⟩
      · cases h1
      · cases h1; exact h4
    unfold pot at hp
    rw [e2] at hp
    refine ⟨b, cap, wk.length, k.blk, hc4, by omega, by omega, by omega, (popLock_calls wr g b wk.length cap k.blk hc4 (hG.gcell.2.2.2.2.2 4) hcx hcap (by omega)).mono ?_⟩
    rintro e w2 ⟨rfl, rfl⟩
    refine ⟨rfl, (opensAll hG.popWoken hk hni hP hC hu hc).mono ?_⟩
    rintro e w3 ⟨bb, T2, fr2, rfl, k1, k2, k3, k4⟩
    have hsz : (wr.setCell ⟨g, 4, none⟩ (.slice (some ⟨b, 0, none⟩) wk.length cap)).heap.size = wr.heap.size := by simp [World.setCell]
    have hT2 : ∀ q, q < W.heap.size → T2 q = T q := fun q hq => (k3 q (by rw [hsz]; exact Nat.lt_of_lt_of_le hq hTo.size)).trans (hT q hq)
    have hTo2 := (hTo.trans (hG.touch_own _) hT).trans k4 hT
    refine ⟨bb, rfl, ⟨T2, K', fr2, wk, k2, by unfold pot; omega, hT2, hTo2⟩, fun hb => ?_⟩
    rw [k1 hb] at k2
    exact ⟨T2, K', wk, k2, by unfold pot; omega, by omega, hT2, hTo2⟩

set_option maxRecDepth 100000 in
set_option maxHeartbeats 8000000 in
theorem gatherAll (hlw : lm ≠ wm) (hus : ∀ x, Tm.InL l x → x ∈ us) (hu : us.length ≤ 200000) (hc : c ≤ 1000000) (h : GSt us l c W T g r sm pm lm wm K fr wk) :
    Calls Try.prog 75 #[.pointer (some ⟨g, 0, none⟩)] W (GatherAll us l c W T g r sm pm lm wm) := by
  have H0 : Hid (Out0 us l c W T g r sm pm lm wm (pot us K wk) W) := ⟨T, K, fr, wk, h, Nat.le_refl _, fun _ _ => rfl, Touch.refl _ _⟩
  have HR1 : Hid (∀ (p j : Nat) (wr : World), In1 us l c W T g r sm pm lm wm p j wr → _) := fun p j wr => round1 (p := p) (j := j) (wr := wr) hlw hus hu hc
  have HR2 : Hid (∀ (p j : Nat) (wr : World), In2 us l c W T g r sm pm lm wm p j wr → _) := fun p j wr => round2 (p := p) (j := j) (wr := wr) hu hc
  generalize pot us K wk = P at H0
  clear h hlw hus hu hc
  go_enter Try.func75, Try.ntmps75
  go_wp2
  refine wp_scope_straight ?_
  go_wp2
  refine wp_label ?_
  go_wp2
  go_loopg [] P (fun p wr => Out0 us l c W T g r sm pm lm wm p wr)
  case atStart => exact H0.out
  case round =>
    have hj0 : Hid (∃ j, In1 us l c W T g r sm pm lm wm gk j wr) := by
      obtain ⟨T', K', fr', wk', k1, k2, k3, k4⟩ := hrel
      exact ⟨_, T', K', fr', wk', k1, k2, Nat.le_refl _, k3, k4⟩
    obtain ⟨j0, hj0⟩ := hj0.out
    have HJ := Lib.hid hj0
    clear hrel hj0 H0
    obtain ⟨p, rfl⟩ : ∃ p, p = gk := ⟨_, rfl⟩
    go_wp2
    go_loopg [] j0 (fun j wr => In1 us l c W T g r sm pm lm wm p j wr)
    case atStart => exact HJ.out
    case round =>
      rcases HR1.out p gk wr hrel with ⟨A, cap, hc1, _, j2, h2⟩ | ⟨b, cap, m, x, hc1, hj, hm, hcalls⟩
      · have H2 := Lib.hid h2
        clear hrel h2
        go_wp2
        go_loopg [] j2 (fun j wr => In2 us l c W T g r sm pm lm wm p j wr)
        case atStart => exact H2.out
        case round =>
          rcases HR2.out p gk wr hrel with ⟨A, cap, hc4, hfin⟩ | ⟨b, cap, m, kb, hc4, hj, hp, hm, hcalls⟩
          · have HFin := Lib.hid hfin
            clear hrel hfin H2
            go_wp2
            refine bodyPost_ret (results_none rfl _ _ _) rfl ?_
            exact HFin.out
          · have HC := Lib.hid hcalls
            have j1 : (0 : Int) < (m : Int) + 1 := by omega
            have hgk : gk - 1 < gk := by omega
            have hpk : p - 1 < p := by omega
            clear hrel hcalls H2
            go_wp2_with fail
            refine HC.out.mono ?_
            rintro e w2 ⟨rfl, hc2⟩
            have HC2 := Lib.hid hc2
            clear hc2
            go_wp2_with fail
            refine HC2.out.mono ?_
            rintro e w3 ⟨bb, rfl, ho, hi⟩
            have HO := Lib.hid ho
            have HI := Lib.hid hi
            clear ho hi
            cases bb with
            | false =>
              go_wp2
              go_roundg (gk - 1)
              case measure => exact hgk
              case rel => exact HI.out trivial
            | true =>
              go_wp2
              go_roundg (p - 1)
              case measure => exact hpk
              case rel => exact HO.out
      · have HC := Lib.hid hcalls
        have j1 : (0 : Int) < (m : Int) + 1 := by omega
        have hgk : gk - 1 < gk := by omega
        clear hrel hcalls
        go_wp2_with fail
        refine HC.out.mono ?_
        rintro e w2 ⟨rfl, hc2⟩
        have HC2 := Lib.hid hc2
        clear hc2
        go_wp2_with fail
        refine HC2.out.mono ?_
        rintro e w3 ⟨rfl, hi⟩
        have HI := Lib.hid hi
        clear hi
        go_wp2
        go_roundg (gk - 1)
        case measure => exact hgk
        case rel => exact HI.out
end

end Go.Proofs.Ytloheongiceliaa
end

section
namespace Go.Proofs.Ytloheongiceliaa
open Go.ChangeShapes Go.WideShapes Go.ChangeAt Go.RowKit

def gTags (s : Nat) : Nat → Nat := fun q => if q = s ∨ q = s + 1 ∨ q = s + 2 then 1 else if q = s + 3 ∨ q = s + 4 ∨ q = s + 5 then 2 else 0
theorem gi_start (w : World) : GI (gathWorld w) (gTags w.heap.size) (w.heap.size + 5) (w.heap.size + 2) w.heap.size (w.heap.size + 1) (w.heap.size + 3) (w.heap.size + 4) 0 0 0 (fun _ => False) [] (.slice none 0 0) [] [] (.slice none 0 0) (fun _ => none) (fun _ => none) (fun _ => []) := by
  have s1 : (rowWorld w).heap.size = w.heap.size + 3 := by simp [rowWorld]
  have s2 : ((rowWorld w).alloc (.map #[] 0)).heap.size = w.heap.size + 4 := by simp [rowWorld]
  have s3 : (((rowWorld w).alloc (.map #[] 0)).alloc (.map #[] 0)).heap.size = w.heap.size + 5 := by simp [rowWorld]
  have s4 : (gathWorld w).heap.size = w.heap.size + 6 := by simp [rowWorld, gathWorld]
  have hB : Below (rowWorld w).heap.size (rowWorld w) (gathWorld w) := (((Below.refl _ (rowWorld w)).alloc (Nat.le_refl _) _).alloc (by simp only [World.size_alloc]; omega) _).alloc (by simp only [World.size_alloc]; omega) _
  have hblk := World.alloc_heap_new (((rowWorld w).alloc (.map #[] 0)).alloc (.map #[] 0)) (.cells (gCells (w.heap.size + 2) (.slice none 0 0) (w.heap.size + 3) (w.heap.size + 4) (.slice none 0 0)) 121)
  rw [s3] at hblk
  have hm4 := (MapAt.made ((rowWorld w).alloc (.map #[] 0))).kept (World.grownBy_alloc _ (.cells (gCells (w.heap.size + 2) (.slice none 0 0) (w.heap.size + 3) (w.heap.size + 4) (.slice none 0 0)) 121) none) (by simp)
  rw [s2] at hm4
  have hm3 := ((MapAt.made (rowWorld w)).kept (World.grownBy_alloc _ (.map #[] 0) none) (by simp)).kept (World.grownBy_alloc _ (.cells (gCells (w.heap.size + 2) (.slice none 0 0) (w.heap.size + 3) (w.heap.size + 4) (.slice none 0 0)) 121) none) (by simp)
  rw [s1] at hm3
  have hrow : RowI (rowWorld w) (gTags w.heap.size) (w.heap.size + 2) w.heap.size (w.heap.size + 1) 0 0 (fun _ => False) := by
    refine (newRow_inv w (fun _ => 0)).retag (fun q hq => ?_) (fun q hq => ?_)
    · rw [s1] at hq
      unfold gTags rowTags
      by_cases h : q = w.heap.size ∨ q = w.heap.size + 1 ∨ q = w.heap.size + 2
      · rw [if_pos h, if_pos h]
      · rw [if_neg h, if_neg (by omega), if_neg h]
        split <;> rfl
    · rw [s1] at hq
      unfold gTags
      rw [if_neg (by omega)]
      split <;> omega
  refine ⟨hblk, ⟨?_, ?_, ?_⟩, hrow.below hB, ⟨World.ownsRow_nil _ _ _ _, (fun q e => by cases e)⟩, ⟨World.ownsRow_nil _ _ _ _, (fun q e => by cases e)⟩, ⟨by simp, List.nodup_nil⟩, hm3, fun key => .inl ⟨rfl, by simp⟩, hm4, (fun t => ⟨World.ownsRow_nil _ _ _ _, (fun q e => by cases e), by simp, by simp⟩), (fun t u q e => by cases e), by simp, by simp, fun q hq => ?_⟩
  · unfold gTags; rw [if_neg (by omega), if_pos (by omega)]
  · unfold gTags; rw [if_neg (by omega), if_pos (by omega)]
  · unfold gTags; rw [if_neg (by omega), if_pos (by omega)]
  · rw [s4] at hq
    unfold gTags; rw [if_neg (by omega), if_neg (by omega)]

def FillG (W : World) (s : Nat) (l : List (List UInt8)) (k : Nat) (v9 : Value) (wr : World) : Prop :=
  ∃ (i : Nat) (vf : Value) (T : Nat → Nat), k + i = l.length ∧ v9 = .int .i64 i ∧ GI wr T (s + 5) (s + 2) s (s + 1) (s + 3) (s + 4) 0 0 0 (fun _ => False) (rightsL (l.take i)) vf [] [] (.slice none 0 0) (fun _ => none) (fun _ => none) (fun _ => []) ∧ Below W.heap.size W wr ∧ (∀ q, q < W.heap.size → T q = 0)
theorem touch_back {W w1 w2 : World} {T : Nat → Nat} (h : Below W.heap.size W w1) (k : Touch T w1 w2) (hT : ∀ q, q < W.heap.size → T q = 0) : Below W.heap.size W w2 :=
  ⟨k.os.trans h.os, k.tape.trans h.tape, k.output.trans h.output, Nat.le_trans h.size k.size, fun q hq => (k.same q (Nat.lt_of_lt_of_le hq h.size) (hT q hq)).trans (h.block q hq)⟩

set_option maxRecDepth 100000 in
set_option maxHeartbeats 4000000 in
theorem Close_holds : CloseHolds := by
  intro l v W hv hn hfl
  have hx : ∀ x ∈ l, x.length ≤ 200000 := fun x hx => by
    have : x.length ≤ l.flatten.length := by
      obtain ⟨a, b, rfl⟩ := List.append_of_mem hx
      simp
      omega
    omega
  obtain ⟨us, hul, hus⟩ := Tm.inL_few l
  obtain ⟨i0, hi, hz0, hz1, hz2⟩ := info_parts info_term
  obtain ⟨A, c, rfl, hcells⟩ := hv
  have HC := Lib.hid hcells
  have HX := Lib.hid hx
  have HU := Lib.hid (And.intro hus (And.intro hul hfl))
  have HN := Lib.hid (newGatherer_calls W)
  obtain ⟨s, hs⟩ : ∃ s, W.heap.size = s := ⟨_, rfl⟩
  have HG0 := Lib.hid (gi_start W)
  have hB0 : Below W.heap.size W (gathWorld W) := ((((((Below.refl _ W).alloc (Nat.le_refl _) _).alloc (by simp only [World.size_alloc]; omega) _).alloc (by simp only [World.size_alloc]; omega) _).alloc (by simp only [World.size_alloc]; omega) _).alloc (by simp only [World.size_alloc]; omega) _).alloc (by simp only [World.size_alloc]; omega) _
  have HB0 := Lib.hid hB0
  rw [hs] at HG0 HN
  clear hcells hx hB0 hus hul hfl
  go_enter Try.func48, Try.ntmps48
  go_wp2_with fail
  refine HN.out.mono ?_
  rintro e w1 ⟨rfl, hw1⟩
  rw [hw1] at HG0 HB0
  have HS := Lib.hid hs
  have hsB := HB0.out.size
  rw [hs] at hsB
  clear hw1 HN hs
  go_wp2
  go_loopg [9] l.length (fun k v9 wr => FillG W s l k v9 wr)
  case atStart => exact ⟨0, _, _, by omega, rfl, by simpa [rightsL] using HG0.out, HB0.out, fun q hq => by have := HS.out; unfold gTags; rw [if_neg (by omega), if_neg (by omega)]⟩
  case round =>
    obtain ⟨i, vf, T, hk, rfl, hG, hB, hT⟩ := hrel
    have hgk2 := Lib.hid hk
    have HB := Lib.hid hB
    have HG := Lib.hid hG
    have HT := Lib.hid hT
    by_cases hil : i < l.length
    · obtain ⟨x, hx⟩ : ∃ x, l[i]? = some x := ⟨_, List.getElem?_eq_getElem hil⟩
      obtain ⟨g0, rfl, hgl, hcell0⟩ := HC.out i x hx
      have hcell : wr.cell? ⟨g0, i, none⟩ = some (.string ⟨x.toArray⟩) := (hB.cell (p := ⟨g0, i, none⟩) hgl).trans hcell0
      have cX := fun w => Right_calls ⟨x.toArray⟩ (by rw [size_list]; have := HX.out x (List.mem_of_getElem? hx); unfold maxLen; omega) w
      rw [list_data] at cX
      have HRs := Lib.hid (rights_step hx)
      have hle := rights_le (l.take i)
      rw [List.length_take] at hle
      have j1 : (i : Int) < (l.length : Int) := by omega
      have j2 : (0 : Int) ≤ (i : Int) := by omega
      have hgk : gk - 1 < gk := by omega
      cases hrx : Tm.right x with
      | false =>
        rw [hrx] at cX
        have HRX := Lib.hid cX
        have HRf := Lib.hid hrx
        clear hx hcell0 cX hG hB hrx hk hT
        go_wp2_with fail
        refine (HRX.out _).mono ?_
        rintro e w3 ⟨rfl, b3⟩
        have hRel : Hid (FillG W s l (gk - 1) (.int .i64 ((i + 1 : Nat) : Int)) w3) := by
          refine ⟨i + 1, vf, T, by have := hgk2.out; omega, rfl, ?_, HB.out.trans (b3.mono HB.out.size), HT.out⟩
          rw [HRs.out, HRf.out]
          simpa using HG.out.below b3
        clear b3
        go_wp2
        go_roundg (gk - 1)
        case measure => exact hgk
        case rel => exact hRel.out
      | true =>
        rw [hrx] at cX
        have HRX := Lib.hid cX
        have HRt := Lib.hid hrx
        clear hx hcell0 cX hG hB hrx hk hT
        go_wp2_with fail
        refine (HRX.out _).mono ?_
        rintro e w3 ⟨rfl, b3⟩
        have hG3 := HG.out.below b3
        have hB3 := Lib.hid (HB.out.trans (b3.mono HB.out.size))
        have hc1 := hG3.gcell.2.1
        have hfr := hG3.fresh.1
        have HG3 := Lib.hid hG3
        have HAft := Lib.hid (fun (w4 : World) (hg : (w3.alloc (.cells #[.string ⟨x.toArray⟩] 24)).grownBy w4 vf.ownBlock) => HG3.out.behind (grown_trans (World.grownBy_alloc w3 (.cells #[.string ⟨x.toArray⟩] 24) vf.ownBlock) hg))
        generalize hrl : rightsL (l.take i) = fr at *
        clear b3 hG3
        go_wp2_with (at_builtin; refine wpList_append_own_at _ rfl _ _ 38 rfl 0 24 i0 (.string ⟨#[]⟩) 1 16 Try.underlying38 hi hz0 hz1 hz2 rfl (by decide) _ _ _ rfl (hfr.alloc _) ⟨w3.heap.size, 0, none⟩ 1 1 [.string ⟨x.toArray⟩] rfl rfl (cell_one_new _ _ _) (by simp [Value.oneCell']) (by unfold maxLen; omega) (by omega) (by simp) ?_; intro v2 w4 hown' hgrow hnil hat; obtain ⟨g2, cap2, rfl⟩ := ownsRow_succ hown'; have hc4 := (HAft.out w4 hgrow).1; have hf4 := (HAft.out w4 hgrow).2)
        have hRel : Hid (FillG W s l (gk - 1) (.int .i64 ((i + 1 : Nat) : Int)) (w4.setCell ⟨s + 5, 1, none⟩ (.slice (some ⟨g2, 0, none⟩) (fr.length + 1) cap2))) := by
          have hg34 : w3.grownBy w4 vf.ownBlock := grown_trans (World.grownBy_alloc w3 (.cells #[.string ⟨x.toArray⟩] 24) vf.ownBlock) hgrow
          obtain ⟨m1, m2, m3⟩ := HG3.out.pushed (ps := [x]) hg34 (by simpa [strs] using hown') (hat.imp id (fun e => ⟨_, e, by simp⟩))
          refine ⟨i + 1, .slice (some ⟨g2, 0, none⟩) (fr.length + 1) cap2, _, by have := hgk2.out; omega, rfl, ?_, touch_back hB3.out m3 HT.out, fun q hq => (m2 q (Nat.lt_of_lt_of_le hq hB3.out.size)).trans (HT.out q hq)⟩
          rw [HRs.out, HRt.out]
          exact m1
        clear hown' hgrow hnil hat hc4 hf4 HAft
        go_roundg (gk - 1)
        case measure => exact hgk
        case rel => exact hRel.out
    · obtain rfl : i = l.length := by omega
      have j1 : ¬ ((l.length : Int) < (l.length : Int)) := by omega
      rw [List.take_length] at hG
      have hle := rights_le l
      obtain ⟨u1, u2, u3⟩ := HU.out
      have hst : GSt us l l.length wr T (s + 5) (s + 2) s (s + 1) (s + 3) (s + 4) (fun _ => False) (rightsL l) [] := by
        refine ⟨0, 0, 0, vf, [], _, _, _, _, hG, PInv.begin l, ?_⟩
        have h1 := notK_le us (fun _ => False)
        have h2 : (us.length + 1) * notK us (fun _ => False) ≤ (us.length + 1) * us.length := Nat.mul_le_mul_left _ h1
        refine ⟨by omega, by omega, by simp, ?_, ?_, by simp⟩
        · simp only [keptSum, List.map_nil, List.sum_nil]
          omega
        · simp only [List.length_nil]
          omega
      have HGa := Lib.hid (gatherAll (by omega) u1 (by omega) hn hst)
      clear hG hB hk HG0 HB0 HG hT u1 u2 u3 hst
      go_wp2_with fail
      refine HGa.out.mono ?_
      rintro e w2 ⟨rfl, T', K', ⟨n2, N2, M2, vf2, L2, vw2, Fl2, Hw2, ids2, hG2, hP2, hC2⟩, hT2, hTo2⟩
      have hc0 := hG2.gcell.1
      have hKs := hP2.sound _ (Tm.inL_closed l) (fun x hx hr => ⟨x, hx, hr, .self x⟩)
      have HK := Lib.hid (known_calls w2 hG2.row us (fun k hk => HU.out.1 k (hKs.1 k hk)) (by have := HU.out.2; omega))
      have hB2 := Lib.hid (touch_back HB.out hTo2 HT.out)
      have HP2 := Lib.hid hP2
      clear hG2 hT2 hTo2 hP2 hC2 hKs
      go_wp2_with fail
      refine HK.out.mono ?_
      rintro e w3 ⟨v3, xs, rfl, hr3, hm3, hl3, b3⟩
      have hfin : Hid (CloseG W l (.returned v3) w3) := by
        have hP := HP2.out
        have hu := HU.out.2
        have eK : (fun x => x ∈ xs) = K' := funext fun x => propext (hm3 x)
        refine ⟨v3, xs, rfl, hr3, by omega, fun x hx => hP.rights.1 x ((hm3 x).1 hx), fun x hx hr => (hm3 x).2 ((hP.start x hx hr).resolve_right (by simp)), fun S hS hl x hx => (hP.sound S hS hl).1 x ((hm3 x).1 hx), ?_, hB2.out.trans (b3.mono hB2.out.size)⟩
        rw [eK]
        exact hP.done
      clear hr3 hm3 hl3 b3
      go_wp2
      go_ret
      exact hfin.out

end Go.Proofs.Ytloheongiceliaa
end
