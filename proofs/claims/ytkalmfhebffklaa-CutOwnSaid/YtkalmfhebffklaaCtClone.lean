/- Contracts of slices.Clone and slices.Equal at rows of terms, and of cut.Begins. -/
import Derived.Test.YtkalmfhebffklaaCtBase
import Derived.Test.YtkalmfhebffklaaExps
import Derived.Test.YtkalmfhebffklaaLater
import Derived.Maps.AppendAt
import Derived.Lib.SliceRun
import Derived.RangeFuncRecord
import Derived.Deep.QuietTactic
namespace Go.Proofs.Ytkalmfhebffklaa.L11
open Go.ChangeShapes Go.WideShapes Go.ChangeAt Go.RowKit Go.Deep

theorem region_stillC {P : Program} {id : Nat} {Q : Exit → Act → World → Prop} {a : Act} {w : World} {l : List Oper} (hm : P.follows .mixedOrders = true) (hB : Region.lexB .any l.toArray = true)
    (h : Quietly P l.toArray (fun w' => ∃ n : Nat, w' = w.drewN n) (fun a' => ∀ w', (∃ n : Nat, w' = w.drewN n) → Q .normal a' w') l a) : (Code.region id l.toArray true).wp P Q a w :=
  wp_region_quiet (C := fun w' => ∃ n : Nat, w' = w.drewN n) hm hB ⟨1, rfl⟩ (by simpa using h.out)
theorem txt_len (l : List Bytes) : (txt l).length = l.length := by simp [txt]
theorem txt_one (l : List Bytes) : ∀ u ∈ txt l, u.oneCell' = true := fun u hu => by
  obtain ⟨x, _, rfl⟩ := List.mem_map.1 hu
  rfl
theorem txt_append (a b : List Bytes) : txt (a ++ b) = txt a ++ txt b := by simp [txt]
def CloneOut (w : World) (l : List Bytes) (e : Ending) (w' : World) : Prop :=
  ∃ x : It, e = .returned x.v ∧ x.l = l ∧ ItAt w' x ∧ w'.ownsRow w.heap.size 31 1 x.v l.length (txt l) ∧ Below w.heap.size w w'
theorem CloneOut.mk' {w w' : World} {v : Value} {l : List Bytes} (h : w'.ownsRow w.heap.size 31 1 v l.length (txt l)) (hs : ∀ z ∈ l, z.length ≤ maxLen) (hf : l.length ≤ maxLen) (hb : Below w.heap.size w w') : CloneOut w l (.returned v) w' := by
  obtain ⟨x, rfl, h2, h3⟩ := ItAt.of_own h hs hf
  exact ⟨x, rfl, h2, h3, h, hb⟩
set_option maxRecDepth 100000 in
set_option maxHeartbeats 1000000 in
theorem clone_calls (x : It) (w : World) (h : ItAt w x) (hl : x.l.length ≤ 4000000000) : Calls Try.prog 49 #[x.v] w (CloneOut w x.l) := by
  obtain ⟨i0, hi, hz0, hz1, hz2⟩ := info_parts info_term
  obtain ⟨a, c, l⟩ := x
  have hle := h.le
  have hfew := h.few
  have hnil := h.nil
  have hsh := h.short
  have hr := h.reads
  simp only [It.v] at *
  have q22 : ∀ (w : World) (a : Option Addr) (n c n' c' : Nat), (binOp .eql 30 (.slice a n c) (.slice none n' c')).run Try.prog w = .ok (.bool a.isNone) w := fun w a n c n' c' => Lib.run_eql_slice_nil w _ _ a n c n' c' Try.underlying30
  cases a with
  | none =>
    have h0 := hnil rfl
    have hl0 : l = [] := List.eq_nil_of_length_eq_zero (by omega)
    subst hl0
    clear h hr hle hnil hsh
    go_enter Try.func49, Try.ntmps49
    go_wp2
    go_ret
    exact CloneOut.mk' ⟨rfl, .inl ⟨rfl, rfl⟩⟩ (by simp) (by simp) (Below.refl _ _)
  | some ad =>
    have hlit : (w.alloc (.cells #[] 31)).ownsRow w.heap.size 31 1 (.slice (some ⟨w.heap.size, 0, none⟩) 0 0) 0 [] :=
      ⟨rfl, .inr ⟨w.heap.size, 0, #[], rfl, Nat.le_refl _, World.alloc_heap_new _ _, Nat.le_refl _, by decide, rfl, rfl⟩⟩
    have hb : Below w.heap.size w (w.alloc (.cells #[] 31)) := (Below.refl _ w).alloc (Nat.le_refl _) _
    have HNews : Hid (∀ (j : Nat) (u : Value), (txt l)[j]? = some u → (w.alloc (.cells #[] 31)).cell? (ad.add j) = some u) := fun j u hu => by
      rw [txt, List.getElem?_map, Option.map_eq_some_iff] at hu
      obtain ⟨z, hz, rfl⟩ := hu
      obtain ⟨ad', e, h1, h2⟩ := hr j z hz
      cases e
      exact (hb.cell (p := ad.add j) (by rw [addr_blockC]; exact h1)).trans h2
    have HLit := Lib.hid hlit
    have HB := Lib.hid hb
    have HOne := Lib.hid (txt_one l)
    have HLen := Lib.hid (txt_len l)
    have HS := Lib.hid hsh
    have hsz : (w.alloc (.cells #[] 31)).heap.size = w.heap.size + 1 := by simp
    clear h hr hle hnil hsh hlit hb
    go_enter Try.func49, Try.ntmps49
    go_wp2_with (at_builtin; refine wpList_append_own _ rfl _ _ 30 rfl w.heap.size 31 i0 (.string ⟨#[]⟩) 1 16 Try.underlying30 hi hz0 hz1 hz2 rfl (by decide) _ _ _ rfl HLit.out ad l.length c (txt l) rfl (by rw [HLen.out]; omega) HNews.out HOne.out (by unfold maxLen; omega) (by omega) (by omega) ?_; intro v' w' hown hgrow _; have HF : Hid (CloneOut w l (.returned v') w') := (by refine CloneOut.mk' ?_ HS.out (by unfold maxLen; omega) (HB.out.grown hgrow (by omega) (fun k e => by cases e; exact Nat.le_refl _)); have := hown; simp only [Nat.zero_add, List.nil_append] at this; exact this); clear hown hgrow)
    go_ret
    exact HF.out

/-- The texts of a row, in whatever world is above. -/
theorem it_read {w : World} {x : It} (h : ItAt w x) : ∀ (j : Nat) (z : Bytes), x.l[j]? = some z → ∃ ad : Addr, x.a = some ad ∧ ∀ V : World, Below w.heap.size w V → V.cell? (ad.add j) = some (.string ⟨z.toArray⟩) := fun j z hz => by
  obtain ⟨ad, e, h1, h2⟩ := h.reads j z hz
  exact ⟨ad, e, fun V hV => (hV.cell (p := ad.add j) (by rw [addr_blockC]; exact h1)).trans h2⟩
theorem take_nextB (xs : List Bytes) {k : Nat} {x : Bytes} (h : xs[k]? = some x) : xs.take (k + 1) = xs.take k ++ [x] := by
  rw [List.take_add_one, h]; rfl
theorem str_ne {x y : Bytes} (h : x ≠ y) : (x == y) = false := by simpa using h
/-- Between two rounds: as far as one has come they are alike. -/
def SameLoop (w : World) (xs ys : List Bytes) (k : Nat) (v5 : Value) (wr : World) : Prop := ∃ i : Nat, k + i = xs.length ∧ v5 = .int .i64 i ∧ xs.take i = ys.take i ∧ Below w.heap.size w wr

set_option maxRecDepth 100000 in
set_option maxHeartbeats 2000000 in
theorem equal_calls (x y : It) (w : World) (hx : ItAt w x) (hy : ItAt w y) : Calls Try.prog 44 #[x.v, y.v] w (One w (.bool (decide (x.l = y.l)))) := by
  have H1 := Lib.hid (it_read hx)
  have H2 := Lib.hid (it_read hy)
  have f1 := Nat.le_trans hx.le hx.few
  have f2 := Nat.le_trans hy.le hy.few
  obtain ⟨A, c, xs⟩ := x
  obtain ⟨A2, c2, ys⟩ := y
  simp only [It.v] at *
  unfold maxLen at f1 f2
  clear hx hy
  by_cases hn : xs.length = ys.length
  · obtain ⟨r, hr⟩ : ∃ r, decide (xs = ys) = r := ⟨_, rfl⟩
    rw [hr]
    have HR := Lib.hid hr
    have HN := Lib.hid hn
    clear hr
    rw [← hn]
    clear hn f2
    go_enter Try.func44, Try.ntmps44
    go_wp2
    go_loopg [13] xs.length (fun k v5 wr => SameLoop w xs ys k v5 wr)
    case atStart => exact ⟨0, by omega, rfl, by simp, Below.refl _ _⟩
    case round =>
      obtain ⟨i, hk, rfl, hd, hB⟩ := hrel
      by_cases hil : i < xs.length
      · obtain ⟨x, hx⟩ : ∃ x, xs[i]? = some x := ⟨_, List.getElem?_eq_getElem hil⟩
        obtain ⟨y, hy⟩ : ∃ y, ys[i]? = some y := ⟨_, List.getElem?_eq_getElem (by rw [← HN.out]; exact hil)⟩
        obtain ⟨ad, rfl, hcx⟩ := H1.out i x hx
        obtain ⟨ad2, rfl, hcy⟩ := H2.out i y hy
        have c1 := hcx wr hB
        have c2' := hcy wr hB
        have hgk := Lib.hid (show gk - 1 < gk by omega)
        have j1 : (i : Int) < (xs.length : Int) := by omega
        have j2 : (0 : Int) ≤ (i : Int) := by omega
        by_cases hxy : x = y
        · subst hxy
          have HF : Hid (∀ q, SameLoop w xs ys (gk - 1) (.int .i64 ((i + 1 : Nat) : Int)) (wr.drewN q)) := fun q => ⟨i + 1, by omega, rfl, by rw [take_nextB xs hx, take_nextB ys hy, hd], hB.trans (L5.below_drewN (Below.refl _ _) _)⟩
          clear hk hd hx hy hB hcx hcy
          go_wp2
          refine region_stillC (by kernel_rfl) (by kernel_rfl) ?_
          repeat
            (refine Quietly.step (fun K hK => ?_)
             go_simp
             refine hK _ ?_
             clear hK K)
          refine Quietly.none ?_
          rintro w2 ⟨nq, rfl⟩
          go_wp2
          go_roundg (gk - 1)
          case measure => exact hgk.out
          case rel => exact HF.out _
        · have hrf : r = false := by
            rw [← HR.out]
            refine decide_eq_false (fun h => hxy ?_)
            rw [h, hy] at hx
            exact (Option.some.inj hx).symm
          subst hrf
          have HF : Hid (∀ q, Below w.heap.size w (wr.drewN q)) := fun q => hB.trans (L5.below_drewN (Below.refl _ _) _)
          have hne := str_ne hxy
          clear hk hd hx hy hB hcx hcy
          go_wp2
          refine region_stillC (by kernel_rfl) (by kernel_rfl) ?_
          repeat
            (refine Quietly.step (fun K hK => ?_)
             go_simp
             refine hK _ ?_
             clear hK K)
          refine Quietly.none ?_
          rintro w2 ⟨nq, rfl⟩
          go_wp2
          go_ret
          exact ⟨rfl, HF.out _⟩
      · have hrt : r = true := by
          rw [← HR.out]
          refine decide_eq_true ?_
          have hi : i = xs.length := by omega
          rw [hi, List.take_length, HN.out, List.take_length] at hd
          exact hd
        subst hrt
        have HB := Lib.hid hB
        have j1 : ¬ ((i : Int) < (xs.length : Int)) := by omega
        clear hk hd hB
        go_wp2
        go_ret
        exact ⟨rfl, HB.out⟩
  · have e : decide (xs = ys) = false := decide_eq_false (fun h => hn (by rw [h]))
    have hn2 : ¬ (xs.length : Int) = (ys.length : Int) := by omega
    rw [e]
    clear e
    generalize xs.length = n at *
    generalize ys.length = m at *
    go_enter Try.func44, Try.ntmps44
    go_wp2
    go_ret
    exact ⟨rfl, Below.refl _ _⟩
end Go.Proofs.Ytkalmfhebffklaa.L11
