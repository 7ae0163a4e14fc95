/- Contract of the document's own Put (gemotref2), with where the row lies then: as it lay, or in a block of its own. -/
import Derived.Test.YtildapcdkipakaaReadsP
namespace Go.Proofs.Ytildapcdkipakaa.Pt
open Go.ChangeShapes Go.WideShapes Go.ChangeAt Go.RowKit

def PutAt (xs : List (List UInt8)) (s : List UInt8) (i : Nat) (done : Bool) (acc : List (List UInt8)) : Prop :=
  (done = false ∧ acc = xs.take i ∧ ∀ y ∈ xs.take i, Tm.less y s = true) ∨
  (done = true ∧ ∃ pre post, xs.take i = pre ++ post ∧ post ≠ [] ∧ acc = pre ++ s :: post ∧ (∀ y ∈ pre, Tm.less y s = true) ∧ ∀ y ∈ post, Tm.less s y = true)
def Putting (xs : List (List UInt8)) (s : List UInt8) (w : World) (K : Nat) (v5 v6 v7 : Value) (wr : World) : Prop :=
  ∃ (i : Nat) (done : Bool) (acc : List (List UInt8)), K + i = xs.length ∧ v7 = .int .i64 i ∧ v6 = .bool done ∧ PutAt xs s i done acc ∧ (∀ y ∈ xs.take i, y ≠ s) ∧ wr.ownsRow w.heap.size 9 1 v5 acc.length (strs acc) ∧ Below w.heap.size w wr

theorem PutAt.len {xs : List (List UInt8)} {s : List UInt8} {i : Nat} {done : Bool} {acc : List (List UInt8)} (h : PutAt xs s i done acc) (hi : i ≤ xs.length) : acc.length ≤ i + 1 := by
  rcases h with ⟨_, rfl, _⟩ | ⟨_, pre, post, h1, _, rfl, _⟩
  · simp; omega
  · have := congrArg List.length h1
    simp at this
    simp
    omega
/-- What the row is when all has been gone through. -/
theorem PutAt.fin {xs : List (List UInt8)} {s : List UInt8} {done : Bool} {acc : List (List UInt8)} (hs : xs.Pairwise Tm.strict) (h : PutAt xs s xs.length done acc) :
    ∃ ys, ys = (if done = true then acc else acc ++ [s]) ∧ ys.Pairwise Tm.strict ∧ (∀ x, x ∈ ys ↔ x ∈ xs ∨ x = s) := by
  refine ⟨_, rfl, ?_, ?_⟩
  · rcases h with ⟨rfl, rfl, h3⟩ | ⟨rfl, pre, post, h1, h2, rfl, h4, h5⟩
    · rw [List.take_length] at *
      rw [if_neg (by simp)]
      refine List.pairwise_append.2 ⟨hs, List.pairwise_singleton _ _, fun a ha b hb => ?_⟩
      rw [List.mem_singleton.1 hb]
      exact h3 a ha
    · rw [List.take_length] at h1
      rw [h1] at hs
      obtain ⟨p1, p2, p3⟩ := List.pairwise_append.1 hs
      rw [if_pos rfl]
      refine List.pairwise_append.2 ⟨p1, List.Pairwise.cons h5 p2, fun a ha b hb => ?_⟩
      rcases List.mem_cons.1 hb with rfl | hb
      · exact h4 a ha
      · exact p3 a ha b hb
  · intro x
    rcases h with ⟨rfl, rfl, h3⟩ | ⟨rfl, pre, post, h1, h2, rfl, h4, h5⟩
    · rw [List.take_length, if_neg (by simp)]
      simp
    · rw [List.take_length] at h1
      rw [if_pos rfl, h1]
      simp only [List.mem_append, List.mem_cons]
      constructor
      · rintro (h | h | h)
        · exact .inl (.inl h)
        · exact .inr h
        · exact .inl (.inr h)
      · rintro ((h | h) | h)
        · exact .inl h
        · exact .inr (.inr h)
        · exact .inr (.inl h)

def PutOut (w : World) (v : Value) (xs : List (List UInt8)) (s : List UInt8) (e : Ending) (w' : World) : Prop :=
  ∃ v' ys, e = .returned v' ∧ Reads w' v' ys ∧ ys.Pairwise Tm.strict ∧ (∀ x, x ∈ ys ↔ x ∈ xs ∨ x = s) ∧ ys.length ≤ xs.length + 1 ∧ ((v' = v ∧ ys = xs) ∨ w'.ownsRow w.heap.size 9 1 v' ys.length (strs ys)) ∧ Below w.heap.size w w'

set_option maxRecDepth 100000 in
set_option maxHeartbeats 8000000 in
theorem RPut_calls (xs : List (List UInt8)) (v : Value) (s : List UInt8) (w : World) (hR : Reads w v xs) (hn : xs.length ≤ 1000000) (hst : xs.Pairwise Tm.strict) :
    Calls Try.prog 36 #[v, .string ⟨s.toArray⟩] w (PutOut w v xs s) := by
  have HR := Lib.hid hR
  have HSt := Lib.hid hst
  obtain ⟨A, cA, rfl, hA⟩ := hR
  have HA := Lib.hid hA
  obtain ⟨i0, hi, hz0, hz1, hz2⟩ := info_parts info_text
  clear hA hst
  go_enter Try.func36, Try.ntmps36
  go_wp2
  go_loopg [5, 6, 7] xs.length (fun K v5 v6 v7 wr => Putting xs s w K v5 v6 v7 wr)
  case atStart => exact ⟨0, false, [], by omega, rfl, rfl, .inl ⟨rfl, by simp, by simp⟩, by simp, World.ownsRow_nil _ _ _ _, Below.refl _ _⟩
  case round =>
    obtain ⟨i, done, acc, hK, rfl, rfl, hP, hne, hrow, hbel⟩ := hrel
    have hal := hP.len (by omega)
    have HP := Lib.hid hP
    have HNe := Lib.hid hne
    have HRw := Lib.hid hrow
    have hsz := hbel.size
    clear hP hne hrow
    by_cases hil : i < xs.length
    · obtain ⟨x, hx⟩ : ∃ x, xs[i]? = some x := ⟨_, List.getElem?_eq_getElem hil⟩
      obtain ⟨g, rfl, hg, hc⟩ := HA.out i x hx
      have hcell : wr.cell? ⟨g, i, none⟩ = some (.string ⟨x.toArray⟩) := (hbel.cell (p := ⟨g, i, none⟩) hg).trans hc
      have j1 : (i : Int) < (xs.length : Int) := by omega
      have j2 : (0 : Int) ≤ (i : Int) := by omega
      have HX := Lib.hid hx
      have htk : Hid (xs.take (i + 1) = xs.take i ++ [x]) := by show _ = _; rw [List.take_add_one, hx]; rfl
      have HC := Lib.hid hc
      clear hx hc
      by_cases hxs : x = s
      · subst hxs
        have q1 : (x == x) = true := by simp
        go_wp2
        go_ret
        exact ⟨_, xs, rfl, HR.out.below hbel, HSt.out, fun y => ⟨.inl, fun h => h.elim id (fun h => by rw [h]; exact List.mem_of_getElem? HX.out)⟩, by omega, .inl ⟨rfl, rfl⟩, hbel⟩
      · have q1 : (x == s) = false := by simpa using hxs
        have HNx := Lib.hid hxs
        have HNe2 : Hid (∀ y ∈ xs.take (i + 1), y ≠ s) := by
          show ∀ y ∈ xs.take (i + 1), y ≠ s
          rw [htk.out]
          intro y hy
          rcases List.mem_append.1 hy with hy | hy
          · exact HNe.out y hy
          · rw [List.mem_singleton.1 hy]; exact HNx.out
        clear hxs
        cases done with
        | true =>
          have HP2 : Hid (PutAt xs s (i + 1) true (acc ++ [x])) := by
            show PutAt xs s (i + 1) true (acc ++ [x])
            rcases HP.out with ⟨h, _⟩ | ⟨_, pre, post, h1, h2, h3, h4, h5⟩
            · cases h
            · refine .inr ⟨rfl, pre, post ++ [x], by rw [htk.out, h1, List.append_assoc], by simp, by rw [h3]; simp, h4, ?_⟩
              intro y hy
              rcases List.mem_append.1 hy with hy | hy
              · exact h5 y hy
              · rw [List.mem_singleton.1 hy]
                obtain ⟨z, zs, hz⟩ := List.exists_cons_of_ne_nil h2
                have hzm : z ∈ post := by rw [hz]; simp
                have hzx : Tm.less z x = true := by
                  have hpw := HSt.out
                  rw [← List.take_append_drop (i + 1) xs, htk.out, h1] at hpw
                  have := (List.pairwise_append.1 hpw).1
                  exact (List.pairwise_append.1 this).2.2 z (List.mem_append_right _ hzm) x (by simp)
                exact Tm.less_trans _ _ _ (h5 z hzm) hzx
          go_wp2_with (at_builtin
                       refine wpList_append_own _ rfl _ _ 28 rfl w.heap.size 9 i0 (.string ⟨#[]⟩) 1 16 Try.underlying28 hi hz0 hz1 hz2 rfl (by decide) _ acc.length (strs acc) rfl (World.ownsRow.alloc (w := wr) HRw.out _) ⟨wr.heap.size, 0, none⟩ 1 1 [.string ⟨x.toArray⟩] rfl rfl (cell_one_new _ _ _) (fun y hy => by simp at hy; subst hy; rfl) (by unfold maxLen; omega) (by omega) (by simp; omega) ?_
                       intro v3 w3 hown3 hgrow3 hnil3)
          have B3 : Below w.heap.size w w3 := Below.grown (hbel.alloc (by omega) _) hgrow3 (by simp; omega) (fun j hj => (World.ownsRow.lt HRw.out _ hj).1)
          go_roundg (gk - 1)
          case measure => omega
          case rel => exact ⟨i + 1, true, acc ++ [x], by omega, rfl, rfl, HP2.out, HNe2.out, by simpa [strs] using hown3, B3⟩
        | false =>
          by_cases hlt : Tm.less s x = true
          · have q2 : Op.bytesLess s x = true := hlt
            have HP2 : Hid (PutAt xs s (i + 1) true (acc ++ [s] ++ [x])) := by
              show PutAt xs s (i + 1) true (acc ++ [s] ++ [x])
              rcases HP.out with ⟨_, h2, h3⟩ | ⟨h, _⟩
              · exact .inr ⟨rfl, xs.take i, [x], htk.out, by simp, by rw [h2]; simp, h3, fun y hy => by rw [List.mem_singleton.1 hy]; exact hlt⟩
              · cases h
            clear hlt
            go_wp2_with (at_builtin
                         first
                           | (refine wpList_append_own _ rfl _ _ 28 rfl w.heap.size 9 i0 (.string ⟨#[]⟩) 1 16 Try.underlying28 hi hz0 hz1 hz2 rfl (by decide) _ (acc.length + 1) (strs acc ++ [.string ⟨s.toArray⟩]) rfl (World.ownsRow.alloc (w := w3) hown3 _) ⟨w3.heap.size, 0, none⟩ 1 1 [.string ⟨x.toArray⟩] rfl rfl (cell_one_new _ _ _) (fun y hy => by simp at hy; subst hy; rfl) (by unfold maxLen; omega) (by omega) (by simp; omega) ?_
                              intro v4 w4 hown4 hgrow4 hnil4)
                           | (refine wpList_append_own _ rfl _ _ 28 rfl w.heap.size 9 i0 (.string ⟨#[]⟩) 1 16 Try.underlying28 hi hz0 hz1 hz2 rfl (by decide) _ acc.length (strs acc) rfl (World.ownsRow.alloc (w := wr) HRw.out _) ⟨wr.heap.size, 0, none⟩ 1 1 [.string ⟨s.toArray⟩] rfl rfl (cell_one_new _ _ _) (fun y hy => by simp at hy; subst hy; rfl) (by unfold maxLen; omega) (by omega) (by simp; omega) ?_
                              intro v3 w3 hown3 hgrow3 hnil3
                              have B3 : Below w.heap.size w w3 := Below.grown (hbel.alloc (by omega) _) hgrow3 (by simp; omega) (fun j hj => (World.ownsRow.lt HRw.out _ hj).1)
                              have hsz3 := B3.size
                              have hcell3 : w3.cell? ⟨g, i, none⟩ = some (.string ⟨x.toArray⟩) := (B3.cell (p := ⟨g, i, none⟩) hg).trans HC.out))
            have B4 : Below w.heap.size w w4 := Below.grown (B3.alloc B3.size _) hgrow4 (by simp; omega) (fun j hj => (World.ownsRow.lt hown3 _ hj).1)
            go_roundg (gk - 1)
            case measure => omega
            case rel => exact ⟨i + 1, true, acc ++ [s] ++ [x], by omega, rfl, rfl, HP2.out, HNe2.out, by simpa [strs] using hown4, B4⟩
          · have hf : Tm.less s x = false := by simpa using hlt
            have q2 : Op.bytesLess s x = false := hf
            have HP2 : Hid (PutAt xs s (i + 1) false (acc ++ [x])) := by
              show PutAt xs s (i + 1) false (acc ++ [x])
              rcases HP.out with ⟨_, h2, h3⟩ | ⟨h, _⟩
              · refine .inl ⟨rfl, by rw [h2, htk.out], ?_⟩
                rw [htk.out]
                intro y hy
                rcases List.mem_append.1 hy with hy | hy
                · exact h3 y hy
                · rw [List.mem_singleton.1 hy]; exact less_of_not hf HNx.out
              · cases h
            clear hlt hf
            go_wp2_with (at_builtin
                         refine wpList_append_own _ rfl _ _ 28 rfl w.heap.size 9 i0 (.string ⟨#[]⟩) 1 16 Try.underlying28 hi hz0 hz1 hz2 rfl (by decide) _ acc.length (strs acc) rfl (World.ownsRow.alloc (w := wr) HRw.out _) ⟨wr.heap.size, 0, none⟩ 1 1 [.string ⟨x.toArray⟩] rfl rfl (cell_one_new _ _ _) (fun y hy => by simp at hy; subst hy; rfl) (by unfold maxLen; omega) (by omega) (by simp; omega) ?_
                         intro v3 w3 hown3 hgrow3 hnil3)
            have B3 : Below w.heap.size w w3 := Below.grown (hbel.alloc (by omega) _) hgrow3 (by simp; omega) (fun j hj => (World.ownsRow.lt HRw.out _ hj).1)
            go_roundg (gk - 1)
            case measure => omega
            case rel => exact ⟨i + 1, false, acc ++ [x], by omega, rfl, rfl, HP2.out, HNe2.out, by simpa [strs] using hown3, B3⟩
    · obtain rfl : i = xs.length := by omega
      have j1 : ¬ ((xs.length : Int) < (xs.length : Int)) := by omega
      obtain ⟨ys, hy1, hy2, hy3⟩ := HP.out.fin HSt.out
      have HY := Lib.hid (And.intro hy1 (And.intro hy2 hy3))
      clear hy1 hy2 hy3
      cases done with
      | true =>
        go_wp2
        go_ret
        have e : ys = acc := HY.out.1
        exact ⟨_, acc, rfl, reads_of_row HRw.out, by rw [← e]; exact HY.out.2.1, by rw [← e]; exact HY.out.2.2, by omega, .inr HRw.out, hbel⟩
      | false =>
        have hl2 : acc.length ≤ xs.length := by
          rcases HP.out with ⟨_, h2, _⟩ | ⟨h, _⟩
          · rw [h2]; simp
          · cases h
        go_wp2_with (at_builtin
                     refine wpList_append_own _ rfl _ _ 28 rfl w.heap.size 9 i0 (.string ⟨#[]⟩) 1 16 Try.underlying28 hi hz0 hz1 hz2 rfl (by decide) _ acc.length (strs acc) rfl (World.ownsRow.alloc (w := wr) HRw.out _) ⟨wr.heap.size, 0, none⟩ 1 1 [.string ⟨s.toArray⟩] rfl rfl (cell_one_new _ _ _) (fun y hy => by simp at hy; subst hy; rfl) (by unfold maxLen; omega) (by omega) (by simp; omega) ?_
                     intro v3 w3 hown3 hgrow3 hnil3)
        have B3 : Below w.heap.size w w3 := Below.grown (hbel.alloc (by omega) _) hgrow3 (by simp; omega) (fun j hj => (World.ownsRow.lt HRw.out _ hj).1)
        go_ret
        have e : ys = acc ++ [s] := HY.out.1
        exact ⟨_, acc ++ [s], rfl, reads_of_row (by simpa [strs] using hown3), by rw [← e]; exact HY.out.2.1, by rw [← e]; exact HY.out.2.2, by simp; omega, .inr (by simpa [strs] using hown3), B3⟩

end Go.Proofs.Ytildapcdkipakaa.Pt
