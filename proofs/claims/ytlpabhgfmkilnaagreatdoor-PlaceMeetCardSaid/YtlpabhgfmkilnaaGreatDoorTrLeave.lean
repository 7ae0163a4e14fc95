/- Contract of leave: the tree that is left without a process. -/
import Derived.Test.YtlpabhgfmkilnaaGreatDoorTrJoin
namespace Go.Proofs.YtlpabhgfmkilnaaGreatDoor.L13
open Go.ChangeShapes Go.WideShapes Go.ChangeAt Go.RowKit Go.Deep

attribute [local go_sem] store_func13
/-- The process at block b, the function value behind it. -/
structure LvSt (b p : Nat) (w : World) : Prop where
  who : w.cell? ⟨b, 0, none⟩ = some (.int .i64 p)
  walk : w.cell? ⟨b + 1, 0, none⟩ = some (.func (.func 56) #[] #[.pointer (some ⟨b, 0, none⟩), .pointer (some ⟨b + 1, 0, none⟩)])
  size : b + 2 ≤ w.heap.size
theorem LvSt.later {b p : Nat} {w W : World} (h : LvSt b p w) (hb : Below w.heap.size w W) : LvSt b p W :=
  ⟨(hb.cell (p := ⟨b, 0, none⟩) (by have := h.size; show b < _; omega)).trans h.who, (hb.cell (p := ⟨b + 1, 0, none⟩) (by have := h.size; show b + 1 < _; omega)).trans h.walk, Nat.le_trans h.size hb.size⟩
theorem LvSt.drew {b p : Nat} {w : World} (h : LvSt b p w) : LvSt b p w.drew := ⟨h.who, h.walk, h.size⟩
def LvOut (w : World) (r : Option Tr) (e : Ending) (w' : World) : Prop := Below w.heap.size w w' ∧ (∀ t, r = some t → ∃ a F, e = .returned (.pointer (some ⟨a, 0, none⟩)) ∧ TreeAt w' t a F) ∧ (r = none → e = .returned (.pointer none))
theorem LvOut.val {w w' : World} {r : Option Tr} {e : Ending} (h : LvOut w r e w') : ∃ v, e = .returned (.pointer v) := by
  cases r with
  | none => exact ⟨none, h.2.2 rfl⟩
  | some t => obtain ⟨a, F, e, _⟩ := h.2.1 t rfl; exact ⟨_, e⟩
theorem LvOut.no {w w' : World} (h : Below w.heap.size w w') : LvOut w none (.returned (.pointer none)) w' := ⟨h, (fun _ e => nomatch e), fun _ => rfl⟩
theorem LvOut.yes {w w' : World} {t : Tr} {a : Nat} {F : List Nat} (h : Below w.heap.size w w') (ht : TreeAt w' t a F) : LvOut w (some t) (.returned (.pointer (some ⟨a, 0, none⟩))) w' := ⟨h, fun t e => by cases e; exact ⟨a, F, rfl, ht⟩, fun e => nomatch e⟩

set_option maxRecDepth 100000 in
set_option maxHeartbeats 4000000 in
theorem leave1_calls (b p : Nat) (hp : 1 ≤ p ∧ p ≤ 8) : ∀ (t : Tr) (w : World) (a : Nat) (F : List Nat), TreeAt w t a F → LvSt b p w →
    Calls Tryz.prog 56 #[.pointer (some ⟨a, 0, none⟩), .pointer (some ⟨b, 0, none⟩), .pointer (some ⟨b + 1, 0, none⟩)] w (LvOut w (t.out p)) := by
  intro t
  induction t with
  | leaf q =>
    intro w a F h hW
    have hL := fun n => leaf_calls (h.drewN n)
    rw [show Tr.isLeaf (.leaf q) = true from rfl] at hL
    obtain ⟨c0, _⟩ := h.leafCell
    have d0 := hW.who
    by_cases e : q = p
    · subst e
      rw [show Tr.out q (.leaf q) = none by simp [Tr.out]]
      clear h hW hL
      go_enter Tryz.func56, Tryz.ntmps56
      go_wp2
      go_quiet (fail)
      go_wp2
      go_ret
      exact LvOut.no (L5.below_drewN (Below.refl _ _) _)
    · rw [show Tr.out p (.leaf q) = some (.leaf q) by simp [Tr.out, e]]
      have e' : ((q : Int) == (p : Int)) = false := by rw [beq_eq_false_iff_ne]; omega
      have HY := Lib.hid (fun n => LvOut.yes (L5.below_drewN (Below.refl _ _) n) (h.drewN n))
      clear h hW e
      go_enter Tryz.func56, Tryz.ntmps56
      go_wp2
      go_quiet (fail)
      go_wp2_with (go_at_call 34; refine (hL _).mono ?_; rintro e w1 ⟨rfl, rfl⟩)
      go_ret
      exact HY.out _
  | node x y ihx ihy =>
    intro w a F h hW
    have hL := fun n => leaf_calls (h.drewN n)
    rw [show Tr.isLeaf (.node x y) = false from rfl] at hL
    obtain ⟨p1, q1, G, H, c0, c1, c2, tx, ty, _⟩ := h.cells12
    have hal := h.lt a h.head
    have d0 := hW.who
    have d1 := hW.walk
    have hsz := hW.size
    have e' : ((0 : Int) == (p : Int)) = false := by rw [beq_eq_false_iff_ne]; omega
    have hK : ∀ V, Below w.heap.size w V → V.cell? ⟨a, 1, none⟩ = some (.pointer (some ⟨p1, 0, none⟩)) ∧ V.cell? ⟨a, 2, none⟩ = some (.pointer (some ⟨q1, 0, none⟩)) ∧ V.cell? ⟨b + 1, 0, none⟩ = some (.func (.func 56) #[] #[.pointer (some ⟨b, 0, none⟩), .pointer (some ⟨b + 1, 0, none⟩)]) := fun V hb =>
      ⟨(hb.cell (p := ⟨a, 1, none⟩) hal).trans c1, (hb.cell (p := ⟨a, 2, none⟩) hal).trans c2, (hb.cell (p := ⟨b + 1, 0, none⟩) (by show b + 1 < _; omega)).trans d1⟩
    have HK := Lib.hid hK
    have H1 := Lib.hid (fun V (hb : Below w.heap.size w V) => ihx V p1 G (tx.later hb) (hW.later hb))
    have H2 := Lib.hid (fun V (hb : Below w.heap.size w V) => ihy V q1 H (ty.later hb) (hW.later hb))
    rw [show Tr.out p (.node x y) = both (x.out p) (y.out p) from rfl]
    clear h hW tx ty ihx ihy hK hal hsz
    generalize x.out p = rx at *
    generalize y.out p = ry at *
    go_enter Tryz.func56, Tryz.ntmps56
    go_wp2
    go_quiet (fail)
    obtain ⟨W, hW⟩ : ∃ W, w.drewN nq = W := ⟨_, rfl⟩
    have hL' := hL nq
    have hbW : Below w.heap.size w W := by rw [← hW]; exact L5.below_drewN (Below.refl _ _) _
    rw [hW] at hL' ⊢
    clear hL hW c0 c1 c2 d0 d1
    obtain ⟨k1, k2, k3⟩ := HK.out _ hbW
    have hC1 := H1.out W.drew hbW.drew
    have HB := Lib.hid hbW
    clear hbW
    go_wp2_with (go_at_call 34; refine hL'.mono ?_; rintro e w1 ⟨rfl, rfl⟩)
    go_region_held3 (fun V => V.cell? ⟨b + 1, 0, none⟩ = some (.func (.func 56) #[] #[.pointer (some ⟨b, 0, none⟩), .pointer (some ⟨b + 1, 0, none⟩)]) ∧ V.cell? ⟨a, 1, none⟩ = some (.pointer (some ⟨p1, 0, none⟩)) ∧ V.cell? ⟨a, 2, none⟩ = some (.pointer (some ⟨q1, 0, none⟩)))
      ((first | exact ⟨k3, k1, k2⟩ | (go_split_ands; refine ⟨?_, ?_, ?_⟩ <;> first | assumption | go_keep)))
      (first
        | (go_at_call_of 56 (Value.pointer (some (⟨q1, 0, none⟩ : Addr))); refine hC2.mono ?_; rintro e4 w4 hO4; have hb4 := HB3.out.trans (hO4.1.mono HB3.out.size); obtain ⟨m4, m5, m6⟩ := HK.out _ hb4; obtain ⟨v4, rfl⟩ := hO4.val)
        | (go_at_call_of 56 (Value.pointer (some (⟨p1, 0, none⟩ : Addr))); refine hC1.mono ?_; rintro e3 w3 hO3; have hb3 := HB.out.drew.trans (hO3.1.mono HB.out.drew.size); obtain ⟨m1, m2, m3⟩ := HK.out _ hb3; have hC2 := H2.out w3 hb3; have HB3 := Lib.hid hb3; obtain ⟨v3, rfl⟩ := hO3.val))
    all_goals
      have HH := Lib.hid (And.intro hO3 (And.intro hO4 hb4))
      clear hO3 hO4 hb4 hb3 m1 m2 m3 m4 m5 m6 k1 k2 k3 hC1 hC2 hL'
      cases rx with
      | none =>
        obtain rfl : v3 = none := by have := HH.out.1.2.2 rfl; cases this; rfl
        cases ry with
        | none =>
          obtain rfl : v4 = none := by have := HH.out.2.1.2.2 rfl; cases this; rfl
          go_wp2
          go_ret
          exact LvOut.no HH.out.2.2
        | some u =>
          obtain ⟨a4, F4, e4, t4⟩ := HH.out.2.1.2.1 u rfl
          obtain rfl : v4 = some ⟨a4, 0, none⟩ := by cases e4; rfl
          have HT := Lib.hid t4
          clear t4 e4
          go_wp2
          go_ret
          exact LvOut.yes HH.out.2.2 HT.out
      | some t =>
        obtain ⟨a3, F3, e3, t3⟩ := HH.out.1.2.1 t rfl
        obtain rfl : v3 = some ⟨a3, 0, none⟩ := by cases e3; rfl
        have HT3 := Lib.hid (t3.later HH.out.2.1.1)
        clear t3 e3
        cases ry with
        | none =>
          obtain rfl : v4 = none := by have := HH.out.2.1.2.2 rfl; cases this; rfl
          go_wp2
          go_ret
          exact LvOut.yes HH.out.2.2 HT3.out
        | some u =>
          obtain ⟨a4, F4, e4, t4⟩ := HH.out.2.1.2.1 u rfl
          obtain rfl : v4 = some ⟨a4, 0, none⟩ := by cases e4; rfl
          have HT := Lib.hid t4
          clear t4 e4
          go_wp2_with (go_at_call 38; refine (above_calls _ _ _).mono ?_; rintro e w5 ⟨rfl, rfl⟩)
          go_ret
          exact LvOut.yes (HH.out.2.2.alloc HH.out.2.2.size _) (tree_node_new HT3.out HT.out)
set_option maxHeartbeats 1000000 in
theorem leave_calls {w : World} {t : Tr} {a p : Nat} {F : List Nat} (h : TreeAt w t a F) (hp : 1 ≤ p ∧ p ≤ 8) : Calls Tryz.prog 35 #[.pointer (some ⟨a, 0, none⟩), .int .i64 p] w (LvOut w (t.out p)) := by
  have hb : Below w.heap.size w ((w.alloc (.cells #[.int .i64 p] 3)).alloc (.cells #[.func (.func 56) #[] #[.pointer (some ⟨w.heap.size, 0, none⟩), .pointer (some ⟨w.heap.size + 1, 0, none⟩)]] 90)) := ((Below.refl _ _).alloc (Nat.le_refl _) _).alloc (by simp) _
  have hW : LvSt w.heap.size p ((w.alloc (.cells #[.int .i64 p] 3)).alloc (.cells #[.func (.func 56) #[] #[.pointer (some ⟨w.heap.size, 0, none⟩), .pointer (some ⟨w.heap.size + 1, 0, none⟩)]] 90)) := by
    refine ⟨?_, ?_, by simp⟩
    · rw [World.cell?_of_block (Below.heap_alloc _ _ _ (by simp))]
      exact func_new _ _ _
    · have := func_new (w.alloc (.cells #[.int .i64 p] 3)) (.func (.func 56) #[] #[.pointer (some ⟨w.heap.size, 0, none⟩), .pointer (some ⟨w.heap.size + 1, 0, none⟩)]) 90
      rw [World.size_alloc] at this
      exact this
  have hC := leave1_calls w.heap.size p hp t _ a F (h.later hb) hW
  have c1 := hW.walk
  have HB := Lib.hid hb
  clear h hb hW
  generalize t.out p = r at *
  go_enter Tryz.func35, Tryz.ntmps35
  go_wp2_with fail
  refine hC.mono ?_
  rintro e w1 ho
  obtain ⟨v, rfl⟩ := ho.val
  have HO := Lib.hid ho
  clear ho
  go_wp2
  go_ret
  exact ⟨HB.out.trans (HO.out.1.mono HB.out.size), HO.out.2⟩
end Go.Proofs.YtlpabhgfmkilnaaGreatDoor.L13
