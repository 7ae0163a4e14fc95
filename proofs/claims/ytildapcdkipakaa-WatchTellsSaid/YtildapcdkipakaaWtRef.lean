/- Contracts of the document's own watch: New, Hear, Quiet, There. -/
import Derived.Test.YtildapcdkipakaaWtHear
namespace Go.Proofs.Ytildapcdkipakaa.L9
open Go.ChangeShapes Go.WideShapes Go.ChangeAt Go.RowKit Go.Deep

/-- The document's watch, as it lies in memory. -/
structure DAt (w : World) (B d : Nat) (vh : Value) (me lim now : Int) (H : List Int) : Prop where
  low : B ≤ d
  blk : w.heap[d]? = some (.cells #[.int .i64 me, .int .i64 lim, .int .i64 now, vh] 63 (0, 0))
  row : w.ownsRow B 3 1 vh H.length (ints H)
theorem DAt.lt {w : World} {B d : Nat} {vh : Value} {me lim now : Int} {H : List Int} (h : DAt w B d vh me lim now H) : d < w.heap.size := (Array.getElem?_eq_some_iff.1 h.blk).1
theorem DAt.below {w w' : World} {B d : Nat} {vh : Value} {me lim now : Int} {H : List Int} (h : DAt w B d vh me lim now H) (hb : Below w.heap.size w w') : DAt w' B d vh me lim now H := ⟨h.low, (hb.block d h.lt).trans h.blk, L5.own_below h.row hb⟩
theorem int_watch : 3 ≠ 63 := by decide
theorem DAt.apart {w : World} {B d : Nat} {vh : Value} {me lim now : Int} {H : List Int} (h : DAt w B d vh me lim now H) : vh.ownBlock ≠ some d := by
  intro e
  rcases h.row.2 with ⟨rfl, _⟩ | ⟨g, cap, cur, rfl, _, h1, _⟩
  · cases e
  · cases e
    rw [h.blk] at h1
    cases h1
theorem DAt.cells {w : World} {B d : Nat} {vh : Value} {me lim now : Int} {H : List Int} (h : DAt w B d vh me lim now H) : w.cell? ⟨d, 0, none⟩ = some (.int .i64 me) ∧ w.cell? ⟨d, 1, none⟩ = some (.int .i64 lim) ∧ w.cell? ⟨d, 2, none⟩ = some (.int .i64 now) ∧ w.cell? ⟨d, 3, none⟩ = some vh ∧ w.frozen? ⟨d, 2, none⟩ = false ∧ w.frozen? ⟨d, 3, none⟩ = false := by
  have hb := h.blk
  refine ⟨?_, ?_, ?_, ?_, by simp [World.frozen?, hb], by simp [World.frozen?, hb]⟩
  all_goals
    simp only [World.cell?]
    rw [hb]
    rfl
/-- A store into the watch's own block. -/
theorem DAt.now {w : World} {B d : Nat} {vh : Value} {me lim now : Int} {H : List Int} (h : DAt w B d vh me lim now H) (n : Int) : DAt (w.setCell ⟨d, 2, none⟩ (.int .i64 n)) B d vh me lim n H :=
  ⟨h.low, set_blk h.blk _, L5.own_same h.row (fun q hq => other_blk (fun e => h.apart (by rw [hq, e])) _)⟩
def NewGo (w : World) (me lim : Int) (k : Nat) (v7 : Value) (wr : World) : Prop := ∃ (i : Nat) (vh : Value), k + i = 8 ∧ v7 = .int .i64 ((i : Int) + 1) ∧ DAt wr w.heap.size w.heap.size vh me lim 0 (List.replicate i (-1)) ∧ Below w.heap.size w wr
def RNewYes (w : World) (me lim : Int) (e : Ending) (w' : World) : Prop := ∃ d vh, e = .returned (.tuple #[.pointer (some ⟨d, 0, none⟩), .int .i64 0]) ∧ DAt w' w.heap.size d vh me lim 0 (List.replicate 8 (-1)) ∧ Below w.heap.size w w'
set_option maxRecDepth 100000 in
set_option maxHeartbeats 2000000 in
theorem RNew_no (me lim : Int) (w : World) (h : me < 1 ∨ 8 < me ∨ lim < 1 ∨ 100 < lim) : Calls Try.prog 21 #[.int .i64 me, .int .i64 lim] w (L5.One w (.tuple #[.pointer none, .int .i64 1])) := by
  by_cases h1 : me < 1
  · clear h
    go_enter Try.func21, Try.ntmps21
    go_wp2
    go_ret2
    exact ⟨rfl, Below.refl _ _⟩
  · by_cases h2 : 8 < me
    · clear h
      go_enter Try.func21, Try.ntmps21
      go_wp2
      go_ret2
      exact ⟨rfl, Below.refl _ _⟩
    · by_cases h3 : lim < 1
      · clear h
        go_enter Try.func21, Try.ntmps21
        go_wp2
        go_ret2
        exact ⟨rfl, Below.refl _ _⟩
      · have h4 : 100 < lim := by omega
        clear h
        go_enter Try.func21, Try.ntmps21
        go_wp2
        go_ret2
        exact ⟨rfl, Below.refl _ _⟩
set_option maxRecDepth 100000 in
set_option maxHeartbeats 2000000 in
theorem RNew_yes (me lim : Int) (w : World) (m1 : 1 ≤ me) (m2 : me ≤ 8) (l1 : 1 ≤ lim) (l2 : lim ≤ 100) : Calls Try.prog 21 #[.int .i64 me, .int .i64 lim] w (RNewYes w me lim) := by
  obtain ⟨i0, hi0, hz0, hz1, hz2⟩ := info_parts9 info_int
  have hn : (w.alloc (.cells #[.int .i64 me, .int .i64 lim, .int .i64 0, .slice none 0 0] 63)).heap[w.heap.size]? = some (.cells #[.int .i64 me, .int .i64 lim, .int .i64 0, .slice none 0 0] 63 (0, 0)) := heap_alloc_new _ _
  have hB : Below w.heap.size w (w.alloc (.cells #[.int .i64 me, .int .i64 lim, .int .i64 0, .slice none 0 0] 63)) := (Below.refl _ w).alloc (Nat.le_refl _) _
  obtain ⟨W0, hW0⟩ : ∃ W0, w.alloc (.cells #[.int .i64 me, .int .i64 lim, .int .i64 0, .slice none 0 0] 63) = W0 := ⟨_, rfl⟩
  rw [hW0] at hn hB
  have HW := Lib.hid (And.intro hn hB)
  have k1 : ¬ me < 1 := by omega
  have k2 : ¬ 8 < me := by omega
  have k3 : ¬ lim < 1 := by omega
  have k4 : ¬ 100 < lim := by omega
  clear hn hB m1 m2 l1 l2
  go_enter Try.func21, Try.ntmps21
  go_wp2
  clear hW0
  go_loopg [7] 8 (fun k v7 wr => NewGo w me lim k v7 wr)
  case atStart => exact ⟨0, _, rfl, rfl, ⟨Nat.le_refl _, HW.out.1, World.ownsRow_nil _ _ _ _⟩, HW.out.2⟩
  case round =>
    obtain ⟨i, vh, hk, rfl, hd, hb⟩ := hrel
    by_cases hi : i < 8
    · have j1 : (i : Int) + 1 ≤ 8 := by omega
      have hrow := hd.row
      rw [List.length_replicate] at hrow
      obtain ⟨a3, c3, rfl⟩ := L5.own_slice hrow
      obtain ⟨x0, x1, x2, x3, _, _⟩ := hd.cells
      have HM := Lib.hid (show 8 - (i + 1) < gk by omega)
      have HR := Lib.hid (And.intro hd hb)
      have HO : Hid (wr.ownsRow w.heap.size 3 1 (.slice a3 i c3) i (ints (List.replicate i (-1)))) := hrow
      have HSz : Hid (w.heap.size ≤ wr.heap.size) := hb.size
      have hlt := hd.lt
      have HFin : Hid (∀ v2 w6, w6.ownsRow w.heap.size 3 1 v2 (i + 1) (ints (List.replicate i (-1)) ++ [.int .i64 (-1)]) → (wr.alloc (.cells #[.int .i64 (-1)] 3)).grownBy w6 (Value.slice a3 i c3).ownBlock → w6.cell? ⟨w.heap.size, 3, none⟩ = some (.slice a3 i c3) ∧ w6.frozen? ⟨w.heap.size, 3, none⟩ = false ∧ Hid (NewGo w me lim (8 - (i + 1)) (.int .i64 ((i : Int) + 1 + 1)) (w6.setCell ⟨w.heap.size, 3, none⟩ v2))) := fun v2 w6 q1 q2 => by
        have hda := HR.out.1
        have hg0 : wr.grownBy w6 (Value.slice a3 i c3).ownBlock := L5.grow_trans (World.grownBy_alloc wr _ _) q2
        have hblk := (hg0.block w.heap.size hda.lt hda.apart.symm).trans hda.blk
        have hcell : w6.cell? ⟨w.heap.size, 3, none⟩ = some (.slice a3 i c3) := by
          simp only [World.cell?]
          rw [hblk]
          rfl
        have hbw : Below w.heap.size w w6 := HR.out.2.grown hg0 HR.out.2.size (fun q e => (HO.out.lt q e).1)
        refine ⟨hcell, by simp [World.frozen?, hblk], i + 1, v2, by omega, by simp, ⟨Nat.le_refl _, set_blk hblk v2, ?_⟩, hbw.setCell (by simp) _⟩
        have hrep : ints (List.replicate i (-1)) ++ [.int .i64 (-1)] = ints (List.replicate (i + 1) (-1)) := by rw [List.replicate_succ']; simp [ints]
        rw [hrep] at q1
        rw [List.length_replicate]
        refine L5.own_same q1 (fun q hq => other_blk (fun e => ?_) v2)
        subst e
        rcases q1.2 with ⟨rfl, _⟩ | ⟨g, cap, cur, rfl, _, h1, _⟩
        · cases hq
        · cases hq
          have h1' : w6.heap[w.heap.size]? = _ := h1
          rw [hblk] at h1'
          cases h1'
      clear hd hb hrow hk
      go_wp2_with (at_builtin; refine wpList_append_own_at _ rfl _ _ 53 rfl w.heap.size 3 i0 _ 1 8 Try.underlying53 hi0 hz0 hz1 hz2 rfl (by decide) _ _ _ rfl (HO.out.alloc _) ⟨wr.heap.size, 0, none⟩ 1 1 [.int .i64 (-1)] rfl rfl (cell_one_new _ _ _) (by simp [Value.oneCell']) (by unfold maxLen; omega) (by omega) (by have := HSz.out; simp; omega) ?_; intro v2 w6 hown6 hgrow6 hnil6 hat6; obtain ⟨g1, g2, HF⟩ := HFin.out v2 w6 hown6 hgrow6; obtain ⟨a6, c6, rfl⟩ := L5.own_slice hown6; clear hown6 hgrow6 hnil6 hat6)
      go_roundg (8 - (i + 1))
      case measure => exact HM.out
      case rel => simpa using HF.out
    · have j1 : ¬ (i : Int) + 1 ≤ 8 := by omega
      obtain rfl : i = 8 := by omega
      have HF : Hid (RNewYes w me lim (.returned (.tuple #[.pointer (some ⟨w.heap.size, 0, none⟩), .int .i64 0])) wr) := ⟨_, vh, rfl, hd, hb⟩
      clear hd hb hk
      go_wp2
      go_ret2
      exact HF.out
set_option maxRecDepth 100000 in
set_option maxHeartbeats 2000000 in
theorem RQuiet_calls {w : World} {B d : Nat} {vh : Value} {me lim now : Int} {H : List Int} (h : DAt w B d vh me lim now H) (hH : HOk now H) (hl : 1 ≤ lim ∧ lim ≤ 100) (j : Nat) (hj : j < 8) : Calls Try.prog 28 #[.pointer (some ⟨d, 0, none⟩), .int .i64 ((j : Int) + 1)] w (L5.One w (.int .i64 (quietD me lim now H j))) := by
  have hrow := h.row
  rw [hH.len] at hrow
  obtain ⟨q, c, rfl, _⟩ := own_eight hrow
  obtain ⟨x0, x1, x2, x3, _, _⟩ := h.cells
  have hc := (own_cell hrow hj hH.len).1
  obtain ⟨x, hx⟩ : ∃ x, H.getD j 0 = x := ⟨_, rfl⟩
  have hxb : -1 ≤ x ∧ x ≤ now := by rw [← hx]; exact hH.all _ (getD_mem (by rw [hH.len]; exact hj))
  have hn := hH.few
  have hn0 := hH.pos
  rw [hx] at hc
  have hw : IntKind.i64.wrap ((j : Int) + 1 - 1) = (j : Int) := by rw [IntKind.wrap_i64]; omega
  have j2 : (0 : Int) ≤ (j : Int) := by omega
  have j3 : (j : Int) < 8 := by omega
  by_cases hjm : (j : Int) + 1 = me
  · have hq : Hid (quietD me lim now H j = 0) := (by unfold quietD; rw [if_pos hjm] : quietD me lim now H j = 0)
    have j4 : ((j : Int) + 1 == me) = true := by rw [beq_iff_eq]; exact hjm
    clear h hH hrow hx hxb hc hjm
    go_enter Try.func28, Try.ntmps28
    go_wp2
    go_ret
    exact ⟨by rw [hq.out]; rfl, Below.refl _ _⟩
  · have j4 : ((j : Int) + 1 == me) = false := by rw [beq_eq_false_iff_ne]; exact hjm
    have hwl : IntKind.i64.wrap (lim + 1) = lim + 1 := by rw [IntKind.wrap_i64]; omega
    by_cases hx0 : x < 0
    · have hq : Hid (quietD me lim now H j = lim + 1) := (by unfold quietD; rw [if_neg hjm, hx, if_pos hx0] : quietD me lim now H j = lim + 1)
      clear h hH hrow hx hxb
      go_enter Try.func28, Try.ntmps28
      go_wp2
      go_ret
      exact ⟨by rw [hq.out]; rfl, Below.refl _ _⟩
    · have hwn : IntKind.i64.wrap (now - x) = now - x := by rw [IntKind.wrap_i64]; omega
      have hq : quietD me lim now H j = min (now - x) (lim + 1) := by unfold quietD; rw [if_neg hjm, hx, if_neg hx0]
      obtain ⟨z, hz⟩ : ∃ z, now - x = z := ⟨_, rfl⟩
      rw [hz] at hq hwn
      have j7 : IntKind.i64.wrap (j : Int) = (j : Int) := by rw [IntKind.wrap_i64]; omega
      have j8 : (j : Int) < ((8 : Nat) : Int) := by omega
      by_cases hzl : z ≤ lim + 1
      · have j6 : ¬ lim + 1 < z := by omega
        have HQ : Hid (quietD me lim now H j = z) := (by rw [hq]; omega : quietD me lim now H j = z)
        clear h hH hrow hx hxb hq
        go_enter Try.func28, Try.ntmps28
        go_wp2
        go_region_held3 (fun w' => w'.cell? ⟨q, j, none⟩ = some (.int .i64 x) ∧ w'.cell? ⟨d, 1, none⟩ = some (.int .i64 lim) ∧ w'.cell? ⟨d, 2, none⟩ = some (.int .i64 now) ∧ w'.cell? ⟨d, 3, none⟩ = some (.slice (some ⟨q, 0, none⟩) 8 c)) (go_keep) (fail)
        go_wp2
        go_ret
        exact ⟨by rw [HQ.out]; rfl, Below.drew (Below.refl _ _)⟩
      · have j6 : lim + 1 < z := by omega
        have HQ : Hid (quietD me lim now H j = lim + 1) := (by rw [hq]; omega : quietD me lim now H j = lim + 1)
        clear h hH hrow hx hxb hq
        go_enter Try.func28, Try.ntmps28
        go_wp2
        go_region_held3 (fun w' => w'.cell? ⟨q, j, none⟩ = some (.int .i64 x) ∧ w'.cell? ⟨d, 1, none⟩ = some (.int .i64 lim) ∧ w'.cell? ⟨d, 2, none⟩ = some (.int .i64 now) ∧ w'.cell? ⟨d, 3, none⟩ = some (.slice (some ⟨q, 0, none⟩) 8 c)) (go_keep) (fail)
        go_wp2
        go_ret
        exact ⟨by rw [HQ.out]; rfl, Below.drew (Below.refl _ _)⟩
end Go.Proofs.Ytildapcdkipakaa.L9
