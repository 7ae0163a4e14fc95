/- Contracts of ahead, Merge and Build. -/
import Derived.Test.YtlpabhgfmkilnaaGreatDoorTrTopJ
namespace Go.Proofs.YtlpabhgfmkilnaaGreatDoor.L13
open Go.ChangeShapes Go.WideShapes Go.ChangeAt Go.RowKit Go.Deep
open Go.Proofs.YtlpabhgfmkilnaaGreatDoor.L5 (One)

/-- Whose tree is the left one of both. -/
def aheadB (a b : Tr) : Bool :=
  if a.deep ≠ b.deep then decide (b.deep < a.deep) else if a.procs.length ≠ b.procs.length then decide (b.procs.length < a.procs.length) else decide (a.mems.headD 0 < b.mems.headD 0)
theorem mems_cons (t : Tr) : ∃ m r, t.mems = m :: r := by
  have h1 := mems_len t
  have h2 := t.procs_pos
  cases h : t.mems with
  | nil => rw [h, List.length_nil] at h1; omega
  | cons m r => exact ⟨m, r, rfl⟩
theorem head_cell {w : World} {v : Value} {t : Tr} (h : IntsA w v t.mems) : ∃ ad c, v = .slice (some ad) t.procs.length c ∧ ad.block < w.heap.size ∧ ∀ V, Below w.heap.size w V → V.cell? ad = some (.int .i64 (t.mems.headD 0)) := by
  obtain ⟨A, c, rfl, hr⟩ := h.reads
  obtain ⟨m, r, e⟩ := mems_cons t
  obtain ⟨ad, rfl, h1, h2⟩ := hr 0 m (by rw [e]; rfl)
  refine ⟨ad, c, by rw [mems_len], h1, fun V hb => ?_⟩
  have e0 : ad.add 0 = ad := by unfold Addr.add; rw [if_pos rfl]
  rw [e0] at h2
  rw [e]
  exact (hb.cell h1).trans h2
set_option maxHeartbeats 4000000 in
theorem ahead_calls {w : World} {a b : Tr} {p q : Nat} {F G : List Nat} (ha : TreeAt w a p F) (hb : TreeAt w b q G) (oa : a.ok) (ob : b.ok) : Calls Tryz.prog 37 #[.pointer (some ⟨p, 0, none⟩), .pointer (some ⟨q, 0, none⟩)] w (One w (.bool (aheadB a b))) := by
  have HA := Lib.hid (fun (V : World) (h : Below w.heap.size w V) => ha.later h)
  have HB := Lib.hid (fun (V : World) (h : Below w.heap.size w V) => hb.later h)
  have D1 := Lib.hid (fun (V : World) (h : TreeAt V a p F) => depths_calls h (by have := oa.deep8; omega))
  have D2 := Lib.hid (fun (V : World) (h : TreeAt V b q G) => depths_calls h (by have := ob.deep8; omega))
  have M1 := Lib.hid (fun (V : World) (h : TreeAt V a p F) => members_calls h (by have := oa.few; omega))
  have M2 := Lib.hid (fun (V : World) (h : TreeAt V b q G) => members_calls h (by have := ob.few; omega))
  have R1 := Lib.hid (fun (V : World) (v : Value) (B : Nat) (h : V.ownsRow B 3 1 v a.mems.length (a.mems.map (Value.int .i64))) => head_cell (oa.ints h))
  have R2 := Lib.hid (fun (V : World) (v : Value) (B : Nat) (h : V.ownsRow B 3 1 v b.mems.length (b.mems.map (Value.int .i64))) => head_cell (ob.ints h))
  have hD1 := D1.out w ha
  clear ha hb
  unfold aheadB
  by_cases hd : a.deep = b.deep
  · rw [if_neg (by simpa using hd)]
    have hlen : Hid (a.procs.length ≤ 8 ∧ b.procs.length ≤ 8 ∧ 1 ≤ a.procs.length ∧ 1 ≤ b.procs.length) := ⟨oa.few, ob.few, a.procs_pos, b.procs_pos⟩
    clear oa ob
    generalize a.least = n1 at *
    generalize b.least = n2 at *
    generalize a.deep = n3 at *
    generalize b.deep = n4 at *
    subst hd
    by_cases hl : a.procs.length = b.procs.length
    · rw [if_neg (by simpa using hl)]
      have j1 : (0 : Int) < (b.procs.length : Int) := by have := hlen.out; omega
      rw [hl] at R1
      clear hl
      generalize b.procs.length = n at *
      generalize a.mems.headD 0 = m1 at *
      generalize b.mems.headD 0 = m2 at *
      go_enter Tryz.func37, Tryz.ntmps37
      go_wp2_with fail
      refine hD1.mono ?_
      rintro e w1 ⟨rfl, b1⟩
      have hD2 := D2.out w1 (HB.out _ b1)
      have B1 := Lib.hid b1
      clear b1 hD1
      go_wp2_with fail
      refine hD2.mono ?_
      rintro e w2 ⟨rfl, b2⟩
      have B2 := Lib.hid (B1.out.trans (b2.mono B1.out.size))
      have hM1 := M1.out w2 (HA.out _ B2.out)
      clear b2 hD2 D1 D2
      go_wp2_with fail
      refine hM1.mono ?_
      rintro e w3 ⟨v3, rfl, o3, b3⟩
      obtain ⟨ad3, c3, rfl, l3, r3⟩ := R1.out _ _ _ o3
      have B3 := Lib.hid (B2.out.trans (b3.mono B2.out.size))
      have hM2 := M2.out w3 (HB.out _ B3.out)
      clear hM1 o3 b3
      go_wp2_with fail
      refine hM2.mono ?_
      rintro e w4 ⟨v4, rfl, o4, b4⟩
      obtain ⟨ad4, c4, rfl, l4, r4⟩ := R2.out _ _ _ o4
      have B4 := Lib.hid (B3.out.trans (b4.mono B3.out.size))
      have g3 := r3 w4 b4
      have g4 := r4 w4 (Below.refl _ _)
      clear hM2 o4 b4 M1 M2 R1 R2 r3 r4 HA HB
      go_wp2
      go_quiet (fail)
      go_wp2
      go_ret
      exact ⟨rfl, L5.below_drewN B4.out _⟩
    · rw [if_pos hl]
      have hl' : ((a.procs.length : Int) == (b.procs.length : Int)) = false := by rw [beq_eq_false_iff_ne]; omega
      clear hl hlen
      generalize a.procs.length = l1 at *
      generalize b.procs.length = l2 at *
      go_enter Tryz.func37, Tryz.ntmps37
      go_wp2_with fail
      refine hD1.mono ?_
      rintro e w1 ⟨rfl, b1⟩
      have hD2 := D2.out w1 (HB.out _ b1)
      have B1 := Lib.hid b1
      clear b1 hD1
      go_wp2_with fail
      refine hD2.mono ?_
      rintro e w2 ⟨rfl, b2⟩
      have B2 := Lib.hid (B1.out.trans (b2.mono B1.out.size))
      have hM1 := M1.out w2 (HA.out _ B2.out)
      clear b2 hD2 D1 D2
      go_wp2_with fail
      refine hM1.mono ?_
      rintro e w3 ⟨v3, rfl, o3, b3⟩
      obtain ⟨ad3, c3, rfl, l3, r3⟩ := R1.out _ _ _ o3
      have B3 := Lib.hid (B2.out.trans (b3.mono B2.out.size))
      have hM2 := M2.out w3 (HB.out _ B3.out)
      clear hM1 o3 b3
      go_wp2_with fail
      refine hM2.mono ?_
      rintro e w4 ⟨v4, rfl, o4, b4⟩
      obtain ⟨ad4, c4, rfl, l4, r4⟩ := R2.out _ _ _ o4
      have B4 := Lib.hid (B3.out.trans (b4.mono B3.out.size))
      have g3 := r3 w4 b4
      have g4 := r4 w4 (Below.refl _ _)
      clear hM2 o4 b4 M1 M2 R1 R2 r3 r4 HA HB
      go_wp2
      go_ret
      exact ⟨rfl, B4.out⟩
  · rw [if_pos hd]
    have hd' : ((a.deep : Int) == (b.deep : Int)) = false := by rw [beq_eq_false_iff_ne]; omega
    clear hd M1 M2 R1 R2 oa ob
    generalize a.least = n1 at *
    generalize b.least = n2 at *
    generalize a.deep = n3 at *
    generalize b.deep = n4 at *
    go_enter Tryz.func37, Tryz.ntmps37
    go_wp2_with fail
    refine hD1.mono ?_
    rintro e w1 ⟨rfl, b1⟩
    have hD2 := D2.out w1 (HB.out _ b1)
    have B1 := Lib.hid b1
    clear b1 hD1
    go_wp2_with fail
    refine hD2.mono ?_
    rintro e w2 ⟨rfl, b2⟩
    have B2 := Lib.hid (B1.out.trans (b2.mono B1.out.size))
    clear b2 hD2 D1 D2 HA HB
    go_wp2
    go_ret
    exact ⟨rfl, B2.out⟩
/-- What two trees are merged to. -/
def Tr.merge (a b : Tr) : Tr := if aheadB a b then .node a b else .node b a
def sharedL (a b : Tr) : List Int := a.mems.filter (fun p => b.mems.contains p)
def mergeX (x y : List UInt8) : List UInt8 × Int :=
  match readT x, readT y with
  | some a, some b => if 0 < (sharedL a b).length then ([], 1) else ((a.merge b).text, 0)
  | _, _ => ([], 1)
end Go.Proofs.YtlpabhgfmkilnaaGreatDoor.L13
