/- Contract of place: where the next process joins. -/
import Derived.Test.YtlpabhgfmkilnaaGreatDoorTrMem2
namespace Go.Proofs.YtlpabhgfmkilnaaGreatDoor.L13
open Go.ChangeShapes Go.WideShapes Go.ChangeAt Go.RowKit Go.Deep

attribute [local go_sem] store_func13
/-- The block at which one joins. -/
def SpotIs (w : World) : Tr → Nat → Nat → Prop
  | .leaf _, a, r => r = a
  | .node x y, a, r => if (Tr.node x y).full then r = a else ∃ b c, w.cell? ⟨a, 1, none⟩ = some (.pointer (some ⟨b, 0, none⟩)) ∧ w.cell? ⟨a, 2, none⟩ = some (.pointer (some ⟨c, 0, none⟩)) ∧ (if y.best ≤ x.best then SpotIs w y c r else SpotIs w x b r)
theorem SpotIs.same {w W : World} : ∀ {t : Tr} {a r : Nat} {F : List Nat}, TreeAt w t a F → SpotIs w t a r → (∀ q ∈ F, W.heap[q]? = w.heap[q]?) → SpotIs W t a r := by
  intro t
  induction t with
  | leaf p => intro a r F _ h _; exact h
  | node x y ihx ihy =>
    intro a r F ht h hs
    obtain ⟨b, c, G, H, c0, c1, c2, tx, ty, rfl⟩ := ht.cells12
    unfold SpotIs at h ⊢
    split at h
    · rename_i hf
      rw [if_pos hf]
      exact h
    · rename_i hf
      rw [if_neg hf]
      obtain ⟨b', c', e1, e2, h⟩ := h
      rw [c1] at e1
      rw [c2] at e2
      cases e1
      cases e2
      refine ⟨b, c, (World.cell?_of_block (hs a (by simp))).trans c1, (World.cell?_of_block (hs a (by simp))).trans c2, ?_⟩
      split at h
      · rename_i hb
        rw [if_pos hb]
        exact ihy ty h (fun q hq => hs q (by simp [hq]))
      · rename_i hb
        rw [if_neg hb]
        exact ihx tx h (fun q hq => hs q (by simp [hq]))
def ptrO : Option Nat → Value
  | none => .pointer none
  | some r => .pointer (some ⟨r, 0, none⟩)
structure PlSt (b : Nat) (f : Option Nat) (s : Nat) (w : World) : Prop where
  found : w.heap[b]? = some (.cells #[ptrO f] 44 (0, 0))
  low : w.heap[b + 1]? = some (.cells #[.int .i64 s] 3 (0, 0))
  walk : w.heap[b + 2]? = some (.cells #[.func (.func 69) #[] #[.pointer (some ⟨b + 2, 0, none⟩), .pointer (some ⟨b, 0, none⟩), .pointer (some ⟨b + 1, 0, none⟩)]] 66 (0, 0))
theorem PlSt.lt {b : Nat} {f : Option Nat} {s : Nat} {w : World} (h : PlSt b f s w) : b + 3 ≤ w.heap.size := (Array.getElem?_eq_some_iff.1 h.walk).1
theorem PlSt.later {b : Nat} {f : Option Nat} {s : Nat} {w W : World} (h : PlSt b f s w) (hb : Below w.heap.size w W) : PlSt b f s W :=
  ⟨(hb.block _ (by have := h.lt; omega)).trans h.found, (hb.block _ (by have := h.lt; omega)).trans h.low, (hb.block _ (by have := h.lt; omega)).trans h.walk⟩
theorem PlSt.drew {b : Nat} {f : Option Nat} {s : Nat} {w : World} (h : PlSt b f s w) : PlSt b f s w.drew := ⟨h.found, h.low, h.walk⟩
theorem PlSt.take {b : Nat} {f : Option Nat} {s : Nat} {w : World} (h : PlSt b f s w) (r m : Nat) : PlSt b (some r) m ((w.setCell ⟨b, 0, none⟩ (.pointer (some ⟨r, 0, none⟩))).setCell ⟨b + 1, 0, none⟩ (.int .i64 m)) :=
  ⟨(Below.heap_setCell _ _ _ _ (by show b ≠ b + 1; omega)).trans (set_blk h.found _), set_blk ((Below.heap_setCell _ _ _ _ (by show b + 1 ≠ b; omega)).trans h.low) _,
    ((Below.heap_setCell _ _ _ _ (by show b + 2 ≠ b + 1; omega)).trans (Below.heap_setCell _ _ _ _ (by show b + 2 ≠ b; omega))).trans h.walk⟩
def upd (f : Option Nat) (s r m : Nat) : Option Nat × Nat := if f = none ∨ m ≤ s then (some r, m) else (f, s)
theorem upd_upd (f : Option Nat) (s r1 b1 r2 b2 : Nat) : upd (upd f s r1 b1).1 (upd f s r1 b1).2 r2 b2 = upd f s (if b2 ≤ b1 then r2 else r1) (min b1 b2) := by
  unfold upd
  by_cases h1 : f = none
  · subst h1
    by_cases h2 : b2 ≤ b1
    · simp [h2]
    · simp [h2]; omega
  · by_cases h3 : b1 ≤ s
    · by_cases h2 : b2 ≤ b1
      · have : b2 ≤ s := by omega
        simp [h1, h2, h3, this]
      · have e : min b1 b2 = b1 := by omega
        simp [h1, h2, h3, e]
    · by_cases h4 : b2 ≤ s
      · have h2 : b2 ≤ b1 := by omega
        have e : min b1 b2 = b2 := by omega
        simp [h1, h2, h3, h4, e]
      · have : ¬ min b1 b2 ≤ s := by omega
        simp [h1, h3, h4, this]
def PlOut (b : Nat) (w : World) (t : Tr) (a : Nat) (f : Option Nat) (s : Nat) (e : Ending) (w' : World) : Prop := e = .returned (.tuple #[]) ∧ Fr (RdO b) w w' ∧ ∃ r, SpotIs w t a r ∧ PlSt b (upd f s r t.best).1 (upd f s r t.best).2 w'
theorem spot_full {w : World} {t : Tr} {a : Nat} (h : t.full = true) : SpotIs w t a a ∧ t.best = t.deep ∧ ¬ t.least < t.deep := by
  have hl : ¬ t.least < t.deep := by unfold Tr.full at h; simp at h; omega
  cases t with
  | leaf p => exact ⟨rfl, rfl, hl⟩
  | node x y => exact ⟨by unfold SpotIs; rw [if_pos h], by unfold Tr.best; rw [if_pos h], hl⟩

set_option maxRecDepth 100000 in
set_option maxHeartbeats 4000000 in
theorem place1_full {b : Nat} {t : Tr} {w : World} {a : Nat} {F : List Nat} {f : Option Nat} {s : Nat} (h : TreeAt w t a F) (hd : t.deep ≤ 1000) (hF : t.full = true) (hW : PlSt b f s w) :
    Calls Tryz.prog 69 #[.pointer (some ⟨a, 0, none⟩), .pointer (some ⟨b + 2, 0, none⟩), .pointer (some ⟨b, 0, none⟩), .pointer (some ⟨b + 1, 0, none⟩)] w (PlOut b w t a f s) := by
  obtain ⟨hs, hb, hl⟩ := spot_full (w := w) (a := a) hF
  have hD := depths_calls h hd
  have HO : Hid (∀ (W V : World), Below w.heap.size w W → Fr (RdO b) W V → PlSt b (upd f s a t.best).1 (upd f s a t.best).2 V → PlOut b w t a f s (.returned (.tuple #[])) V) :=
    fun W V hb hf hp => ⟨rfl, (Fr.of_below hb).trans hf, a, hs, hp⟩
  have HW := Lib.hid (fun W (hb : Below w.heap.size w W) => hW.later hb)
  rw [hb] at HO
  have hl' : ¬ (t.least : Int) < (t.deep : Int) := by omega
  clear h hF hs hb hW hl
  generalize t.least = n1 at *
  generalize t.deep = n2 at *
  cases f with
  | none =>
    go_enter Tryz.func69, Tryz.ntmps69
    go_wp2_with fail
    refine hD.mono ?_
    rintro e w1 ⟨rfl, b1⟩
    have hP := HW.out _ b1
    have c0 : w1.cell? ⟨b, 0, none⟩ = some (.pointer none) := by rw [cells_of hP.found]; rfl
    have c1 : w1.cell? ⟨b + 1, 0, none⟩ = some (.int .i64 s) := by rw [cells_of hP.low]; rfl
    have f0 := frozen_of hP.found 0
    have f1 := frozen_of hP.low 0
    have HB := Lib.hid (HO.out _ _ b1 (((Fr.refl (RdO b) w1).set ⟨b, 0, none⟩ (.pointer (some ⟨a, 0, none⟩)) (.inl rfl)).set ⟨b + 1, 0, none⟩ (.int .i64 n2) (.inr rfl)) (hP.take a n2))
    clear hP b1 HO HW hD
    go_wp2
    refine bodyPost_end (results_none rfl _ _ _) rfl ?_
    exact HB.out
  | some r =>
    by_cases hm : n2 ≤ s
    · have hm' : (n2 : Int) ≤ (s : Int) := by omega
      have hu : upd (some r) s a n2 = (some a, n2) := by unfold upd; rw [if_pos (.inr hm)]
      rw [hu] at HO
      clear hm hu
      go_enter Tryz.func69, Tryz.ntmps69
      go_wp2_with fail
      refine hD.mono ?_
      rintro e w1 ⟨rfl, b1⟩
      have hP := HW.out _ b1
      have c0 : w1.cell? ⟨b, 0, none⟩ = some (.pointer (some ⟨r, 0, none⟩)) := by rw [cells_of hP.found]; rfl
      have c1 : w1.cell? ⟨b + 1, 0, none⟩ = some (.int .i64 s) := by rw [cells_of hP.low]; rfl
      have f0 := frozen_of hP.found 0
      have f1 := frozen_of hP.low 0
      have HB := Lib.hid (HO.out _ _ b1 (((Fr.refl (RdO b) w1).set ⟨b, 0, none⟩ (.pointer (some ⟨a, 0, none⟩)) (.inl rfl)).set ⟨b + 1, 0, none⟩ (.int .i64 n2) (.inr rfl)) (hP.take a n2))
      clear hP b1 HO HW hD
      go_wp2
      refine bodyPost_end (results_none rfl _ _ _) rfl ?_
      exact HB.out
    · have hm' : ¬ (n2 : Int) ≤ (s : Int) := by omega
      have hu : upd (some r) s a n2 = (some r, s) := by unfold upd; rw [if_neg (by simp; omega)]
      rw [hu] at HO
      clear hm hu
      go_enter Tryz.func69, Tryz.ntmps69
      go_wp2_with fail
      refine hD.mono ?_
      rintro e w1 ⟨rfl, b1⟩
      have hP := HW.out _ b1
      have c0 : w1.cell? ⟨b, 0, none⟩ = some (.pointer (some ⟨r, 0, none⟩)) := by rw [cells_of hP.found]; rfl
      have c1 : w1.cell? ⟨b + 1, 0, none⟩ = some (.int .i64 s) := by rw [cells_of hP.low]; rfl
      have HB := Lib.hid (HO.out _ _ b1 (Fr.refl _ _) hP)
      clear hP b1 HO HW hD
      go_wp2
      refine bodyPost_end (results_none rfl _ _ _) rfl ?_
      exact HB.out
set_option maxRecDepth 100000 in
set_option maxHeartbeats 4000000 in
theorem place1_calls (b : Nat) : ∀ (t : Tr), t.deep ≤ 1000 → ∀ (w : World) (a : Nat) (F : List Nat) (f : Option Nat) (s : Nat), TreeAt w t a F → (∀ q ∈ F, q < b) → PlSt b f s w →
    Calls Tryz.prog 69 #[.pointer (some ⟨a, 0, none⟩), .pointer (some ⟨b + 2, 0, none⟩), .pointer (some ⟨b, 0, none⟩), .pointer (some ⟨b + 1, 0, none⟩)] w (PlOut b w t a f s) := by
  intro t
  induction t with
  | leaf p =>
    intro hd w a F f s h hF hW
    exact place1_full h hd rfl hW
  | node x y ihx ihy =>
    intro hd w a F f s h hF hW
    by_cases hf : (Tr.node x y).full = true
    · exact place1_full h hd hf hW
    · have hD := depths_calls h hd
      have hlt : ((Tr.node x y).least : Int) < ((Tr.node x y).deep : Int) := by unfold Tr.full at hf; simp at hf; omega
      have hdx : x.deep ≤ 1000 := by simp only [Tr.deep] at hd; omega
      have hdy : y.deep ≤ 1000 := by simp only [Tr.deep] at hd; omega
      have hbest : (Tr.node x y).best = min x.best y.best := by rw [Tr.best, if_neg hf]
      obtain ⟨p, q, G, H, c0, c1, c2, tx, ty, hFe⟩ := h.cells12
      have hG : ∀ r ∈ G, r < b := fun r hr => hF r (by rw [hFe]; simp [hr])
      have hH : ∀ r ∈ H, r < b := fun r hr => hF r (by rw [hFe]; simp [hr])
      have hab := hF a h.head
      have hal := h.lt a h.head
      have hbo : ∀ q, q < b → ¬ RdO b q := fun q hq e => by unfold RdO at e; omega
      have hK : ∀ V, Fr (RdO b) w V → V.cell? ⟨a, 1, none⟩ = some (.pointer (some ⟨p, 0, none⟩)) ∧ V.cell? ⟨a, 2, none⟩ = some (.pointer (some ⟨q, 0, none⟩)) := fun V hf =>
        ⟨(World.cell?_of_block (hf.block a hal (hbo a hab))).trans c1, (World.cell?_of_block (hf.block a hal (hbo a hab))).trans c2⟩
      have HK := Lib.hid hK
      have H1 := Lib.hid (fun V (hf : Fr (RdO b) w V) (hb : PlSt b f s V) => ihx hdx V p G f s (tx.fr hf (fun r hr => hbo r (hG r hr))) hG hb)
      have H2 := Lib.hid (fun V f' s' (hf : Fr (RdO b) w V) (hb : PlSt b f' s' V) => ihy hdy V q H f' s' (ty.fr hf (fun r hr => hbo r (hH r hr))) hH hb)
      have HW := Lib.hid (fun W (hb : Below w.heap.size w W) => hW.later hb)
      have HO : Hid (∀ (V U W : World), Fr (RdO b) w V → Fr (RdO b) w U → (∃ r, SpotIs V x p r ∧ PlSt b (upd f s r x.best).1 (upd f s r x.best).2 U ∧ ∃ r2, SpotIs U.drew y q r2 ∧ PlSt b (upd (upd f s r x.best).1 (upd f s r x.best).2 r2 y.best).1 (upd (upd f s r x.best).1 (upd f s r x.best).2 r2 y.best).2 W ∧ Fr (RdO b) U.drew W) → PlOut b w (.node x y) a f s (.returned (.tuple #[])) W) := by
        rintro V U W fV fU ⟨r, s1, p1, r2, s2, p2, fW⟩
        have s1' : SpotIs w x p r := SpotIs.same (tx.fr fV (fun r hr => hbo r (hG r hr))) s1 (fun q hq => (fV.block q (tx.lt q hq) (hbo q (hG q hq))).symm)
        have s2' : SpotIs w y q r2 := SpotIs.same ((ty.fr fU (fun r hr => hbo r (hH r hr))).same (W := U.drew) (fun _ _ => rfl)) s2 (fun q hq => (fU.block q (ty.lt q hq) (hbo q (hH q hq))).symm)
        refine ⟨rfl, (fU.drew).trans fW, if y.best ≤ x.best then r2 else r, ?_, ?_⟩
        · unfold SpotIs
          rw [if_neg hf]
          refine ⟨p, q, c1, c2, ?_⟩
          split
          · exact s2'
          · exact s1'
        · rw [upd_upd] at p2
          rw [hbest]
          exact p2
      clear h hF hG hH hab hal hbo hK hW tx ty ihx ihy c0 c1 c2 hd hdx hdy hbest hf hFe
      generalize (Tr.node x y).least = n1 at *
      generalize (Tr.node x y).deep = n2 at *
      go_enter Tryz.func69, Tryz.ntmps69
      go_wp2_with fail
      refine hD.mono ?_
      rintro e w1 ⟨rfl, b1⟩
      have hP := HW.out _ b1
      have hf1 : Fr (RdO b) w w1 := Fr.of_below b1
      have d1 : w1.cell? ⟨b + 2, 0, none⟩ = some (.func (.func 69) #[] #[.pointer (some ⟨b + 2, 0, none⟩), .pointer (some ⟨b, 0, none⟩), .pointer (some ⟨b + 1, 0, none⟩)]) := by rw [cells_of hP.walk]; rfl
      have d2 := (HK.out _ hf1).1
      have hC := H1.out _ hf1.drew hP.drew
      have HF1 := Lib.hid hf1
      clear hf1 hP b1 HW hD H1
      go_wp2_with fail
      go_region_held3 (fun V => V.cell? ⟨b + 2, 0, none⟩ = some (.func (.func 69) #[] #[.pointer (some ⟨b + 2, 0, none⟩), .pointer (some ⟨b, 0, none⟩), .pointer (some ⟨b + 1, 0, none⟩)]) ∧ V.cell? ⟨a, 1, none⟩ = some (.pointer (some ⟨p, 0, none⟩)))
        ((first | exact ⟨d1, d2⟩ | (go_split_ands; refine ⟨?_, ?_⟩ <;> first | assumption | go_keep)))
        (first
          | (go_at_call 69; refine hC.mono ?_; rintro e w3 ⟨rfl, hf3, r, hs1, hp1⟩; have d3 : w3.cell? ⟨b + 2, 0, none⟩ = some (.func (.func 69) #[] #[.pointer (some ⟨b + 2, 0, none⟩), .pointer (some ⟨b, 0, none⟩), .pointer (some ⟨b + 1, 0, none⟩)]) := (by rw [cells_of hp1.walk]; rfl); have d4 := (HK.out _ (HF1.out.drew.trans hf3)).1))
      have hF3 := HF1.out.drew.trans hf3
      have d5 := (HK.out _ hF3).2
      have hC2 := H2.out _ _ _ hF3.drew hp1.drew
      have HF3 := Lib.hid (And.intro hF3 (And.intro hs1 hp1))
      clear hF3 hf3 hs1 hp1 d1 d2 d4 hC H2
      go_wp2_with fail
      go_region_held3 (fun V => V.cell? ⟨b + 2, 0, none⟩ = some (.func (.func 69) #[] #[.pointer (some ⟨b + 2, 0, none⟩), .pointer (some ⟨b, 0, none⟩), .pointer (some ⟨b + 1, 0, none⟩)]) ∧ V.cell? ⟨a, 2, none⟩ = some (.pointer (some ⟨q, 0, none⟩)))
        ((first | exact ⟨d3, d5⟩ | (go_split_ands; refine ⟨?_, ?_⟩ <;> first | assumption | go_keep)))
        (first
          | (go_at_call 69; refine hC2.mono ?_; rintro e w4 ⟨rfl, hf4, r2, hs2, hp2⟩; have d6 : w4.cell? ⟨b + 2, 0, none⟩ = some (.func (.func 69) #[] #[.pointer (some ⟨b + 2, 0, none⟩), .pointer (some ⟨b, 0, none⟩), .pointer (some ⟨b + 1, 0, none⟩)]) := (by rw [cells_of hp2.walk]; rfl); have d7 := (HK.out _ (HF3.out.1.drew.trans hf4)).2))
      have HE := Lib.hid (HO.out _ w3 w4 HF1.out.drew HF3.out.1 ⟨r, HF3.out.2.1, HF3.out.2.2, r2, hs2, hp2, hf4⟩)
      clear hf4 hs2 hp2 d3 d5 d6 d7 hC2 HF3
      go_wp2
      refine bodyPost_ret (results_none rfl _ _ _) rfl ?_
      exact HE.out
def plWorld (w : World) : World := ((w.alloc (.cells #[.pointer none] 44)).alloc (.cells #[.int .i64 0] 3)).alloc (.cells #[.func (.func 69) #[] #[.pointer (some ⟨w.heap.size + 2, 0, none⟩), .pointer (some ⟨w.heap.size, 0, none⟩), .pointer (some ⟨w.heap.size + 1, 0, none⟩)]] 66)
theorem plWorld_st (w : World) : PlSt w.heap.size none 0 (plWorld w) ∧ Below w.heap.size w (plWorld w) := by
  refine ⟨⟨?_, ?_, ?_⟩, ?_⟩
  · unfold plWorld
    rw [Below.heap_alloc _ _ _ (by simp; omega), Below.heap_alloc _ _ _ (by simp), World.alloc_heap_new]
    rfl
  · unfold plWorld
    rw [Below.heap_alloc _ _ _ (by simp)]
    have := World.alloc_heap_new (w.alloc (.cells #[.pointer none] 44)) (.cells #[.int .i64 0] 3)
    rw [World.size_alloc] at this
    exact this
  · have := World.alloc_heap_new ((w.alloc (.cells #[.pointer none] 44)).alloc (.cells #[.int .i64 0] 3)) (.cells #[.func (.func 69) #[] #[.pointer (some ⟨w.heap.size + 2, 0, none⟩), .pointer (some ⟨w.heap.size, 0, none⟩), .pointer (some ⟨w.heap.size + 1, 0, none⟩)]] 66)
    rw [World.size_alloc, World.size_alloc] at this
    exact this
  · exact (((Below.refl _ _).alloc (Nat.le_refl _) _).alloc (by simp) _).alloc (by simp; omega) _
set_option maxHeartbeats 1000000 in
theorem place_calls {w : World} {t : Tr} {a : Nat} {F : List Nat} (h : TreeAt w t a F) (hd : t.deep ≤ 1000) : Calls Tryz.prog 55 #[.pointer (some ⟨a, 0, none⟩)] w fun e w' => ∃ r, e = .returned (.pointer (some ⟨r, 0, none⟩)) ∧ SpotIs w' t a r ∧ Below w.heap.size w w' := by
  obtain ⟨hW, hb⟩ := plWorld_st w
  have hC := place1_calls w.heap.size t hd _ a F none 0 (h.later hb) h.lt hW
  have c1 : (plWorld w).cell? ⟨w.heap.size + 2, 0, none⟩ = some (.func (.func 69) #[] #[.pointer (some ⟨w.heap.size + 2, 0, none⟩), .pointer (some ⟨w.heap.size, 0, none⟩), .pointer (some ⟨w.heap.size + 1, 0, none⟩)]) := by rw [cells_of hW.walk]; rfl
  have HB : Hid (∀ V r, Fr (RdO w.heap.size) (plWorld w) V → SpotIs (plWorld w) t a r → SpotIs V t a r ∧ Below w.heap.size w V) := fun V r hf hs =>
    ⟨hs.same (h.later hb) (fun q hq => hf.block q (by have := h.lt q hq; have := hb.size; omega) (fun e => by have := h.lt q hq; unfold RdO at e; omega)), hb.trans (hf.below (fun q e => by unfold RdO at e; omega) (by have := hb.size; omega))⟩
  clear h hd hb hW
  unfold plWorld at hC c1 HB
  go_enter Tryz.func55, Tryz.ntmps55
  go_wp2_with fail
  refine hC.mono ?_
  rintro e w1 ⟨rfl, hf, r, hs, hp⟩
  have c2 : w1.cell? ⟨w.heap.size, 0, none⟩ = some (.pointer (some ⟨r, 0, none⟩)) := by rw [cells_of hp.found]; rfl
  have H1 := Lib.hid (HB.out _ r hf hs)
  clear hf hs hp hC c1 HB
  go_wp2
  go_ret
  exact ⟨r, rfl, H1.out.1, H1.out.2⟩
end Go.Proofs.YtlpabhgfmkilnaaGreatDoor.L13
