/- Contract of members: whose a tree is, sorted. -/
import Derived.Test.YtlpabhgfmkilnaaTrWrite
namespace Go.Proofs.Ytlpabhgfmkilnaa.L13
open Go.ChangeShapes Go.WideShapes Go.ChangeAt Go.RowKit Go.Deep

attribute [local go_sem] store_func13
def intsV (l : List Nat) : List Value := l.map (fun p : Nat => Value.int .i64 (p : Int))
/-- The row under way at block b, the function value that walks behind it. -/
structure MbSt (b : Nat) (l : List Nat) (w : World) : Prop where
  size : b + 2 ≤ w.heap.size
  row : ∃ v, w.heap[b]? = some (.cells #[v] 49 (0, 0)) ∧ w.ownsRow (b + 2) 3 1 v l.length (intsV l)
  walk : w.cell? ⟨b + 1, 0, none⟩ = some (.func (.func 46) #[] #[.pointer (some ⟨b, 0, none⟩), .pointer (some ⟨b + 1, 0, none⟩)])
theorem MbSt.drew {b : Nat} {l : List Nat} {w : World} (h : MbSt b l w) : MbSt b l w.drew := ⟨h.size, h.row, h.walk⟩
def MbOut (b : Nat) (w : World) (l : List Nat) (e : Ending) (w' : World) : Prop := e = .returned (.tuple #[]) ∧ MbSt b l w' ∧ Fr (BdO b) w w'

set_option maxRecDepth 100000 in
set_option maxHeartbeats 4000000 in
theorem members1_leaf {b : Nat} {p : Nat} {w : World} {a : Nat} {F : List Nat} {l : List Nat} (h : TreeAt w (.leaf p) a F) (hW : MbSt b l w) (hl : l.length ≤ 1000) :
    Calls Try.prog 46 #[.pointer (some ⟨a, 0, none⟩), .pointer (some ⟨b, 0, none⟩), .pointer (some ⟨b + 1, 0, none⟩)] w (MbOut b w (l ++ [p])) := by
  obtain ⟨i0, hi0, hz0, hz1, hz2⟩ := info_parts L10.info_int10
  have hL := leaf_calls h
  rw [show Tr.isLeaf (.leaf p) = true from rfl] at hL
  obtain ⟨c0, _⟩ := h.leafCell
  obtain ⟨hs, ⟨v, hv, ho⟩, hk⟩ := hW
  have halt : a < w.heap.size := h.lt a h.head
  obtain ⟨W2, hW2⟩ : ∃ W2, w.alloc (.cells #[.int .i64 p] 3) = W2 := ⟨_, rfl⟩
  have b2 : Below w.heap.size w W2 := by rw [← hW2]; exact (Below.refl _ _).alloc (Nat.le_refl _) _
  have s2 : W2.heap.size = w.heap.size + 1 := by rw [← hW2]; simp
  have d0 : w.cell? ⟨b, 0, none⟩ = some v := by rw [cells_of hv]; rfl
  have d1 : W2.cell? ⟨b, 0, none⟩ = some v := (b2.cell (p := ⟨b, 0, none⟩) (by show b < _; omega)).trans d0
  have c1 : W2.cell? ⟨a, 0, none⟩ = some (.int .i64 p) := (b2.cell (p := ⟨a, 0, none⟩) halt).trans c0
  have HOwn := Lib.hid (L5.own_below ho (b2.drew))
  have hnews : ∀ (j : Nat) (u : Value), [Value.int .i64 (p : Int)][j]? = some u → W2.drew.cell? ((⟨w.heap.size, 0, none⟩ : Addr).add j) = some u := fun j u hu => by
    match j, hu with
    | 0, hu =>
      simp only [List.getElem?_cons_zero, Option.some.injEq] at hu
      subst hu
      rw [← hW2]
      exact func_new w _ _
  have HNews := Lib.hid hnews
  have hfin : ∀ g cap w6, w6.ownsRow (b + 2) 3 1 (.slice (some ⟨g, 0, none⟩) (l.length + 1) cap) (l.length + 1) (intsV l ++ [.int .i64 (p : Int)]) → W2.drew.grownBy w6 v.ownBlock →
      w6.cell? ⟨b, 0, none⟩ = some v ∧ w6.frozen? ⟨b, 0, none⟩ = false ∧ MbOut b w (l ++ [p]) (.returned (.tuple #[])) (w6.setCell ⟨b, 0, none⟩ (.slice (some ⟨g, 0, none⟩) (l.length + 1) cap)) := by
    intro g cap w6 k1 k2
    have hne : ∀ q, v.ownBlock = some q → b + 2 ≤ q := fun q e => (ho.lt q e).1
    have hb6 : w6.heap[b]? = some (.cells #[v] 49 (0, 0)) := (k2.block b (by show b < W2.heap.size; omega) (fun e => by have := hne b e.symm; omega)).trans ((b2.block b (by omega)).trans hv)
    have hf6 : Fr (BdO b) w w6 := (Fr.of_below b2.drew).trans ⟨k2.os, k2.tape, k2.output, k2.size, fun q hq hO => k2.block q hq (fun e => hO (.inr (hne q e.symm)))⟩
    have hf7 := hf6.set ⟨b, 0, none⟩ (.slice (some ⟨g, 0, none⟩) (l.length + 1) cap) (.inl rfl)
    refine ⟨by rw [cells_of hb6]; rfl, frozen_of hb6 0, rfl, ⟨by have := hf7.size; omega, ⟨_, set_blk hb6 _, ?_⟩, (World.cell?_of_block (hf7.block (b + 1) (by omega) (fun e => by unfold BdO at e; omega))).trans hk⟩, hf7⟩
    have e1 : intsV (l ++ [p]) = intsV l ++ [.int .i64 (p : Int)] := by simp [intsV]
    rw [e1, List.length_append]
    exact L5.own_same k1 (fun q e => Below.heap_setCell _ _ _ _ (by have := (k1.lt q e).1; show q ≠ b; omega))
  have HFin := Lib.hid hfin
  obtain ⟨x, y, z, rfl⟩ : ∃ x y z, v = .slice x y z := by
    obtain ⟨A, c, e⟩ := L5.own_slice ho
    exact ⟨A, _, c, e⟩
  have hln : (intsV l).length = l.length := by simp [intsV]
  clear h hv ho hk hnews hfin
  go_enter Try.func46, Try.ntmps46
  go_wp2_with (go_at_call 47; refine hL.mono ?_; rintro e w1 ⟨rfl, rfl⟩)
  go_region_law (first
    | (refine step_append_lies _ rfl (.tmp 6) (.tmp 11) 49 rfl (b + 2) 3 i0 (.int .i64 0) 1 8 Try.underlying49 hi0 hz0 hz1 hz2 rfl (by decide) (.slice x y z) l.length (intsV l) (by simp [Act.eval]) HOwn.out ⟨w1.heap.size, 0, none⟩ 1 1 [.int .i64 (p : Int)] (by simp [Act.eval]) rfl HNews.out (by simp [Value.oneCell']) (by decide) (by unfold maxLen; omega) (by omega) (by show b + 2 ≤ W2.heap.size; omega) W2.heap.size rfl ?_
       intro g cap w6 k1 k2 k3 k4
       obtain ⟨e0, e1, hM⟩ := HFin.out g cap w6 k1 k2
       have HM := Lib.hid hM
       clear k1 k2 k3 k4 hM))
  all_goals
    go_wp2
    refine bodyPost_ret (results_none rfl _ _ _) rfl ?_
    exact HM.out
set_option maxRecDepth 100000 in
set_option maxHeartbeats 4000000 in
theorem members1_calls (b : Nat) : ∀ (t : Tr) (w : World) (a : Nat) (F : List Nat) (l : List Nat), TreeAt w t a F → (∀ q ∈ F, q < b) → MbSt b l w → l.length + t.procs.length ≤ 1000 →
    Calls Try.prog 46 #[.pointer (some ⟨a, 0, none⟩), .pointer (some ⟨b, 0, none⟩), .pointer (some ⟨b + 1, 0, none⟩)] w (MbOut b w (l ++ t.procs)) := by
  intro t
  induction t with
  | leaf p =>
    intro w a F l h hF hW hl
    simp only [Tr.procs, List.length_cons, List.length_nil] at hl
    exact members1_leaf h hW (by omega)
  | node x y ihx ihy =>
    intro w a F l h hF hW hl
    have hL := leaf_calls h
    rw [show Tr.isLeaf (.node x y) = false from rfl] at hL
    obtain ⟨p, q, G, H, c0, c1, c2, tx, ty, rfl⟩ := h.cells12
    have hG : ∀ r ∈ G, r < b := fun r hr => hF r (by simp [hr])
    have hH : ∀ r ∈ H, r < b := fun r hr => hF r (by simp [hr])
    have hab := hF a (by simp)
    have hal := h.lt a (by simp)
    simp only [Tr.procs, List.length_append] at hl
    have hbo : ∀ q, q < b → ¬ BdO b q := fun q hq e => by unfold BdO at e; omega
    have hK : ∀ V, Fr (BdO b) w V → V.cell? ⟨a, 1, none⟩ = some (.pointer (some ⟨p, 0, none⟩)) ∧ V.cell? ⟨a, 2, none⟩ = some (.pointer (some ⟨q, 0, none⟩)) := fun V hf =>
      ⟨(World.cell?_of_block (hf.block a hal (hbo a hab))).trans c1, (World.cell?_of_block (hf.block a hal (hbo a hab))).trans c2⟩
    have HK := Lib.hid hK
    have d1 := hW.walk
    have hC := ihx w.drew p G l (tx.fr (Fr.refl (BdO b) w).drew (fun r hr => hbo r (hG r hr))) hG hW.drew (by omega)
    have H2 := Lib.hid (fun V (hf : Fr (BdO b) w V) (hb : MbSt b (l ++ x.procs) V) => ihy V q H (l ++ x.procs) (ty.fr hf (fun r hr => hbo r (hH r hr))) hH hb (by simp; omega))
    have hr : l ++ Tr.procs (.node x y) = l ++ x.procs ++ y.procs := by simp [Tr.procs]
    rw [hr]
    clear h hF hG hH hab hal hl hbo hK hW tx ty ihx ihy hr c0 c2
    generalize x.procs = tx at *
    generalize y.procs = ty at *
    go_enter Try.func46, Try.ntmps46
    go_wp2_with (first
      | (go_at_call 47; refine hL.mono ?_; rintro e w1 ⟨rfl, rfl⟩))
    go_region_held3 (fun V => V.cell? ⟨b + 1, 0, none⟩ = some (.func (.func 46) #[] #[.pointer (some ⟨b, 0, none⟩), .pointer (some ⟨b + 1, 0, none⟩)]) ∧ V.cell? ⟨a, 1, none⟩ = some (.pointer (some ⟨p, 0, none⟩)))
      ((first | exact ⟨d1, c1⟩ | (go_split_ands; refine ⟨?_, ?_⟩ <;> first | assumption | go_keep)))
      (first
        | (go_at_call 46; refine hC.mono ?_; rintro e w3 ⟨rfl, hW3, hf3⟩; have d3 := hW3.walk; have d4 := (HK.out _ ((Fr.refl (BdO b) w1).drew.trans hf3)).1))
    have hF3 := (Fr.refl (BdO b) w1).drew.trans hf3
    have d5 := (HK.out _ hF3).2
    have hC2 := H2.out _ hF3.drew hW3.drew
    have HF3 := Lib.hid hF3
    clear hF3 hf3 hW3 d1 c1 d4 hC
    go_wp2_with fail
    go_region_held3 (fun V => V.cell? ⟨b + 1, 0, none⟩ = some (.func (.func 46) #[] #[.pointer (some ⟨b, 0, none⟩), .pointer (some ⟨b + 1, 0, none⟩)]) ∧ V.cell? ⟨a, 2, none⟩ = some (.pointer (some ⟨q, 0, none⟩)))
      ((first | exact ⟨d3, d5⟩ | (go_split_ands; refine ⟨?_, ?_⟩ <;> first | assumption | go_keep)))
      (first
        | (go_at_call 46; refine hC2.mono ?_; rintro e w4 ⟨rfl, hW4, hf4⟩; have d6 := hW4.walk; have d7 := (HK.out _ (HF3.out.drew.trans hf4)).2))
    have HO : Hid (MbOut b w1 (l ++ tx ++ ty) (.returned (.tuple #[])) w4) := ⟨rfl, hW4, HF3.out.drew.trans hf4⟩
    clear hf4 hW4 d3 d5 d6 d7 hC2
    go_wp2
    refine bodyPost_end (results_none rfl _ _ _) rfl ?_
    exact HO.out
def mbWorld (w : World) : World := (w.alloc (.cells #[.slice none 0 0] 49)).alloc (.cells #[.func (.func 46) #[] #[.pointer (some ⟨w.heap.size, 0, none⟩), .pointer (some ⟨w.heap.size + 1, 0, none⟩)]] 76)
theorem mbWorld_st (w : World) : MbSt w.heap.size [] (mbWorld w) ∧ Below w.heap.size w (mbWorld w) := by
  refine ⟨⟨by simp [mbWorld], ⟨.slice none 0 0, ?_, World.ownsRow_nil _ _ _ _⟩, ?_⟩, ?_⟩
  · unfold mbWorld
    rw [Below.heap_alloc _ _ _ (by simp), World.alloc_heap_new]
  · have := func_new (w.alloc (.cells #[.slice none 0 0] 49)) (.func (.func 46) #[] #[.pointer (some ⟨w.heap.size, 0, none⟩), .pointer (some ⟨w.heap.size + 1, 0, none⟩)]) 76
    rw [World.size_alloc] at this
    exact this
  · exact ((Below.refl _ _).alloc (Nat.le_refl _) _).alloc (by simp) _
def Tr.ints (t : Tr) : List Int := t.procs.map (fun p : Nat => (p : Int))
/-- Whose it is, sorted. -/
def Tr.mems (t : Tr) : List Int := L10.sortL t.ints
theorem sort_calls {b : Nat} {l : List Nat} {w : World} (h : MbSt b l w) (hl : l.length ≤ 1000) : ∃ v, w.cell? ⟨b, 0, none⟩ = some v ∧ Calls Try.prog 48 #[v] w fun e w' =>
    e = .returned (.tuple #[]) ∧ w'.cell? ⟨b, 0, none⟩ = some v ∧ w'.ownsRow (b + 2) 3 1 v l.length ((L10.sortL (l.map (fun p : Nat => (p : Int)))).map (Value.int .i64)) ∧ Below b w w' := by
  obtain ⟨hs, ⟨v, hv, hrow⟩, _⟩ := h
  have c0 : w.cell? ⟨b, 0, none⟩ = some v := by rw [cells_of hv]; rfl
  refine ⟨v, c0, ?_⟩
  have e1 : intsV l = (l.map (fun p : Nat => (p : Int))).map (Value.int .i64) := by simp [intsV]
  rw [e1] at hrow
  have e2 : (l.map (fun p : Nat => (p : Int))).length = l.length := by simp
  generalize l.map (fun p : Nat => (p : Int)) = xs at *
  rw [← e2] at hrow hl ⊢
  rcases hrow.2 with ⟨rfl, hz⟩ | ⟨gb, cap, cur, rfl, hbase, hgb, r1, r2, r3, r4⟩
  · have hx : xs = [] := List.eq_nil_of_length_eq_zero hz
    subst hx
    refine (Try.slices_Sort_int_none none 0 w).mono ?_
    rintro e w' ⟨rfl, rfl⟩
    exact ⟨rfl, c0, by simpa [L10.sortL] using hrow, Below.refl _ _⟩
  · have hH : Go.Sort.Holds (Value.int .i64) w gb 0 xs.toArray := holds_of_blockI hgb (by simpa using r4)
    have hgl : gb < w.heap.size := (Array.getElem?_eq_some_iff.1 hgb).1
    refine (Try.slices_Sort_int gb 0 cap xs w hH hgl (by omega)).mono ?_
    rintro e w' ⟨rfl, nn, os, rfl⟩
    have hg : w.grownBy (Go.Sort.grow (Go.Sort.putRow (Value.int .i64) (Go.Sort.ahead w nn) gb 0 (L10.sortL xs).toArray) os) (some gb) := grownBy_sortedI _
    refine ⟨rfl, ?_, ownsRow_sortedI (List.length_mergeSort xs) hbase hgb r1 r2 r3, (Below.refl b w).grown hg (by omega) (fun k e => by cases e; omega)⟩
    rw [World.cell?_of_block (hg.block b (by omega) (fun e => by cases e; omega))]
    exact c0
set_option maxHeartbeats 1000000 in
theorem members_calls {w : World} {t : Tr} {a : Nat} {F : List Nat} (h : TreeAt w t a F) (hl : t.procs.length ≤ 1000) : Calls Try.prog 44 #[.pointer (some ⟨a, 0, none⟩)] w (L10.IntsOut w t.mems) := by
  obtain ⟨hW, hb⟩ := mbWorld_st w
  have hC := members1_calls w.heap.size t _ a F [] (h.later hb) h.lt hW (by simpa using hl)
  have c1 := hW.walk
  rw [List.nil_append] at hC
  have HB := Lib.hid (And.intro hb hW.size)
  have HS := Lib.hid (fun V (hV : MbSt w.heap.size t.procs V) => sort_calls hV hl)
  have hlen : t.mems.length = t.procs.length := by unfold Tr.mems; rw [L10.sortL_length]; simp [Tr.ints]
  have HN : Hid (∀ V v, V.ownsRow (w.heap.size + 2) 3 1 v t.procs.length ((L10.sortL (t.procs.map (fun p : Nat => (p : Int)))).map (Value.int .i64)) → Below w.heap.size w V → L10.IntsOut w t.mems (.returned v) V) :=
    fun V v ho hb => ⟨v, rfl, by rw [hlen]; exact L10.own_base ho (by omega), hb⟩
  clear h hl hb hW hlen
  unfold mbWorld at hC c1 HB
  go_enter Try.func44, Try.ntmps44
  go_wp2_with fail
  refine hC.mono ?_
  rintro e w1 ⟨rfl, hW1, hf1⟩
  obtain ⟨v, c2, hS⟩ := HS.out _ hW1
  have HB1 := Lib.hid (HB.out.1.trans (hf1.below (fun q e => by unfold BdO at e; omega) (by have := HB.out.2; omega)))
  clear hW1 hf1 hC c1 HS HB
  go_wp2_with (go_at_call 48; refine hS.mono ?_; rintro e w2 ⟨rfl, c3, ho, b2⟩; have HO := Lib.hid (HN.out _ _ ho (HB1.out.trans b2)); clear ho b2)
  go_ret
  exact HO.out
end Go.Proofs.Ytlpabhgfmkilnaa.L13
