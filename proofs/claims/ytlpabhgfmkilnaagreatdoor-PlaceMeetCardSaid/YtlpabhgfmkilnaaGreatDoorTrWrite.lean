/- Contract of write: a tree's text. -/
import Derived.Test.YtlpabhgfmkilnaaGreatDoorTrBld
namespace Go.Proofs.YtlpabhgfmkilnaaGreatDoor.L13
open Go.ChangeShapes Go.WideShapes Go.ChangeAt Go.RowKit Go.Deep

attribute [local go_sem] store_func13
/-- The builder at block b, the function value that walks behind it. -/
structure WrSt (b : Nat) (l : List UInt8) (w : World) : Prop where
  text : Bd b l w
  walk : w.cell? ⟨b + 1, 0, none⟩ = some (.func (.func 49) #[] #[.pointer (some ⟨b, 0, none⟩), .pointer (some ⟨b + 1, 0, none⟩)])
theorem WrSt.next {b : Nat} {l l2 : List UInt8} {w W : World} (h : WrSt b l w) (hb : Bd b l2 W) (hf : Fr (BdO b) w W) : WrSt b l2 W :=
  ⟨hb, (World.cell?_of_block (hf.block (b + 1) h.text.size (fun e => by unfold BdO at e; omega))).trans h.walk⟩
theorem Fr.drew {O : Nat → Prop} {w W : World} (h : Fr O w W) : Fr O w W.drew := ⟨h.os, h.tape, h.output, h.size, h.block⟩
theorem WrSt.drew {b : Nat} {l : List UInt8} {w : World} (h : WrSt b l w) : WrSt b l w.drew := ⟨⟨h.text.size, h.text.has⟩, h.walk⟩
theorem WrSt.drewN {b : Nat} {l : List UInt8} {w : World} (h : WrSt b l w) (n : Nat) : WrSt b l (w.drewN n) := ⟨⟨h.text.size, h.text.has⟩, h.walk⟩
def WrOut (b : Nat) (w : World) (l : List UInt8) (e : Ending) (w' : World) : Prop := e = .returned (.tuple #[]) ∧ WrSt b l w' ∧ Fr (BdO b) w w'
theorem TreeAt.leafCell {w : World} {p a : Nat} {F : List Nat} (h : TreeAt w (.leaf p) a F) : w.cell? ⟨a, 0, none⟩ = some (.int .i64 p) ∧ 1 ≤ p ∧ p ≤ 8 := ⟨by rw [cells_of h.1]; rfl, h.2.1⟩

set_option maxRecDepth 100000 in
set_option maxHeartbeats 4000000 in
theorem write1_calls (b : Nat) : ∀ (t : Tr) (w : World) (a : Nat) (F : List Nat) (l : List UInt8), TreeAt w t a F → (∀ q ∈ F, q < b) → WrSt b l w → l.length + t.text.length ≤ 1000 →
    Calls Tryz.prog 49 #[.pointer (some ⟨a, 0, none⟩), .pointer (some ⟨b, 0, none⟩), .pointer (some ⟨b + 1, 0, none⟩)] w (WrOut b w (l ++ t.text)) := by
  intro t
  induction t with
  | leaf p =>
    intro w a F l h hF hW hl
    have hL := leaf_calls h
    rw [show Tr.isLeaf (.leaf p) = true from rfl] at hL
    obtain ⟨c0, h1, h8⟩ := h.leafCell
    have hI := itoa_calls p h1 h8 w
    have hS := writeString_calls ⟨#[UInt8.ofNat (48 + p)]⟩ hW.text (by simp only [Tr.text, List.length_cons, List.length_nil] at hl; simp [ByteArray.size]; omega)
    have hO : Hid (∀ w', Bd b (l ++ [UInt8.ofNat (48 + p)]) w' → Fr (BdO b) w w' → WrOut b w (l ++ Tr.text (.leaf p)) (.returned (.tuple #[])) w') := fun w' hb hf => ⟨rfl, hW.next hb hf, hf⟩
    obtain ⟨r, hr⟩ : ∃ r, l ++ Tr.text (.leaf p) = r := ⟨_, rfl⟩
    rw [hr] at hO ⊢
    obtain ⟨s, hs⟩ : ∃ s : ByteArray, ⟨#[UInt8.ofNat (48 + p)]⟩ = s := ⟨_, rfl⟩
    have hs' : [UInt8.ofNat (48 + p)] = s.data.toList := by rw [← hs]
    rw [hs] at hI hS
    rw [hs'] at hO
    clear h hF hW hl hr hs hs'
    go_enter Tryz.func49, Tryz.ntmps49
    go_wp2_with (first
      | (go_at_call 34; refine hL.mono ?_; rintro e w1 ⟨rfl, rfl⟩)
      | (go_at_call 51; refine hI.mono ?_; rintro e w1 ⟨rfl, rfl⟩)
      | (go_at_call 50; refine hS.mono ?_; rintro e w1 ⟨rfl, hb, hf⟩; have HB := Lib.hid (hO.out _ hb hf); clear hb hf))
    refine bodyPost_ret (results_none rfl _ _ _) rfl ?_
    exact HB.out
  | node x y ihx ihy =>
    intro w a F l h hF hW hl
    have hL := leaf_calls h
    rw [show Tr.isLeaf (.node x y) = false from rfl] at hL
    obtain ⟨p, q, G, H, c0, c1, c2, tx, ty, rfl⟩ := h.cells12
    have hG : ∀ r ∈ G, r < b := fun r hr => hF r (by simp [hr])
    have hH : ∀ r ∈ H, r < b := fun r hr => hF r (by simp [hr])
    have hab := hF a (by simp)
    have hal := h.lt a (by simp)
    simp only [Tr.text, List.length_cons, List.length_append, List.length_nil] at hl
    have hS := writeByte_calls 40 hW.text (by omega)
    rw [show (40 : UInt8).toNat = 40 from rfl] at hS
    have hbo : ∀ q, q < b → ¬ BdO b q := fun q hq e => by unfold BdO at e; omega
    have hK : ∀ V, Fr (BdO b) w V → V.cell? ⟨a, 1, none⟩ = some (.pointer (some ⟨p, 0, none⟩)) ∧ V.cell? ⟨a, 2, none⟩ = some (.pointer (some ⟨q, 0, none⟩)) := fun V hf =>
      ⟨(World.cell?_of_block (hf.block a hal (hbo a hab))).trans c1, (World.cell?_of_block (hf.block a hal (hbo a hab))).trans c2⟩
    have HK := Lib.hid hK
    have HW := Lib.hid hW
    have H1 := Lib.hid (fun V (hf : Fr (BdO b) w V) (hb : WrSt b (l ++ [40]) V) => ihx V p G (l ++ [40]) (tx.fr hf (fun r hr => hbo r (hG r hr))) hG hb (by simp; omega))
    have H2 := Lib.hid (fun V (hf : Fr (BdO b) w V) (hb : WrSt b (l ++ [40] ++ x.text) V) => ihy V q H (l ++ [40] ++ x.text) (ty.fr hf (fun r hr => hbo r (hH r hr))) hH hb (by simp; omega))
    have H3 := Lib.hid (fun V (hb : WrSt b (l ++ [40] ++ x.text ++ y.text) V) => writeByte_calls 41 hb.text (by simp; omega))
    have hr : l ++ Tr.text (.node x y) = l ++ [40] ++ x.text ++ y.text ++ [41] := by simp [Tr.text]
    rw [hr]
    clear h hF hG hH hab hal hl hbo hK hW tx ty ihx ihy hr c0 c1 c2
    generalize x.text = tx at *
    generalize y.text = ty at *
    go_enter Tryz.func49, Tryz.ntmps49
    go_wp2_with (first
      | (go_at_call 34; refine hL.mono ?_; rintro e w1 ⟨rfl, rfl⟩)
      | (go_at_call 52; refine hS.mono ?_; rintro e w2 ⟨rfl, hb, hf⟩))
    have hW2 := HW.out.next hb hf
    have d1 := hW2.walk
    have d2 := (HK.out _ hf).1
    have hC := H1.out _ hf.drew hW2.drew
    have HF := Lib.hid hf
    clear hb hW2 hf hS hL
    go_region_held3 (fun V => V.cell? ⟨b + 1, 0, none⟩ = some (.func (.func 49) #[] #[.pointer (some ⟨b, 0, none⟩), .pointer (some ⟨b + 1, 0, none⟩)]) ∧ V.cell? ⟨a, 1, none⟩ = some (.pointer (some ⟨p, 0, none⟩)))
      ((first | exact ⟨d1, d2⟩ | (go_split_ands; refine ⟨?_, ?_⟩ <;> first | assumption | go_keep)))
      (first
        | (go_at_call 49; refine hC.mono ?_; rintro e w3 ⟨rfl, hW3, hf3⟩; have d3 := hW3.walk; have d4 := (HK.out _ (HF.out.drew.trans hf3)).1))
    have hF3 := HF.out.drew.trans hf3
    have d5 := (HK.out _ hF3).2
    have hC2 := H2.out _ hF3.drew hW3.drew
    have HF3 := Lib.hid hF3
    clear hF3 hf3 hW3 d1 d2 d4 hC
    go_wp2_with fail
    go_region_held3 (fun V => V.cell? ⟨b + 1, 0, none⟩ = some (.func (.func 49) #[] #[.pointer (some ⟨b, 0, none⟩), .pointer (some ⟨b + 1, 0, none⟩)]) ∧ V.cell? ⟨a, 2, none⟩ = some (.pointer (some ⟨q, 0, none⟩)))
      ((first | exact ⟨d3, d5⟩ | (go_split_ands; refine ⟨?_, ?_⟩ <;> first | assumption | go_keep)))
      (first
        | (go_at_call 49; refine hC2.mono ?_; rintro e w4 ⟨rfl, hW4, hf4⟩; have d6 := hW4.walk; have d7 := (HK.out _ (HF3.out.drew.trans hf4)).2))
    have hF4 := HF3.out.drew.trans hf4
    have hS := H3.out _ hW4
    have HF4 := Lib.hid (And.intro hF4 hW4)
    clear hF4 hf4 hW4 d3 d5 d6 d7 hC2
    rw [show (41 : UInt8).toNat = 41 from rfl] at hS
    go_wp2_with (go_at_call 52; refine hS.mono ?_; rintro e w5 ⟨rfl, hb, hf⟩)
    have HO : Hid (WrOut b w1 (l ++ [40] ++ tx ++ ty ++ [41]) (.returned (.tuple #[])) w5) := ⟨rfl, HF4.out.2.next hb hf, HF4.out.1.trans hf⟩
    clear hb hf hS
    go_wp2
    refine bodyPost_end (results_none rfl _ _ _) rfl ?_
    exact HO.out
def wrWorld (w : World) : World := (w.alloc (.cells #[.pointer none, .slice none 0 0] 81)).alloc (.cells #[.func (.func 49) #[] #[.pointer (some ⟨w.heap.size, 0, none⟩), .pointer (some ⟨w.heap.size + 1, 0, none⟩)]] 66)
theorem wrWorld_st (w : World) : WrSt w.heap.size [] (wrWorld w) ∧ Below w.heap.size w (wrWorld w) := by
  refine ⟨⟨⟨by simp [wrWorld], .pointer none, .slice none 0 0, ?_, .inl rfl, World.ownsRow_nil _ _ _ _⟩, ?_⟩, ?_⟩
  · unfold wrWorld
    rw [Below.heap_alloc _ _ _ (by simp), World.alloc_heap_new]
  · have := func_new (w.alloc (.cells #[.pointer none, .slice none 0 0] 81)) (.func (.func 49) #[] #[.pointer (some ⟨w.heap.size, 0, none⟩), .pointer (some ⟨w.heap.size + 1, 0, none⟩)]) 66
    rw [World.size_alloc] at this
    exact this
  · exact ((Below.refl _ _).alloc (Nat.le_refl _) _).alloc (by simp) _
set_option maxHeartbeats 1000000 in
theorem write_calls {w : World} {t : Tr} {a : Nat} {F : List Nat} (h : TreeAt w t a F) (hl : t.text.length ≤ 1000) : Calls Tryz.prog 31 #[.pointer (some ⟨a, 0, none⟩)] w fun e w' => e = .returned (.string ⟨t.text.toArray⟩) ∧ Below w.heap.size w w' := by
  obtain ⟨hW, hb⟩ := wrWorld_st w
  have hC := write1_calls w.heap.size t _ a F [] (h.later hb) h.lt hW (by simpa using hl)
  have c1 := hW.walk
  have hne : t.text ≠ [] := by cases t <;> simp [Tr.text]
  rw [List.nil_append] at hC
  have HB := Lib.hid (And.intro hb hW.text.size)
  have HN := Lib.hid (fun V (hb : Bd w.heap.size t.text V) => string_calls hb hne)
  clear h hl hb hW hne
  generalize t.text = x at *
  unfold wrWorld at hC c1 HB
  go_enter Tryz.func31, Tryz.ntmps31
  go_wp2_with fail
  refine hC.mono ?_
  rintro e w1 ⟨rfl, hW1, hf1⟩
  have hS := HN.out _ hW1.text
  have HB1 := Lib.hid (HB.out.1.trans (hf1.below (fun q e => by unfold BdO at e; omega) (by have := HB.out.2; omega)))
  clear hW1 hf1 hC c1 HN HB
  go_wp2_with (go_at_call 53; refine hS.mono ?_; rintro e w2 ⟨rfl, b2⟩)
  go_ret
  exact ⟨rfl, HB1.out.trans b2⟩
end Go.Proofs.YtlpabhgfmkilnaaGreatDoor.L13
