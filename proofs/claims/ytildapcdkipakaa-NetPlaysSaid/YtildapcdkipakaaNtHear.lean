/- Contracts of net.Lie and net.Heard. -/
import Derived.Test.YtildapcdkipakaaNtTake
import Derived.Test.YtildapcdkipakaaShelfK
namespace Go.Proofs.Ytildapcdkipakaa.L8
open Go.ChangeShapes Go.WideShapes Go.ChangeAt Go.RowKit Go.Deep
open Go.Maps (Keyed has)
open Go.Proofs (encStr)

def strs (l : List Bytes) : List Value := l.map fun z => .string ⟨z.toArray⟩
theorem MapH.keys {W : World} {b n : Nat} {hs : List Bytes} (h : MapH W b n hs) : ∃ D : DataW Value, W.ownsMap Try.prog 34 heldE b n D ∧ hs.Perm (strKeys D) ∧ Maps.size D = hs.length := by
  obtain ⟨D, h1, h2, h3⟩ := h
  have hC : Collected D (fun _ => false) hs := ⟨h2, fun x => by rw [h3 x]; simp⟩
  have hp := hC.perm h1 keyed_term Try.underlying34 (fun _ => rfl)
  refine ⟨D, h1, hp, ?_⟩
  obtain ⟨es, hD, _⟩ := h1.keysOf
  rw [hp.length_eq, hD]
  simp [Maps.size, strKeys]
/-- What was heard, in order. -/
def inOrder (hs : List Bytes) : List Bytes := hs.mergeSort leB
theorem inOrder_len (hs : List Bytes) : (inOrder hs).length = hs.length := (List.mergeSort_perm hs leB).length_eq
section
variable {w : World} {B h : Nat} {l : List Dg} {v : Value} {b n : Nat} {hs : List Bytes}
def HeardOut (w : World) (hs : List Bytes) (e : Ending) (w' : World) : Prop := ∃ v, e = .returned v ∧ w'.ownsRow w.heap.size 34 1 v hs.length (strs (inOrder hs)) ∧ Below w.heap.size w w'
set_option maxHeartbeats 1000000 in
theorem Heard_calls (a : NtAt w B h l v b n hs) (hl : hs.length ≤ 1000000) : Calls Try.prog 17 #[.pointer (some ⟨h, 0, none⟩)] w (HeardOut w hs) := by
  obtain ⟨D, h1, h2, h3⟩ := a.map.keys
  obtain ⟨_, c1, _⟩ := a.cells
  have HK := Lib.hid (callsIn_wide.1 (Try.maps_Keys_39 (some b) w))
  have HS := Lib.hid (callsIn_wide.1 (Try.slices_Sorted_keys_38_39 b n D heldE w h1 (by unfold maxLen; omega) (by omega)))
  have HP := Lib.hid h2
  clear a h1 h2 h3 hl
  go_enter Try.func17, Try.ntmps17
  go_wp2_with fail
  refine HK.out.mono ?_
  rintro e w1 ⟨rfl, rfl⟩
  go_wp2_with fail
  refine HS.out.mono ?_
  rintro e w2 ⟨v', ss, rfl, k1, k2, _, k3⟩
  have HF : Hid (HeardOut w hs (.returned v') w2) := by
    have hb : Below w.heap.size w w2 := ((Below.refl _ w).alloc (Nat.le_refl _) _).trans (k3.mono (by simp))
    have hp : ss.Perm hs := k1.trans HP.out.symm
    have e1 : ss.mergeSort leB = inOrder hs := mergeSort_of_perm hp
    have e2 : ss.length = hs.length := hp.length_eq
    refine ⟨v', rfl, ?_, hb⟩
    rw [← e1, ← e2]
    exact ⟨k2.1, k2.2.imp id (fun ⟨g, cap, cur, a1, a2, a3⟩ => ⟨g, cap, cur, a1, by simp at a2; omega, a3⟩)⟩
  clear k1 k2 k3 HS HK HP
  go_wp2
  go_ret
  exact HF.out
def LieOut (w : World) (l : List Dg) (e : Ending) (w' : World) : Prop := ∃ v', e = .returned v' ∧ w'.ownsRow w.heap.size 36 3 v' l.length (flat l) ∧ Below w.heap.size w w'
set_option maxRecDepth 100000 in
set_option maxHeartbeats 1000000 in
theorem Clone_dgs (r : w.ownsRow B 36 3 v l.length (flat l)) (hl : l.length ≤ 1000000) : Calls Try.prog 37 #[v] w (LieOut w l) := by
  obtain ⟨i0, hi, hz0, hz1, hz2⟩ := info_parts8 info_dg
  have r' := r
  rcases r.2 with ⟨rfl, h0⟩ | ⟨g, cap, cur, rfl, _, hg, hc, _⟩
  · obtain rfl : l = [] := List.length_eq_zero_iff.1 h0
    clear r r' h0
    have q22 : ∀ (w : World) (a : Option Addr) (n c n' c' : Nat), (binOp .eql 47 (.slice a n c) (.slice none n' c')).run Try.prog w = .ok (.bool a.isNone) w := fun w a n c n' c' => Lib.run_eql_slice_nil w _ _ a n c n' c' Try.underlying47
    go_enter Try.func37, Try.ntmps37
    go_wp2
    go_ret
    exact ⟨_, rfl, ⟨rfl, .inl ⟨rfl, rfl⟩⟩, Below.refl _ _⟩
  · have hlit : (w.alloc (.cells #[] 36)).ownsRow w.heap.size 36 3 (.slice (some ⟨w.heap.size, 0, none⟩) 0 0) 0 [] :=
      ⟨rfl, .inr ⟨w.heap.size, 0, #[], rfl, Nat.le_refl _, heap_alloc_new _ _, Nat.le_refl _, by decide, rfl, rfl⟩⟩
    have hb : Below w.heap.size w (w.alloc (.cells #[] 36)) := (Below.refl _ w).alloc (Nat.le_refl _) _
    have hgl := (r'.lt g rfl).2
    have HNews : Hid (∀ (j : Nat) (u : Value), (flat l)[j]? = some u → (w.alloc (.cells #[] 36)).cell? ((⟨g, 0, none⟩ : Addr).add j) = some u) := fun j u hu => by
      have h1 := r'.cells (g := g) rfl j u hu
      rw [add_zero8] at h1 ⊢
      exact (hb.cell (p := ⟨g, j, none⟩) hgl).trans h1
    have HLit := Lib.hid hlit
    have HB := Lib.hid hb
    have HOne := Lib.hid (flat_one_cell l)
    have HLen := Lib.hid (flat_len l)
    have hsz : (w.alloc (.cells #[] 36)).heap.size = w.heap.size + 1 := by simp
    clear r r' hg hlit hb hgl
    have q22 : ∀ (w : World) (a : Option Addr) (n c n' c' : Nat), (binOp .eql 47 (.slice a n c) (.slice none n' c')).run Try.prog w = .ok (.bool a.isNone) w := fun w a n c n' c' => Lib.run_eql_slice_nil w _ _ a n c n' c' Try.underlying47
    go_enter Try.func37, Try.ntmps37
    go_wp2_with (at_builtin; refine wpList_append_own _ rfl _ _ 47 rfl w.heap.size 36 i0 (.agg #[.int .i64 0, .int .i64 0, .string ⟨#[]⟩]) 3 32 Try.underlying47 hi hz0 hz1 hz2 rfl (by decide) _ _ _ rfl HLit.out ⟨g, 0, none⟩ l.length cap (flat l) rfl HLen.out HNews.out HOne.out (by unfold maxLen; omega) (by omega) (by omega) ?_; intro v' w' hown hgrow _; have HF : Hid (LieOut w l (.returned v') w') := (by refine ⟨v', rfl, ?_, HB.out.grown hgrow (by omega) (fun k e => by cases e; exact Nat.le_refl _)⟩; have := hown; simp only [Nat.zero_add, List.nil_append] at this; exact this); clear hown hgrow)
    go_ret
    exact HF.out
set_option maxHeartbeats 400000 in
theorem Lie_calls (a : NtAt w B h l v b n hs) (hl : l.length ≤ 1000000) : Calls Try.prog 16 #[.pointer (some ⟨h, 0, none⟩)] w (LieOut w l) := by
  obtain ⟨c0, _, _⟩ := a.cells
  have HC := Lib.hid (Clone_dgs a.row hl)
  clear a hl
  go_enter Try.func16, Try.ntmps16
  go_wp2_with fail
  refine HC.out.mono ?_
  rintro e w1 ⟨v', rfl, k1, k2⟩
  have HF : Hid (LieOut w l (.returned v') w1) := ⟨v', rfl, k1, k2⟩
  clear k1 k2 HC
  go_wp2
  go_ret
  exact HF.out
end
end Go.Proofs.Ytildapcdkipakaa.L8
