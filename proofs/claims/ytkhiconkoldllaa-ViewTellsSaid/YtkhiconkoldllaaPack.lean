/- Contract of list.Pack: a message as a term; two right messages are one term just if they are one. -/
import Derived.Test.YtkhiconkoldllaaRowOf
import Derived.Test.YtkhiconkoldllaaLShown
import Derived.Test.YtkhiconkoldllaaLPut
import Derived.Test.YtkhiconkoldllaaRowFacts
namespace Go.Proofs.Ytkhiconkoldllaa
open Go.ChangeShapes Go.WideShapes Go.ChangeAt Go.RowKit

namespace Tm
theorem be8_one {a b : Nat} (ha : a < 18446744073709551616) (hb : b < 18446744073709551616) (h : be8 a = be8 b) : a = b := by
  simp only [be8, List.cons.injEq, and_true] at h
  obtain ⟨h7, h6, h5, h4, h3, h2, h1, h0⟩ := h
  have k : ∀ x y : Nat, UInt8.ofNat x = UInt8.ofNat y → x % 256 = y % 256 := by
    intro x y h
    have := congrArg UInt8.toNat h
    rwa [UInt8.toNat_ofNat', UInt8.toNat_ofNat'] at this
  have k7 := k _ _ h7
  have k6 := k _ _ h6
  have k5 := k _ _ h5
  have k4 := k _ _ h4
  have k3 := k _ _ h3
  have k2 := k _ _ h2
  have k1 := k _ _ h1
  have k0 := k _ _ h0
  clear h7 h6 h5 h4 h3 h2 h1 h0 k
  simp only [Nat.pow_zero, Nat.div_one] at k0
  omega
end Tm
theorem riseB_len {a : Int} {xs : List Int} (h : riseB a xs = true) (h0 : 0 ≤ a) (h8 : a ≤ 8) : a + xs.length ≤ 8 := by
  induction xs generalizing a with
  | nil => simpa using h8
  | cons y ys ih =>
    unfold riseB at h
    rw [Bool.and_eq_true] at h
    obtain ⟨h1, h2⟩ := h
    rw [withinB_iff] at h1
    have := ih h2 (by omega) (by omega)
    simp
    omega
theorem measureL_few {zs : List (List UInt8)} (h : (Tm.measureL zs).2 = 0) : zs.length ≤ 150 ∧ Tm.wrongIn zs = false := by
  unfold Tm.measureL at h
  by_cases c : 150 < zs.length ∨ Tm.wrongIn zs = true
  · rw [if_pos c] at h; simp at h
  · constructor
    · omega
    · cases hw : Tm.wrongIn zs with
      | false => rfl
      | true => exact absurd (.inr hw) c
theorem Msg.ok_all {m : Msg} (h : m.ok = true) : (∀ n ∈ m.nums, 0 ≤ n ∧ n ≤ 2147483647) ∧ m.mem.length ≤ 8 ∧ m.terms.length ≤ 150 ∧ Tm.wrongIn m.terms = false := by
  unfold Msg.ok Msg.okHead idB at h
  simp only [Bool.and_eq_true, decide_eq_true_eq, withinB_iff] at h
  obtain ⟨⟨⟨⟨⟨⟨k1, k2⟩, ⟨k3, k4⟩, k5, k6⟩, ⟨k7, k8⟩, k9, k10⟩, k11, k12⟩, hr⟩, hm⟩ := h
  have hl := riseB_len hr (by omega) (by omega)
  refine ⟨?_, by omega, (measureL_few hm).1, (measureL_few hm).2⟩
  intro n hn
  rcases List.mem_append.1 hn with hn | hn
  · unfold Msg.head at hn
    simp only [List.mem_cons, List.not_mem_nil, or_false] at hn
    omega
  · have := riseB_bound hr (by omega) n hn
    omega
def Msg.pack (m : Msg) : List UInt8 × Nat := if m.ok = true then Tm.putRow m.row else ([], 1)
theorem numL_len (n : Int) : (Tm.numL n).length = 9 := by simp [Tm.numL, Tm.be8_length]
theorem numL_inj {a b : Int} (ha : 0 ≤ a ∧ a ≤ 2147483647) (hb : 0 ≤ b ∧ b ≤ 2147483647) (h : Tm.numL a = Tm.numL b) : a = b := by
  have := Tm.be8_one (a := a.toNat) (b := b.toNat) (by omega) (by omega) (by simpa [Tm.numL] using h)
  omega
theorem numsL_inj {xs bs : List Int} (ha : ∀ a ∈ xs, 0 ≤ a ∧ a ≤ 2147483647) (hb : ∀ a ∈ bs, 0 ≤ a ∧ a ≤ 2147483647) (h : xs.map Tm.numL = bs.map Tm.numL) : xs = bs := by
  induction xs generalizing bs with
  | nil => cases bs with
    | nil => rfl
    | cons b bs => simp at h
  | cons a xs ih => cases bs with
    | nil => simp at h
    | cons b bs =>
      simp only [List.map_cons, List.cons.injEq] at h
      rw [numL_inj (ha a (by simp)) (hb b (by simp)) h.1, ih (fun x hx => ha x (by simp [hx])) (fun x hx => hb x (by simp [hx])) h.2]
theorem Msg.row_inj {a b : Msg} (ha : a.ok = true) (hb : b.ok = true) (h : a.row = b.row) : a = b := by
  obtain ⟨na, _, _⟩ := Msg.ok_all ha
  obtain ⟨nb, _, _⟩ := Msg.ok_all hb
  unfold Msg.row Msg.nums at h
  rw [List.map_append, List.map_append, List.append_assoc, List.append_assoc] at h
  obtain ⟨h1, h2⟩ := List.append_inj h (by rw [List.length_map, List.length_map]; rfl)
  have hh := numsL_inj (fun n hn => na n (List.mem_append.2 (.inl hn))) (fun n hn => nb n (List.mem_append.2 (.inl hn))) h1
  unfold Msg.head at hh
  simp only [List.cons.injEq] at hh
  obtain ⟨e1, e2, e3, e4, e5, e6, e7, _⟩ := hh
  obtain ⟨h3, h4⟩ := List.append_inj h2 (by rw [List.length_map, List.length_map]; omega)
  have hm := numsL_inj (fun n hn => na n (List.mem_append.2 (.inr hn))) (fun n hn => nb n (List.mem_append.2 (.inr hn))) h3
  cases a
  cases b
  simp_all
theorem Msg.pack_ok {m : Msg} {t : List UInt8} (h : m.pack = (t, 0)) : m.ok = true ∧ Tm.putRow m.row = (t, 0) := by
  unfold Msg.pack at h
  by_cases c : m.ok = true
  · rw [if_pos c] at h; exact ⟨c, h⟩
  · rw [if_neg c] at h; simp at h
theorem Msg.pack_inj {a b : Msg} {s t : List UInt8} (ha : a.pack = (s, 0)) (hb : b.pack = (t, 0)) : s = t ↔ a = b := by
  obtain ⟨oa, pa⟩ := Msg.pack_ok ha
  obtain ⟨ob, pb⟩ := Msg.pack_ok hb
  constructor
  · rintro rfl
    have h1 := (Tm.take_put pa).2
    have h2 := (Tm.take_put pb).2
    exact Msg.row_inj oa ob (congrArg Prod.fst (h1.symm.trans h2))
  · rintro rfl
    exact congrArg Prod.fst (ha.symm.trans hb)

set_option maxRecDepth 100000 in
set_option maxHeartbeats 4000000 in
theorem lpack_calls (m : Msg) (vm vt : Value) (w : World) (h : MsgA w m vm vt) (hnil : ∀ n c, vt = .slice none n c → c = 0) : Calls Try.prog 27 #[.agg (msgCells m vm vt)] w (Pair2 w m.pack) := by
  have hB : Below w.heap.size w (w.alloc (.cells (msgCells m vm vt) 51)) := (Below.refl _ w).alloc (Nat.le_refl _) _
  have hcs : ∀ V : World, Below (w.heap.size + 1) (w.alloc (.cells (msgCells m vm vt) 51)) V → ∀ j, V.cell? ⟨w.heap.size, j, none⟩ = (msgCells m vm vt)[j]? := fun V hb j => by
    have e1 := World.alloc_heap_new w (.cells (msgCells m vm vt) 51)
    have e2 : V.cell? ⟨w.heap.size, j, none⟩ = (w.alloc (.cells (msgCells m vm vt) 51)).cell? ⟨w.heap.size, j, none⟩ := hb.cell (p := ⟨w.heap.size, j, none⟩) (by simp)
    rw [e2]
    simp only [World.cell?]
    rw [e1]
    rfl
  have HCs : Hid (∀ V : World, Below (w.heap.size + 1) (w.alloc (.cells (msgCells m vm vt) 51)) V → V.cell? ⟨w.heap.size, 0, none⟩ = some (.int .i64 m.kind) ∧ V.cell? ⟨w.heap.size, 1, none⟩ = some (.int .i64 m.e1) ∧ V.cell? ⟨w.heap.size, 2, none⟩ = some (.int .i64 m.c1) ∧ V.cell? ⟨w.heap.size, 3, none⟩ = some (.int .i64 m.e2) ∧ V.cell? ⟨w.heap.size, 4, none⟩ = some (.int .i64 m.c2) ∧ V.cell? ⟨w.heap.size, 5, none⟩ = some (.int .i64 m.num) ∧ V.cell? ⟨w.heap.size, 6, none⟩ = some vm ∧ V.cell? ⟨w.heap.size, 7, none⟩ = some vt) := fun V hb => ⟨hcs V hb 0, hcs V hb 1, hcs V hb 2, hcs V hb 3, hcs V hb 4, hcs V hb 5, hcs V hb 6, hcs V hb 7⟩
  have HR := Lib.hid (fun (V : World) (hb : Below w.heap.size w V) => lright_calls m vm vt V (h.below hb))
  have HRow : Hid (m.ok = true → ∀ V : World, Below w.heap.size w V → Calls Try.prog 36 #[.agg (msgCells m vm vt)] V (RowOfOut V m.row)) := fun ho V hb => by
    obtain ⟨k1, k2, k3, _⟩ := Msg.ok_all ho
    exact rowOf_calls m vm vt V (h.below hb) (fun n hn => by have := k1 n hn; omega) k2 k3 hnil
  have HP : Hid (m.ok = true → ∀ V W v, RowOfOut V m.row (.returned v) W → Calls Try.prog 35 #[v] W (Pair2 W (Tm.putRow m.row))) := by
    intro ho V W v hv
    obtain ⟨v', e, hown, _⟩ := hv
    cases e
    obtain ⟨k1, k2, k3, k4⟩ := Msg.ok_all ho
    refine lput_calls _ _ _ (rowA_own hown ?_ ?_)
    · intro z hz
      unfold Msg.row at hz
      rcases List.mem_append.1 hz with hz | hz
      · obtain ⟨n, _, rfl⟩ := List.mem_map.1 hz
        rw [numL_len]; unfold maxLen; omega
      · exact h.terms.short z hz
    · unfold Msg.row Msg.nums
      simp [Msg.head]
      unfold maxLen
      omega
  unfold Msg.pack
  unfold msgCells at HCs HR HRow hB ⊢
  obtain ⟨W0, hW0⟩ : ∃ W0, w.alloc (.cells #[.int .i64 m.kind, .int .i64 m.e1, .int .i64 m.c1, .int .i64 m.e2, .int .i64 m.c2, .int .i64 m.num, vm, vt] 51) = W0 := ⟨_, rfl⟩
  have hs0 : W0.heap.size = w.heap.size + 1 := by rw [← hW0]; simp
  rw [hW0] at HCs hB
  have HB0 := Lib.hid hB
  have HS := Lib.hid hs0
  obtain ⟨y0, y1, y2, y3, y4, y5, y6, y7⟩ := HCs.out W0 (by rw [← hs0]; exact Below.refl _ _)
  clear hB hcs h
  cases ho : m.ok with
  | false =>
    rw [ho] at HR
    rw [if_neg (by simp)]
    clear HRow HP ho
    go_enter Try.func27, Try.ntmps27
    go_wp2_with fail
    refine (HR.out _ HB0.out).mono ?_
    rintro e w1 ⟨rfl, b1⟩
    have HB := Lib.hid (HB0.out.trans (b1.mono (by have := HS.out; omega)))
    clear b1
    go_wp2
    go_ret2
    exact ⟨rfl, HB.out⟩
  | true =>
    rw [ho] at HR
    rw [if_pos rfl]
    have HRow' := Lib.hid (HRow.out ho)
    have HP' := Lib.hid (HP.out ho)
    obtain ⟨⟨r1, r2⟩, hr⟩ : ∃ r, Tm.putRow m.row = r := ⟨_, rfl⟩
    rw [hr] at HP' ⊢
    clear HRow HP ho hr
    go_enter Try.func27, Try.ntmps27
    go_wp2_with fail
    refine (HR.out _ HB0.out).mono ?_
    rintro e w1 ⟨rfl, b1⟩
    have HB := Lib.hid (HB0.out.trans (b1.mono (by have := HS.out; omega)))
    obtain ⟨z0, z1, z2, z3, z4, z5, z6, z7⟩ := HCs.out w1 (by rw [← HS.out]; exact b1)
    clear b1
    go_wp2_with fail
    refine (HRow'.out _ HB.out).mono ?_
    rintro e w2 hro
    obtain ⟨v, rfl, _, b2⟩ := id hro
    have HB2 := Lib.hid (HB.out.trans (b2.mono HB.out.size))
    have HPP := Lib.hid (HP'.out _ _ _ hro)
    clear b2 hro
    go_wp2_with fail
    refine HPP.out.mono ?_
    rintro e w3 ⟨rfl, b3⟩
    have HB3 := Lib.hid (HB2.out.trans (b3.mono HB2.out.size))
    clear b3
    go_wp2
    go_ret2
    exact ⟨rfl, HB3.out⟩
end Go.Proofs.Ytkhiconkoldllaa
