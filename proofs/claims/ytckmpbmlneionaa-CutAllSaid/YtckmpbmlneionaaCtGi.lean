/- Rows of ints that a law is handed, as they lie in memory. What a law of the second form is handed: rows of texts, logs and parts, as they lie in memory, and how much they hold. Rows of rows of ints that a law is handed. CutAll: all have, with what was missing, the same of each sender: as much as the one that had most. The statement CutAll: for every input the law returns true, and its arguments read as they did. -/
import Derived.Test.YtckmpbmlneionaaCtGc
import Derived.ChangeSlices
import Derived.Test.YtckmpbmlneionaaRows
import Derived.SliceStrings
import Derived.Deep.Slices
import Derived.Test.YtckmpbmlneionaaCtGh
import Derived.Test.YtckmpbmlneionaaCtGd
import Derived.Test.YtckmpbmlneionaaCtGe
import Derived.Deep.RegionLaw
import Derived.Laws.AppendOwn
section
namespace Go.Proofs.Ytckmpbmlneionaa.L11
open Go.ChangeShapes Go.WideShapes Go.ChangeAt Go.RowKit Go.Deep
section
variable {H : Type} {enc : TypeId × Value → H} {W : World}
set_option maxRecDepth 100000 in
theorem trod_ints {n : Nat} {c : Value} {x : DataW H × List MemPlace} (h : DataW.trod enc Try.prog W 0 (fun _ => true) true n 70 [c] = some x) : ∃ xs, IntsI W c xs := by
  rcases open_ints Try.underlying70 Try.underlying3 (by kernel_rfl) h with ⟨h0, _⟩ | ⟨a, len, cap, ss, hcs, _, hl, hm, hsl, _, hcell, hwf⟩
  · cases h0
    exact ⟨[], ⟨none, 0, rfl, fun j x hx => by simp at hx⟩, by simp⟩
  · cases hcs
    simp only [if_true] at hsl
    have hlen : (ss.take len).length = len := by simp; omega
    refine ⟨ss.take len, ⟨some a, cap, by rw [hlen], fun j x hx => ?_⟩, by rw [hlen]; omega⟩
    have hx0 := hx
    rw [List.getElem?_take] at hx
    have hjn : j < len := by
      rcases Nat.lt_or_ge j len with h | h
      · exact h
      · rw [if_neg (by omega)] at hx; cases hx
    rw [if_pos hjn] at hx
    have hc2 := hcell j (by omega)
    rw [List.getD, hx, Option.getD_some] at hc2
    have hlt := World.block_lt_of_cell? W _ hc2
    rw [addr_blockC] at hlt
    exact ⟨a, rfl, hlt, hc2, L5.i64_of_wf (hwf x (List.mem_of_getElem? hx))⟩
set_option maxRecDepth 100000 in
theorem open_irow {base : Nat} {v : Value} {d : DataW H} {ps : List MemPlace} (hval : Value.okWide Try.prog W .any base 70 v) (h : DataW.Trod enc Try.prog W 0 (fun _ => true) true 70 v d ps) : ∃ zs, IntsI W v zs := by
  obtain ⟨A, n, c, rfl⟩ := okWide_slice Try.underlying70 hval
  obtain ⟨fuel, hf⟩ := h
  exact trod_ints (c := .slice A n c) hf
end
end Go.Proofs.Ytckmpbmlneionaa.L11
end

section
namespace Go.Proofs.Ytckmpbmlneionaa.L11
open Go.ChangeShapes Go.WideShapes Go.ChangeAt Go.RowKit Go.Deep

theorem bulk_pos {H : Type} (d : DataW H) : 1 ≤ Rows.uptoBulk d := by
  cases d with
  | lit l => cases l <;> simp [Rows.uptoBulk]
  | nil => simp [Rows.uptoBulk]
  | ptr d => simp [Rows.uptoBulk]
  | slice x y => simp [Rows.uptoBulk]
  | agg x => simp [Rows.uptoBulk]
  | iface t d => simp [Rows.uptoBulk]
  | map x => simp [Rows.uptoBulk]
  | held h => simp [Rows.uptoBulk]
theorem bulk_mem {H : Type} {d : DataW H} {l : List (DataW H)} (h : d ∈ l) : Rows.uptoBulk d ≤ Rows.uptoBulkAll l := by
  induction l with
  | nil => simp at h
  | cons a r ih =>
    rw [Rows.uptoBulkAll]
    rcases List.mem_cons.1 h with rfl | h
    · omega
    · have := ih h; omega
theorem bulk_len {H : Type} (l : List (DataW H)) : l.length ≤ Rows.uptoBulkAll l := by
  induction l with
  | nil => simp
  | cons a r ih =>
    rw [Rows.uptoBulkAll, List.length_cons]
    have := bulk_pos a
    omega
section
variable {H : Type} {enc : TypeId × Value → H} {W : World}
set_option maxRecDepth 100000 in
theorem trod_texts {t e : TypeId} {n : Nat} {c : Value} {x : DataW H × List MemPlace} (ht : Try.prog.underlying t = some (.slice e)) (he : Try.prog.underlying e = some .string) (hc : Try.prog.cellsOf e = 1)
    (h : DataW.trod enc Try.prog W 0 (fun _ => true) true n t [c] = some x) : ∃ y : It, c = y.v ∧ ItAt W y ∧ y.l.length ≤ Rows.uptoBulk x.1 := by
  rcases open_strings ht he hc h with ⟨h0, hx⟩ | ⟨a, len, cap, ss, hcs, _, hl, hm, hsl, hx, hcell, hwf⟩
  · cases h0
    exact ⟨⟨none, 0, []⟩, rfl, ⟨Nat.le_refl _, by simp, fun _ => rfl, by simp, fun j z hz => by simp at hz⟩, by simp⟩
  · cases hcs
    simp only [if_true] at hsl
    have hlen : ((ss.take len).map fun s => s.data.toList).length = len := by simp; omega
    refine ⟨⟨some a, cap, (ss.take len).map fun s => s.data.toList⟩, by simp only [It.v, hlen], ⟨by simp only [hlen]; exact hl, hm, (fun e => by cases e), fun z hz => ?_, fun j z hz => ?_⟩, ?_⟩
    · obtain ⟨s, hs, rfl⟩ := List.mem_map.1 hz
      have := hwf s (List.mem_of_mem_take hs)
      simpa using this
    · simp only [List.getElem?_map] at hz
      obtain ⟨s, hs, rfl⟩ := Option.map_eq_some_iff.1 hz
      have hjn : j < len := by
        rw [List.getElem?_take] at hs
        rcases Nat.lt_or_ge j len with h | h
        · exact h
        · rw [if_neg (by omega)] at hs; cases hs
      rw [List.getElem?_take, if_pos hjn] at hs
      have hc2 := hcell j (by omega)
      rw [List.getD, hs, Option.getD_some] at hc2
      have hlt := World.block_lt_of_cell? W _ hc2
      rw [addr_blockC] at hlt
      refine ⟨a, rfl, hlt, ?_⟩
      rw [hc2]
    · rw [hx]
      simp only
      rw [Rows.uptoBulk, hlen]
      have := bulk_len (H := H) (Go.ChangeShapes.strs (ss.take len))
      have e : (Go.ChangeShapes.strs (H := H) (ss.take len)).length = len := by simp [Go.ChangeShapes.strs]; omega
      omega
theorem trod_rows {α : Type} [Inhabited α] {t e : TypeId} {k n : Nat} {c : Value} {x : DataW H × List MemPlace} (cells : α → List Value) (Q : α → Nat → Prop) (hmono : ∀ l b b', b ≤ b' → Q l b → Q l b') (ht : Try.prog.underlying t = some (.slice e)) (hk : Try.prog.cellsOf e = k) (hk0 : 0 < k)
    (hlen : ∀ l, (cells l).length = k) (hone : ∀ n cs x, DataW.trod enc Try.prog W 0 (fun _ => true) true n e cs = some x → ∃ l, cs = cells l ∧ Q l (Rows.uptoBulk x.1))
    (h : DataW.trod enc Try.prog W 0 (fun _ => true) true n t [c] = some x) : ∃ ls : List α, CellsA k W c (ls.map cells) ∧ (∀ l ∈ ls, Q l (Rows.uptoBulk x.1)) ∧ ls.length ≤ Rows.uptoBulk x.1 := by
  rcases open_slice ht h with ⟨h0, _⟩ | ⟨a, len, cap, m, nn, D, Pl, hcs, hb, hl, hm, hmm, hx, hi⟩
  · cases h0
    exact ⟨[], ⟨none, 0, rfl, by simp, fun j x hx => by simp at hx⟩, by simp, by simp⟩
  · cases hcs
    simp only [if_true] at hmm
    obtain ⟨V, hV⟩ := choose_lt (α := α) (p := fun i l => W.cells? 0 (a.add (i * Try.prog.cellsOf e)) (Try.prog.cellsOf e) = some (cells l) ∧ Q l (Rows.uptoBulk (D i))) (n := len) (fun i hin => by
      obtain ⟨cs', h1, h2⟩ := hi i (by omega)
      obtain ⟨l, rfl, hq⟩ := hone _ _ _ h2
      exact ⟨l, h1, hq⟩)
    have hbD : ∀ i, i < len → Rows.uptoBulk (D i) ≤ Rows.uptoBulk x.1 := fun i hin => by
      rw [hx]
      simp only
      rw [Rows.uptoBulk]
      have := bulk_mem (H := H) (d := D i) (l := (List.range len).map D) (List.mem_map.2 ⟨i, List.mem_range.2 hin, rfl⟩)
      omega
    have hlb : len ≤ Rows.uptoBulk x.1 := by
      rw [hx]
      simp only
      rw [Rows.uptoBulk]
      have := bulk_len (H := H) ((List.range len).map D)
      simp at this
      omega
    refine ⟨(List.range len).map V, ⟨some a, cap, by simp, by simp; omega, fun j y hy => ?_⟩, fun l hl => ?_, by simpa using hlb⟩
    · simp only [List.getElem?_map, Option.map_map] at hy
      obtain ⟨i, hij, rfl⟩ := Option.map_eq_some_iff.1 hy
      obtain ⟨hjl, hji⟩ : j < len ∧ i = j := by
        obtain ⟨h1, h2⟩ := List.getElem?_eq_some_iff.1 hij
        simp at h1 h2
        exact ⟨h1, h2.symm⟩
      subst hji
      obtain ⟨h1, _⟩ := hV i hjl
      rw [hk] at h1
      obtain ⟨_, _, hat⟩ := World.cells?_some h1
      have hat2 : ∀ o, o < k → W.cell? (a.add (i * k + o)) = (cells (V i))[o]? := by
        intro o ho
        rw [← add_add]
        exact hat o ho
      have b0 := hat2 0 hk0
      rw [List.getElem?_eq_getElem (by rw [hlen]; exact hk0)] at b0
      have hlt := World.block_lt_of_cell? W _ b0
      rw [addr_blockC] at hlt
      refine ⟨a, rfl, hlt, fun o u hu => ?_⟩
      have ho : o < k := by rw [← hlen (V i)]; exact (List.getElem?_eq_some_iff.1 hu).1
      rw [hat2 o ho]
      exact hu
    · obtain ⟨i, hi2, rfl⟩ := List.mem_map.1 hl
      have hin := List.mem_range.1 hi2
      exact hmono _ _ _ (hbD i hin) (hV i hin).2
instance : Inhabited It := ⟨⟨none, 0, []⟩⟩
instance : Inhabited Lg := ⟨⟨0, default⟩⟩
instance : Inhabited Pt := ⟨⟨0, 0, 0, default⟩⟩
instance : Inhabited Rp := ⟨⟨0, 0, 0, .bool false, []⟩⟩
theorem trod_intB {n : Nat} {c : Value} {x : DataW H × List MemPlace} (h : DataW.trod enc Try.prog W 0 (fun _ => true) true n 3 [c] = some x) : ∃ k : Int, c = .int .i64 k ∧ isInt k := by
  obtain ⟨k, hk, _, hw⟩ := DataW.trod_int Try.underlying3 h
  cases hk
  exact ⟨k, rfl, L5.i64_of_wf hw⟩
set_option maxRecDepth 100000 in
theorem trod_terms {n : Nat} {c : Value} {x : DataW H × List MemPlace} (h : DataW.trod enc Try.prog W 0 (fun _ => true) true n 30 [c] = some x) : ∃ y : It, c = y.v ∧ ItAt W y ∧ y.l.length ≤ Rows.uptoBulk x.1 :=
  trod_texts Try.underlying30 Try.underlying31 (by kernel_rfl) h
set_option maxRecDepth 100000 in
theorem log_cells {n : Nat} {cs : List Value} {x : DataW H × List MemPlace} (h : DataW.trod enc Try.prog W 0 (fun _ => true) true n 76 cs = some x) : ∃ l : Lg, cs = l.cells ∧ (ItAt W l.it ∧ isInt l.se) ∧ l.it.l.length ≤ Rows.uptoBulk x.1 := by
  have hC1 : Try.prog.cellsOf 3 = 1 := by kernel_rfl
  have hC2 : Try.prog.cellsOf 30 = 1 := by kernel_rfl
  have hC : Try.prog.cellsOf 76 = 2 := by kernel_rfl
  obtain ⟨xs, n', _, hx, hcl, hlen, hg⟩ := DataW.trod_struct Try.underlying76 h
  rw [hC] at hcl
  match cs, hcl with
  | [v0, v1], _ =>
    match xs, hlen with
    | [x0, x1], _ =>
      have h0 : DataW.trod enc Try.prog W 0 (fun _ => true) true n' 3 (([v0, v1].drop 0).take (Try.prog.cellsOf 3)) = some x0 := hg 0 _ rfl
      have h1 : DataW.trod enc Try.prog W 0 (fun _ => true) true n' 30 (([v0, v1].drop 1).take (Try.prog.cellsOf 30)) = some x1 := hg 1 _ rfl
      rw [hC1] at h0
      rw [hC2] at h1
      obtain ⟨k, rfl, hk⟩ := trod_intB (c := v0) h0
      obtain ⟨y, rfl, hy, hb⟩ := trod_terms (c := v1) h1
      refine ⟨⟨k, y⟩, rfl, ⟨hy, hk⟩, ?_⟩
      rw [hx]
      simp only [List.map_cons, List.map_nil]
      rw [Rows.uptoBulk]
      have := bulk_mem (d := x1.1) (l := [x0.1, x1.1]) (by simp)
      omega
set_option maxRecDepth 100000 in
theorem id_cells {n : Nat} {v0 v1 : Value} {x : DataW H × List MemPlace} (h : DataW.trod enc Try.prog W 0 (fun _ => true) true n 55 [v0, v1] = some x) : ∃ e c : Int, v0 = .int .i64 e ∧ v1 = .int .i64 c ∧ isInt e ∧ isInt c := by
  have hC1 : Try.prog.cellsOf 3 = 1 := by kernel_rfl
  obtain ⟨xs, n', _, hx, hcl, hlen, hg⟩ := DataW.trod_struct Try.underlying55 h
  match xs, hlen with
  | [x0, x1], _ =>
    have h0 : DataW.trod enc Try.prog W 0 (fun _ => true) true n' 3 (([v0, v1].drop 0).take (Try.prog.cellsOf 3)) = some x0 := hg 0 _ rfl
    have h1 : DataW.trod enc Try.prog W 0 (fun _ => true) true n' 3 (([v0, v1].drop 1).take (Try.prog.cellsOf 3)) = some x1 := hg 1 _ rfl
    rw [hC1] at h0 h1
    obtain ⟨e, rfl, he⟩ := trod_intB (c := v0) h0
    obtain ⟨c, rfl, hc⟩ := trod_intB (c := v1) h1
    exact ⟨e, c, rfl, rfl, he, hc⟩
set_option maxRecDepth 100000 in
theorem part_cells {n : Nat} {cs : List Value} {x : DataW H × List MemPlace} (h : DataW.trod enc Try.prog W 0 (fun _ => true) true n 60 cs = some x) : ∃ l : Pt, cs = l.cells ∧ (ItAt W l.it ∧ isInt l.ep ∧ isInt l.co ∧ isInt l.se) ∧ l.it.l.length ≤ Rows.uptoBulk x.1 := by
  have hC0 : Try.prog.cellsOf 55 = 2 := by kernel_rfl
  have hC1 : Try.prog.cellsOf 3 = 1 := by kernel_rfl
  have hC2 : Try.prog.cellsOf 30 = 1 := by kernel_rfl
  have hC : Try.prog.cellsOf 60 = 4 := by kernel_rfl
  obtain ⟨xs, n', _, hx, hcl, hlen, hg⟩ := DataW.trod_struct Try.underlying60 h
  rw [hC] at hcl
  match cs, hcl with
  | [v0, v1, v2, v3], _ =>
    match xs, hlen with
    | [x0, x1, x2], _ =>
      have h0 : DataW.trod enc Try.prog W 0 (fun _ => true) true n' 55 (([v0, v1, v2, v3].drop 0).take (Try.prog.cellsOf 55)) = some x0 := hg 0 _ rfl
      have h1 : DataW.trod enc Try.prog W 0 (fun _ => true) true n' 3 (([v0, v1, v2, v3].drop 2).take (Try.prog.cellsOf 3)) = some x1 := hg 1 _ rfl
      have h2 : DataW.trod enc Try.prog W 0 (fun _ => true) true n' 30 (([v0, v1, v2, v3].drop 3).take (Try.prog.cellsOf 30)) = some x2 := hg 2 _ rfl
      rw [hC0] at h0
      rw [hC1] at h1
      rw [hC2] at h2
      obtain ⟨e, c, rfl, rfl, he, hc⟩ := id_cells (v0 := v0) (v1 := v1) h0
      obtain ⟨k, rfl, hk⟩ := trod_intB (c := v2) h1
      obtain ⟨y, rfl, hy, hb⟩ := trod_terms (c := v3) h2
      refine ⟨⟨e, c, k, y⟩, rfl, ⟨hy, he, hc, hk⟩, ?_⟩
      rw [hx]
      simp only [List.map_cons, List.map_nil]
      rw [Rows.uptoBulk]
      have := bulk_mem (d := x2.1) (l := [x0.1, x1.1, x2.1]) (by simp)
      omega
set_option maxRecDepth 100000 in
theorem trod_logsB {n : Nat} {c : Value} {x : DataW H × List MemPlace} (h : DataW.trod enc Try.prog W 0 (fun _ => true) true n 22 [c] = some x) : ∃ ls : List Lg, LogsA W c ls ∧ (∀ l ∈ ls, l.it.l.length ≤ Rows.uptoBulk x.1) ∧ ls.length ≤ Rows.uptoBulk x.1 := by
  obtain ⟨ls, h1, h2, h3⟩ := trod_rows (α := Lg) (k := 2) Lg.cells (fun l b => (ItAt W l.it ∧ isInt l.se) ∧ l.it.l.length ≤ b) (fun l b b' hb h => ⟨h.1, Nat.le_trans h.2 hb⟩) Try.underlying22 (by kernel_rfl) (by omega) (fun _ => rfl) (fun n cs x h => by
    obtain ⟨l, e, h1, h2⟩ := log_cells h
    exact ⟨l, e, h1, h2⟩) h
  exact ⟨ls, ⟨h1, fun l hl => (h2 l hl).1⟩, fun l hl => (h2 l hl).2, h3⟩
set_option maxRecDepth 100000 in
theorem trod_partsB {n : Nat} {c : Value} {x : DataW H × List MemPlace} (h : DataW.trod enc Try.prog W 0 (fun _ => true) true n 23 [c] = some x) : ∃ ls : List Pt, PartsA W c ls ∧ (∀ l ∈ ls, l.it.l.length ≤ Rows.uptoBulk x.1) ∧ ls.length ≤ Rows.uptoBulk x.1 := by
  obtain ⟨ls, h1, h2, h3⟩ := trod_rows (α := Pt) (k := 4) Pt.cells (fun l b => (ItAt W l.it ∧ isInt l.ep ∧ isInt l.co ∧ isInt l.se) ∧ l.it.l.length ≤ b) (fun l b b' hb h => ⟨h.1, Nat.le_trans h.2 hb⟩) Try.underlying23 (by kernel_rfl) (by omega) (fun _ => rfl) (fun n cs x h => by
    obtain ⟨l, e, h1, h2⟩ := part_cells h
    exact ⟨l, e, h1, h2⟩) h
  exact ⟨ls, ⟨h1, fun l hl => (h2 l hl).1⟩, fun l hl => (h2 l hl).2, h3⟩
set_option maxRecDepth 100000 in
theorem open_logsB {base : Nat} {v : Value} {d : DataW H} {ps : List MemPlace} (hval : Value.okWide Try.prog W .any base 22 v) (h : DataW.Trod enc Try.prog W 0 (fun _ => true) true 22 v d ps) : ∃ ls : List Lg, LogsA W v ls ∧ (∀ l ∈ ls, l.it.l.length ≤ Rows.uptoBulk d) ∧ ls.length ≤ Rows.uptoBulk d := by
  obtain ⟨A, n, c, rfl⟩ := okWide_slice Try.underlying22 hval
  obtain ⟨fuel, hf⟩ := h
  exact trod_logsB (c := .slice A n c) hf
set_option maxRecDepth 100000 in
theorem open_partsB {base : Nat} {v : Value} {d : DataW H} {ps : List MemPlace} (hval : Value.okWide Try.prog W .any base 23 v) (h : DataW.Trod enc Try.prog W 0 (fun _ => true) true 23 v d ps) : ∃ ls : List Pt, PartsA W v ls ∧ (∀ l ∈ ls, l.it.l.length ≤ Rows.uptoBulk d) ∧ ls.length ≤ Rows.uptoBulk d := by
  obtain ⟨A, n, c, rfl⟩ := okWide_slice Try.underlying23 hval
  obtain ⟨fuel, hf⟩ := h
  exact trod_partsB (c := .slice A n c) hf
set_option maxRecDepth 100000 in
theorem open_strsB {base : Nat} {v : Value} {d : DataW H} {ps : List MemPlace} (hval : Value.okWide Try.prog W .any base 24 v) (h : DataW.Trod enc Try.prog W 0 (fun _ => true) true 24 v d ps) : ∃ y : It, v = y.v ∧ ItAt W y ∧ y.l.length ≤ Rows.uptoBulk d := by
  obtain ⟨A, n, c, rfl⟩ := okWide_slice Try.underlying24 hval
  obtain ⟨fuel, hf⟩ := h
  exact trod_texts (c := .slice A n c) Try.underlying24 Try.underlying9 (by kernel_rfl) hf
end
end Go.Proofs.Ytckmpbmlneionaa.L11
end

section
namespace Go.Proofs.Ytckmpbmlneionaa.L11
open Go.ChangeShapes Go.WideShapes Go.ChangeAt Go.RowKit Go.Deep

structure II (w : World) (v : Value) (xss : List (Value × List Int)) : Prop where
  cells : CellsA 1 w v (xss.map fun x => [x.1])
  its : ∀ x ∈ xss, IntsI w x.1 x.2
theorem II.below {w W : World} {v : Value} {xss : List (Value × List Int)} (h : II w v xss) (hb : Below w.heap.size w W) : II W v xss := ⟨h.cells.below hb, fun x hx => (h.its x hx).below hb⟩
theorem ii_read {w : World} {v : Value} {xss : List (Value × List Int)} (h : II w v xss) : ∃ A c, v = .slice A xss.length c ∧ xss.length ≤ maxLen ∧ ∀ (j : Nat) (x : Value × List Int), xss[j]? = some x → ∃ ad : Addr, A = some ad ∧ IntsI w x.1 x.2 ∧ ∀ V, Below w.heap.size w V → V.cell? (ad.add j) = some x.1 := by
  obtain ⟨A, c, e, hf, hr⟩ := h.cells
  rw [List.length_map] at e hf
  refine ⟨A, c, e, hf, fun j x hx => ?_⟩
  obtain ⟨ad, e2, hb, hc⟩ := hr j [x.1] (by rw [List.getElem?_map, hx]; rfl)
  refine ⟨ad, e2, h.its x (List.mem_of_getElem? hx), fun V hV => ?_⟩
  have := hc 0 x.1 rfl
  rw [Nat.mul_one, Nat.add_zero] at this
  exact (hV.cell (p := ad.add j) (by rw [addr_blockC]; exact hb)).trans this
section
variable {H : Type} {enc : TypeId × Value → H} {W : World}
instance : Inhabited (Value × List Int) := ⟨(.bool false, [])⟩
set_option maxRecDepth 100000 in
theorem open_iirow {base : Nat} {v : Value} {d : DataW H} {ps : List MemPlace} (hval : Value.okWide Try.prog W .any base 69 v) (h : DataW.Trod enc Try.prog W 0 (fun _ => true) true 69 v d ps) : ∃ xss, II W v xss := by
  obtain ⟨A, n, c, rfl⟩ := okWide_slice Try.underlying69 hval
  obtain ⟨fuel, hf⟩ := h
  have hC : Try.prog.cellsOf 70 = 1 := by kernel_rfl
  obtain ⟨ls, h1, h2, _⟩ := trod_rows (α := Value × List Int) (k := 1) (c := .slice A n c) (fun x => [x.1]) (fun x _ => IntsI W x.1 x.2) (fun _ _ _ _ h => h) Try.underlying69 hC (by omega) (fun _ => rfl) (fun n cs x h => by
    have hl : cs.length = 1 := by
      have := DataW.trod_slice Try.underlying70 h
      rcases this with ⟨rfl, _⟩ | ⟨a, len, cap, elems, rest, n, _, rfl, _⟩
      · rfl
      · rfl
    match cs, hl with
    | [v0], _ =>
      obtain ⟨xs, hx⟩ := trod_ints h
      exact ⟨(v0, xs), rfl, hx⟩) hf
  exact ⟨ls, h1, h2⟩
end
end Go.Proofs.Ytckmpbmlneionaa.L11
end

section
namespace Go.Proofs.Ytckmpbmlneionaa.L11
open Go.ChangeShapes Go.WideShapes Go.ChangeAt Go.RowKit Go.Deep

def flatA (l : List Rp) : List Value := (l.map Rp.cells).flatten
theorem flatA_snoc (l : List Rp) (x : Rp) : flatA (l ++ [x]) = flatA l ++ x.cells := by simp [flatA]
def zeroRa : Value := .agg #[.int .i64 0, .int .i64 0, .int .i64 0, .slice none 0 0]
theorem info_repA : (Try.prog.info? 73).map (fun i => (i.zero, i.size, i.bytes)) = some (some zeroRa, 4, 48) := by kernel_rfl
def intsV (xs : List Int) : List Value := xs.map fun x => .int .i64 x
/-- The greatest numbers, while those of the next one are looked at: those of the first s senders with it. -/
def msP (xss : List (Value × List Int)) (other : Int) (i s : Nat) : List Int :=
  [(if 0 < s then mostUp xss other (i + 1) 1 else mostUp xss other i 1 : Nat), (if 1 < s then mostUp xss other (i + 1) 2 else mostUp xss other i 2 : Nat), (if 2 < s then mostUp xss other (i + 1) 3 else mostUp xss other i 3 : Nat)]
def msI (xss : List (Value × List Int)) (other : Int) (i : Nat) : List Int := [(mostUp xss other i 1 : Nat), (mostUp xss other i 2 : Nat), (mostUp xss other i 3 : Nat)]
theorem msP_zero (xss : List (Value × List Int)) (other : Int) (i : Nat) : msP xss other i 0 = msI xss other i := rfl
theorem msP_get (xss : List (Value × List Int)) (other : Int) (i : Nat) {s : Nat} (hs : s < 3) : (msP xss other i s)[s]? = some ((mostUp xss other i (s + 1) : Nat) : Int) := by
  match s, hs with
  | 0, _ => rfl
  | 1, _ => rfl
  | 2, _ => rfl
theorem msP_set (xss : List (Value × List Int)) (other : Int) (i : Nat) {s : Nat} (hs : s < 3) : (msP xss other i s).set s ((mostUp xss other (i + 1) (s + 1) : Nat) : Int) = msP xss other i (s + 1) := by
  match s, hs with
  | 0, _ => rfl
  | 1, _ => rfl
  | 2, _ => rfl
theorem msP_done {xss : List (Value × List Int)} {other : Int} {i s : Nat} (hs : s ≤ 3) (h : ∀ t, s ≤ t → t < 3 → mostUp xss other (i + 1) (t + 1) = mostUp xss other i (t + 1)) : msP xss other i s = msI xss other (i + 1) := by
  unfold msP msI
  have h0 := h 0
  have h1 := h 1
  have h2 := h 2
  match s, hs with
  | 0, _ => simp [h0 (by omega) (by omega), h1 (by omega) (by omega), h2 (by omega) (by omega)]
  | 1, _ => simp [h1 (by omega) (by omega), h2 (by omega) (by omega)]
  | 2, _ => simp [h2 (by omega) (by omega)]
  | 3, _ => simp
/-- Two rows of other element types lie in other blocks. -/
theorem own_types {w : World} {B B' size size' : Nat} {e e' : TypeId} {v v' : Value} {n n' : Nat} {xs xs' : List Value} (h : w.ownsRow B e size v n xs) (h' : w.ownsRow B' e' size' v' n' xs') (hne : e ≠ e') : ∀ q, v.ownBlock = some q → v'.ownBlock ≠ some q := by
  intro q hq hq'
  rcases h.2 with ⟨rfl, _⟩ | ⟨g, cap, cur, rfl, _, h1, _⟩
  · cases hq
  · rcases h'.2 with ⟨rfl, _⟩ | ⟨g', cap', cur', rfl, _, h2, _⟩
    · cases hq'
    · cases hq
      cases hq'
      rw [h1] at h2
      cases h2
      exact hne rfl
/-- All but one block as it was. -/
structure But (q : Nat) (w W : World) : Prop where
  size : w.heap.size ≤ W.heap.size
  blk : ∀ b, b < w.heap.size → b ≠ q → W.heap[b]? = w.heap[b]?
theorem But.refl (q : Nat) (w : World) : But q w w := ⟨Nat.le_refl _, fun _ _ _ => rfl⟩
theorem But.set {q : Nat} {w W : World} (h : But q w W) (i : Nat) (u : Value) : But q w (W.setCell ⟨q, i, none⟩ u) := ⟨by have := h.size; simpa using this, fun b hb hn => (Below.heap_setCell _ _ _ _ (by simpa using hn)).trans (h.blk b hb hn)⟩
theorem OwnL.but {w W : World} {B : Nat} {v : Value} {ls : List Lg} {q : Nat} (h : OwnL w B v ls) {B' n c : Nat} {xs : List Value} (hq : w.ownsRow B' 3 1 (.slice (some ⟨q, 0, none⟩) n c) n xs) (hb : But q w W) : OwnL W B v ls :=
  ⟨L5.own_same h.own (fun g e => hb.blk g (h.own.lt g e).2 (fun e' => own_types h.own hq (of_decide_eq_true (by kernel_rfl)) g e (by rw [e']; rfl))), h.few,
    fun l hl => ⟨⟨L5.own_same (h.its l hl).1.own (fun g e => hb.blk g ((h.its l hl).1.own.lt g e).2 (fun e' => own_types (h.its l hl).1.own hq (of_decide_eq_true (by kernel_rfl)) g e (by rw [e']; rfl))), (h.its l hl).1.short⟩, (h.its l hl).2⟩⟩
theorem OwnL.lower {w : World} {B C : Nat} {v : Value} {ls : List Lg} (h : OwnL w B v ls) (hc : C ≤ B) : OwnL w C v ls := ⟨h.own.mono hc, h.few, fun l hl => ⟨⟨(h.its l hl).1.own.mono hc, (h.its l hl).1.short⟩, (h.its l hl).2⟩⟩
/-- While the reports are made. -/
structure AllAt (w : World) (xss : List (Value × List Int)) (other : Int) (q c i : Nat) (v6 : Value) (rs : List Rp) (ms : List Int) (wr : World) : Prop where
  len : rs.length = i
  reps : ∀ j r, rs[j]? = some r → RepAll xss other j r
  its : ∀ r ∈ rs, OwnL wr w.heap.size r.lv r.lg
  row : wr.ownsRow w.heap.size 73 4 v6 rs.length (flatA rs)
  most : wr.ownsRow w.heap.size 3 1 (.slice (some ⟨q, 0, none⟩) 3 c) 3 (intsV ms)
  below : Below w.heap.size w wr
def AllGo (w : World) (xss : List (Value × List Int)) (other : Int) (q c k : Nat) (v6 vi : Value) (wr : World) : Prop :=
  ∃ (i : Nat) (rs : List Rp), k + i = xss.length ∧ vi = .int .i64 i ∧ AllAt w xss other q c i v6 rs (msI xss other i) wr
/-- While the numbers of one are looked at: W is what lay ahead of that. -/
def MostGo (w W : World) (xss : List (Value × List Int)) (other : Int) (q c i k : Nat) (vi : Value) (wr : World) : Prop :=
  ∃ s : Nat, k + s = 3 ∧ vi = .int .i64 s ∧ wr.ownsRow w.heap.size 3 1 (.slice (some ⟨q, 0, none⟩) 3 c) 3 (intsV (msP xss other i s)) ∧ But q W wr ∧ Below w.heap.size w wr
theorem AllAt.but {w wr W : World} {xss : List (Value × List Int)} {other : Int} {q c i : Nat} {v6 : Value} {rs : List Rp} {ms ms' : List Int} (h : AllAt w xss other q c i v6 rs ms wr) (hb : But q wr W) (hm : W.ownsRow w.heap.size 3 1 (.slice (some ⟨q, 0, none⟩) 3 c) 3 (intsV ms')) (hB : Below w.heap.size w W) : AllAt w xss other q c i v6 rs ms' W :=
  ⟨h.len, h.reps, fun r hr => (h.its r hr).but h.most hb, L5.own_same h.row (fun g e => hb.blk g (h.row.lt g e).2 (fun e' => own_types h.row h.most (of_decide_eq_true (by kernel_rfl)) g e (by rw [e']; rfl))), hm, hB⟩
theorem AllAt.above {w wr V : World} {xss : List (Value × List Int)} {other : Int} {q c i : Nat} {v6 : Value} {rs : List Rp} {ms : List Int} (h : AllAt w xss other q c i v6 rs ms wr) (hV : Below wr.heap.size wr V) : AllAt w xss other q c i v6 rs ms V :=
  ⟨h.len, h.reps, fun r hr => (h.its r hr).below hV, L5.own_below h.row hV, L5.own_below h.most hV, h.below.trans (hV.mono h.below.size)⟩
theorem AllAt.add {w V W6 : World} {xss : List (Value × List Int)} {other : Int} {q c i : Nat} {v6 v' : Value} {rs : List Rp} {ms : List Int} {r : Rp} {o : Obj} (h : AllAt w xss other q c i v6 rs ms V) (hr : RepAll xss other i r) (hO : OwnL V w.heap.size r.lv r.lg)
    (k1 : W6.ownsRow w.heap.size 73 4 v' (i + 1) (flatA rs ++ r.cells)) (k2 : (V.alloc o).grownBy W6 v6.ownBlock) : AllAt w xss other q c (i + 1) v' (rs ++ [r]) ms W6 := by
  have k3 := (World.grownBy_alloc V o v6.ownBlock).trans k2
  refine ⟨by rw [List.length_append, h.len]; rfl, fun j x hx => ?_, fun x hx => ?_, ?_, ?_, h.below.grown k3 h.below.size (fun q e => (h.row.lt q e).1)⟩
  · rcases Nat.lt_or_ge j rs.length with hj | hj
    · rw [List.getElem?_append_left hj] at hx
      exact h.reps j x hx
    · rw [List.getElem?_append_right hj] at hx
      have h0 : j - rs.length = 0 := by
        have := (List.getElem?_eq_some_iff.1 hx).1
        simp at this
        omega
      rw [h0] at hx
      simp at hx
      subst hx
      have : j = i := by have := h.len; omega
      rw [this]
      exact hr
  · rcases List.mem_append.1 hx with hx | hx
    · exact (h.its x hx).grown h.row (of_decide_eq_true (by kernel_rfl)) (of_decide_eq_true (by kernel_rfl)) k3
    · obtain rfl := List.mem_singleton.1 hx
      exact hO.grown h.row (of_decide_eq_true (by kernel_rfl)) (of_decide_eq_true (by kernel_rfl)) k3
  · rw [flatA_snoc, List.length_append, h.len]
    exact k1
  · exact L5.own_same h.most (fun g e => k3.block g (h.most.lt g e).2 (fun e' => own_types h.most h.row (of_decide_eq_true (by kernel_rfl)) g e e'.symm))

theorem int_cell {w : World} {B q c s : Nat} {xs : List Int} {x : Int} (h : w.ownsRow B 3 1 (.slice (some ⟨q, 0, none⟩) 3 c) 3 (intsV xs)) (hs : s < 3) (hx : xs[s]? = some x) : w.cell? ⟨q, s, none⟩ = some (.int .i64 x) ∧ w.frozen? ⟨q, s, none⟩ = false := by
  refine ⟨?_, h.frozenAt s⟩
  rw [h.cellAt s (by omega)]
  simp [intsV, hx]
theorem int_store {w : World} {B q c : Nat} {xs : List Int} (h : w.ownsRow B 3 1 (.slice (some ⟨q, 0, none⟩) 3 c) 3 (intsV xs)) (s : Nat) (x : Int) : (w.setCell ⟨q, s, none⟩ (.int .i64 x)).ownsRow B 3 1 (.slice (some ⟨q, 0, none⟩) 3 c) 3 (intsV (xs.set s x)) := by
  have : intsV (xs.set s x) = (intsV xs).set s (.int .i64 x) := by simp [intsV, List.map_set]
  rw [this]
  exact (h.stored s (.int .i64 x)).1
/-- Two stores behind the first cell of a block of four. -/
theorem store_mid {W : World} {b : Nat} {t : TypeId} {a0 a1 a2 a3 : Value} (n1 n2 : Value) (h : W.heap[b]? = some (.cells #[a0, a1, a2, a3] t (0, 0))) :
    ∃ u1 u2 : World, (W.setCell ⟨b, 1, none⟩ n1 = u1 ∧ W.cell? ⟨b, 1, none⟩ = some a1 ∧ W.frozen? ⟨b, 1, none⟩ = false) ∧ (u1.setCell ⟨b, 2, none⟩ n2 = u2 ∧ u1.cell? ⟨b, 2, none⟩ = some a2 ∧ u1.frozen? ⟨b, 2, none⟩ = false) ∧
      u2.heap[b]? = some (.cells #[a0, n1, n2, a3] t (0, 0)) ∧ Below b W u2 ∧ u2.heap.size = W.heap.size := by
  have hs : ∀ {V : World} {i : Nat} {cs : Array Value} (_ : V.heap[b]? = some (.cells cs t (0, 0))) (v : Value), (V.setCell ⟨b, i, none⟩ v).heap[b]? = some (.cells (cs.setIfInBounds i v) t (0, 0)) := by
    intro V i cs h v
    obtain ⟨hlt, hk⟩ := Array.getElem?_eq_some_iff.1 h
    show (V.heap.modify b _)[b]? = _
    rw [Array.getElem?_eq_getElem (by rw [Array.size_modify]; exact hlt), Array.getElem_modify_self, hk]
    rfl
  have h1 := hs (i := 1) h n1
  have h2 := hs (i := 2) h1 n2
  have hf : ∀ {V : World} {cs : Array Value} (_ : V.heap[b]? = some (.cells cs t (0, 0))) (i : Nat), V.frozen? ⟨b, i, none⟩ = false := fun h i => by simp [World.frozen?, h]
  exact ⟨_, _, ⟨rfl, box_cell h 1, hf h 1⟩, ⟨rfl, box_cell h1 2, hf h1 2⟩, h2, ((Below.refl b W).setCell (by simp) n1).setCell (by simp) n2, by simp⟩
theorem nOf_ms (xss : List (Value × List Int)) (other : Int) (i : Nat) {s : Nat} (h1 : 1 ≤ s) (h3 : s ≤ 3) : nOf (msI xss other i) s = mostUp xss other i s := by
  have h5 := mostUp_five xss other i s
  have hp : pickN ((mostUp xss other i s : Nat) : Int) 6 = mostUp xss other i s := by
    unfold pickN
    rw [if_neg (by omega)]
    simp
    omega
  unfold nOf
  rw [if_pos (by simp [msI]; omega)]
  match s, h1, h3 with
  | 1, _, _ => exact hp
  | 2, _, _ => exact hp
  | 3, _, _ => exact hp
theorem rowsC_congr {f g : Nat → Nat} {t : Nat} (h : ∀ s, 1 ≤ s → s ≤ t → f s = g s) : rowsC f t = rowsC g t := by
  induction t with
  | zero => rfl
  | succ t ih => rw [rowsC_succ, rowsC_succ, ih (fun s h1 h2 => h s h1 (by omega)), rowOne, rowOne, h (t + 1) (by omega) (by omega)]
theorem ints_lie {w : World} {B q c : Nat} {xs : List Int} (h : w.ownsRow B 3 1 (.slice (some ⟨q, 0, none⟩) 3 c) 3 (intsV xs)) (hl : xs.length = 3) (hi : ∀ x ∈ xs, isInt x) : IntsI w (.slice (some ⟨q, 0, none⟩) 3 c) xs := by
  refine ⟨⟨_, c, by rw [hl], fun j x hx => ⟨_, rfl, (h.lt q rfl).2, ?_, hi x (List.mem_of_getElem? hx)⟩⟩, by rw [hl]; unfold maxLen; omega⟩
  have hj := (List.getElem?_eq_some_iff.1 hx).1
  rw [add_zeroC]
  exact (int_cell h (by omega) hx).1
/-- While one's items of a sender are put one behind the other: w0 is what lay ahead of that. -/
def GathGo (w0 : World) (ls : List Lg) (s : Int) (pre : List Bytes) (B : Nat) (k : Nat) (v vj : Value) (wr : World) : Prop :=
  ∃ (j : Nat) (zs : List Bytes), k + j = ls.length ∧ vj = .int .i64 j ∧ zs = pre ++ gath ((ls.map Lg.core).take j) s ∧ zs.length ≤ B + 5 * j ∧ (∀ z ∈ zs, z.length ≤ maxLen) ∧ wr.ownsRow w0.heap.size 31 1 v zs.length (txt zs) ∧ Below w0.heap.size w0 wr
theorem gath_next {ls : List Lg} {j : Nat} {l : Lg} (h : ls[j]? = some l) (s : Int) : gath ((ls.map Lg.core).take (j + 1)) s = gath ((ls.map Lg.core).take j) s ++ (if l.se = s then l.it.l else []) := by
  have e : (ls.map Lg.core).take (j + 1) = (ls.map Lg.core).take j ++ [l.core] := by rw [List.take_add_one, List.getElem?_map, h]; rfl
  rw [e, gath_snoc]
  rfl
theorem gath_more {w0 wr : World} {ls : List Lg} {s : Int} {pre : List Bytes} {B j g : Nat} {l : Lg} {v : Value} {zs : List Bytes} (hk : g + 1 + j = ls.length) (hl : ls[j]? = some l) (he : zs = pre ++ gath ((ls.map Lg.core).take j) s) (hn : zs.length ≤ B + 5 * j) (hz : ∀ z ∈ zs, z.length ≤ maxLen)
    (hrow : wr.ownsRow w0.heap.size 31 1 v zs.length (txt zs)) (hB : Below w0.heap.size w0 wr) (h5 : l.it.l.length ≤ 5) (hi : ItAt wr l.it) :
    (l.se ≠ s → ∀ V, Below wr.heap.size wr V → GathGo w0 ls s pre B g v (.int .i64 ((j + 1 : Nat) : Int)) V) ∧
    (l.se = s → ∀ V, Below wr.heap.size wr V → V.ownsRow w0.heap.size 31 1 v zs.length (txt zs) ∧ ItAt V l.it ∧ w0.heap.size ≤ V.heap.size ∧
      ∀ v' W, W.ownsRow w0.heap.size 31 1 v' (zs.length + l.it.l.length) (txt zs ++ txt l.it.l) → V.grownBy W v.ownBlock → GathGo w0 ls s pre B g v' (.int .i64 ((j + 1 : Nat) : Int)) W) := by
  constructor
  · intro hne V hV
    refine ⟨j + 1, zs, by omega, rfl, ?_, by omega, hz, L5.own_below hrow hV, hB.trans (hV.mono hB.size)⟩
    rw [gath_next hl, if_neg hne, List.append_nil, he]
  · intro heq V hV
    have hr := L5.own_below hrow hV
    have hb := hB.trans (hV.mono hB.size)
    refine ⟨hr, hi.below hV, hb.size, fun v' W k1 k2 => ⟨j + 1, zs ++ l.it.l, by omega, rfl, ?_, by rw [List.length_append]; omega, fun z hz' => ?_, by rw [List.length_append, txt, List.map_append]; exact k1, hb.grown k2 hb.size (fun q e => (hr.lt q e).1)⟩⟩
    · rw [gath_next hl, if_pos heq, he, List.append_assoc]
    · rcases List.mem_append.1 hz' with h | h
      · exact hz z h
      · exact hi.short z h
/-- While all but one are looked at: w3 is what lay ahead. -/
def EachGo (w3 : World) (n k : Nat) (vi : Value) (wr : World) : Prop := ∃ i : Nat, k + i = n ∧ vi = .int .i64 i ∧ Below w3.heap.size w3 wr
theorem AllAt.reports {w wr : World} {xss : List (Value × List Int)} {other : Int} {q c i : Nat} {v6 : Value} {rs : List Rp} {ms : List Int} (h : AllAt w xss other q c i v6 rs ms wr) (h8 : i ≤ 8) : RepsA wr v6 rs := by
  refine ⟨?_, fun r hr => ?_⟩
  · have := CellsA.of_own (cs := rs.map Rp.cells) (by rw [List.length_map]; exact h.row) (rp_four rs) (by rw [List.length_map, h.len]; unfold maxLen; omega)
    exact this
  · obtain ⟨j, hj, e⟩ := List.mem_iff_getElem.1 hr
    obtain ⟨x, _, _, ho⟩ := h.reps j r (by rw [List.getElem?_eq_getElem hj, e])
    refine ⟨(h.its r hr).logs, ?_⟩
    rcases ho with ⟨_, e1, e2⟩ | ⟨_, e1, e2⟩ <;> rw [e1, e2]
    · exact ⟨isInt_small 5 (by omega), isInt_small 1 (by omega)⟩
    · exact ⟨isInt_small 0 (by omega), isInt_small 0 (by omega)⟩
theorem AllAt.few {w wr : World} {xss : List (Value × List Int)} {other : Int} {q c i : Nat} {v6 : Value} {rs : List Rp} {ms : List Int} (h : AllAt w xss other q c i v6 rs ms wr) : (rs.flatMap ptsOf).length ≤ 3 * i := by
  rw [← h.len]
  have hr := h.reps
  clear h
  have key : ∀ l : List Rp, (∀ r ∈ l, r.lg.length ≤ 3) → (l.flatMap ptsOf).length ≤ 3 * l.length := by
    intro l
    induction l with
    | nil => simp
    | cons a l ih =>
      intro hl
      have h1 := ih (fun r hr => hl r (by simp [hr]))
      have h2 := hl a (by simp)
      have h3 : (ptsOf a).length = a.lg.length := by simp [ptsOf]
      rw [List.flatMap_cons, List.length_append, List.length_cons]
      omega
  refine key rs (fun r hr' => ?_)
  obtain ⟨j, hj, e⟩ := List.mem_iff_getElem.1 hr'
  obtain ⟨x, _, hc, _⟩ := hr j r (by rw [List.getElem?_eq_getElem hj, e])
  have := congrArg List.length hc
  rw [List.length_map] at this
  rw [this]
  exact rowsC_len _ _
theorem AllAt.short {w wr : World} {xss : List (Value × List Int)} {other : Int} {q c i : Nat} {v6 : Value} {rs : List Rp} {ms : List Int} (h : AllAt w xss other q c i v6 rs ms wr) : ∀ p ∈ cutP rs, p.it.l.length ≤ 5 := fun p hp => by
  have hpm : p ∈ rs.flatMap ptsOf := by
    rcases fold_mem hp with h | ⟨h, _⟩
    · simp at h
    · exact h
  obtain ⟨j, x, s, _, _, _, _, _, e, _⟩ := all_pts h.reps hpm
  rw [e, numsL_len]
  exact nOf_five _ _
theorem core_short {ps ps' : List Pt} (h : ps.map Pt.core = ps'.map Pt.core) {n : Nat} (hs : ∀ p ∈ ps', p.it.l.length ≤ n) : ∀ p ∈ ps, p.it.l.length ≤ n := fun p hp => by
  have hm : p.core ∈ ps'.map Pt.core := by rw [← h]; exact List.mem_map.2 ⟨p, hp, rfl⟩
  obtain ⟨p', hp', e⟩ := List.mem_map.1 hm
  have : p'.it.l = p.it.l := congrArg (fun c : Core => c.2.2.2) e
  rw [← this]
  exact hs p' hp'
theorem miss_short {cs : List Core} {ep co : Int} {lc : List LCore} {n : Nat} (h : ∀ c ∈ cs, c.2.2.2.length ≤ n) : (missC cs ep co lc).length ≤ cs.length ∧ ∀ c ∈ missC cs ep co lc, c.2.length ≤ n := by
  unfold missC
  induction cs with
  | nil => simp
  | cons a cs ih =>
    obtain ⟨h1, h2⟩ := ih (fun c hc => h c (by simp [hc]))
    have ha := h a (by simp)
    rw [List.flatMap_cons, List.length_append, List.length_cons]
    have h3 : (missOne ep co lc a).length ≤ 1 ∧ ∀ c ∈ missOne ep co lc a, c.2.length ≤ n := by
      unfold missOne
      split
      · refine ⟨by simp, fun c hc => ?_⟩
        simp at hc
        subst hc
        simp only [List.length_drop]
        omega
      · simp
    refine ⟨by omega, fun c hc => ?_⟩
    rcases List.mem_append.1 hc with hc | hc
    · exact h3.2 c hc
    · exact h2 c hc
theorem rows_short {f : Nat → Nat} {t : Nat} (hf : ∀ s, f s ≤ 5) : ∀ c ∈ rowsC f t, c.2.length ≤ 5 := fun c hc => by
  obtain ⟨s, _, _, _, rfl⟩ := rowsC_mem hc
  rw [numsL_len]
  exact hf s
theorem lg_short {ls : List Lg} {lc : List LCore} {n : Nat} (h : ls.map Lg.core = lc) (hs : ∀ c ∈ lc, c.2.length ≤ n) : ∀ l ∈ ls, l.it.l.length ≤ n := fun l hl => hs l.core (by rw [← h]; exact List.mem_map.2 ⟨l, hl, rfl⟩)
set_option maxRecDepth 100000 in
set_option maxHeartbeats 8000000 in
theorem all_law {v : Value} {xss : List (Value × List Int)} {other : Int} (hoi : isInt other) (w : World) (h : II w v xss) : Calls Try.prog 6 #[v, .int .i64 other] w (One w (.bool true)) := by
  obtain ⟨i0, hi, hz0, hz1, hz2⟩ := info_partsC info_repA
  obtain ⟨j0, hj, hy0, hy1, hy2⟩ := info_parts info_int11
  obtain ⟨k0, hk0, hx0, hx1, hx2⟩ := info_parts info_term
  have HSh := Lib.hid (shown_calls w)
  have HI := Lib.hid h
  obtain ⟨A, c, rfl, hf, _⟩ := ii_read h
  unfold maxLen at hf
  clear h
  by_cases h0 : xss.length = 0
  · have z0 : ((xss.length : Int) == 0) = true := by simp [h0]
    go_enter Try.func6, Try.ntmps6
    go_wp2_with fail
    refine HSh.out.mono ?_
    rintro e w1 ⟨rfl, b1⟩
    have HF := Lib.hid b1
    clear b1
    rw [h0]
    go_wp2
    go_ret
    exact ⟨rfl, HF.out⟩
  have z0 : ((xss.length : Int) == 0) = false := beq_eq_false_iff_ne.2 (by omega)
  by_cases h8 : (xss.length : Int) > 8
  · go_enter Try.func6, Try.ntmps6
    go_wp2_with fail
    refine HSh.out.mono ?_
    rintro e w1 ⟨rfl, b1⟩
    have HF := Lib.hid b1
    clear b1
    go_wp2
    go_ret
    exact ⟨rfl, HF.out⟩
  have hn8 : xss.length ≤ 8 := by omega
  go_enter Try.func6, Try.ntmps6
  go_wp2_with fail
  refine HSh.out.mono ?_
  clear HSh
  rintro e w1 ⟨rfl, b1⟩
  have HI1 := Lib.hid (HI.out.below b1)
  have HB1 := Lib.hid b1
  obtain ⟨W2, hmk, hown0, hg0⟩ := run_make_full (P := Try.prog) (w := w1) w1.heap.size 70 3 j0 (.int .i64 0) 1 Try.underlying70 hj hy0 hy1 .i64 .i64 3 (by rw [hy2]; omega) (by unfold maxLen; omega) (Nat.le_refl _)
  have hmk' : (Instr.makeSlice 70 (.int .i64 3) (.int .i64 3)).run Try.prog w1 = .ok (.slice (some ⟨w1.heap.size, 0, none⟩) 3 3) W2 := hmk
  obtain ⟨q, hq⟩ : ∃ q, w1.heap.size = q := ⟨_, rfl⟩
  rw [hq] at hmk'
  have HSt : Hid (AllGo w1 xss other q 3 xss.length (.slice none 0 0) (.int .i64 0) W2) := ⟨0, [], by omega, rfl, rfl, by simp, by simp, World.ownsRow_nil _ _ _ _, by
    have e : (madeCells (Value.int .i64 0).cells (3 * 1)).toList = intsV (msI xss other 0) := by rw [Nat.mul_one]; exact toList_madeCells_one _ _
    rw [e, hq] at hown0
    rw [hq]; exact hown0, (Below.refl _ _).grown hg0 (Nat.le_refl _) (by simp)⟩
  have HB2 : Hid (Below w1.heap.size w1 W2) := (Below.refl _ _).grown hg0 (Nat.le_refl _) (by simp)
  clear b1 HI hmk hown0 hg0 h0 h8
  go_wp2
  clear hmk'
  go_loopg [6, 8] xss.length (fun k v6 v8 wr => AllGo w1 xss other q 3 k v6 v8 wr)
  case atStart => exact HSt.out
  clear HSt
  case round =>
    obtain ⟨i, rs, hk, rfl, hat⟩ := hrel
    have hrow := hat.row
    rw [hat.len] at hrow
    obtain ⟨A6, c6, rfl⟩ := L5.own_slice hrow
    by_cases hil : i < xss.length
    · obtain ⟨x, hx⟩ : ∃ x, xss[i]? = some x := ⟨_, List.getElem?_eq_getElem hil⟩
      obtain ⟨A', c', e', hf', hr⟩ := ii_read HI1.out
      cases e'
      obtain ⟨ad, rfl, hxi, hc⟩ := hr i x hx
      have a0 := hc wr hat.below
      have j1 : (i : Int) < (xss.length : Int) := by omega
      have j2 : (0 : Int) ≤ (i : Int) := by omega
      have hgk := Lib.hid (show gk - 1 < gk by omega)
      have HRw := Lib.hid (rows_own wr (hxi.below hat.below))
      have HA := Lib.hid hat
      obtain ⟨xv, xs⟩ := x
      simp only at a0 hc HRw
      obtain ⟨⟨Ax, cx, exv, hrx⟩, hfx⟩ := id hxi
      simp only at exv hrx hfx
      subst exv
      unfold maxLen at hfx
      have HXi := Lib.hid hrx
      have HCx := Lib.hid hc
      obtain ⟨g0, hg0⟩ : ∃ g0, gk - 1 = g0 := ⟨_, rfl⟩
      rw [hg0] at hgk
      replace hk : g0 + (i + 1) = xss.length := by omega
      clear hat hrow hr hf' hc hrx hg0
      go_wp2_with fail
      refine HRw.out.mono ?_
      clear HRw
      rintro e w6 ⟨lv, ls, rfl, hco, hO, b6⟩
      obtain ⟨Al, cl, rfl⟩ := L5.own_slice hO.own
      by_cases ho : (i : Int) = other
      · subst ho
        obtain ⟨W7, hW7⟩ : ∃ W7, w6.alloc (.cells #[.int .i64 ((i : Int) + 1), .int .i64 5, .int .i64 1, .slice Al ls.length cl] 73) = W7 := ⟨_, rfl⟩
        obtain ⟨p7, b7, s7⟩ := box_new hW7
        have hA8 := (HA.out.above b6).above b7
        have hO8 : OwnL W7 w1.heap.size (.slice Al ls.length cl) ls := (hO.lower HA.out.below.size).below b7
        have hlast := p7
        have hs8 : w6.heap.size < W7.heap.size := by omega
        have hup : ∀ t, mostUp xss (i : Int) (i + 1) t = mostUp xss (i : Int) i t := fun t => by rw [mostUp, if_pos rfl]
        have hq6 : q < w6.heap.size := (((HA.out.above b6).most).lt q rfl).2
        have HA8 := Lib.hid hA8
        have HO8 := Lib.hid hO8
        have HL8 := Lib.hid hlast
        have HS8 := Lib.hid hs8
        have HUp := Lib.hid hup
        have HX := Lib.hid hx
        have HCo := Lib.hid hco
        have HK := Lib.hid hk
        have HQ6 := Lib.hid hq6
        clear hA8 hO8 hlast hs8 hup hx hco hO b6 p7 b7 s7 hq6 hk
        go_wp2
        go_loopg [10] 3 (fun k v10 w8 => MostGo w1 W7 xss (i : Int) q 3 i k v10 w8)
        case atStart => exact ⟨0, rfl, rfl, HA8.out.most, But.refl _ _, HA8.out.below⟩
        case round =>
          obtain ⟨s, hks, rfl, hmost, hbut, hbel⟩ := hrel
          by_cases hs3 : s < 3
          · by_cases hsx : s < xs.length
            · have n1 : (s : Int) < 3 := by omega
              have n2 : (s : Int) < (xs.length : Int) := by omega
              have a1 : wr.cell? (ad.add i) = some (.slice Ax xs.length cx) := HCx.out wr hbel
              have hms : msP xss (i : Int) i s = msI xss (i : Int) (i + 1) := msP_done (by omega) (fun t _ _ => HUp.out (t + 1))
              have hA9 : AllAt w1 xss (i : Int) q 3 i (.slice A6 i c6) rs (msI xss (i : Int) (i + 1)) wr := HA8.out.but hbut (by rw [← hms]; exact hmost) hbel
              have hbx : wr.heap[w6.heap.size]? = some (.cells #[.int .i64 ((i : Int) + 1), .int .i64 5, .int .i64 1, .slice Al ls.length cl] 73 (0, 0)) := (hbut.blk _ HS8.out (by have := HQ6.out; omega)).trans HL8.out
              have hO9 := HO8.out.but HA8.out.most hbut
              have HAdd : Hid (∀ v' W6, W6.ownsRow w1.heap.size 73 4 v' (i + 1) (flatA rs ++ [.int .i64 ((i : Int) + 1), .int .i64 5, .int .i64 1, .slice Al ls.length cl]) → (wr.alloc (.cells #[.int .i64 ((i : Int) + 1), .int .i64 5, .int .i64 1, .slice Al ls.length cl] 73)).grownBy W6 (Value.slice A6 i c6).ownBlock → AllGo w1 xss (i : Int) q 3 g0 v' (.int .i64 ((i + 1 : Nat) : Int)) W6) := fun v' W6 k1 k2 =>
                ⟨i + 1, rs ++ [⟨(i : Int) + 1, 5, 1, .slice Al ls.length cl, ls⟩], HK.out, rfl, hA9.add (r := ⟨(i : Int) + 1, 5, 1, .slice Al ls.length cl, ls⟩) ⟨_, HX.out, HCo.out, .inl ⟨rfl, rfl, rfl⟩⟩ hO9 k1 k2⟩
              have hrow9 := hA9.row
              rw [hA9.len] at hrow9
              have HRow9 : Hid ((wr.alloc (.cells #[.int .i64 ((i : Int) + 1), .int .i64 5, .int .i64 1, .slice Al ls.length cl] 73)).ownsRow w1.heap.size 73 4 (.slice A6 i c6) i (flatA rs)) := hrow9.alloc _
              have e0 : wr.cell? ⟨w6.heap.size, 0, none⟩ = some (.int .i64 ((i : Int) + 1)) := box_cell hbx 0
              have e1 : wr.cell? ⟨w6.heap.size, 1, none⟩ = some (.int .i64 5) := box_cell hbx 1
              have e2 : wr.cell? ⟨w6.heap.size, 2, none⟩ = some (.int .i64 1) := box_cell hbx 2
              have e3 : wr.cell? ⟨w6.heap.size, 3, none⟩ = some (.slice Al ls.length cl) := box_cell hbx 3
              have hnew : ∀ (j : Nat) (u : Value), [Value.int .i64 ((i : Int) + 1), .int .i64 5, .int .i64 1, .slice Al ls.length cl][j]? = some u → (wr.alloc (.cells #[.int .i64 ((i : Int) + 1), .int .i64 5, .int .i64 1, .slice Al ls.length cl] 73)).cell? ((⟨wr.heap.size, 0, none⟩ : Addr).add j) = some u := fun j u hu => by
                rw [add_zeroC]
                simp only [World.cell?]
                rw [World.alloc_heap_new wr _]
                simpa using hu
              have HNew := Lib.hid hnew
              have hbz : w1.heap.size ≤ (wr.alloc (.cells #[.int .i64 ((i : Int) + 1), .int .i64 5, .int .i64 1, .slice Al ls.length cl] 73)).heap.size := Nat.le_trans hbel.size (by simp)
              clear hks hmost hbut hbel hA9 hbx hO9 hrow9 hnew hms
              go_wp2_with (at_builtin; refine wpList_append_own _ rfl _ _ 53 rfl w1.heap.size 73 i0 zeroRa 4 48 Try.underlying53 hi hz0 hz1 hz2 rfl (by decide) _ _ _ rfl HRow9.out ⟨wr.heap.size, 0, none⟩ 1 1 [.int .i64 ((i : Int) + 1), .int .i64 5, .int .i64 1, .slice Al ls.length cl] rfl rfl HNew.out (by simp [Value.oneCell']) (by unfold maxLen; omega) (by omega) hbz ?_; intro v' w9 hown' hgrow _; have HJ := Lib.hid (HAdd.out v' w9 hown' hgrow); clear hown' hgrow)
              go_roundg g0
              case measure => exact hgk.out
              case rel => exact HJ.out
            · have n1 : (s : Int) < 3 := by omega
              have n2 : ¬ (s : Int) < (xs.length : Int) := by omega
              have a1 : wr.cell? (ad.add i) = some (.slice Ax xs.length cx) := HCx.out wr hbel
              have hms : msP xss (i : Int) i s = msI xss (i : Int) (i + 1) := msP_done (by omega) (fun t _ _ => HUp.out (t + 1))
              have hA9 : AllAt w1 xss (i : Int) q 3 i (.slice A6 i c6) rs (msI xss (i : Int) (i + 1)) wr := HA8.out.but hbut (by rw [← hms]; exact hmost) hbel
              have hbx : wr.heap[w6.heap.size]? = some (.cells #[.int .i64 ((i : Int) + 1), .int .i64 5, .int .i64 1, .slice Al ls.length cl] 73 (0, 0)) := (hbut.blk _ HS8.out (by have := HQ6.out; omega)).trans HL8.out
              have hO9 := HO8.out.but HA8.out.most hbut
              have HAdd : Hid (∀ v' W6, W6.ownsRow w1.heap.size 73 4 v' (i + 1) (flatA rs ++ [.int .i64 ((i : Int) + 1), .int .i64 5, .int .i64 1, .slice Al ls.length cl]) → (wr.alloc (.cells #[.int .i64 ((i : Int) + 1), .int .i64 5, .int .i64 1, .slice Al ls.length cl] 73)).grownBy W6 (Value.slice A6 i c6).ownBlock → AllGo w1 xss (i : Int) q 3 g0 v' (.int .i64 ((i + 1 : Nat) : Int)) W6) := fun v' W6 k1 k2 =>
                ⟨i + 1, rs ++ [⟨(i : Int) + 1, 5, 1, .slice Al ls.length cl, ls⟩], HK.out, rfl, hA9.add (r := ⟨(i : Int) + 1, 5, 1, .slice Al ls.length cl, ls⟩) ⟨_, HX.out, HCo.out, .inl ⟨rfl, rfl, rfl⟩⟩ hO9 k1 k2⟩
              have hrow9 := hA9.row
              rw [hA9.len] at hrow9
              have HRow9 : Hid ((wr.alloc (.cells #[.int .i64 ((i : Int) + 1), .int .i64 5, .int .i64 1, .slice Al ls.length cl] 73)).ownsRow w1.heap.size 73 4 (.slice A6 i c6) i (flatA rs)) := hrow9.alloc _
              have e0 : wr.cell? ⟨w6.heap.size, 0, none⟩ = some (.int .i64 ((i : Int) + 1)) := box_cell hbx 0
              have e1 : wr.cell? ⟨w6.heap.size, 1, none⟩ = some (.int .i64 5) := box_cell hbx 1
              have e2 : wr.cell? ⟨w6.heap.size, 2, none⟩ = some (.int .i64 1) := box_cell hbx 2
              have e3 : wr.cell? ⟨w6.heap.size, 3, none⟩ = some (.slice Al ls.length cl) := box_cell hbx 3
              have hnew : ∀ (j : Nat) (u : Value), [Value.int .i64 ((i : Int) + 1), .int .i64 5, .int .i64 1, .slice Al ls.length cl][j]? = some u → (wr.alloc (.cells #[.int .i64 ((i : Int) + 1), .int .i64 5, .int .i64 1, .slice Al ls.length cl] 73)).cell? ((⟨wr.heap.size, 0, none⟩ : Addr).add j) = some u := fun j u hu => by
                rw [add_zeroC]
                simp only [World.cell?]
                rw [World.alloc_heap_new wr _]
                simpa using hu
              have HNew := Lib.hid hnew
              have hbz : w1.heap.size ≤ (wr.alloc (.cells #[.int .i64 ((i : Int) + 1), .int .i64 5, .int .i64 1, .slice Al ls.length cl] 73)).heap.size := Nat.le_trans hbel.size (by simp)
              clear hks hmost hbut hbel hA9 hbx hO9 hrow9 hnew hms
              go_wp2_with (at_builtin; refine wpList_append_own _ rfl _ _ 53 rfl w1.heap.size 73 i0 zeroRa 4 48 Try.underlying53 hi hz0 hz1 hz2 rfl (by decide) _ _ _ rfl HRow9.out ⟨wr.heap.size, 0, none⟩ 1 1 [.int .i64 ((i : Int) + 1), .int .i64 5, .int .i64 1, .slice Al ls.length cl] rfl rfl HNew.out (by simp [Value.oneCell']) (by unfold maxLen; omega) (by omega) hbz ?_; intro v' w9 hown' hgrow _; have HJ := Lib.hid (HAdd.out v' w9 hown' hgrow); clear hown' hgrow)
              go_roundg g0
              case measure => exact hgk.out
              case rel => exact HJ.out
          · have n1 : ¬ (s : Int) < 3 := by omega
            have hms : msP xss (i : Int) i s = msI xss (i : Int) (i + 1) := msP_done (by omega) (fun t _ _ => HUp.out (t + 1))
            have hA9 : AllAt w1 xss (i : Int) q 3 i (.slice A6 i c6) rs (msI xss (i : Int) (i + 1)) wr := HA8.out.but hbut (by rw [← hms]; exact hmost) hbel
            have hbx : wr.heap[w6.heap.size]? = some (.cells #[.int .i64 ((i : Int) + 1), .int .i64 5, .int .i64 1, .slice Al ls.length cl] 73 (0, 0)) := (hbut.blk _ HS8.out (by have := HQ6.out; omega)).trans HL8.out
            have hO9 := HO8.out.but HA8.out.most hbut
            have HAdd : Hid (∀ v' W6, W6.ownsRow w1.heap.size 73 4 v' (i + 1) (flatA rs ++ [.int .i64 ((i : Int) + 1), .int .i64 5, .int .i64 1, .slice Al ls.length cl]) → (wr.alloc (.cells #[.int .i64 ((i : Int) + 1), .int .i64 5, .int .i64 1, .slice Al ls.length cl] 73)).grownBy W6 (Value.slice A6 i c6).ownBlock → AllGo w1 xss (i : Int) q 3 g0 v' (.int .i64 ((i + 1 : Nat) : Int)) W6) := fun v' W6 k1 k2 =>
              ⟨i + 1, rs ++ [⟨(i : Int) + 1, 5, 1, .slice Al ls.length cl, ls⟩], HK.out, rfl, hA9.add (r := ⟨(i : Int) + 1, 5, 1, .slice Al ls.length cl, ls⟩) ⟨_, HX.out, HCo.out, .inl ⟨rfl, rfl, rfl⟩⟩ hO9 k1 k2⟩
            have hrow9 := hA9.row
            rw [hA9.len] at hrow9
            have HRow9 : Hid ((wr.alloc (.cells #[.int .i64 ((i : Int) + 1), .int .i64 5, .int .i64 1, .slice Al ls.length cl] 73)).ownsRow w1.heap.size 73 4 (.slice A6 i c6) i (flatA rs)) := hrow9.alloc _
            have e0 : wr.cell? ⟨w6.heap.size, 0, none⟩ = some (.int .i64 ((i : Int) + 1)) := box_cell hbx 0
            have e1 : wr.cell? ⟨w6.heap.size, 1, none⟩ = some (.int .i64 5) := box_cell hbx 1
            have e2 : wr.cell? ⟨w6.heap.size, 2, none⟩ = some (.int .i64 1) := box_cell hbx 2
            have e3 : wr.cell? ⟨w6.heap.size, 3, none⟩ = some (.slice Al ls.length cl) := box_cell hbx 3
            have hnew : ∀ (j : Nat) (u : Value), [Value.int .i64 ((i : Int) + 1), .int .i64 5, .int .i64 1, .slice Al ls.length cl][j]? = some u → (wr.alloc (.cells #[.int .i64 ((i : Int) + 1), .int .i64 5, .int .i64 1, .slice Al ls.length cl] 73)).cell? ((⟨wr.heap.size, 0, none⟩ : Addr).add j) = some u := fun j u hu => by
              rw [add_zeroC]
              simp only [World.cell?]
              rw [World.alloc_heap_new wr _]
              simpa using hu
            have HNew := Lib.hid hnew
            have hbz : w1.heap.size ≤ (wr.alloc (.cells #[.int .i64 ((i : Int) + 1), .int .i64 5, .int .i64 1, .slice Al ls.length cl] 73)).heap.size := Nat.le_trans hbel.size (by simp)
            clear hks hmost hbut hbel hA9 hbx hO9 hrow9 hnew hms
            go_wp2_with (at_builtin; refine wpList_append_own _ rfl _ _ 53 rfl w1.heap.size 73 i0 zeroRa 4 48 Try.underlying53 hi hz0 hz1 hz2 rfl (by decide) _ _ _ rfl HRow9.out ⟨wr.heap.size, 0, none⟩ 1 1 [.int .i64 ((i : Int) + 1), .int .i64 5, .int .i64 1, .slice Al ls.length cl] rfl rfl HNew.out (by simp [Value.oneCell']) (by unfold maxLen; omega) (by omega) hbz ?_; intro v' w9 hown' hgrow _; have HJ := Lib.hid (HAdd.out v' w9 hown' hgrow); clear hown' hgrow)
            go_roundg g0
            case measure => exact hgk.out
            case rel => exact HJ.out
      · have HOth : Hid (¬ (i : Int) = other) := ho
        have hbq : ((i : Int) == other) = false := beq_eq_false_iff_ne.2 ho
        obtain ⟨W7, hW7⟩ : ∃ W7, w6.alloc (.cells #[.int .i64 ((i : Int) + 1), .int .i64 0, .int .i64 0, .slice Al ls.length cl] 73) = W7 := ⟨_, rfl⟩
        obtain ⟨p7, b7, s7⟩ := box_new hW7
        have hO1 : OwnL W7 w1.heap.size (.slice Al ls.length cl) ls := (hO.lower (Nat.le_trans HA.out.below.size (Nat.le_refl _))).below b7
        have hA7 := (HA.out.above b6).above b7
        have hB7 : Below wr.heap.size wr W7 := b6.trans (b7.mono b6.size)
        have d0 : W7.cell? ⟨w6.heap.size, 0, none⟩ = some (.int .i64 ((i : Int) + 1)) := box_cell p7 0
        have d1 : W7.cell? ⟨w6.heap.size, 1, none⟩ = some (.int .i64 0) := box_cell p7 1
        have d2 : W7.cell? ⟨w6.heap.size, 2, none⟩ = some (.int .i64 0) := box_cell p7 2
        have d3 : W7.cell? ⟨w6.heap.size, 3, none⟩ = some (.slice Al ls.length cl) := box_cell p7 3
        have hq6 : q < w6.heap.size := (((HA.out.above b6).most).lt q rfl).2
        have hA8 := hA7
        have hO8 := hO1
        have hlast := p7
        have hs8 : w6.heap.size < W7.heap.size := by omega
        have hup : ∀ t, mostUp xss other (i + 1) t = max (mostUp xss other i t) (nOf xs t) := fun t => by rw [mostUp, if_neg ho, hx]; rfl
        have HA8 := Lib.hid hA8
        have HO8 := Lib.hid hO8
        have HL8 := Lib.hid hlast
        have HS8 := Lib.hid hs8
        have HUp := Lib.hid hup
        have HX := Lib.hid hx
        have HCo := Lib.hid hco
        have HK := Lib.hid hk
        have HQ6 := Lib.hid hq6
        clear d0 d1 d2 d3 hA7 hO1 hB7 hA8 hO8 hlast hs8 hup hx hco hO b6 p7 b7 s7 hq6 hk
        go_wp2
        go_loopg [10] 3 (fun k v10 w8 => MostGo w1 W7 xss other q 3 i k v10 w8)
        case atStart => exact ⟨0, rfl, rfl, HA8.out.most, But.refl _ _, HA8.out.below⟩
        case round =>
          obtain ⟨s, hks, rfl, hmost, hbut, hbel⟩ := hrel
          by_cases hs3 : s < 3
          · by_cases hsx : s < xs.length
            · have n1 : (s : Int) < 3 := by omega
              have n2 : (s : Int) < (xs.length : Int) := by omega
              have n3 : (0 : Int) ≤ (s : Int) := by omega
              obtain ⟨y, hy⟩ : ∃ y, xs[s]? = some y := ⟨_, List.getElem?_eq_getElem hsx⟩
              obtain ⟨adx, rfl, hbx, hcx, hyi⟩ := HXi.out s y hy
              have t0 : wr.cell? (adx.add s) = some (.int .i64 y) := (hbel.cell (p := adx.add s) (by rw [addr_blockC]; exact hbx)).trans hcx
              have a1 : wr.cell? (ad.add i) = some (.slice (some adx) xs.length cx) := HCx.out wr hbel
              obtain ⟨f0, f1⟩ := int_cell hmost hs3 (msP_get xss other i hs3)
              have HP := Lib.hid (fun V => pick_is hyi (n := 6) (by omega) (by omega) V)
              have hn : nOf xs (s + 1) = pickN y 6 := by
                unfold nOf
                rw [if_pos (by omega), show s + 1 - 1 = s by omega, List.getD, hy]
                rfl
              have HM : Hid (∀ m : Int, m = ((mostUp xss other (i + 1) (s + 1) : Nat) : Int) → MostGo w1 W7 xss other q 3 i (gk - 1) (.int .i64 ((s + 1 : Nat) : Int)) (wr.setCell ⟨q, s, none⟩ (.int .i64 m)).drew) := fun m hm => by
                subst hm
                have hst := int_store hmost s ((mostUp xss other (i + 1) (s + 1) : Nat) : Int)
                rw [msP_set xss other i hs3] at hst
                have hb2 := hbut.set s (.int .i64 ((mostUp xss other (i + 1) (s + 1) : Nat) : Int))
                exact ⟨s + 1, by omega, rfl, hst.drew, ⟨hb2.size, hb2.blk⟩, (hbel.setCell (by have := (HA8.out.most.lt q rfl).1; exact this) _).drew⟩
              have hup1 := HUp.out (s + 1)
              rw [hn] at hup1
              have hgk3 := Lib.hid (show gk - 1 < gk by omega)
              have h51 := mostUp_five xss other i (s + 1)
              have h52 := pickN_lt y (n := 6) (by omega)
              obtain ⟨pm, hpm⟩ : ∃ pm, pickN y 6 = pm := ⟨_, rfl⟩
              obtain ⟨mo, hmo⟩ : ∃ mo, mostUp xss other i (s + 1) = mo := ⟨_, rfl⟩
              rw [hpm] at hup1 HP h52
              rw [hmo] at hup1 f0 h51
              have HUp1 := Lib.hid hup1
              clear hks hmost hbut hbel hy hbx hcx hyi hn hup1 hpm hmo
              have hov : ¬ (i : Int) = other := HOth.out
              go_wp2
              go_region_law (go_simp; go_at_call 34; refine (HP.out _).mono ?_; rintro e w9 ⟨rfl, rfl⟩)
              all_goals
                have HF := Lib.hid (HM.out (max (mo : Int) (pm : Int)) (by rw [HUp1.out]; omega))
                clear HM
                go_wp2
                go_roundg (gk - 1)
                case measure => exact hgk3.out
                case rel => exact HF.out
            · have n1 : (s : Int) < 3 := by omega
              have n2 : ¬ (s : Int) < (xs.length : Int) := by omega
              have a1 : wr.cell? (ad.add i) = some (.slice Ax xs.length cx) := HCx.out wr hbel
              have hms : msP xss other i s = msI xss other (i + 1) := msP_done (by omega) (fun t ht _ => by rw [HUp.out, show nOf xs (t + 1) = 0 by unfold nOf; rw [if_neg (by omega)]]; exact Nat.max_eq_left (Nat.zero_le _))
              have hA9 : AllAt w1 xss other q 3 i (.slice A6 i c6) rs (msI xss other (i + 1)) wr := HA8.out.but hbut (by rw [← hms]; exact hmost) hbel
              have hbx : wr.heap[w6.heap.size]? = some (.cells #[.int .i64 ((i : Int) + 1), .int .i64 0, .int .i64 0, .slice Al ls.length cl] 73 (0, 0)) := (hbut.blk _ HS8.out (by have := HQ6.out; omega)).trans HL8.out
              have hO9 := HO8.out.but HA8.out.most hbut
              have HAdd : Hid (∀ v' W6, W6.ownsRow w1.heap.size 73 4 v' (i + 1) (flatA rs ++ [.int .i64 ((i : Int) + 1), .int .i64 0, .int .i64 0, .slice Al ls.length cl]) → (wr.alloc (.cells #[.int .i64 ((i : Int) + 1), .int .i64 0, .int .i64 0, .slice Al ls.length cl] 73)).grownBy W6 (Value.slice A6 i c6).ownBlock → AllGo w1 xss other q 3 g0 v' (.int .i64 ((i + 1 : Nat) : Int)) W6) := fun v' W6 k1 k2 =>
                ⟨i + 1, rs ++ [⟨(i : Int) + 1, 0, 0, .slice Al ls.length cl, ls⟩], HK.out, rfl, hA9.add (r := ⟨(i : Int) + 1, 0, 0, .slice Al ls.length cl, ls⟩) ⟨_, HX.out, HCo.out, .inr ⟨HOth.out, rfl, rfl⟩⟩ hO9 k1 k2⟩
              have hrow9 := hA9.row
              rw [hA9.len] at hrow9
              have HRow9 : Hid ((wr.alloc (.cells #[.int .i64 ((i : Int) + 1), .int .i64 0, .int .i64 0, .slice Al ls.length cl] 73)).ownsRow w1.heap.size 73 4 (.slice A6 i c6) i (flatA rs)) := hrow9.alloc _
              have e0 : wr.cell? ⟨w6.heap.size, 0, none⟩ = some (.int .i64 ((i : Int) + 1)) := box_cell hbx 0
              have e1 : wr.cell? ⟨w6.heap.size, 1, none⟩ = some (.int .i64 0) := box_cell hbx 1
              have e2 : wr.cell? ⟨w6.heap.size, 2, none⟩ = some (.int .i64 0) := box_cell hbx 2
              have e3 : wr.cell? ⟨w6.heap.size, 3, none⟩ = some (.slice Al ls.length cl) := box_cell hbx 3
              have hnew : ∀ (j : Nat) (u : Value), [Value.int .i64 ((i : Int) + 1), .int .i64 0, .int .i64 0, .slice Al ls.length cl][j]? = some u → (wr.alloc (.cells #[.int .i64 ((i : Int) + 1), .int .i64 0, .int .i64 0, .slice Al ls.length cl] 73)).cell? ((⟨wr.heap.size, 0, none⟩ : Addr).add j) = some u := fun j u hu => by
                rw [add_zeroC]
                simp only [World.cell?]
                rw [World.alloc_heap_new wr _]
                simpa using hu
              have HNew := Lib.hid hnew
              have hbz : w1.heap.size ≤ (wr.alloc (.cells #[.int .i64 ((i : Int) + 1), .int .i64 0, .int .i64 0, .slice Al ls.length cl] 73)).heap.size := Nat.le_trans hbel.size (by simp)
              clear hks hmost hbut hbel hA9 hbx hO9 hrow9 hnew hms
              go_wp2_with (at_builtin; refine wpList_append_own _ rfl _ _ 53 rfl w1.heap.size 73 i0 zeroRa 4 48 Try.underlying53 hi hz0 hz1 hz2 rfl (by decide) _ _ _ rfl HRow9.out ⟨wr.heap.size, 0, none⟩ 1 1 [.int .i64 ((i : Int) + 1), .int .i64 0, .int .i64 0, .slice Al ls.length cl] rfl rfl HNew.out (by simp [Value.oneCell']) (by unfold maxLen; omega) (by omega) hbz ?_; intro v' w9 hown' hgrow _; have HJ := Lib.hid (HAdd.out v' w9 hown' hgrow); clear hown' hgrow)
              go_roundg g0
              case measure => exact hgk.out
              case rel => exact HJ.out
          · have n1 : ¬ (s : Int) < 3 := by omega
            have hms : msP xss other i s = msI xss other (i + 1) := msP_done (by omega) (fun t ht ht3 => by omega)
            have hA9 : AllAt w1 xss other q 3 i (.slice A6 i c6) rs (msI xss other (i + 1)) wr := HA8.out.but hbut (by rw [← hms]; exact hmost) hbel
            have hbx : wr.heap[w6.heap.size]? = some (.cells #[.int .i64 ((i : Int) + 1), .int .i64 0, .int .i64 0, .slice Al ls.length cl] 73 (0, 0)) := (hbut.blk _ HS8.out (by have := HQ6.out; omega)).trans HL8.out
            have hO9 := HO8.out.but HA8.out.most hbut
            have HAdd : Hid (∀ v' W6, W6.ownsRow w1.heap.size 73 4 v' (i + 1) (flatA rs ++ [.int .i64 ((i : Int) + 1), .int .i64 0, .int .i64 0, .slice Al ls.length cl]) → (wr.alloc (.cells #[.int .i64 ((i : Int) + 1), .int .i64 0, .int .i64 0, .slice Al ls.length cl] 73)).grownBy W6 (Value.slice A6 i c6).ownBlock → AllGo w1 xss other q 3 g0 v' (.int .i64 ((i + 1 : Nat) : Int)) W6) := fun v' W6 k1 k2 =>
              ⟨i + 1, rs ++ [⟨(i : Int) + 1, 0, 0, .slice Al ls.length cl, ls⟩], HK.out, rfl, hA9.add (r := ⟨(i : Int) + 1, 0, 0, .slice Al ls.length cl, ls⟩) ⟨_, HX.out, HCo.out, .inr ⟨HOth.out, rfl, rfl⟩⟩ hO9 k1 k2⟩
            have hrow9 := hA9.row
            rw [hA9.len] at hrow9
            have HRow9 : Hid ((wr.alloc (.cells #[.int .i64 ((i : Int) + 1), .int .i64 0, .int .i64 0, .slice Al ls.length cl] 73)).ownsRow w1.heap.size 73 4 (.slice A6 i c6) i (flatA rs)) := hrow9.alloc _
            have e0 : wr.cell? ⟨w6.heap.size, 0, none⟩ = some (.int .i64 ((i : Int) + 1)) := box_cell hbx 0
            have e1 : wr.cell? ⟨w6.heap.size, 1, none⟩ = some (.int .i64 0) := box_cell hbx 1
            have e2 : wr.cell? ⟨w6.heap.size, 2, none⟩ = some (.int .i64 0) := box_cell hbx 2
            have e3 : wr.cell? ⟨w6.heap.size, 3, none⟩ = some (.slice Al ls.length cl) := box_cell hbx 3
            have hnew : ∀ (j : Nat) (u : Value), [Value.int .i64 ((i : Int) + 1), .int .i64 0, .int .i64 0, .slice Al ls.length cl][j]? = some u → (wr.alloc (.cells #[.int .i64 ((i : Int) + 1), .int .i64 0, .int .i64 0, .slice Al ls.length cl] 73)).cell? ((⟨wr.heap.size, 0, none⟩ : Addr).add j) = some u := fun j u hu => by
              rw [add_zeroC]
              simp only [World.cell?]
              rw [World.alloc_heap_new wr _]
              simpa using hu
            have HNew := Lib.hid hnew
            have hbz : w1.heap.size ≤ (wr.alloc (.cells #[.int .i64 ((i : Int) + 1), .int .i64 0, .int .i64 0, .slice Al ls.length cl] 73)).heap.size := Nat.le_trans hbel.size (by simp)
            clear hks hmost hbut hbel hA9 hbx hO9 hrow9 hnew hms
            go_wp2_with (at_builtin; refine wpList_append_own _ rfl _ _ 53 rfl w1.heap.size 73 i0 zeroRa 4 48 Try.underlying53 hi hz0 hz1 hz2 rfl (by decide) _ _ _ rfl HRow9.out ⟨wr.heap.size, 0, none⟩ 1 1 [.int .i64 ((i : Int) + 1), .int .i64 0, .int .i64 0, .slice Al ls.length cl] rfl rfl HNew.out (by simp [Value.oneCell']) (by unfold maxLen; omega) (by omega) hbz ?_; intro v' w9 hown' hgrow _; have HJ := Lib.hid (HAdd.out v' w9 hown' hgrow); clear hown' hgrow)
            go_roundg g0
            case measure => exact hgk.out
            case rel => exact HJ.out
    · obtain rfl : i = xss.length := by omega
      have j1 : ¬ (xss.length : Int) < (xss.length : Int) := by omega
      have HA := Lib.hid hat
      have HCut := Lib.hid (cut_calls wr (hat.reports hn8) (Nat.le_trans hat.few (by omega)) (fun p hp => Nat.le_trans (hat.short p hp) (by omega)))
      clear hk hat hrow
      go_wp2_with fail
      refine HCut.out.mono ?_
      clear HCut
      rintro e w2 ⟨va, pa, rfl, hpc, hpa, b2⟩
      obtain ⟨Aa, ca, rfl, _, _⟩ := hpa.get
      have hint : IntsI w2 (.slice (some ⟨q, 0, none⟩) 3 3) (msI xss other xss.length) := ints_lie (HA.out.above b2).most rfl (fun x hx => by
        simp only [msI, List.mem_cons, List.not_mem_nil, or_false] at hx
        have := mostUp_five xss other xss.length
        rcases hx with rfl | rfl | rfl <;> exact isInt_small _ (Nat.le_trans (this _) (by omega)))
      have hrw := rows_own w2 hint
      rw [rowsC_congr (fun s h1 h3 => nOf_ms xss other xss.length h1 h3)] at hrw
      have HRw := Lib.hid hrw
      have HPs := Lib.hid (core_short hpc HA.out.short)
      have hpl : pa.length ≤ 24 := by
        have h1 := congrArg List.length hpc
        rw [List.length_map, List.length_map] at h1
        have h2 := cut_len rs
        have h3 := HA.out.few
        omega
      have HPa := Lib.hid (And.intro hpc (And.intro hpa b2))
      clear hpc hpa b2 hint hrw
      go_wp2_with fail
      refine HRw.out.mono ?_
      clear HRw
      rintro e w3 ⟨v12, als, rfl, hal, hO, b3⟩
      obtain ⟨A12, c12, rfl⟩ := L5.own_slice hO.own
      have HV : Hid (∀ V, Below w3.heap.size w3 V → PartsA V (.slice Aa pa.length ca) pa ∧ LogsA V (.slice A12 als.length c12) als ∧ II V (.slice A xss.length c) xss ∧ Below w.heap.size w V) := fun V hV => by
        have h2V := b3.trans (hV.mono b3.size)
        have h1 := HA.out.below.trans (HPa.out.2.2.mono HA.out.below.size)
        have h3 := h1.trans (h2V.mono h1.size)
        exact ⟨HPa.out.2.1.below h2V, hO.logs.below hV, HI1.out.below h3, HB1.out.trans (h3.mono HB1.out.size)⟩
      have HAl := Lib.hid hal
      have hal3 : als.length ≤ 3 := by
        have := congrArg List.length hal
        rw [List.length_map] at this
        rw [this]
        exact rowsC_len _ _
      clear hal hO b3
      go_wp2
      go_loopg [13] xss.length (fun k v13 wr => EachGo w3 xss.length k v13 wr)
      case atStart => exact ⟨0, by omega, rfl, Below.refl _ _⟩
      case round =>
        obtain ⟨i, hk, rfl, hB⟩ := hrel
        by_cases hil : i < xss.length
        · have j1 : (i : Int) < (xss.length : Int) := by omega
          have j2 : (0 : Int) ≤ (i : Int) := by omega
          have hgk := Lib.hid (show gk - 1 < gk by omega)
          obtain ⟨g0, hg0⟩ : ∃ g0, gk - 1 = g0 := ⟨_, rfl⟩
          rw [hg0] at hgk
          have HOut : Hid (∀ V, Below wr.heap.size wr V → EachGo w3 xss.length g0 (.int .i64 ((i + 1 : Nat) : Int)) V) := fun V hV => ⟨i + 1, by omega, rfl, hB.trans (hV.mono hB.size)⟩
          by_cases ho : (i : Int) = other
          · subst ho
            have HF := Lib.hid (HOut.out wr (Below.refl _ _))
            clear hk hB HOut hg0
            go_wp2
            go_roundg g0
            case measure => exact hgk.out
            case rel => exact HF.out
          · obtain ⟨x, hx⟩ : ∃ x, xss[i]? = some x := ⟨_, List.getElem?_eq_getElem hil⟩
            obtain ⟨h1, h2, h3, h4⟩ := HV.out wr hB
            obtain ⟨A', c', e', hf', hr⟩ := ii_read h3
            cases e'
            obtain ⟨ad, rfl, hxi, hc⟩ := hr i x hx
            have a0 := hc wr (Below.refl _ _)
            have HRw := Lib.hid (rows_calls wr hxi)
            have HX := Lib.hid hx
            have HB := Lib.hid hB
            have HO := Lib.hid ho
            obtain ⟨xv, xs⟩ := x
            simp only at a0 HRw HX
            clear hk hB hg0 h1 h2 h3 h4 hr hc hxi hx hf'
            go_wp2_with fail
            refine HRw.out.mono ?_
            clear HRw
            rintro e w5 ⟨v14, lgs, rfl, hlc, hlg, b5⟩
            obtain ⟨A14, c14, rfl, _, _⟩ := hlg.get
            have hll : lgs.length ≤ 3 := by
              have := congrArg List.length hlc
              rw [List.length_map] at this
              rw [this]
              exact rowsC_len _ _
            have hB5 := HB.out.trans (b5.mono HB.out.size)
            have hms := miss_calls (ep := 0) (co := 0) w5 (HV.out w5 hB5).1 hlg (by omega) (by omega) (fun p hp => Nat.le_trans (HPs.out p hp) (by omega))
            rw [HPa.out.1, hlc] at hms
            have HMs := Lib.hid hms
            have HLs := Lib.hid (And.intro hlc (And.intro hlg b5))
            clear hlc hlg b5 hms a0
            go_wp2_with fail
            refine HMs.out.mono ?_
            clear HMs
            rintro e w6 ⟨v15, mls, rfl, hmc, hml, b6⟩
            obtain ⟨A15, c15, rfl, _, _⟩ := hml.get
            have hsm := miss_short (ep := 0) (co := 0) (lc := rowsC (nOf xs) 3) (cs := (cutP rs).map Pt.core) (n := 5) (fun c hc => by
              obtain ⟨p, hp, rfl⟩ := List.mem_map.1 hc
              exact HA.out.short p hp)
            have hmll : mls.length ≤ 24 := by
              have h1 := congrArg List.length hmc
              rw [List.length_map] at h1
              have h2 := cut_len rs
              have h3 := HA.out.few
              have h4 := hsm.1
              rw [List.length_map] at h4
              omega
            have HSh1 := Lib.hid (lg_short HLs.out.1 (rows_short (nOf_five xs)))
            have HSh2 := Lib.hid (lg_short hmc hsm.2)
            have hB6 := hB5.trans (b6.mono hB5.size)
            have HW : Hid (∀ V, Below w6.heap.size w6 V → LogsA V (.slice A12 als.length c12) als ∧ LogsA V (.slice A14 lgs.length c14) lgs ∧ LogsA V (.slice A15 mls.length c15) mls ∧ Below wr.heap.size wr V) := fun V hV => by
              have h1 := hB6.trans (hV.mono hB6.size)
              have h2 := b6.trans (hV.mono b6.size)
              exact ⟨(HV.out V h1).2.1, HLs.out.2.1.below h2, hml.below hV, HLs.out.2.2.trans (h2.mono HLs.out.2.2.size)⟩
            have HMc := Lib.hid hmc
            clear hmc hml b6 hsm hB6 hB5
            obtain ⟨W0, hW0⟩ : ∃ W0, W0 = w6 := ⟨_, rfl⟩
            go_wp2
            go_loopg [16] als.length (fun k v16 w7 => EachGo w6 als.length k v16 w7)
            case atStart => exact ⟨0, by omega, rfl, Below.refl _ _⟩
            clear hW0 W0
            case round =>
              obtain ⟨k, hkk, rfl, hBk⟩ := hrel
              by_cases hka : k < als.length
              · obtain ⟨al, hal⟩ : ∃ al, als[k]? = some al := ⟨_, List.getElem?_eq_getElem hka⟩
                have m1 : (k : Int) < (als.length : Int) := by omega
                have m2 : (0 : Int) ≤ (k : Int) := by omega
                have hgk2 := Lib.hid (show gk - 1 < gk by omega)
                obtain ⟨g1, hg1⟩ : ∃ g1, gk - 1 = g1 := ⟨_, rfl⟩
                rw [hg1] at hgk2
                obtain ⟨l1, l2, l3, l4⟩ := HW.out wr hBk
                obtain ⟨A', c', e', hf', hr⟩ := logs_read l1
                cases e'
                obtain ⟨ad12, rfl, hit, hse, hcl⟩ := hr k al hal
                obtain ⟨s, q1, q2, q3, q4⟩ : ∃ s : Nat, 1 ≤ s ∧ s ≤ 3 ∧ mostUp xss other xss.length s ≠ 0 ∧ al.core = ((s : Int), numsL s (mostUp xss other xss.length s)) :=
                  rowsC_mem (by rw [← HAl.out]; exact List.mem_map.2 ⟨al, List.mem_of_getElem? hal, rfl⟩)
                have hg := all_gathered HA.out.len HA.out.reps q1 q2 q3 HX.out HO.out
                rw [← HMc.out, ← HLs.out.1] at hg
                have hg' : gath (lgs.map Lg.core) al.se ++ gath (mls.map Lg.core) al.se = al.it.l := by
                  have e1 : al.se = s := congrArg Prod.fst q4
                  have e2 : al.it.l = numsL s (mostUp xss other xss.length s) := congrArg Prod.snd q4
                  rw [e1, e2]
                  exact hg
                have hl5 : al.it.l.length ≤ 5 := by
                  have e2 : al.it.l = numsL s (mostUp xss other xss.length s) := congrArg Prod.snd q4
                  rw [e2, numsL_len]
                  exact mostUp_five _ _ _ _
                obtain ⟨se, ⟨Ai, ci, li⟩⟩ := al
                simp only at hg' hl5
                have HG := Lib.hid hg'
                have HLi := Lib.hid hl5
                have hfin : ∀ V, Below wr.heap.size wr V → EachGo w6 als.length g1 (.int .i64 ((k + 1 : Nat) : Int)) V := fun V hV => ⟨k + 1, by omega, rfl, hBk.trans (hV.mono hBk.size)⟩
                have hcl' : ∀ V, Below wr.heap.size wr V → V.cell? (ad12.add (k * 2)) = some (.int .i64 se) ∧ V.cell? ⟨(ad12.add (k * 2)).block, (ad12.add (k * 2)).off + 1, none⟩ = some (.slice Ai li.length ci) := hcl
                have hit' : ∀ V, Below wr.heap.size wr V → ItAt V ⟨Ai, ci, li⟩ := fun V hV => hit.below hV
                have hwk : ∀ V, Below wr.heap.size wr V → LogsA V (.slice (some ad12) als.length c12) als ∧ LogsA V (.slice A14 lgs.length c14) lgs ∧ LogsA V (.slice A15 mls.length c15) mls ∧ True := fun V hV => by
                  obtain ⟨x1, x2, x3, x4⟩ := HW.out V (hBk.trans (hV.mono hBk.size))
                  exact ⟨x1, x2, x3, trivial⟩
                obtain ⟨W0, hW0⟩ : ∃ W0, W0 = wr := ⟨_, rfl⟩
                rw [← hW0] at hfin hcl' hit' hwk
                have HFin := Lib.hid hfin
                have HCe := Lib.hid hcl'
                have HIt := Lib.hid hit'
                have HWk := Lib.hid hwk
                clear hkk hBk hg1 l1 l2 l3 l4 hr hcl hit hse q1 q2 q3 q4 hg hg' hfin hcl' hit' hwk hf' hka hal hl5
                go_wp2
                go_loopg [17, 18] lgs.length (fun k v17 v18 w8 => GathGo W0 lgs se ([]) 0 k v17 v18 w8)
                case atStart => exact ⟨0, [], by omega, rfl, by simp [gath], by simp, by simp, World.ownsRow_nil _ _ _ _, by rw [hW0]; exact Below.refl _ _⟩
                case round =>
                  obtain ⟨j, zs, hkj, rfl, hz, hzl, hzs, hrow, hBj⟩ := hrel
                  obtain ⟨A17, c17, rfl⟩ := L5.own_slice hrow
                  obtain ⟨p1, p2, p3, p4⟩ := HWk.out wr hBj
                  obtain ⟨r0, r1⟩ := HCe.out wr hBj
                  by_cases hjl : j < lgs.length
                  · obtain ⟨l, hl⟩ : ∃ l, lgs[j]? = some l := ⟨_, List.getElem?_eq_getElem hjl⟩
                    obtain ⟨A', c', e', hf', hr⟩ := logs_read p2
                    cases e'
                    obtain ⟨adl, rfl, hit, hse, hcl⟩ := hr j l hl
                    obtain ⟨t0, t1⟩ := hcl wr (Below.refl _ _)
                    have n1 : (j : Int) < (lgs.length : Int) := by omega
                    have n2 : (0 : Int) ≤ (j : Int) := by omega
                    have hgk3 := Lib.hid (show gk - 1 < gk by omega)
                    obtain ⟨g2, hg2⟩ : ∃ g2, gk - 1 = g2 := ⟨_, rfl⟩
                    rw [hg2] at hgk3
                    obtain ⟨y1, y2⟩ := gath_more (g := g2) (by omega) hl hz hzl hzs hrow hBj (HSh1.out l (List.mem_of_getElem? hl)) hit
                    obtain ⟨sl, ⟨Al1, cl1, ll1⟩⟩ := l
                    simp only [It.v] at t0 t1 y1 y2
                    have HY1 := Lib.hid y1
                    have HY2 := Lib.hid y2
                    have h5 := HSh1.out _ (List.mem_of_getElem? hl)
                    simp only at h5
                    clear hkj hz hzs hrow hBj p1 p2 p3 p4 hl hr hcl hit hse y1 y2 hg2 hf' hjl
                    by_cases hss : sl = se
                    · subst hss
                      go_wp2
                      refine region_stillC (by kernel_rfl) (by kernel_rfl) ?_
                      repeat
                        (refine Quietly.step (fun K hK => ?_)
                         go_simp
                         refine hK _ ?_
                         clear hK K)
                      refine Quietly.none ?_
                      rintro w9 ⟨nq, rfl⟩
                      obtain ⟨z1, z2, z3, z4⟩ := HY2.out (by trivial) (wr.drewN nq) (L5.below_drewN (Below.refl _ _) _)
                      have HZ1 := Lib.hid z1
                      have HZ2 := Lib.hid z2
                      have HZ4 := Lib.hid z4
                      clear z1 z2 z4 HY1 HY2
                      go_wp2_with (at_builtin; refine wpList_append_it (by rfl) _ _ 30 rfl W0.heap.size 31 k0 (.string ⟨#[]⟩) 16 Try.underlying30 hk0 hx0 hx1 hx2 rfl _ _ _ rfl HZ1.out Al1 cl1 ll1 rfl HZ2.out (by unfold maxLen; omega) (by omega) z3 ?_; intro v' w1 hown' hgrow; have HJ := Lib.hid (HZ4.out v' w1 hown' hgrow); clear hown' hgrow)
                      go_roundg g2
                      case measure => exact hgk3.out
                      case rel => exact HJ.out
                    · have HF : Hid (∀ m, GathGo W0 lgs se ([]) 0 g2 (.slice A17 zs.length c17) (.int .i64 ((j + 1 : Nat) : Int)) (wr.drewN m)) := fun m => HY1.out hss _ (L5.below_drewN (Below.refl _ _) _)
                      clear HY1 HY2
                      go_wp2
                      refine region_stillC (by kernel_rfl) (by kernel_rfl) ?_
                      repeat
                        (refine Quietly.step (fun K hK => ?_)
                         go_simp
                         refine hK _ ?_
                         clear hK K)
                      refine Quietly.none ?_
                      rintro w9 ⟨nq, rfl⟩
                      go_wp2
                      go_roundg g2
                      case measure => exact hgk3.out
                      case rel => exact HF.out _
                  · obtain rfl : j = lgs.length := by omega
                    have n1 : ¬ (lgs.length : Int) < (lgs.length : Int) := by omega
                    have hz2 : zs = [] ++ gath (lgs.map Lg.core) se := by rw [hz, List.take_of_length_le (by simp)]
                    have HSt2 : Hid (GathGo W0 mls se (gath (lgs.map Lg.core) se) 15 mls.length (.slice A17 zs.length c17) (.int .i64 0) wr) := ⟨0, zs, by omega, rfl, by rw [hz2]; simp [gath], by omega, hzs, hrow, hBj⟩
                    clear hkj hz hz2 hzs hrow hBj p1 p2 p3 p4 hjl hzl r0 r1 n1
                    go_wp2
                    go_loopg [17, 19] mls.length (fun k v17 v19 w8 => GathGo W0 mls se (gath (lgs.map Lg.core) se) 15 k v17 v19 w8)
                    case atStart => exact HSt2.out
                    case round =>
                      obtain ⟨j, zs, hkj, rfl, hz, hzl, hzs, hrow, hBj⟩ := hrel
                      obtain ⟨A17, c17, rfl⟩ := L5.own_slice hrow
                      obtain ⟨p1, p2, p3, p4⟩ := HWk.out wr hBj
                      obtain ⟨r0, r1⟩ := HCe.out wr hBj
                      by_cases hjl : j < mls.length
                      · obtain ⟨l, hl⟩ : ∃ l, mls[j]? = some l := ⟨_, List.getElem?_eq_getElem hjl⟩
                        obtain ⟨A', c', e', hf', hr⟩ := logs_read p3
                        cases e'
                        obtain ⟨adl, rfl, hit, hse, hcl⟩ := hr j l hl
                        obtain ⟨t0, t1⟩ := hcl wr (Below.refl _ _)
                        have n1 : (j : Int) < (mls.length : Int) := by omega
                        have n2 : (0 : Int) ≤ (j : Int) := by omega
                        have hgk3 := Lib.hid (show gk - 1 < gk by omega)
                        obtain ⟨g2, hg2⟩ : ∃ g2, gk - 1 = g2 := ⟨_, rfl⟩
                        rw [hg2] at hgk3
                        obtain ⟨y1, y2⟩ := gath_more (g := g2) (by omega) hl hz hzl hzs hrow hBj (HSh2.out l (List.mem_of_getElem? hl)) hit
                        obtain ⟨sl, ⟨Al1, cl1, ll1⟩⟩ := l
                        simp only [It.v] at t0 t1 y1 y2
                        have HY1 := Lib.hid y1
                        have HY2 := Lib.hid y2
                        have h5 := HSh2.out _ (List.mem_of_getElem? hl)
                        simp only at h5
                        clear hkj hz hzs hrow hBj p1 p2 p3 p4 hl hr hcl hit hse y1 y2 hg2 hf' hjl
                        by_cases hss : sl = se
                        · subst hss
                          go_wp2
                          refine region_stillC (by kernel_rfl) (by kernel_rfl) ?_
                          repeat
                            (refine Quietly.step (fun K hK => ?_)
                             go_simp
                             refine hK _ ?_
                             clear hK K)
                          refine Quietly.none ?_
                          rintro w9 ⟨nq, rfl⟩
                          obtain ⟨z1, z2, z3, z4⟩ := HY2.out (by trivial) (wr.drewN nq) (L5.below_drewN (Below.refl _ _) _)
                          have HZ1 := Lib.hid z1
                          have HZ2 := Lib.hid z2
                          have HZ4 := Lib.hid z4
                          clear z1 z2 z4 HY1 HY2
                          go_wp2_with (at_builtin; refine wpList_append_it (by rfl) _ _ 30 rfl W0.heap.size 31 k0 (.string ⟨#[]⟩) 16 Try.underlying30 hk0 hx0 hx1 hx2 rfl _ _ _ rfl HZ1.out Al1 cl1 ll1 rfl HZ2.out (by unfold maxLen; omega) (by omega) z3 ?_; intro v' w1 hown' hgrow; have HJ := Lib.hid (HZ4.out v' w1 hown' hgrow); clear hown' hgrow)
                          go_roundg g2
                          case measure => exact hgk3.out
                          case rel => exact HJ.out
                        · have HF : Hid (∀ m, GathGo W0 mls se (gath (lgs.map Lg.core) se) 15 g2 (.slice A17 zs.length c17) (.int .i64 ((j + 1 : Nat) : Int)) (wr.drewN m)) := fun m => HY1.out hss _ (L5.below_drewN (Below.refl _ _) _)
                          clear HY1 HY2
                          go_wp2
                          refine region_stillC (by kernel_rfl) (by kernel_rfl) ?_
                          repeat
                            (refine Quietly.step (fun K hK => ?_)
                             go_simp
                             refine hK _ ?_
                             clear hK K)
                          refine Quietly.none ?_
                          rintro w9 ⟨nq, rfl⟩
                          go_wp2
                          go_roundg g2
                          case measure => exact hgk3.out
                          case rel => exact HF.out _
                      · obtain rfl : j = mls.length := by omega
                        have n1 : ¬ (mls.length : Int) < (mls.length : Int) := by omega
                        have hz2 : zs = gath (lgs.map Lg.core) se ++ gath (mls.map Lg.core) se := by rw [hz, List.take_of_length_le (by simp)]
                        obtain ⟨xo, eo, lo, ho'⟩ := ItAt.of_own hrow hzs (by unfold maxLen; omega)
                        have HGat : Hid (xo.l = li) := (by rw [lo, hz2]; exact HG.out : xo.l = li)
                        have HTx := Lib.hid (texts_calls ⟨Ai, ci, li⟩ wr (HIt.out wr hBj) (by simp only; have := HLi.out; omega))
                        have HXo := Lib.hid ho'
                        have HBj := Lib.hid hBj
                        rw [eo]
                        clear hkj hz hz2 hzs hrow hBj p1 p2 p3 p4 hjl eo lo ho' HSt2
                        go_wp2_with fail
                        refine HTx.out.mono ?_
                        clear HTx
                        rintro e w9 ⟨xt, rfl, hxt, hit, _, b9⟩
                        have hsm := same_calls xo xt w9 (HXo.out.below b9) hit
                        rw [decide_eq_true (by rw [HGat.out, hxt])] at hsm
                        have HS := Lib.hid hsm
                        have HB9 := Lib.hid b9
                        clear hsm hxt hit b9
                        go_wp2_with fail
                        refine HS.out.mono ?_
                        clear HS
                        rintro e w10 ⟨rfl, b10⟩
                        have HF := Lib.hid (HFin.out w10 (HBj.out.trans ((HB9.out.trans (b10.mono HB9.out.size)).mono HBj.out.size)))
                        clear b10
                        go_wp2
                        go_roundg g1
                        case measure => exact hgk2.out
                        case rel => exact HF.out
              · obtain rfl : k = als.length := by omega
                have m1 : ¬ (als.length : Int) < (als.length : Int) := by omega
                have HF := Lib.hid (HOut.out wr (HW.out wr hBk).2.2.2)
                clear hkk hBk
                go_wp2
                go_roundg g0
                case measure => exact hgk.out
                case rel => exact HF.out
        · obtain rfl : i = xss.length := by omega
          have j1 : ¬ (xss.length : Int) < (xss.length : Int) := by omega
          have HF := Lib.hid (HV.out wr hB).2.2.2
          clear hk hB
          go_wp2
          go_ret
          exact ⟨rfl, HF.out⟩
end Go.Proofs.Ytckmpbmlneionaa.L11
end

section
namespace Go.Proofs.Ytckmpbmlneionaa
open Go.ChangeShapes Go.WideShapes Go.ChangeAt Go.RowKit

set_option maxRecDepth 100000 in
theorem call_lifted (os : Os) (started : os.Started) (H : Type) (enc : TypeId × Value → H) :
    ReturnsInHanded {} Try.checked os 6 .any (Rows.cutAllSpec.pre6 enc Try.prog Try.f6 Rows.cutAllRow.domain false) (Rows.cutAllSpec.post enc Try.prog Try.f6 false true false false) := by
  refine returnsInHanded_of_change (C := Try.checked) L5.own started (by kernel_rfl) Try.func6
    (ChangeSpec.witness6 (enc := enc) (C := Try.checked) false ⟨#[], #[.slice none 0 0, .int .i64 0], []⟩ 8 (by kernel_rfl) (by kernel_rfl) (by kernel_rfl) (by kernel_rfl)) ?_
  intro W base args ds gs before hval0 hW hcnd _
  have hval : ∀ (j : Nat) t v, Try.f6.params[j]? = some t → args[j]? = some v → Value.okWide Try.prog W .any base t v := hval0
  have hW' := hW
  obtain ⟨p, q, hA0, hV, rfl, hfz, hnd⟩ := hW
  have hA : DataW.TrodAll enc Try.prog W 0 (fun _ => true) true Try.f6.params.toList args.toList ds p := hA0
  rw [Try.params6] at hA hval
  obtain ⟨v0, vs0, d0, ds0, p0, q0, hargs, rfl, rfl, h0, r0⟩ := trodAll_cons hA
  obtain ⟨v1, vs1, d1, ds1, p1, q1, rfl, rfl, rfl, h1, r1⟩ := trodAll_cons r0
  obtain ⟨rfl, rfl, rfl⟩ := trodAll_nil r1
  obtain rfl : args = #[v0, v1] := by cases args; simp_all
  obtain ⟨rfl, rfl⟩ := trodVars_none hV
  have h0k := h0
  obtain ⟨zs0, hII0⟩ := L11.open_iirow (hval 0 69 v0 rfl rfl) h0
  obtain ⟨a1, rfl, rfl, rfl, w1⟩ := open_int Try.underlying3 (hval 1 3 v1 rfl rfl) h1
  clear hA0 hval0
  simp only [List.append_nil] at hW'
  have hlt : ∀ x ∈ p0, x.block < W.heap.size := fun x hx => by simpa using hW'.lt x (by simpa using hx)
  refine (L11.all_law (L5.i64_of_wf w1) W hII0).mono fun e W' ⟨he, hg⟩ => ?_
  subst he
  exact ⟨_, rfl, L5.post_law_at (pv := []) hW' (trodAll_cons_mk (shut_bool Try.underlying4 _) trodAll_mk0) (trodAll_cons_mk (Below.trod L5.laid_out (by kernel_rfl) (of_decide_eq_true (by kernel_rfl)) h0k hg hlt) (trodAll_cons_mk (shut_int Try.underlying3 w1) trodAll_mk0)) rfl (by simp) hg⟩

theorem call_over : Rows.cutAllRow.holds Try.pinned (OpenSpec.ofChange Rows.cutAllSpec) :=
  OpenClaim.holds_of_wide 6 Try.f6 rfl rfl rfl rfl rfl rfl rfl ⟨rfl, rfl, rfl, rfl, rfl⟩ rfl rfl rfl rfl rfl (by kernel_rfl) Try.func6 (by kernel_rfl)
    (of_decide_eq_true (by kernel_rfl)) (by unfold Func.isWrapper; first | (rw [if_pos (by decide +kernel)]; kernel_rfl) | (rw [if_neg (by decide +kernel)]; exact ⟨rfl, rfl⟩))
    (fun os started H enc _ => call_lifted os started H enc)

theorem call_proved : Rows.CutAllSaid := call_over

end Go.Proofs.Ytckmpbmlneionaa
end
