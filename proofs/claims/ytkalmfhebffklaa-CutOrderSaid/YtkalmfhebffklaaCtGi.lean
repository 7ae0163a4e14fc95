/- Rows of ints that a law is handed, as they lie in memory. What a law of the second form is handed: rows of texts, logs and parts, as they lie in memory, and how much they hold. Rows of rows of ints that a law is handed. CutOrder: parts stand by old view and sender, whoever reports first. The statement CutOrder: for every input the law returns true, and its arguments read as they did. -/
import Derived.Test.YtkalmfhebffklaaCtGc
import Derived.ChangeSlices
import Derived.Test.YtkalmfhebffklaaRows
import Derived.SliceStrings
import Derived.Deep.Slices
import Derived.Test.YtkalmfhebffklaaCtGh
import Derived.Deep.RegionLaw
import Derived.Laws.AppendOwn
section
namespace Go.Proofs.Ytkalmfhebffklaa.L11
open Go.ChangeShapes Go.WideShapes Go.ChangeAt Go.RowKit Go.Deep
section
variable {H : Type} {enc : TypeId × Value → H} {W : World}
set_option maxRecDepth 100000 in
theorem trod_ints {n : Nat} {c : Value} {x : DataW H × List MemPlace} (h : DataW.trod enc Try.prog W 0 (fun _ => true) true n 70 [c] = some x) : ∃ xs, IntsI W c xs := by
  rcases open_ints Try.underlying70 Try.underlying3 (by kernel_rfl) h with ⟨h0, _⟩ | ⟨a, len, cap, ss, hcs, _, hl, hm, hsl, _, hcell, hwf⟩
  · cases h0
    exact ⟨[], ⟨none, 0, rfl, fun j x hx => by simp at hx⟩, by simp⟩
  · cases hcs
    simp only [if_true] at hsl
    have hlen : (ss.take len).length = len := by simp; omega
    refine ⟨ss.take len, ⟨some a, cap, by rw [hlen], fun j x hx => ?_⟩, by rw [hlen]; omega⟩
    have hx0 := hx
    rw [List.getElem?_take] at hx
    have hjn : j < len := by
      rcases Nat.lt_or_ge j len with h | h
      · exact h
      · rw [if_neg (by omega)] at hx; cases hx
    rw [if_pos hjn] at hx
    have hc2 := hcell j (by omega)
    rw [List.getD, hx, Option.getD_some] at hc2
    have hlt := World.block_lt_of_cell? W _ hc2
    rw [addr_blockC] at hlt
    exact ⟨a, rfl, hlt, hc2, L5.i64_of_wf (hwf x (List.mem_of_getElem? hx))⟩
set_option maxRecDepth 100000 in
theorem open_irow {base : Nat} {v : Value} {d : DataW H} {ps : List MemPlace} (hval : Value.okWide Try.prog W .any base 70 v) (h : DataW.Trod enc Try.prog W 0 (fun _ => true) true 70 v d ps) : ∃ zs, IntsI W v zs := by
  obtain ⟨A, n, c, rfl⟩ := okWide_slice Try.underlying70 hval
  obtain ⟨fuel, hf⟩ := h
  exact trod_ints (c := .slice A n c) hf
end
end Go.Proofs.Ytkalmfhebffklaa.L11
end

section
namespace Go.Proofs.Ytkalmfhebffklaa.L11
open Go.ChangeShapes Go.WideShapes Go.ChangeAt Go.RowKit Go.Deep

theorem bulk_pos {H : Type} (d : DataW H) : 1 ≤ Rows.uptoBulk d := by
  cases d with
  | lit l => cases l <;> simp [Rows.uptoBulk]
  | nil => simp [Rows.uptoBulk]
  | ptr d => simp [Rows.uptoBulk]
  | slice x y => simp [Rows.uptoBulk]
  | agg x => simp [Rows.uptoBulk]
  | iface t d => simp [Rows.uptoBulk]
  | map x => simp [Rows.uptoBulk]
  | held h => simp [Rows.uptoBulk]
theorem bulk_mem {H : Type} {d : DataW H} {l : List (DataW H)} (h : d ∈ l) : Rows.uptoBulk d ≤ Rows.uptoBulkAll l := by
  induction l with
  | nil => simp at h
  | cons a r ih =>
    rw [Rows.uptoBulkAll]
    rcases List.mem_cons.1 h with rfl | h
    · omega
    · have := ih h; omega
theorem bulk_len {H : Type} (l : List (DataW H)) : l.length ≤ Rows.uptoBulkAll l := by
  induction l with
  | nil => simp
  | cons a r ih =>
    rw [Rows.uptoBulkAll, List.length_cons]
    have := bulk_pos a
    omega
section
variable {H : Type} {enc : TypeId × Value → H} {W : World}
set_option maxRecDepth 100000 in
theorem trod_texts {t e : TypeId} {n : Nat} {c : Value} {x : DataW H × List MemPlace} (ht : Try.prog.underlying t = some (.slice e)) (he : Try.prog.underlying e = some .string) (hc : Try.prog.cellsOf e = 1)
    (h : DataW.trod enc Try.prog W 0 (fun _ => true) true n t [c] = some x) : ∃ y : It, c = y.v ∧ ItAt W y ∧ y.l.length ≤ Rows.uptoBulk x.1 := by
  rcases open_strings ht he hc h with ⟨h0, hx⟩ | ⟨a, len, cap, ss, hcs, _, hl, hm, hsl, hx, hcell, hwf⟩
  · cases h0
    exact ⟨⟨none, 0, []⟩, rfl, ⟨Nat.le_refl _, by simp, fun _ => rfl, by simp, fun j z hz => by simp at hz⟩, by simp⟩
  · cases hcs
    simp only [if_true] at hsl
    have hlen : ((ss.take len).map fun s => s.data.toList).length = len := by simp; omega
    refine ⟨⟨some a, cap, (ss.take len).map fun s => s.data.toList⟩, by simp only [It.v, hlen], ⟨by simp only [hlen]; exact hl, hm, (fun e => by cases e), fun z hz => ?_, fun j z hz => ?_⟩, ?_⟩
    · obtain ⟨s, hs, rfl⟩ := List.mem_map.1 hz
      have := hwf s (List.mem_of_mem_take hs)
      simpa using this
    · simp only [List.getElem?_map] at hz
      obtain ⟨s, hs, rfl⟩ := Option.map_eq_some_iff.1 hz
      have hjn : j < len := by
        rw [List.getElem?_take] at hs
        rcases Nat.lt_or_ge j len with h | h
        · exact h
        · rw [if_neg (by omega)] at hs; cases hs
      rw [List.getElem?_take, if_pos hjn] at hs
      have hc2 := hcell j (by omega)
      rw [List.getD, hs, Option.getD_some] at hc2
      have hlt := World.block_lt_of_cell? W _ hc2
      rw [addr_blockC] at hlt
      refine ⟨a, rfl, hlt, ?_⟩
      rw [hc2]
    · rw [hx]
      simp only
      rw [Rows.uptoBulk, hlen]
      have := bulk_len (H := H) (Go.ChangeShapes.strs (ss.take len))
      have e : (Go.ChangeShapes.strs (H := H) (ss.take len)).length = len := by simp [Go.ChangeShapes.strs]; omega
      omega
theorem trod_rows {α : Type} [Inhabited α] {t e : TypeId} {k n : Nat} {c : Value} {x : DataW H × List MemPlace} (cells : α → List Value) (Q : α → Nat → Prop) (hmono : ∀ l b b', b ≤ b' → Q l b → Q l b') (ht : Try.prog.underlying t = some (.slice e)) (hk : Try.prog.cellsOf e = k) (hk0 : 0 < k)
    (hlen : ∀ l, (cells l).length = k) (hone : ∀ n cs x, DataW.trod enc Try.prog W 0 (fun _ => true) true n e cs = some x → ∃ l, cs = cells l ∧ Q l (Rows.uptoBulk x.1))
    (h : DataW.trod enc Try.prog W 0 (fun _ => true) true n t [c] = some x) : ∃ ls : List α, CellsA k W c (ls.map cells) ∧ (∀ l ∈ ls, Q l (Rows.uptoBulk x.1)) ∧ ls.length ≤ Rows.uptoBulk x.1 := by
  rcases open_slice ht h with ⟨h0, _⟩ | ⟨a, len, cap, m, nn, D, Pl, hcs, hb, hl, hm, hmm, hx, hi⟩
  · cases h0
    exact ⟨[], ⟨none, 0, rfl, by simp, fun j x hx => by simp at hx⟩, by simp, by simp⟩
  · cases hcs
    simp only [if_true] at hmm
    obtain ⟨V, hV⟩ := choose_lt (α := α) (p := fun i l => W.cells? 0 (a.add (i * Try.prog.cellsOf e)) (Try.prog.cellsOf e) = some (cells l) ∧ Q l (Rows.uptoBulk (D i))) (n := len) (fun i hin => by
      obtain ⟨cs', h1, h2⟩ := hi i (by omega)
      obtain ⟨l, rfl, hq⟩ := hone _ _ _ h2
      exact ⟨l, h1, hq⟩)
    have hbD : ∀ i, i < len → Rows.uptoBulk (D i) ≤ Rows.uptoBulk x.1 := fun i hin => by
      rw [hx]
      simp only
      rw [Rows.uptoBulk]
      have := bulk_mem (H := H) (d := D i) (l := (List.range len).map D) (List.mem_map.2 ⟨i, List.mem_range.2 hin, rfl⟩)
      omega
    have hlb : len ≤ Rows.uptoBulk x.1 := by
      rw [hx]
      simp only
      rw [Rows.uptoBulk]
      have := bulk_len (H := H) ((List.range len).map D)
      simp at this
      omega
    refine ⟨(List.range len).map V, ⟨some a, cap, by simp, by simp; omega, fun j y hy => ?_⟩, fun l hl => ?_, by simpa using hlb⟩
    · simp only [List.getElem?_map, Option.map_map] at hy
      obtain ⟨i, hij, rfl⟩ := Option.map_eq_some_iff.1 hy
      obtain ⟨hjl, hji⟩ : j < len ∧ i = j := by
        obtain ⟨h1, h2⟩ := List.getElem?_eq_some_iff.1 hij
        simp at h1 h2
        exact ⟨h1, h2.symm⟩
      subst hji
      obtain ⟨h1, _⟩ := hV i hjl
      rw [hk] at h1
      obtain ⟨_, _, hat⟩ := World.cells?_some h1
      have hat2 : ∀ o, o < k → W.cell? (a.add (i * k + o)) = (cells (V i))[o]? := by
        intro o ho
        rw [← add_add]
        exact hat o ho
      have b0 := hat2 0 hk0
      rw [List.getElem?_eq_getElem (by rw [hlen]; exact hk0)] at b0
      have hlt := World.block_lt_of_cell? W _ b0
      rw [addr_blockC] at hlt
      refine ⟨a, rfl, hlt, fun o u hu => ?_⟩
      have ho : o < k := by rw [← hlen (V i)]; exact (List.getElem?_eq_some_iff.1 hu).1
      rw [hat2 o ho]
      exact hu
    · obtain ⟨i, hi2, rfl⟩ := List.mem_map.1 hl
      have hin := List.mem_range.1 hi2
      exact hmono _ _ _ (hbD i hin) (hV i hin).2
instance : Inhabited It := ⟨⟨none, 0, []⟩⟩
instance : Inhabited Lg := ⟨⟨0, default⟩⟩
instance : Inhabited Pt := ⟨⟨0, 0, 0, default⟩⟩
instance : Inhabited Rp := ⟨⟨0, 0, 0, .bool false, []⟩⟩
theorem trod_intB {n : Nat} {c : Value} {x : DataW H × List MemPlace} (h : DataW.trod enc Try.prog W 0 (fun _ => true) true n 3 [c] = some x) : ∃ k : Int, c = .int .i64 k ∧ isInt k := by
  obtain ⟨k, hk, _, hw⟩ := DataW.trod_int Try.underlying3 h
  cases hk
  exact ⟨k, rfl, L5.i64_of_wf hw⟩
set_option maxRecDepth 100000 in
theorem trod_terms {n : Nat} {c : Value} {x : DataW H × List MemPlace} (h : DataW.trod enc Try.prog W 0 (fun _ => true) true n 30 [c] = some x) : ∃ y : It, c = y.v ∧ ItAt W y ∧ y.l.length ≤ Rows.uptoBulk x.1 :=
  trod_texts Try.underlying30 Try.underlying31 (by kernel_rfl) h
set_option maxRecDepth 100000 in
theorem log_cells {n : Nat} {cs : List Value} {x : DataW H × List MemPlace} (h : DataW.trod enc Try.prog W 0 (fun _ => true) true n 76 cs = some x) : ∃ l : Lg, cs = l.cells ∧ (ItAt W l.it ∧ isInt l.se) ∧ l.it.l.length ≤ Rows.uptoBulk x.1 := by
  have hC1 : Try.prog.cellsOf 3 = 1 := by kernel_rfl
  have hC2 : Try.prog.cellsOf 30 = 1 := by kernel_rfl
  have hC : Try.prog.cellsOf 76 = 2 := by kernel_rfl
  obtain ⟨xs, n', _, hx, hcl, hlen, hg⟩ := DataW.trod_struct Try.underlying76 h
  rw [hC] at hcl
  match cs, hcl with
  | [v0, v1], _ =>
    match xs, hlen with
    | [x0, x1], _ =>
      have h0 : DataW.trod enc Try.prog W 0 (fun _ => true) true n' 3 (([v0, v1].drop 0).take (Try.prog.cellsOf 3)) = some x0 := hg 0 _ rfl
      have h1 : DataW.trod enc Try.prog W 0 (fun _ => true) true n' 30 (([v0, v1].drop 1).take (Try.prog.cellsOf 30)) = some x1 := hg 1 _ rfl
      rw [hC1] at h0
      rw [hC2] at h1
      obtain ⟨k, rfl, hk⟩ := trod_intB (c := v0) h0
      obtain ⟨y, rfl, hy, hb⟩ := trod_terms (c := v1) h1
      refine ⟨⟨k, y⟩, rfl, ⟨hy, hk⟩, ?_⟩
      rw [hx]
      simp only [List.map_cons, List.map_nil]
      rw [Rows.uptoBulk]
      have := bulk_mem (d := x1.1) (l := [x0.1, x1.1]) (by simp)
      omega
set_option maxRecDepth 100000 in
theorem id_cells {n : Nat} {v0 v1 : Value} {x : DataW H × List MemPlace} (h : DataW.trod enc Try.prog W 0 (fun _ => true) true n 55 [v0, v1] = some x) : ∃ e c : Int, v0 = .int .i64 e ∧ v1 = .int .i64 c ∧ isInt e ∧ isInt c := by
  have hC1 : Try.prog.cellsOf 3 = 1 := by kernel_rfl
  obtain ⟨xs, n', _, hx, hcl, hlen, hg⟩ := DataW.trod_struct Try.underlying55 h
  match xs, hlen with
  | [x0, x1], _ =>
    have h0 : DataW.trod enc Try.prog W 0 (fun _ => true) true n' 3 (([v0, v1].drop 0).take (Try.prog.cellsOf 3)) = some x0 := hg 0 _ rfl
    have h1 : DataW.trod enc Try.prog W 0 (fun _ => true) true n' 3 (([v0, v1].drop 1).take (Try.prog.cellsOf 3)) = some x1 := hg 1 _ rfl
    rw [hC1] at h0 h1
    obtain ⟨e, rfl, he⟩ := trod_intB (c := v0) h0
    obtain ⟨c, rfl, hc⟩ := trod_intB (c := v1) h1
    exact ⟨e, c, rfl, rfl, he, hc⟩
set_option maxRecDepth 100000 in
theorem part_cells {n : Nat} {cs : List Value} {x : DataW H × List MemPlace} (h : DataW.trod enc Try.prog W 0 (fun _ => true) true n 60 cs = some x) : ∃ l : Pt, cs = l.cells ∧ (ItAt W l.it ∧ isInt l.ep ∧ isInt l.co ∧ isInt l.se) ∧ l.it.l.length ≤ Rows.uptoBulk x.1 := by
  have hC0 : Try.prog.cellsOf 55 = 2 := by kernel_rfl
  have hC1 : Try.prog.cellsOf 3 = 1 := by kernel_rfl
  have hC2 : Try.prog.cellsOf 30 = 1 := by kernel_rfl
  have hC : Try.prog.cellsOf 60 = 4 := by kernel_rfl
  obtain ⟨xs, n', _, hx, hcl, hlen, hg⟩ := DataW.trod_struct Try.underlying60 h
  rw [hC] at hcl
  match cs, hcl with
  | [v0, v1, v2, v3], _ =>
    match xs, hlen with
    | [x0, x1, x2], _ =>
      have h0 : DataW.trod enc Try.prog W 0 (fun _ => true) true n' 55 (([v0, v1, v2, v3].drop 0).take (Try.prog.cellsOf 55)) = some x0 := hg 0 _ rfl
      have h1 : DataW.trod enc Try.prog W 0 (fun _ => true) true n' 3 (([v0, v1, v2, v3].drop 2).take (Try.prog.cellsOf 3)) = some x1 := hg 1 _ rfl
      have h2 : DataW.trod enc Try.prog W 0 (fun _ => true) true n' 30 (([v0, v1, v2, v3].drop 3).take (Try.prog.cellsOf 30)) = some x2 := hg 2 _ rfl
      rw [hC0] at h0
      rw [hC1] at h1
      rw [hC2] at h2
      obtain ⟨e, c, rfl, rfl, he, hc⟩ := id_cells (v0 := v0) (v1 := v1) h0
      obtain ⟨k, rfl, hk⟩ := trod_intB (c := v2) h1
      obtain ⟨y, rfl, hy, hb⟩ := trod_terms (c := v3) h2
      refine ⟨⟨e, c, k, y⟩, rfl, ⟨hy, he, hc, hk⟩, ?_⟩
      rw [hx]
      simp only [List.map_cons, List.map_nil]
      rw [Rows.uptoBulk]
      have := bulk_mem (d := x2.1) (l := [x0.1, x1.1, x2.1]) (by simp)
      omega
set_option maxRecDepth 100000 in
theorem trod_logsB {n : Nat} {c : Value} {x : DataW H × List MemPlace} (h : DataW.trod enc Try.prog W 0 (fun _ => true) true n 22 [c] = some x) : ∃ ls : List Lg, LogsA W c ls ∧ (∀ l ∈ ls, l.it.l.length ≤ Rows.uptoBulk x.1) ∧ ls.length ≤ Rows.uptoBulk x.1 := by
  obtain ⟨ls, h1, h2, h3⟩ := trod_rows (α := Lg) (k := 2) Lg.cells (fun l b => (ItAt W l.it ∧ isInt l.se) ∧ l.it.l.length ≤ b) (fun l b b' hb h => ⟨h.1, Nat.le_trans h.2 hb⟩) Try.underlying22 (by kernel_rfl) (by omega) (fun _ => rfl) (fun n cs x h => by
    obtain ⟨l, e, h1, h2⟩ := log_cells h
    exact ⟨l, e, h1, h2⟩) h
  exact ⟨ls, ⟨h1, fun l hl => (h2 l hl).1⟩, fun l hl => (h2 l hl).2, h3⟩
set_option maxRecDepth 100000 in
theorem trod_partsB {n : Nat} {c : Value} {x : DataW H × List MemPlace} (h : DataW.trod enc Try.prog W 0 (fun _ => true) true n 23 [c] = some x) : ∃ ls : List Pt, PartsA W c ls ∧ (∀ l ∈ ls, l.it.l.length ≤ Rows.uptoBulk x.1) ∧ ls.length ≤ Rows.uptoBulk x.1 := by
  obtain ⟨ls, h1, h2, h3⟩ := trod_rows (α := Pt) (k := 4) Pt.cells (fun l b => (ItAt W l.it ∧ isInt l.ep ∧ isInt l.co ∧ isInt l.se) ∧ l.it.l.length ≤ b) (fun l b b' hb h => ⟨h.1, Nat.le_trans h.2 hb⟩) Try.underlying23 (by kernel_rfl) (by omega) (fun _ => rfl) (fun n cs x h => by
    obtain ⟨l, e, h1, h2⟩ := part_cells h
    exact ⟨l, e, h1, h2⟩) h
  exact ⟨ls, ⟨h1, fun l hl => (h2 l hl).1⟩, fun l hl => (h2 l hl).2, h3⟩
set_option maxRecDepth 100000 in
theorem open_logsB {base : Nat} {v : Value} {d : DataW H} {ps : List MemPlace} (hval : Value.okWide Try.prog W .any base 22 v) (h : DataW.Trod enc Try.prog W 0 (fun _ => true) true 22 v d ps) : ∃ ls : List Lg, LogsA W v ls ∧ (∀ l ∈ ls, l.it.l.length ≤ Rows.uptoBulk d) ∧ ls.length ≤ Rows.uptoBulk d := by
  obtain ⟨A, n, c, rfl⟩ := okWide_slice Try.underlying22 hval
  obtain ⟨fuel, hf⟩ := h
  exact trod_logsB (c := .slice A n c) hf
set_option maxRecDepth 100000 in
theorem open_partsB {base : Nat} {v : Value} {d : DataW H} {ps : List MemPlace} (hval : Value.okWide Try.prog W .any base 23 v) (h : DataW.Trod enc Try.prog W 0 (fun _ => true) true 23 v d ps) : ∃ ls : List Pt, PartsA W v ls ∧ (∀ l ∈ ls, l.it.l.length ≤ Rows.uptoBulk d) ∧ ls.length ≤ Rows.uptoBulk d := by
  obtain ⟨A, n, c, rfl⟩ := okWide_slice Try.underlying23 hval
  obtain ⟨fuel, hf⟩ := h
  exact trod_partsB (c := .slice A n c) hf
set_option maxRecDepth 100000 in
theorem open_strsB {base : Nat} {v : Value} {d : DataW H} {ps : List MemPlace} (hval : Value.okWide Try.prog W .any base 24 v) (h : DataW.Trod enc Try.prog W 0 (fun _ => true) true 24 v d ps) : ∃ y : It, v = y.v ∧ ItAt W y ∧ y.l.length ≤ Rows.uptoBulk d := by
  obtain ⟨A, n, c, rfl⟩ := okWide_slice Try.underlying24 hval
  obtain ⟨fuel, hf⟩ := h
  exact trod_texts (c := .slice A n c) Try.underlying24 Try.underlying9 (by kernel_rfl) hf
end
end Go.Proofs.Ytkalmfhebffklaa.L11
end

section
namespace Go.Proofs.Ytkalmfhebffklaa.L11
open Go.ChangeShapes Go.WideShapes Go.ChangeAt Go.RowKit Go.Deep

structure II (w : World) (v : Value) (xss : List (Value × List Int)) : Prop where
  cells : CellsA 1 w v (xss.map fun x => [x.1])
  its : ∀ x ∈ xss, IntsI w x.1 x.2
theorem II.below {w W : World} {v : Value} {xss : List (Value × List Int)} (h : II w v xss) (hb : Below w.heap.size w W) : II W v xss := ⟨h.cells.below hb, fun x hx => (h.its x hx).below hb⟩
theorem ii_read {w : World} {v : Value} {xss : List (Value × List Int)} (h : II w v xss) : ∃ A c, v = .slice A xss.length c ∧ xss.length ≤ maxLen ∧ ∀ (j : Nat) (x : Value × List Int), xss[j]? = some x → ∃ ad : Addr, A = some ad ∧ IntsI w x.1 x.2 ∧ ∀ V, Below w.heap.size w V → V.cell? (ad.add j) = some x.1 := by
  obtain ⟨A, c, e, hf, hr⟩ := h.cells
  rw [List.length_map] at e hf
  refine ⟨A, c, e, hf, fun j x hx => ?_⟩
  obtain ⟨ad, e2, hb, hc⟩ := hr j [x.1] (by rw [List.getElem?_map, hx]; rfl)
  refine ⟨ad, e2, h.its x (List.mem_of_getElem? hx), fun V hV => ?_⟩
  have := hc 0 x.1 rfl
  rw [Nat.mul_one, Nat.add_zero] at this
  exact (hV.cell (p := ad.add j) (by rw [addr_blockC]; exact hb)).trans this
section
variable {H : Type} {enc : TypeId × Value → H} {W : World}
instance : Inhabited (Value × List Int) := ⟨(.bool false, [])⟩
set_option maxRecDepth 100000 in
theorem open_iirow {base : Nat} {v : Value} {d : DataW H} {ps : List MemPlace} (hval : Value.okWide Try.prog W .any base 69 v) (h : DataW.Trod enc Try.prog W 0 (fun _ => true) true 69 v d ps) : ∃ xss, II W v xss := by
  obtain ⟨A, n, c, rfl⟩ := okWide_slice Try.underlying69 hval
  obtain ⟨fuel, hf⟩ := h
  have hC : Try.prog.cellsOf 70 = 1 := by kernel_rfl
  obtain ⟨ls, h1, h2, _⟩ := trod_rows (α := Value × List Int) (k := 1) (c := .slice A n c) (fun x => [x.1]) (fun x _ => IntsI W x.1 x.2) (fun _ _ _ _ h => h) Try.underlying69 hC (by omega) (fun _ => rfl) (fun n cs x h => by
    have hl : cs.length = 1 := by
      have := DataW.trod_slice Try.underlying70 h
      rcases this with ⟨rfl, _⟩ | ⟨a, len, cap, elems, rest, n, _, rfl, _⟩
      · rfl
      · rfl
    match cs, hl with
    | [v0], _ =>
      obtain ⟨xs, hx⟩ := trod_ints h
      exact ⟨(v0, xs), rfl, hx⟩) hf
  exact ⟨ls, h1, h2⟩
end
end Go.Proofs.Ytkalmfhebffklaa.L11
end

section
namespace Go.Proofs.Ytkalmfhebffklaa.L11
open Go.ChangeShapes Go.WideShapes Go.ChangeAt Go.RowKit Go.Deep

def flatR (l : List Rp) : List Value := (l.map Rp.cells).flatten
theorem flatR_snoc (l : List Rp) (x : Rp) : flatR (l ++ [x]) = flatR l ++ x.cells := by simp [flatR]
def zeroRp : Value := .agg #[.int .i64 0, .int .i64 0, .int .i64 0, .slice none 0 0]
theorem info_rep : (Try.prog.info? 73).map (fun i => (i.zero, i.size, i.bytes)) = some (some zeroRp, 4, 48) := by kernel_rfl
def RepGood (r : Rp) : Prop := (0 ≤ r.ep ∧ r.ep ≤ 2) ∧ r.co = 1 ∧ r.lg.length ≤ 3 ∧ ∀ g ∈ r.lg, ∃ s n : Nat, 1 ≤ s ∧ s ≤ 3 ∧ n ≤ 5 ∧ g.se = s ∧ g.it.l = numsL s n
def OrdGo (w : World) (xss : List (Value × List Int)) (k : Nat) (v6 vi : Value) (wr : World) : Prop :=
  ∃ (i : Nat) (rs : List Rp), k + i = xss.length ∧ vi = .int .i64 i ∧ rs.length = i ∧ (∀ r ∈ rs, RepGood r ∧ OwnL wr w.heap.size r.lv r.lg) ∧ wr.ownsRow w.heap.size 73 4 v6 rs.length (flatR rs) ∧ Below w.heap.size w wr
theorem nOf_lt (xs : List Int) (s : Nat) : nOf xs s ≤ 5 := by
  unfold nOf
  split
  · have := pickN_lt (xs.getD (s - 1) 0) (n := 6) (by omega); omega
  · omega
theorem good_rep {fr : Int} {i : Nat} {lv : Value} {ls : List Lg} {xs : List Int} (h : ls.map Lg.core = rowsC (nOf xs) 3) : RepGood ⟨fr, ((i : Int) % 3), 1, lv, ls⟩ := by
  refine ⟨⟨by simp only; omega, by simp only; omega⟩, rfl, ?_, fun g hg => ?_⟩
  · have := congrArg List.length h
    rw [List.length_map] at this
    rw [this]
    exact rowsC_len _ _
  · have hm : g.core ∈ rowsC (nOf xs) 3 := by rw [← h]; exact List.mem_map.2 ⟨g, hg, rfl⟩
    obtain ⟨s, h1, h2, h3, h4⟩ := rowsC_mem hm
    refine ⟨s, nOf xs s, h1, h2, nOf_lt xs s, congrArg Prod.fst h4, congrArg Prod.snd h4⟩
theorem rows_ok {w w' : World} {ok : Prop} {rows : List (List Bytes)} {e : Ending} (h : RowsOut w ok rows e w') (hok : ok) (hz : ∀ r ∈ rows, rowE r = 0) (hl : rows.length ≤ 1000) : ∃ y : It, e = .returned (.tuple #[y.v, .int .i64 0]) ∧ y.l = rows.map rowT ∧ ItAt w' y ∧ Below w.heap.size w w' := by
  rcases h with ⟨_, _, v, rfl, h3, h4⟩ | ⟨h1, _, _⟩
  · obtain ⟨y, e1, e2, e3⟩ := ItAt.of_own (zs := rows.map rowT) (by rw [List.length_map]; exact h3) (fun z hz' => by
      obtain ⟨r, hr, rfl⟩ := List.mem_map.1 hz'
      obtain ⟨e, _, _, hl, _⟩ := Tm.putRow_ok (show Tm.putRow r = (rowT r, 0) from Prod.ext rfl (hz r hr))
      rw [e]
      unfold maxLen
      omega) (by rw [List.length_map]; unfold maxLen; omega)
    exact ⟨y, by rw [e1], e2, e3, h4⟩
  · rcases h1 with h1 | ⟨r, hr, h1⟩
    · exact absurd hok h1
    · exact absurd (hz r hr) h1
/-- append onto a slice that the call owns, at a step of a region that draws its order. -/
theorem step_append_ownC {P : Program} {w : World} {ops : Array Oper} {o : Oper} {a : Act} {K : Act → World → Prop} {Q : Exit → Act → World → Prop} {E : Prop} (hgd : o.guard = none) (s x : Operand) (t : TypeId)
    (ho : o.op = .call { callee := .builtin .append, args := #[s, x], argTypes := #[t, t] })
    (base : Nat) (e : TypeId) (i : TypeInfo) (z : Value) (size bytes : Nat) (ht : P.underlying t = some (.slice e)) (hi : P.info? e = some i) (hz : i.zero = some z)
    (hsize : i.size = size) (hby : i.bytes = bytes) (hzs : z.cells.size = size) (hsz : 0 < size)
    (v : Value) (n : Nat) (xs : List Value) (hs : a.eval s = v) (hown : w.ownsRow base e size v n xs)
    (ad : Addr) (m c : Nat) (news : List Value) (hx : a.eval x = .slice (some ad) m c) (hl : news.length = m * size) (hnews : ∀ j u, news[j]? = some u → w.cell? (ad.add j) = some u) (h1 : ∀ u ∈ news, u.oneCell' = true)
    (h63 : n + m ≤ maxLen) (hbytes : (n + m) * bytes ≤ 140737488355328) (hbase : base ≤ w.heap.size)
    (h : ∀ v' w', w'.ownsRow base e size v' (n + m) (xs ++ news) → w.grownBy w' v.ownBlock → K (a.put o.dst v') w') :
    if Region.wanted o (yielded ops a.tmps) = true then Oper.wp P o a w K Q else E := by
  have hw : Region.wanted o (yielded ops a.tmps) = true := by simp [Region.wanted, hgd]
  rw [if_pos hw]
  obtain ⟨v', w', hr, h2, h3, _⟩ := run_append_own (P := P) w base t o.type e i z size bytes ht hi hz hsize hby hzs hsz v n xs hown ad m c news hl hnews h1 h63 hbytes hbase
  unfold Oper.wp execOp
  simp only [ho, resolve, invoke, builtin, Sem.run_bind, Sem.run_pure, Result.andThen_ok, List.map_toArray, List.map_cons, List.map_nil, hs, hx, hr]
  exact h v' w' h2 h3
theorem flatR_len (l : List Rp) : (flatR l).length = l.length * 4 := by
  unfold flatR
  rw [flat_len (rp_four l), List.length_map]
theorem flatR_drop (l : List Rp) (t : Nat) : flatR (l.drop t) = (flatR l).drop (t * 4) := by
  induction l generalizing t with
  | nil => simp [flatR]
  | cons a l ih =>
    cases t with
    | zero => simp
    | succ t =>
      rw [List.drop_succ_cons, ih t]
      have : flatR (a :: l) = a.cells ++ flatR l := by simp [flatR]
      rw [this, show (t + 1) * 4 = a.cells.length + t * 4 by simp [Rp.cells]; omega, List.drop_append]
      simp
theorem flatR_take (l : List Rp) (t : Nat) : flatR (l.take t) = (flatR l).take (t * 4) := by
  induction l generalizing t with
  | nil => simp [flatR]
  | cons a l ih =>
    cases t with
    | zero => simp [flatR]
    | succ t =>
      have h1 : ∀ k : List Rp, flatR (a :: k) = a.cells ++ flatR k := fun k => by simp [flatR]
      rw [List.take_succ_cons, h1, h1, ih t, show (t + 1) * 4 = a.cells.length + t * 4 by simp [Rp.cells]; omega, List.take_append]
      simp
      exact (List.take_of_length_le (by omega)).symm
theorem flatR_app (l k : List Rp) : flatR (l ++ k) = flatR l ++ flatR k := by simp [flatR]
theorem flatR_one (l : List Rp) (hl : ∀ r ∈ l, r.lv.oneCell' = true) : ∀ u ∈ flatR l, u.oneCell' = true := fun u hu => by
  obtain ⟨cs, hcs, h⟩ := List.mem_flatten.1 hu
  obtain ⟨d, hd, rfl⟩ := List.mem_map.1 hcs
  simp only [Rp.cells, List.mem_cons, List.not_mem_nil, or_false] at h
  rcases h with rfl | rfl | rfl | rfl
  · rfl
  · rfl
  · rfl
  · exact hl d hd
theorem add_offC (g o j : Nat) : (⟨g, o, none⟩ : Addr).add j = ⟨g, o + j, none⟩ := by
  unfold Addr.add
  split
  · rename_i h; subst h; rfl
  · simp
set_option maxRecDepth 100000 in
set_option maxHeartbeats 8000000 in
theorem order_law {v : Value} {xss : List (Value × List Int)} {by_ : Int} (_hby : isInt by_) (w : World) (h : II w v xss) : Calls Try.prog 8 #[v, .int .i64 by_] w (One w (.bool true)) := by
  obtain ⟨i0, hi, hz0, hz1, hz2⟩ := info_partsC info_rep
  have HSh := Lib.hid (shown_calls w)
  have HI := Lib.hid h
  obtain ⟨A, c, rfl, hf, _⟩ := ii_read h
  unfold maxLen at hf
  clear h
  go_enter Try.func8, Try.ntmps8
  go_wp2_with fail
  refine HSh.out.mono ?_
  clear HSh
  rintro e w1 ⟨rfl, b1⟩
  by_cases h8 : (xss.length : Int) > 8
  · have HF := Lib.hid b1
    clear b1
    go_wp2
    go_ret
    exact ⟨rfl, HF.out⟩
  have HI1 := Lib.hid (HI.out.below b1)
  have HB1 := Lib.hid b1
  have HSt : Hid (OrdGo w1 xss xss.length (.slice none 0 0) (.int .i64 0) w1) := ⟨0, [], by omega, rfl, rfl, by simp, World.ownsRow_nil _ _ _ _, Below.refl _ _⟩
  clear b1 HI
  go_wp2
  go_loopg [6, 7] xss.length (fun k v6 v7 wr => OrdGo w1 xss k v6 v7 wr)
  case atStart => exact HSt.out
  clear HSt
  case round =>
    obtain ⟨i, rs, hk, rfl, hrl, hit, hrow, hB⟩ := hrel
    rw [hrl] at hrow
    obtain ⟨A6, c6, rfl⟩ := L5.own_slice hrow
    by_cases hil : i < xss.length
    · obtain ⟨x, hx⟩ : ∃ x, xss[i]? = some x := ⟨_, List.getElem?_eq_getElem hil⟩
      obtain ⟨A', c', e', hf', hr⟩ := ii_read HI1.out
      cases e'
      obtain ⟨ad, rfl, hxi, hc⟩ := hr i x hx
      have a0 := hc wr hB
      have j1 : (i : Int) < (xss.length : Int) := by omega
      have j2 : (0 : Int) ≤ (i : Int) := by omega
      have hgk := Lib.hid (show gk - 1 < gk by omega)
      have hbs := hB.size
      have HRw := Lib.hid (rows_own wr (hxi.below hB))
      obtain ⟨xv, xs⟩ := x
      have HApp : Hid (∀ (lv : Value) (ls : List Lg) V, ls.map Lg.core = rowsC (nOf xs) 3 → OwnL V wr.heap.size lv ls → Below wr.heap.size wr V →
          (V.alloc (.cells #[.int .i64 ((i : Int) + 1), .int .i64 ((i : Int) % 3), .int .i64 1, lv] 73)).ownsRow w1.heap.size 73 4 (.slice A6 i c6) i (flatR rs) ∧
          (∀ (j : Nat) (u : Value), [Value.int .i64 ((i : Int) + 1), .int .i64 ((i : Int) % 3), .int .i64 1, lv][j]? = some u → (V.alloc (.cells #[.int .i64 ((i : Int) + 1), .int .i64 ((i : Int) % 3), .int .i64 1, lv] 73)).cell? ((⟨V.heap.size, 0, none⟩ : Addr).add j) = some u) ∧
          w1.heap.size ≤ (V.alloc (.cells #[.int .i64 ((i : Int) + 1), .int .i64 ((i : Int) % 3), .int .i64 1, lv] 73)).heap.size ∧
          ∀ v' w6, w6.ownsRow w1.heap.size 73 4 v' (i + 1) (flatR rs ++ [.int .i64 ((i : Int) + 1), .int .i64 ((i : Int) % 3), .int .i64 1, lv]) → (V.alloc (.cells #[.int .i64 ((i : Int) + 1), .int .i64 ((i : Int) % 3), .int .i64 1, lv] 73)).grownBy w6 (Value.slice A6 i c6).ownBlock → OrdGo w1 xss (gk - 1) v' (.int .i64 ((i + 1 : Nat) : Int)) w6) := by
        intro lv ls V hco hO hV
        have hr := L5.own_below hrow hV
        have hb := hB.trans (hV.mono hbs)
        have hbz := hb.size
        refine ⟨hr.alloc _, fun j u hu => ?_, Nat.le_trans hbz (by simp), fun v' w6 k1 k2 => ?_⟩
        · rw [add_zeroC]
          simp only [World.cell?]
          rw [World.alloc_heap_new V _]
          simpa using hu
        · have k3 := (World.grownBy_alloc V (.cells #[.int .i64 ((i : Int) + 1), .int .i64 ((i : Int) % 3), .int .i64 1, lv] 73) (Value.slice A6 i c6).ownBlock).trans k2
          refine ⟨i + 1, rs ++ [⟨(i : Int) + 1, ((i : Int) % 3), 1, lv, ls⟩], by omega, rfl, by simp; omega, fun r hr' => ?_, ?_, hb.grown k3 hbz (fun q e => (hr.lt q e).1)⟩
          · rcases List.mem_append.1 hr' with hr' | hr'
            · exact ⟨(hit r hr').1, ((hit r hr').2.below hV).grown hr (of_decide_eq_true (by kernel_rfl)) (of_decide_eq_true (by kernel_rfl)) k3⟩
            · obtain rfl := List.mem_singleton.1 hr'
              refine ⟨good_rep hco, ?_⟩
              have hO2 : OwnL V w1.heap.size lv ls := ⟨hO.own.mono hbs, hO.few, fun l hl => ⟨⟨(hO.its l hl).1.own.mono hbs, (hO.its l hl).1.short⟩, (hO.its l hl).2⟩⟩
              exact hO2.grown hr (of_decide_eq_true (by kernel_rfl)) (of_decide_eq_true (by kernel_rfl)) k3
          · rw [flatR_snoc, List.length_append, hrl]
            exact k1
      have hrl8 : i ≤ 8 := by omega
      clear hrl hk hit hrow hB hx hxi hc hr hf' hbs
      simp only at a0
      go_wp2_with fail
      refine HRw.out.mono ?_
      clear HRw
      rintro e w6 ⟨lv, ls, rfl, hco, hO, b6⟩
      have HA := Lib.hid (HApp.out lv ls w6 hco hO b6)
      obtain ⟨Al, cl, rfl⟩ := L5.own_slice hO.own
      clear hco hO b6 HApp
      go_wp2_with (at_builtin; refine wpList_append_own _ rfl _ _ 53 rfl w1.heap.size 73 i0 zeroRp 4 48 Try.underlying53 hi hz0 hz1 hz2 rfl (by decide) _ _ _ rfl HA.out.1 ⟨w6.heap.size, 0, none⟩ 1 1 [.int .i64 ((i : Int) + 1), .int .i64 ((i : Int) % 3), .int .i64 1, .slice Al ls.length cl] rfl rfl HA.out.2.1 (by simp [Value.oneCell']) (by unfold maxLen; omega) (by omega) HA.out.2.2.1 ?_; intro v' w7 hown' hgrow _; have HJ := Lib.hid (HA.out.2.2.2 v' w7 hown' hgrow); clear hown' hgrow)
      go_roundg (gk - 1)
      case measure => exact hgk.out
      case rel => exact HJ.out
    · obtain rfl : i = xss.length := by omega
      have j1 : ¬ (xss.length : Int) < (xss.length : Int) := by omega
      have hn8 : xss.length ≤ 8 := by omega
      have hRA : RepsA wr (.slice A6 xss.length c6) rs := by
        refine ⟨?_, fun r hr => ?_⟩
        · have h1 := hrow
          rw [← hrl] at h1
          have := CellsA.of_own (cs := rs.map Rp.cells) (by rw [List.length_map]; exact h1) (rp_four rs) (by rw [List.length_map]; unfold maxLen; omega)
          rw [hrl] at this
          exact this
        · obtain ⟨⟨⟨g1, g2⟩, g3, _⟩, g4⟩ := hit r hr
          exact ⟨g4.logs, ⟨by omega, by omega⟩, ⟨by omega, by omega⟩⟩
      have htot : ∀ l : List Rp, (∀ r ∈ l, r ∈ rs) → l.length ≤ 8 → (l.flatMap ptsOf).length ≤ 24 := fun l hl h8 => by
        have h1 : (l.flatMap ptsOf).length ≤ 3 * l.length := by
          clear h8
          induction l with
          | nil => simp
          | cons a l ih =>
            rw [List.flatMap_cons, List.length_append, List.length_cons]
            have h1 := ih (fun r hr => hl r (by simp [hr]))
            have h2 := (hit a (hl a (by simp))).1.2.2.1
            have h3 : (ptsOf a).length = a.lg.length := by simp [ptsOf]
            omega
        omega
      have hpts : ∀ x ∈ rs.flatMap ptsOf, Begun x ∧ (OldOk x.ep x.co ∧ 1 ≤ x.se ∧ x.se ≤ 8) ∧ x.it.l.length ≤ 5 := fun x hx => by
        obtain ⟨r, hr, hxr⟩ := List.mem_flatMap.1 hx
        obtain ⟨⟨⟨g1, g2⟩, g3, _, g5⟩, _⟩ := hit r hr
        unfold ptsOf at hxr
        obtain ⟨g, hg, rfl⟩ := List.mem_map.1 hxr
        obtain ⟨s, n, h1, h2, h3, h4, h5⟩ := g5 g hg
        refine ⟨⟨s, n, h4, h5⟩, ⟨⟨g1, by simp only; omega, by simp only; omega, by simp only; omega⟩, by simp only; omega, by simp only; omega⟩, ?_⟩
        simp only
        rw [h5, numsL_len]
        exact h3
      have hcutm : ∀ (l : List Rp), (∀ r ∈ l, r ∈ rs) → ∀ p ∈ cutP l, p.it.l.length ≤ 4000000000 := fun l hl p hp => by
        have hpm : p ∈ l.flatMap ptsOf := by
          rcases fold_mem hp with h | ⟨h, _⟩
          · simp at h
          · exact h
        obtain ⟨r, hr, hpr⟩ := List.mem_flatMap.1 hpm
        have := (hpts p (List.mem_flatMap.2 ⟨r, hl r hr, hpr⟩)).2.2
        omega
      have HCut := Lib.hid (cut_calls wr hRA (Nat.le_trans (htot rs (fun _ h => h) (by omega)) (by omega)) (hcutm rs (fun _ h => h)))
      obtain ⟨T, hT⟩ : ∃ T : Nat, max 0 (min by_ (xss.length : Int)) = (T : Int) := ⟨(max 0 (min by_ (xss.length : Int))).toNat, by omega⟩
      have hTn : T ≤ xss.length := by omega
      have HPts := Lib.hid hpts
      have HTot := Lib.hid htot
      have HCm := Lib.hid hcutm
      have HRA := Lib.hid hRA
      have HRl := Lib.hid hrl
      have HRow := Lib.hid hrow
      have HBr := Lib.hid hB
      clear hk hRA htot hpts hcutm hrl hit hrow hB
      go_wp2_with fail
      refine HCut.out.mono ?_
      clear HCut
      rintro e w2 ⟨va, pa, rfl, hpc, hpa, b2⟩
      have HPa := Lib.hid (And.intro hpc (And.intro hpa b2))
      clear hpc hpa b2
      clear hT
      have t0 : (0 : Int) ≤ (T : Int) := by omega
      have t1 : (T : Int) ≤ (xss.length : Int) := by omega
      have HFine : Hid (∀ ps : List Pt, ps.map Pt.core = (cutP rs).map Pt.core → ps.length ≤ 24 ∧ (∀ p ∈ ps, p.it.l.length ≤ 4000000) ∧ OkParts (ps.map Pt.core) ∧ ∀ r ∈ (ps.map Pt.core).map rowPt, rowE r = 0) := fun ps hps => by
        have hmem : ∀ p ∈ cutP rs, p ∈ rs.flatMap ptsOf := fun p hp => by
          rcases fold_mem hp with h | ⟨h, _⟩
          · simp at h
          · exact h
        have hex : ∀ p ∈ ps, ∃ q ∈ cutP rs, q.core = p.core := fun p hp => by
          have : p.core ∈ (cutP rs).map Pt.core := by rw [← hps]; exact List.mem_map.2 ⟨p, hp, rfl⟩
          obtain ⟨q, hq, e⟩ := List.mem_map.1 this
          exact ⟨q, hq, e⟩
        refine ⟨?_, fun p hp => ?_, ?_, fun r hr => ?_⟩
        · have h1 := congrArg List.length hps
          simp only [List.length_map] at h1
          have h2 := cut_len rs
          have h3 := HTot.out rs (fun _ h => h) (by rw [HRl.out]; exact hn8)
          omega
        · obtain ⟨q, hq, e⟩ := hex p hp
          have h1 := (HPts.out q (hmem q hq)).2.2
          have h2 : q.it.l = p.it.l := congrArg (fun c : Core => c.2.2.2) e
          rw [← h2]
          omega
        · rw [hps]
          exact ok_cut (fun x hx => (HPts.out x hx).2.1)
        · rw [hps, List.map_map] at hr
          obtain ⟨q, hq, rfl⟩ := List.mem_map.1 hr
          have h1 := HPts.out q (hmem q hq)
          exact part_put h1.1 (by omega)
      rcases HRow.out.2 with ⟨hv, h0⟩ | ⟨g, cap, cur, hv, _, hg, hc1, _⟩
      · obtain rfl : A6 = none := by injection hv
        obtain rfl : c6 = 0 := by injection hv
        obtain rfl : T = 0 := by omega
        have hrn : rs = [] := List.length_eq_zero_iff.1 (by rw [HRl.out]; exact h0)
        rw [h0]
        have hc2 : ∀ V v5, v5 = Value.slice (some ⟨w2.heap.size, 0, none⟩) 0 0 → Calls Try.prog 29 #[v5] V (PartsOut V ((cutP rs).map Pt.core)) := fun V v5 e => by
          have hR : RepsA V v5 [] := ⟨⟨_, 0, by rw [e]; rfl, by simp, fun j x hx => by simp at hx⟩, by simp⟩
          have := cut_calls V hR (by simp) (by simp [cutP])
          rw [hrn]
          exact this
        have HCut2 := Lib.hid hc2
        have hb3 : Below w2.heap.size w2 (w2.alloc (.cells #[] 73)) := (Below.refl w2.heap.size w2).alloc (Nat.le_refl _) _
        have HB3 := Lib.hid hb3
        clear hc2 hb3 hrn hv
        go_wp2_with fail
        go_region_law (go_simp; go_at_call 29; refine (HCut2.out _ _ rfl).mono ?_; rintro e w6 ⟨vb, pb, rfl, hpb, hpba, b6⟩)
        replace b6 : Below w2.heap.size w2 w6 := by
          first
            | exact HB3.out.trans (b6.mono HB3.out.size)
            | exact HB3.out.drew.trans (b6.mono HB3.out.drew.size)
            | exact HB3.out.drew.drew.trans (b6.mono HB3.out.drew.drew.size)
        have XB5 : Hid (Below w2.heap.size w2 w2) := Below.refl _ _
        clear HCut2 HB3
        have HB6 : Hid (Below w2.heap.size w2 w6) := XB5.out.trans (b6.mono XB5.out.size)
        obtain ⟨f1, f2, f3, f4⟩ := HFine.out pa HPa.out.1
        have HP1 := Lib.hid (partsC_calls w6 (HPa.out.2.1.below HB6.out) (by omega) f2)
        have HG1 := Lib.hid (And.intro f1 (And.intro f3 f4))
        have HPb := Lib.hid (And.intro hpb hpba)
        clear f1 f2 f3 f4 hpb hpba b6 XB5
        go_wp2_with fail
        refine HP1.out.mono ?_
        clear HP1
        rintro e w7 hro
        obtain ⟨⟨A1, c1, l1⟩, rfl, hy1, hi1, b7⟩ := rows_ok hro HG1.out.2.1 HG1.out.2.2 (by have := HG1.out.1; simp; omega)
        obtain ⟨f1, f2, f3, f4⟩ := HFine.out pb HPb.out.1
        have HP2 := Lib.hid (partsC_calls w7 (HPb.out.2.below b7) (by omega) f2)
        have HG2 := Lib.hid (And.intro f1 (And.intro f3 f4))
        have HY1 := Lib.hid (And.intro hy1 hi1)
        have HB7 := Lib.hid (HB6.out.trans (b7.mono HB6.out.size))
        clear f1 f2 f3 f4 hro hy1 hi1 b7 HB6 HG1
        simp only [It.v]
        go_wp2_with fail
        refine HP2.out.mono ?_
        clear HP2
        rintro e w8 hro
        obtain ⟨⟨A2, c2, l2⟩, rfl, hy2, hi2, b8⟩ := rows_ok hro HG2.out.2.1 HG2.out.2.2 (by have := HG2.out.1; simp; omega)
        have hl12 : l2 = l1 := by
          have e1 : l1 = _ := HY1.out.1
          have e2 : l2 = _ := hy2
          rw [e1, e2, HPa.out.1, HPb.out.1]
        subst hl12
        have hl2 : l2.length ≤ 24 := by
          have e2 : l2 = _ := hy2
          rw [e2]
          have := HG2.out.1
          simp; omega
        have HTx := Lib.hid (texts_calls ⟨A2, c2, l2⟩ w8 hi2 (by simp only; omega))
        have HY2 := Lib.hid (HY1.out.2.below b8)
        have HB8 := Lib.hid (HB7.out.trans (b8.mono HB7.out.size))
        clear hro hy2 hi2 b8 HB7 HG2 HY1 HPb hl2
        simp only [It.v] at HTx ⊢
        go_wp2_with fail
        refine HTx.out.mono ?_
        clear HTx
        rintro e w9 ⟨⟨A3, c3, l3⟩, rfl, hx3, hi3, _, b9⟩
        obtain rfl : l3 = l2 := hx3
        have hS := same_calls ⟨A1, c1, l3⟩ ⟨A3, c3, l3⟩ w9 (HY2.out.below b9) hi3
        rw [decide_eq_true rfl] at hS
        have HS := Lib.hid hS
        have HB9 := Lib.hid (HB8.out.trans (b9.mono HB8.out.size))
        clear hi3 b9 hS HB8
        simp only [It.v] at HS ⊢
        go_wp2_with fail
        refine HS.out.mono ?_
        clear HS
        rintro e w10 ⟨rfl, b10⟩
        have HF : Hid (One w (.bool true) (.returned (.bool true)) w10) := ⟨rfl, by
          have h1 := HB1.out.trans (HBr.out.mono HB1.out.size)
          have h2 := h1.trans (HPa.out.2.2.mono h1.size)
          have h3 := h2.trans (HB9.out.mono h2.size)
          exact h3.trans (b10.mono h3.size)⟩
        clear b10
        go_wp2
        go_ret
        exact HF.out
      · obtain rfl : A6 = some ⟨g, 0, none⟩ := by injection hv
        obtain rfl : c6 = cap := by injection hv
        clear hv hg
        have t2 : (T : Int) ≤ (c6 : Int) := by omega
        by_cases hcap : c6 = T
        · obtain rfl : T = xss.length := by omega
          subst hcap
          have hw2 : Below wr.heap.size wr w2 := HPa.out.2.2
          have hlv : ∀ r ∈ rs, r.lv.oneCell' = true := fun r hr => by
            obtain ⟨A, c, e, _⟩ := HRA.out.its r hr |>.1.cells
            rw [e]; rfl
          have HO2 := Lib.hid (flatR_one rs hlv)
          have Ht : Hid ((flatR rs).length = xss.length * 4) := Lib.hid (by rw [flatR_len, HRl.out])
          have HN2 : Hid (∀ V, Below w2.heap.size w2 V → ∀ (j : Nat) (u : Value), (flatR rs)[j]? = some u → V.cell? ((⟨g, 0, none⟩ : Addr).add j) = some u) := fun V hV j u hu => by
            have h1 := HRow.out.cells (g := g) rfl j u hu
            have hgl := (HRow.out.lt g rfl).2
            have hbV := hw2.trans (hV.mono hw2.size)
            exact (hbV.cell (p := (⟨g, 0, none⟩ : Addr).add j) (by rw [addr_blockC]; exact hgl)).trans h1
          have hb3 : Below w2.heap.size w2 (w2.alloc (.cells #[] 73)).drew := ((Below.refl w2.heap.size w2).alloc (Nat.le_refl _) _).drew
          have HB3 := Lib.hid hb3
          have HLit : Hid ((w2.alloc (.cells #[] 73)).drew.ownsRow w2.heap.size 73 4 (.slice (some ⟨w2.heap.size, 0, none⟩) 0 0) 0 []) :=
            L5.own_below (World.ownsRow_lit (e := 73) (base := w2.heap.size) (size := 4) w2 #[] 0 (Nat.le_refl _) (by unfold maxLen; omega) rfl) (Below.refl _ _).drew
          have m0 : Hid (0 + 0 ≤ maxLen ∧ (0 + 0) * 48 ≤ 140737488355328 ∧ 0 + 0 + xss.length ≤ maxLen ∧ (0 + 0 + xss.length) * 48 ≤ 140737488355328) := ⟨by unfold maxLen; omega, by omega, by unfold maxLen; omega, by omega⟩
          have HCut2 : Hid (∀ V v5, V.ownsRow w2.heap.size 73 4 v5 (0 + 0 + xss.length) (([] ++ []) ++ flatR rs) → Below w2.heap.size w2 V → Calls Try.prog 29 #[v5] V (PartsOut V ((cutP rs).map Pt.core))) := fun V v5 ho hV => by
            rw [List.append_nil, List.nil_append, show 0 + 0 + xss.length = rs.length by rw [HRl.out]; omega] at ho
            have hR : RepsA V v5 rs := ⟨by
              have := CellsA.of_own (cs := rs.map Rp.cells) (by rw [List.length_map]; exact ho) (rp_four _) (by rw [List.length_map, HRl.out]; unfold maxLen; omega)
              exact this, fun r hr => by
              obtain ⟨k1, k2, k3⟩ := HRA.out.its r hr
              exact ⟨k1.below (hw2.trans (hV.mono hw2.size)), k2, k3⟩⟩
            exact cut_calls V hR (Nat.le_trans (HTot.out _ (fun _ h => h) (by rw [HRl.out]; exact hn8)) (by omega)) (HCm.out _ (fun _ h => h))
          clear hw2 hlv hb3 t0
          go_wp2_with fail
          go_region_law (first
            | (go_simp; go_at_call 29; refine (HCut2.out w5 v5 X5.out.1 X5.out.2).mono ?_; rintro e w6 ⟨vb, pb, rfl, hpb, hpba, b6⟩)
            | (refine step_append_ownC rfl (.tmp 55) (.tmp 58) 53 rfl w2.heap.size 73 i0 zeroRp 4 48 Try.underlying53 hi hz0 hz1 hz2 rfl (by decide) v4 (0 + 0) ([] ++ []) (by simp [Act.eval]) (L5.own_below X4.out.1 (by first | exact Below.refl _ _ | exact (Below.refl _ _).drew)) ⟨g, 0, none⟩ xss.length xss.length (flatR rs) (by simp [Act.eval]) Ht.out (HN2.out _ (X4.out.2.trans (by first | exact Below.refl _ _ | exact (Below.refl _ _).drew.mono X4.out.2.size))) HO2.out m0.out.2.2.1 m0.out.2.2.2 (by first | exact X4.out.2.size | (have := X4.out.2.size; simp; omega)) ?_
               intro v5 w5 hown5 hgrow5
               have X5 : Hid (w5.ownsRow w2.heap.size 73 4 v5 (0 + 0 + xss.length) (([] ++ []) ++ flatR rs) ∧ Below w2.heap.size w2 w5) := ⟨hown5, (X4.out.2.trans (by first | exact Below.refl _ _ | exact (Below.refl _ _).drew.mono X4.out.2.size)).grown hgrow5 (by first | exact X4.out.2.size | (have := X4.out.2.size; simp; omega)) (fun q e => (X4.out.1.lt q e).1)⟩
               clear hown5 hgrow5)
            | (refine step_append_ownC rfl (.tmp 51) (.tmp 54) 53 rfl w2.heap.size 73 i0 zeroRp 4 48 Try.underlying53 hi hz0 hz1 hz2 rfl (by decide) (.slice (some ⟨w2.heap.size, 0, none⟩) 0 0) 0 [] (by simp [Act.eval]) HLit.out ⟨g, 0, none⟩ 0 0 [] (by simp [Act.eval]) rfl (fun j u hu => by simp at hu) (by simp) m0.out.1 m0.out.2.1 HB3.out.size ?_
               intro v4 w4 hown4 hgrow4
               have X4 : Hid (w4.ownsRow w2.heap.size 73 4 v4 (0 + 0) ([] ++ []) ∧ Below w2.heap.size w2 w4) := ⟨hown4, HB3.out.grown hgrow4 HB3.out.size (fun q e => (HLit.out.lt q e).1)⟩
               clear hown4 hgrow4))
          have XB5 := Lib.hid X5.out.2
          clear X4 X5 HCut2 HN2 HO2 HLit HB3 Ht m0
          have HB6 : Hid (Below w2.heap.size w2 w6) := XB5.out.trans (b6.mono XB5.out.size)
          obtain ⟨f1, f2, f3, f4⟩ := HFine.out pa HPa.out.1
          have HP1 := Lib.hid (partsC_calls w6 (HPa.out.2.1.below HB6.out) (by omega) f2)
          have HG1 := Lib.hid (And.intro f1 (And.intro f3 f4))
          have HPb := Lib.hid (And.intro hpb hpba)
          clear f1 f2 f3 f4 hpb hpba b6 XB5
          go_wp2_with fail
          refine HP1.out.mono ?_
          clear HP1
          rintro e w7 hro
          obtain ⟨⟨A1, c1, l1⟩, rfl, hy1, hi1, b7⟩ := rows_ok hro HG1.out.2.1 HG1.out.2.2 (by have := HG1.out.1; simp; omega)
          obtain ⟨f1, f2, f3, f4⟩ := HFine.out pb HPb.out.1
          have HP2 := Lib.hid (partsC_calls w7 (HPb.out.2.below b7) (by omega) f2)
          have HG2 := Lib.hid (And.intro f1 (And.intro f3 f4))
          have HY1 := Lib.hid (And.intro hy1 hi1)
          have HB7 := Lib.hid (HB6.out.trans (b7.mono HB6.out.size))
          clear f1 f2 f3 f4 hro hy1 hi1 b7 HB6 HG1
          simp only [It.v]
          go_wp2_with fail
          refine HP2.out.mono ?_
          clear HP2
          rintro e w8 hro
          obtain ⟨⟨A2, c2, l2⟩, rfl, hy2, hi2, b8⟩ := rows_ok hro HG2.out.2.1 HG2.out.2.2 (by have := HG2.out.1; simp; omega)
          have hl12 : l2 = l1 := by
            have e1 : l1 = _ := HY1.out.1
            have e2 : l2 = _ := hy2
            rw [e1, e2, HPa.out.1, HPb.out.1]
          subst hl12
          have hl2 : l2.length ≤ 24 := by
            have e2 : l2 = _ := hy2
            rw [e2]
            have := HG2.out.1
            simp; omega
          have HTx := Lib.hid (texts_calls ⟨A2, c2, l2⟩ w8 hi2 (by simp only; omega))
          have HY2 := Lib.hid (HY1.out.2.below b8)
          have HB8 := Lib.hid (HB7.out.trans (b8.mono HB7.out.size))
          clear hro hy2 hi2 b8 HB7 HG2 HY1 HPb hl2
          simp only [It.v] at HTx ⊢
          go_wp2_with fail
          refine HTx.out.mono ?_
          clear HTx
          rintro e w9 ⟨⟨A3, c3, l3⟩, rfl, hx3, hi3, _, b9⟩
          obtain rfl : l3 = l2 := hx3
          have hS := same_calls ⟨A1, c1, l3⟩ ⟨A3, c3, l3⟩ w9 (HY2.out.below b9) hi3
          rw [decide_eq_true rfl] at hS
          have HS := Lib.hid hS
          have HB9 := Lib.hid (HB8.out.trans (b9.mono HB8.out.size))
          clear hi3 b9 hS HB8
          simp only [It.v] at HS ⊢
          go_wp2_with fail
          refine HS.out.mono ?_
          clear HS
          rintro e w10 ⟨rfl, b10⟩
          have HF : Hid (One w (.bool true) (.returned (.bool true)) w10) := ⟨rfl, by
            have h1 := HB1.out.trans (HBr.out.mono HB1.out.size)
            have h2 := h1.trans (HPa.out.2.2.mono h1.size)
            have h3 := h2.trans (HB9.out.mono h2.size)
            exact h3.trans (b10.mono h3.size)⟩
          clear b10
          go_wp2
          go_ret
          exact HF.out
        · have Hd : Hid ((flatR (rs.drop T)).length = (xss.length - T) * 4) := Lib.hid (by rw [flatR_len, List.length_drop, HRl.out])
          have Ht : Hid ((flatR (rs.take T)).length = T * 4) := Lib.hid (by rw [flatR_len, List.length_take, HRl.out]; congr 1; omega)
          have hw2 : Below wr.heap.size wr w2 := HPa.out.2.2
          have hlv : ∀ r ∈ rs, r.lv.oneCell' = true := fun r hr => by
            obtain ⟨A, c, e, _⟩ := HRA.out.its r hr |>.1.cells
            rw [e]; rfl
          have HO1 := Lib.hid (flatR_one (rs.drop T) (fun r hr => hlv r (List.mem_of_mem_drop hr)))
          have HO2 := Lib.hid (flatR_one (rs.take T) (fun r hr => hlv r (List.mem_of_mem_take hr)))
          have hcells : ∀ V, Below w2.heap.size w2 V → ∀ (j : Nat) (u : Value), (flatR rs)[j]? = some u → V.cell? ⟨g, j, none⟩ = some u := fun V hV j u hu => by
            have h1 := HRow.out.cells (g := g) rfl j u hu
            rw [add_zeroC] at h1
            have hgl := (HRow.out.lt g rfl).2
            have hbV := hw2.trans (hV.mono hw2.size)
            exact (hbV.cell (p := ⟨g, j, none⟩) hgl).trans h1
          have HN1 : Hid (∀ V, Below w2.heap.size w2 V → ∀ (j : Nat) (u : Value), (flatR (rs.drop T))[j]? = some u → V.cell? ((⟨g, T * 4, none⟩ : Addr).add j) = some u) := fun V hV j u hu => by
            rw [flatR_drop, List.getElem?_drop] at hu
            rw [add_offC]
            exact hcells V hV _ u hu
          have HN2 : Hid (∀ V, Below w2.heap.size w2 V → ∀ (j : Nat) (u : Value), (flatR (rs.take T))[j]? = some u → V.cell? ((⟨g, 0, none⟩ : Addr).add j) = some u) := fun V hV j u hu => by
            rw [flatR_take, List.getElem?_take] at hu
            split at hu
            · rw [add_zeroC]
              exact hcells V hV _ u hu
            · cases hu
          have hb3 : Below w2.heap.size w2 (w2.alloc (.cells #[] 73)).drew := ((Below.refl w2.heap.size w2).alloc (Nat.le_refl _) _).drew
          have HB3 := Lib.hid hb3
          have HLit : Hid ((w2.alloc (.cells #[] 73)).drew.ownsRow w2.heap.size 73 4 (.slice (some ⟨w2.heap.size, 0, none⟩) 0 0) 0 []) :=
            L5.own_below (World.ownsRow_lit (e := 73) (base := w2.heap.size) (size := 4) w2 #[] 0 (Nat.le_refl _) (by unfold maxLen; omega) rfl) (Below.refl _ _).drew
          have m0 : Hid (0 + (xss.length - T) ≤ maxLen ∧ (0 + (xss.length - T)) * 48 ≤ 140737488355328 ∧ 0 + (xss.length - T) + T ≤ maxLen ∧ (0 + (xss.length - T) + T) * 48 ≤ 140737488355328) := ⟨by unfold maxLen; omega, by omega, by unfold maxLen; omega, by omega⟩
          have HCut2 : Hid (∀ V v5, V.ownsRow w2.heap.size 73 4 v5 (0 + (xss.length - T) + T) (([] ++ flatR (rs.drop T)) ++ flatR (rs.take T)) → Below w2.heap.size w2 V → Calls Try.prog 29 #[v5] V (PartsOut V ((cutP rs).map Pt.core))) := fun V v5 ho hV => by
            have hlen : (rs.drop T ++ rs.take T).length = xss.length := by rw [List.length_append, List.length_drop, List.length_take, HRl.out]; omega
            have hmem : ∀ r ∈ rs.drop T ++ rs.take T, r ∈ rs := fun r hr => by
              rcases List.mem_append.1 hr with h | h
              · exact List.mem_of_mem_drop h
              · exact List.mem_of_mem_take h
            rw [List.nil_append, ← flatR_app, show 0 + (xss.length - T) + T = (rs.drop T ++ rs.take T).length by rw [hlen]; omega] at ho
            have hR : RepsA V v5 (rs.drop T ++ rs.take T) := ⟨by
              have := CellsA.of_own (cs := (rs.drop T ++ rs.take T).map Rp.cells) (by rw [List.length_map]; exact ho) (rp_four _) (by rw [List.length_map, hlen]; unfold maxLen; omega)
              exact this, fun r hr => by
              obtain ⟨k1, k2, k3⟩ := HRA.out.its r (hmem r hr)
              exact ⟨k1.below (hw2.trans (hV.mono hw2.size)), k2, k3⟩⟩
            have := cut_calls V hR (Nat.le_trans (HTot.out _ hmem (by rw [hlen]; exact hn8)) (by omega)) (HCm.out _ hmem)
            rw [cut_turned rs T (fun x hx => (HPts.out x hx).1)] at this
            exact this
          clear hw2 hlv hcells hb3 t0
          go_wp2_with fail
          go_region_law (first
            | (go_simp; go_at_call 29; refine (HCut2.out w5 v5 X5.out.1 X5.out.2).mono ?_; rintro e w6 ⟨vb, pb, rfl, hpb, hpba, b6⟩)
            | (refine step_append_ownC rfl (.tmp 55) (.tmp 58) 53 rfl w2.heap.size 73 i0 zeroRp 4 48 Try.underlying53 hi hz0 hz1 hz2 rfl (by decide) v4 (0 + (xss.length - T)) ([] ++ flatR (rs.drop T)) (by simp [Act.eval]) (L5.own_below X4.out.1 (by first | exact Below.refl _ _ | exact (Below.refl _ _).drew)) ⟨g, 0, none⟩ T c6 (flatR (rs.take T)) (by simp [Act.eval]) Ht.out (HN2.out _ (X4.out.2.trans (by first | exact Below.refl _ _ | exact (Below.refl _ _).drew.mono X4.out.2.size))) HO2.out m0.out.2.2.1 m0.out.2.2.2 (by first | exact X4.out.2.size | (have := X4.out.2.size; simp; omega)) ?_
               intro v5 w5 hown5 hgrow5
               have X5 : Hid (w5.ownsRow w2.heap.size 73 4 v5 (0 + (xss.length - T) + T) (([] ++ flatR (rs.drop T)) ++ flatR (rs.take T)) ∧ Below w2.heap.size w2 w5) := ⟨hown5, (X4.out.2.trans (by first | exact Below.refl _ _ | exact (Below.refl _ _).drew.mono X4.out.2.size)).grown hgrow5 (by first | exact X4.out.2.size | (have := X4.out.2.size; simp; omega)) (fun q e => (X4.out.1.lt q e).1)⟩
               clear hown5 hgrow5)
            | (refine step_append_ownC rfl (.tmp 51) (.tmp 54) 53 rfl w2.heap.size 73 i0 zeroRp 4 48 Try.underlying53 hi hz0 hz1 hz2 rfl (by decide) (.slice (some ⟨w2.heap.size, 0, none⟩) 0 0) 0 [] (by simp [Act.eval]) HLit.out ⟨g, T * 4, none⟩ (xss.length - T) (c6 - T) (flatR (rs.drop T)) (by simp [Act.eval]) Hd.out (HN1.out _ HB3.out) HO1.out m0.out.1 m0.out.2.1 HB3.out.size ?_
               intro v4 w4 hown4 hgrow4
               have X4 : Hid (w4.ownsRow w2.heap.size 73 4 v4 (0 + (xss.length - T)) ([] ++ flatR (rs.drop T)) ∧ Below w2.heap.size w2 w4) := ⟨hown4, HB3.out.grown hgrow4 HB3.out.size (fun q e => (HLit.out.lt q e).1)⟩
               clear hown4 hgrow4))
          have XB5 := Lib.hid X5.out.2
          clear X4 X5 HCut2 HN1 HN2 HO1 HO2 HLit HB3 Hd Ht m0
          have HB6 : Hid (Below w2.heap.size w2 w6) := XB5.out.trans (b6.mono XB5.out.size)
          obtain ⟨f1, f2, f3, f4⟩ := HFine.out pa HPa.out.1
          have HP1 := Lib.hid (partsC_calls w6 (HPa.out.2.1.below HB6.out) (by omega) f2)
          have HG1 := Lib.hid (And.intro f1 (And.intro f3 f4))
          have HPb := Lib.hid (And.intro hpb hpba)
          clear f1 f2 f3 f4 hpb hpba b6 XB5
          go_wp2_with fail
          refine HP1.out.mono ?_
          clear HP1
          rintro e w7 hro
          obtain ⟨⟨A1, c1, l1⟩, rfl, hy1, hi1, b7⟩ := rows_ok hro HG1.out.2.1 HG1.out.2.2 (by have := HG1.out.1; simp; omega)
          obtain ⟨f1, f2, f3, f4⟩ := HFine.out pb HPb.out.1
          have HP2 := Lib.hid (partsC_calls w7 (HPb.out.2.below b7) (by omega) f2)
          have HG2 := Lib.hid (And.intro f1 (And.intro f3 f4))
          have HY1 := Lib.hid (And.intro hy1 hi1)
          have HB7 := Lib.hid (HB6.out.trans (b7.mono HB6.out.size))
          clear f1 f2 f3 f4 hro hy1 hi1 b7 HB6 HG1
          simp only [It.v]
          go_wp2_with fail
          refine HP2.out.mono ?_
          clear HP2
          rintro e w8 hro
          obtain ⟨⟨A2, c2, l2⟩, rfl, hy2, hi2, b8⟩ := rows_ok hro HG2.out.2.1 HG2.out.2.2 (by have := HG2.out.1; simp; omega)
          have hl12 : l2 = l1 := by
            have e1 : l1 = _ := HY1.out.1
            have e2 : l2 = _ := hy2
            rw [e1, e2, HPa.out.1, HPb.out.1]
          subst hl12
          have hl2 : l2.length ≤ 24 := by
            have e2 : l2 = _ := hy2
            rw [e2]
            have := HG2.out.1
            simp; omega
          have HTx := Lib.hid (texts_calls ⟨A2, c2, l2⟩ w8 hi2 (by simp only; omega))
          have HY2 := Lib.hid (HY1.out.2.below b8)
          have HB8 := Lib.hid (HB7.out.trans (b8.mono HB7.out.size))
          clear hro hy2 hi2 b8 HB7 HG2 HY1 HPb hl2
          simp only [It.v] at HTx ⊢
          go_wp2_with fail
          refine HTx.out.mono ?_
          clear HTx
          rintro e w9 ⟨⟨A3, c3, l3⟩, rfl, hx3, hi3, _, b9⟩
          obtain rfl : l3 = l2 := hx3
          have hS := same_calls ⟨A1, c1, l3⟩ ⟨A3, c3, l3⟩ w9 (HY2.out.below b9) hi3
          rw [decide_eq_true rfl] at hS
          have HS := Lib.hid hS
          have HB9 := Lib.hid (HB8.out.trans (b9.mono HB8.out.size))
          clear hi3 b9 hS HB8
          simp only [It.v] at HS ⊢
          go_wp2_with fail
          refine HS.out.mono ?_
          clear HS
          rintro e w10 ⟨rfl, b10⟩
          have HF : Hid (One w (.bool true) (.returned (.bool true)) w10) := ⟨rfl, by
            have h1 := HB1.out.trans (HBr.out.mono HB1.out.size)
            have h2 := h1.trans (HPa.out.2.2.mono h1.size)
            have h3 := h2.trans (HB9.out.mono h2.size)
            exact h3.trans (b10.mono h3.size)⟩
          clear b10
          go_wp2
          go_ret
          exact HF.out
end Go.Proofs.Ytkalmfhebffklaa.L11
end

section
namespace Go.Proofs.Ytkalmfhebffklaa
open Go.ChangeShapes Go.WideShapes Go.ChangeAt Go.RowKit

set_option maxRecDepth 100000 in
theorem cord_lifted (os : Os) (started : os.Started) (H : Type) (enc : TypeId × Value → H) :
    ReturnsInHanded {} Try.checked os 8 .any (Rows.cutOrderSpec.pre6 enc Try.prog Try.f8 Rows.cutOrderRow.domain false) (Rows.cutOrderSpec.post enc Try.prog Try.f8 false true false false) := by
  refine returnsInHanded_of_change (C := Try.checked) L5.own started (by kernel_rfl) Try.func8
    (ChangeSpec.witness6 (enc := enc) (C := Try.checked) false ⟨#[], #[.slice none 0 0, .int .i64 0], []⟩ 8 (by kernel_rfl) (by kernel_rfl) (by kernel_rfl) (by kernel_rfl)) ?_
  intro W base args ds gs before hval0 hW hcnd _
  have hval : ∀ (j : Nat) t v, Try.f8.params[j]? = some t → args[j]? = some v → Value.okWide Try.prog W .any base t v := hval0
  have hW' := hW
  obtain ⟨p, q, hA0, hV, rfl, hfz, hnd⟩ := hW
  have hA : DataW.TrodAll enc Try.prog W 0 (fun _ => true) true Try.f8.params.toList args.toList ds p := hA0
  rw [Try.params8] at hA hval
  obtain ⟨v0, vs0, d0, ds0, p0, q0, hargs, rfl, rfl, h0, r0⟩ := trodAll_cons hA
  obtain ⟨v1, vs1, d1, ds1, p1, q1, rfl, rfl, rfl, h1, r1⟩ := trodAll_cons r0
  obtain ⟨rfl, rfl, rfl⟩ := trodAll_nil r1
  obtain rfl : args = #[v0, v1] := by cases args; simp_all
  obtain ⟨rfl, rfl⟩ := trodVars_none hV
  have h0k := h0
  obtain ⟨zs0, hII0⟩ := L11.open_iirow (hval 0 69 v0 rfl rfl) h0
  obtain ⟨a1, rfl, rfl, rfl, w1⟩ := open_int Try.underlying3 (hval 1 3 v1 rfl rfl) h1
  clear hA0 hval0
  simp only [List.append_nil] at hW'
  have hlt : ∀ x ∈ p0, x.block < W.heap.size := fun x hx => by simpa using hW'.lt x (by simpa using hx)
  refine (L11.order_law (L5.i64_of_wf w1) W hII0).mono fun e W' ⟨he, hg⟩ => ?_
  subst he
  exact ⟨_, rfl, L5.post_law_at (pv := []) hW' (trodAll_cons_mk (shut_bool Try.underlying4 _) trodAll_mk0) (trodAll_cons_mk (Below.trod L5.laid_out (by kernel_rfl) (of_decide_eq_true (by kernel_rfl)) h0k hg hlt) (trodAll_cons_mk (shut_int Try.underlying3 w1) trodAll_mk0)) rfl (by simp) hg⟩

theorem cord_over : Rows.cutOrderRow.holds Try.pinned (OpenSpec.ofChange Rows.cutOrderSpec) :=
  OpenClaim.holds_of_wide 8 Try.f8 rfl rfl rfl rfl rfl rfl rfl ⟨rfl, rfl, rfl, rfl, rfl⟩ rfl rfl rfl rfl rfl (by kernel_rfl) Try.func8 (by kernel_rfl)
    (of_decide_eq_true (by kernel_rfl)) (by unfold Func.isWrapper; first | (rw [if_pos (by decide +kernel)]; kernel_rfl) | (rw [if_neg (by decide +kernel)]; exact ⟨rfl, rfl⟩))
    (fun os started H enc _ => cord_lifted os started H enc)

theorem cord_proved : Rows.CutOrderSaid := cord_over

end Go.Proofs.Ytkalmfhebffklaa
end
