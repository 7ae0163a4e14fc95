/- What a law of the second form is handed: rows of texts, logs and parts, as they lie in memory, and how much they hold. CutBack: logs and parts as terms, and back. CutPuts: logs and parts as terms, and those of terms, as the document's own. The statement CutPuts, where what it reads is of bulk at most 1048576: the law returns true, and its arguments read as they did. -/
import Derived.Test.YtkalmfhebffklaaCtHc
import Derived.Test.YtkalmfhebffklaaRows
import Derived.SliceStrings
import Derived.ChangeSlices
import Derived.Deep.Slices
import Derived.Test.YtkalmfhebffklaaCtHe
import Derived.Test.YtkalmfhebffklaaCtHj
import Derived.JoinedCond
section
namespace Go.Proofs.Ytkalmfhebffklaa.L11
open Go.ChangeShapes Go.WideShapes Go.ChangeAt Go.RowKit Go.Deep

theorem bulk_pos {H : Type} (d : DataW H) : 1 ≤ Rows.uptoBulk d := by
  cases d with
  | lit l => cases l <;> simp [Rows.uptoBulk]
  | nil => simp [Rows.uptoBulk]
  | ptr d => simp [Rows.uptoBulk]
  | slice x y => simp [Rows.uptoBulk]
  | agg x => simp [Rows.uptoBulk]
  | iface t d => simp [Rows.uptoBulk]
  | map x => simp [Rows.uptoBulk]
  | held h => simp [Rows.uptoBulk]
theorem bulk_mem {H : Type} {d : DataW H} {l : List (DataW H)} (h : d ∈ l) : Rows.uptoBulk d ≤ Rows.uptoBulkAll l := by
  induction l with
  | nil => simp at h
  | cons a r ih =>
    rw [Rows.uptoBulkAll]
    rcases List.mem_cons.1 h with rfl | h
    · omega
    · have := ih h; omega
theorem bulk_len {H : Type} (l : List (DataW H)) : l.length ≤ Rows.uptoBulkAll l := by
  induction l with
  | nil => simp
  | cons a r ih =>
    rw [Rows.uptoBulkAll, List.length_cons]
    have := bulk_pos a
    omega
section
variable {H : Type} {enc : TypeId × Value → H} {W : World}
set_option maxRecDepth 100000 in
theorem trod_texts {t e : TypeId} {n : Nat} {c : Value} {x : DataW H × List MemPlace} (ht : Try.prog.underlying t = some (.slice e)) (he : Try.prog.underlying e = some .string) (hc : Try.prog.cellsOf e = 1)
    (h : DataW.trod enc Try.prog W 0 (fun _ => true) true n t [c] = some x) : ∃ y : It, c = y.v ∧ ItAt W y ∧ y.l.length ≤ Rows.uptoBulk x.1 := by
  rcases open_strings ht he hc h with ⟨h0, hx⟩ | ⟨a, len, cap, ss, hcs, _, hl, hm, hsl, hx, hcell, hwf⟩
  · cases h0
    exact ⟨⟨none, 0, []⟩, rfl, ⟨Nat.le_refl _, by simp, fun _ => rfl, by simp, fun j z hz => by simp at hz⟩, by simp⟩
  · cases hcs
    simp only [if_true] at hsl
    have hlen : ((ss.take len).map fun s => s.data.toList).length = len := by simp; omega
    refine ⟨⟨some a, cap, (ss.take len).map fun s => s.data.toList⟩, by simp only [It.v, hlen], ⟨by simp only [hlen]; exact hl, hm, (fun e => by cases e), fun z hz => ?_, fun j z hz => ?_⟩, ?_⟩
    · obtain ⟨s, hs, rfl⟩ := List.mem_map.1 hz
      have := hwf s (List.mem_of_mem_take hs)
      simpa using this
    · simp only [List.getElem?_map] at hz
      obtain ⟨s, hs, rfl⟩ := Option.map_eq_some_iff.1 hz
      have hjn : j < len := by
        rw [List.getElem?_take] at hs
        rcases Nat.lt_or_ge j len with h | h
        · exact h
        · rw [if_neg (by omega)] at hs; cases hs
      rw [List.getElem?_take, if_pos hjn] at hs
      have hc2 := hcell j (by omega)
      rw [List.getD, hs, Option.getD_some] at hc2
      have hlt := World.block_lt_of_cell? W _ hc2
      rw [addr_blockC] at hlt
      refine ⟨a, rfl, hlt, ?_⟩
      rw [hc2]
    · rw [hx]
      simp only
      rw [Rows.uptoBulk, hlen]
      have := bulk_len (H := H) (Go.ChangeShapes.strs (ss.take len))
      have e : (Go.ChangeShapes.strs (H := H) (ss.take len)).length = len := by simp [Go.ChangeShapes.strs]; omega
      omega
theorem trod_rows {α : Type} [Inhabited α] {t e : TypeId} {k n : Nat} {c : Value} {x : DataW H × List MemPlace} (cells : α → List Value) (Q : α → Nat → Prop) (hmono : ∀ l b b', b ≤ b' → Q l b → Q l b') (ht : Try.prog.underlying t = some (.slice e)) (hk : Try.prog.cellsOf e = k) (hk0 : 0 < k)
    (hlen : ∀ l, (cells l).length = k) (hone : ∀ n cs x, DataW.trod enc Try.prog W 0 (fun _ => true) true n e cs = some x → ∃ l, cs = cells l ∧ Q l (Rows.uptoBulk x.1))
    (h : DataW.trod enc Try.prog W 0 (fun _ => true) true n t [c] = some x) : ∃ ls : List α, CellsA k W c (ls.map cells) ∧ (∀ l ∈ ls, Q l (Rows.uptoBulk x.1)) ∧ ls.length ≤ Rows.uptoBulk x.1 := by
  rcases open_slice ht h with ⟨h0, _⟩ | ⟨a, len, cap, m, nn, D, Pl, hcs, hb, hl, hm, hmm, hx, hi⟩
  · cases h0
    exact ⟨[], ⟨none, 0, rfl, by simp, fun j x hx => by simp at hx⟩, by simp, by simp⟩
  · cases hcs
    simp only [if_true] at hmm
    obtain ⟨V, hV⟩ := choose_lt (α := α) (p := fun i l => W.cells? 0 (a.add (i * Try.prog.cellsOf e)) (Try.prog.cellsOf e) = some (cells l) ∧ Q l (Rows.uptoBulk (D i))) (n := len) (fun i hin => by
      obtain ⟨cs', h1, h2⟩ := hi i (by omega)
      obtain ⟨l, rfl, hq⟩ := hone _ _ _ h2
      exact ⟨l, h1, hq⟩)
    have hbD : ∀ i, i < len → Rows.uptoBulk (D i) ≤ Rows.uptoBulk x.1 := fun i hin => by
      rw [hx]
      simp only
      rw [Rows.uptoBulk]
      have := bulk_mem (H := H) (d := D i) (l := (List.range len).map D) (List.mem_map.2 ⟨i, List.mem_range.2 hin, rfl⟩)
      omega
    have hlb : len ≤ Rows.uptoBulk x.1 := by
      rw [hx]
      simp only
      rw [Rows.uptoBulk]
      have := bulk_len (H := H) ((List.range len).map D)
      simp at this
      omega
    refine ⟨(List.range len).map V, ⟨some a, cap, by simp, by simp; omega, fun j y hy => ?_⟩, fun l hl => ?_, by simpa using hlb⟩
    · simp only [List.getElem?_map, Option.map_map] at hy
      obtain ⟨i, hij, rfl⟩ := Option.map_eq_some_iff.1 hy
      obtain ⟨hjl, hji⟩ : j < len ∧ i = j := by
        obtain ⟨h1, h2⟩ := List.getElem?_eq_some_iff.1 hij
        simp at h1 h2
        exact ⟨h1, h2.symm⟩
      subst hji
      obtain ⟨h1, _⟩ := hV i hjl
      rw [hk] at h1
      obtain ⟨_, _, hat⟩ := World.cells?_some h1
      have hat2 : ∀ o, o < k → W.cell? (a.add (i * k + o)) = (cells (V i))[o]? := by
        intro o ho
        rw [← add_add]
        exact hat o ho
      have b0 := hat2 0 hk0
      rw [List.getElem?_eq_getElem (by rw [hlen]; exact hk0)] at b0
      have hlt := World.block_lt_of_cell? W _ b0
      rw [addr_blockC] at hlt
      refine ⟨a, rfl, hlt, fun o u hu => ?_⟩
      have ho : o < k := by rw [← hlen (V i)]; exact (List.getElem?_eq_some_iff.1 hu).1
      rw [hat2 o ho]
      exact hu
    · obtain ⟨i, hi2, rfl⟩ := List.mem_map.1 hl
      have hin := List.mem_range.1 hi2
      exact hmono _ _ _ (hbD i hin) (hV i hin).2
instance : Inhabited It := ⟨⟨none, 0, []⟩⟩
instance : Inhabited Lg := ⟨⟨0, default⟩⟩
instance : Inhabited Pt := ⟨⟨0, 0, 0, default⟩⟩
instance : Inhabited Rp := ⟨⟨0, 0, 0, .bool false, []⟩⟩
theorem trod_intB {n : Nat} {c : Value} {x : DataW H × List MemPlace} (h : DataW.trod enc Try.prog W 0 (fun _ => true) true n 3 [c] = some x) : ∃ k : Int, c = .int .i64 k ∧ isInt k := by
  obtain ⟨k, hk, _, hw⟩ := DataW.trod_int Try.underlying3 h
  cases hk
  exact ⟨k, rfl, L5.i64_of_wf hw⟩
set_option maxRecDepth 100000 in
theorem trod_terms {n : Nat} {c : Value} {x : DataW H × List MemPlace} (h : DataW.trod enc Try.prog W 0 (fun _ => true) true n 30 [c] = some x) : ∃ y : It, c = y.v ∧ ItAt W y ∧ y.l.length ≤ Rows.uptoBulk x.1 :=
  trod_texts Try.underlying30 Try.underlying31 (by kernel_rfl) h
set_option maxRecDepth 100000 in
theorem log_cells {n : Nat} {cs : List Value} {x : DataW H × List MemPlace} (h : DataW.trod enc Try.prog W 0 (fun _ => true) true n 76 cs = some x) : ∃ l : Lg, cs = l.cells ∧ (ItAt W l.it ∧ isInt l.se) ∧ l.it.l.length ≤ Rows.uptoBulk x.1 := by
  have hC1 : Try.prog.cellsOf 3 = 1 := by kernel_rfl
  have hC2 : Try.prog.cellsOf 30 = 1 := by kernel_rfl
  have hC : Try.prog.cellsOf 76 = 2 := by kernel_rfl
  obtain ⟨xs, n', _, hx, hcl, hlen, hg⟩ := DataW.trod_struct Try.underlying76 h
  rw [hC] at hcl
  match cs, hcl with
  | [v0, v1], _ =>
    match xs, hlen with
    | [x0, x1], _ =>
      have h0 : DataW.trod enc Try.prog W 0 (fun _ => true) true n' 3 (([v0, v1].drop 0).take (Try.prog.cellsOf 3)) = some x0 := hg 0 _ rfl
      have h1 : DataW.trod enc Try.prog W 0 (fun _ => true) true n' 30 (([v0, v1].drop 1).take (Try.prog.cellsOf 30)) = some x1 := hg 1 _ rfl
      rw [hC1] at h0
      rw [hC2] at h1
      obtain ⟨k, rfl, hk⟩ := trod_intB (c := v0) h0
      obtain ⟨y, rfl, hy, hb⟩ := trod_terms (c := v1) h1
      refine ⟨⟨k, y⟩, rfl, ⟨hy, hk⟩, ?_⟩
      rw [hx]
      simp only [List.map_cons, List.map_nil]
      rw [Rows.uptoBulk]
      have := bulk_mem (d := x1.1) (l := [x0.1, x1.1]) (by simp)
      omega
set_option maxRecDepth 100000 in
theorem id_cells {n : Nat} {v0 v1 : Value} {x : DataW H × List MemPlace} (h : DataW.trod enc Try.prog W 0 (fun _ => true) true n 55 [v0, v1] = some x) : ∃ e c : Int, v0 = .int .i64 e ∧ v1 = .int .i64 c ∧ isInt e ∧ isInt c := by
  have hC1 : Try.prog.cellsOf 3 = 1 := by kernel_rfl
  obtain ⟨xs, n', _, hx, hcl, hlen, hg⟩ := DataW.trod_struct Try.underlying55 h
  match xs, hlen with
  | [x0, x1], _ =>
    have h0 : DataW.trod enc Try.prog W 0 (fun _ => true) true n' 3 (([v0, v1].drop 0).take (Try.prog.cellsOf 3)) = some x0 := hg 0 _ rfl
    have h1 : DataW.trod enc Try.prog W 0 (fun _ => true) true n' 3 (([v0, v1].drop 1).take (Try.prog.cellsOf 3)) = some x1 := hg 1 _ rfl
    rw [hC1] at h0 h1
    obtain ⟨e, rfl, he⟩ := trod_intB (c := v0) h0
    obtain ⟨c, rfl, hc⟩ := trod_intB (c := v1) h1
    exact ⟨e, c, rfl, rfl, he, hc⟩
set_option maxRecDepth 100000 in
theorem part_cells {n : Nat} {cs : List Value} {x : DataW H × List MemPlace} (h : DataW.trod enc Try.prog W 0 (fun _ => true) true n 60 cs = some x) : ∃ l : Pt, cs = l.cells ∧ (ItAt W l.it ∧ isInt l.ep ∧ isInt l.co ∧ isInt l.se) ∧ l.it.l.length ≤ Rows.uptoBulk x.1 := by
  have hC0 : Try.prog.cellsOf 55 = 2 := by kernel_rfl
  have hC1 : Try.prog.cellsOf 3 = 1 := by kernel_rfl
  have hC2 : Try.prog.cellsOf 30 = 1 := by kernel_rfl
  have hC : Try.prog.cellsOf 60 = 4 := by kernel_rfl
  obtain ⟨xs, n', _, hx, hcl, hlen, hg⟩ := DataW.trod_struct Try.underlying60 h
  rw [hC] at hcl
  match cs, hcl with
  | [v0, v1, v2, v3], _ =>
    match xs, hlen with
    | [x0, x1, x2], _ =>
      have h0 : DataW.trod enc Try.prog W 0 (fun _ => true) true n' 55 (([v0, v1, v2, v3].drop 0).take (Try.prog.cellsOf 55)) = some x0 := hg 0 _ rfl
      have h1 : DataW.trod enc Try.prog W 0 (fun _ => true) true n' 3 (([v0, v1, v2, v3].drop 2).take (Try.prog.cellsOf 3)) = some x1 := hg 1 _ rfl
      have h2 : DataW.trod enc Try.prog W 0 (fun _ => true) true n' 30 (([v0, v1, v2, v3].drop 3).take (Try.prog.cellsOf 30)) = some x2 := hg 2 _ rfl
      rw [hC0] at h0
      rw [hC1] at h1
      rw [hC2] at h2
      obtain ⟨e, c, rfl, rfl, he, hc⟩ := id_cells (v0 := v0) (v1 := v1) h0
      obtain ⟨k, rfl, hk⟩ := trod_intB (c := v2) h1
      obtain ⟨y, rfl, hy, hb⟩ := trod_terms (c := v3) h2
      refine ⟨⟨e, c, k, y⟩, rfl, ⟨hy, he, hc, hk⟩, ?_⟩
      rw [hx]
      simp only [List.map_cons, List.map_nil]
      rw [Rows.uptoBulk]
      have := bulk_mem (d := x2.1) (l := [x0.1, x1.1, x2.1]) (by simp)
      omega
set_option maxRecDepth 100000 in
theorem trod_logsB {n : Nat} {c : Value} {x : DataW H × List MemPlace} (h : DataW.trod enc Try.prog W 0 (fun _ => true) true n 22 [c] = some x) : ∃ ls : List Lg, LogsA W c ls ∧ (∀ l ∈ ls, l.it.l.length ≤ Rows.uptoBulk x.1) ∧ ls.length ≤ Rows.uptoBulk x.1 := by
  obtain ⟨ls, h1, h2, h3⟩ := trod_rows (α := Lg) (k := 2) Lg.cells (fun l b => (ItAt W l.it ∧ isInt l.se) ∧ l.it.l.length ≤ b) (fun l b b' hb h => ⟨h.1, Nat.le_trans h.2 hb⟩) Try.underlying22 (by kernel_rfl) (by omega) (fun _ => rfl) (fun n cs x h => by
    obtain ⟨l, e, h1, h2⟩ := log_cells h
    exact ⟨l, e, h1, h2⟩) h
  exact ⟨ls, ⟨h1, fun l hl => (h2 l hl).1⟩, fun l hl => (h2 l hl).2, h3⟩
set_option maxRecDepth 100000 in
theorem trod_partsB {n : Nat} {c : Value} {x : DataW H × List MemPlace} (h : DataW.trod enc Try.prog W 0 (fun _ => true) true n 23 [c] = some x) : ∃ ls : List Pt, PartsA W c ls ∧ (∀ l ∈ ls, l.it.l.length ≤ Rows.uptoBulk x.1) ∧ ls.length ≤ Rows.uptoBulk x.1 := by
  obtain ⟨ls, h1, h2, h3⟩ := trod_rows (α := Pt) (k := 4) Pt.cells (fun l b => (ItAt W l.it ∧ isInt l.ep ∧ isInt l.co ∧ isInt l.se) ∧ l.it.l.length ≤ b) (fun l b b' hb h => ⟨h.1, Nat.le_trans h.2 hb⟩) Try.underlying23 (by kernel_rfl) (by omega) (fun _ => rfl) (fun n cs x h => by
    obtain ⟨l, e, h1, h2⟩ := part_cells h
    exact ⟨l, e, h1, h2⟩) h
  exact ⟨ls, ⟨h1, fun l hl => (h2 l hl).1⟩, fun l hl => (h2 l hl).2, h3⟩
set_option maxRecDepth 100000 in
theorem open_logsB {base : Nat} {v : Value} {d : DataW H} {ps : List MemPlace} (hval : Value.okWide Try.prog W .any base 22 v) (h : DataW.Trod enc Try.prog W 0 (fun _ => true) true 22 v d ps) : ∃ ls : List Lg, LogsA W v ls ∧ (∀ l ∈ ls, l.it.l.length ≤ Rows.uptoBulk d) ∧ ls.length ≤ Rows.uptoBulk d := by
  obtain ⟨A, n, c, rfl⟩ := okWide_slice Try.underlying22 hval
  obtain ⟨fuel, hf⟩ := h
  exact trod_logsB (c := .slice A n c) hf
set_option maxRecDepth 100000 in
theorem open_partsB {base : Nat} {v : Value} {d : DataW H} {ps : List MemPlace} (hval : Value.okWide Try.prog W .any base 23 v) (h : DataW.Trod enc Try.prog W 0 (fun _ => true) true 23 v d ps) : ∃ ls : List Pt, PartsA W v ls ∧ (∀ l ∈ ls, l.it.l.length ≤ Rows.uptoBulk d) ∧ ls.length ≤ Rows.uptoBulk d := by
  obtain ⟨A, n, c, rfl⟩ := okWide_slice Try.underlying23 hval
  obtain ⟨fuel, hf⟩ := h
  exact trod_partsB (c := .slice A n c) hf
set_option maxRecDepth 100000 in
theorem open_strsB {base : Nat} {v : Value} {d : DataW H} {ps : List MemPlace} (hval : Value.okWide Try.prog W .any base 24 v) (h : DataW.Trod enc Try.prog W 0 (fun _ => true) true 24 v d ps) : ∃ y : It, v = y.v ∧ ItAt W y ∧ y.l.length ≤ Rows.uptoBulk d := by
  obtain ⟨A, n, c, rfl⟩ := okWide_slice Try.underlying24 hval
  obtain ⟨fuel, hf⟩ := h
  exact trod_texts (c := .slice A n c) Try.underlying24 Try.underlying9 (by kernel_rfl) hf
end
end Go.Proofs.Ytkalmfhebffklaa.L11
end

section
namespace Go.Proofs.Ytkalmfhebffklaa.L11
open Go.ChangeShapes Go.WideShapes Go.ChangeAt Go.RowKit Go.Deep

theorem RowsOut.one {w w' : World} {ok : Prop} {rows : List (List Bytes)} {e : Ending} (h : RowsOut w ok rows e w') : ∃ (va : Value) (n : Nat), e = .returned (.tuple #[va, .int .i64 n]) ∧ Below w.heap.size w w' ∧
    ((n = 0 ∧ ok ∧ (∀ r ∈ rows, rowE r = 0) ∧ w'.ownsRow w.heap.size 31 1 va rows.length (txt (rows.map rowT))) ∨ (n = 1 ∧ va = .slice none 0 0 ∧ (¬ ok ∨ ∃ r ∈ rows, rowE r ≠ 0))) := by
  rcases h with ⟨h1, h2, v, rfl, h3, h4⟩ | ⟨h1, rfl, h4⟩
  · exact ⟨v, 0, rfl, h4, .inl ⟨rfl, h1, h2, h3⟩⟩
  · exact ⟨_, 1, rfl, h4, .inr ⟨rfl, rfl, h1⟩⟩
theorem TookOut.one {w w' : World} {un : Bytes → Option LCore} {tm : List Bytes} {e : Ending} (h : TookOut w un tm e w') : ∃ (v : Value) (ls : List Lg) (n : Nat), e = .returned (.tuple #[v, .int .i64 n]) ∧ LogsA w' v ls ∧ Hid (ls.length ≤ tm.length) ∧ (∀ l ∈ ls, l.it.l.length ≤ 150) ∧ Below w.heap.size w w' ∧
    ((n = 0 ∧ tm.map un = (ls.map Lg.core).map some ∧ OkLogs (ls.map Lg.core)) ∨ (n = 2 ∧ ls = [])) := by
  rcases h with ⟨v, ls, rfl, h1, h2, h3, h4, h5⟩ | ⟨_, rfl, h4⟩
  · exact ⟨v, ls, 0, rfl, h3, Lib.hid (by have := congrArg List.length h1; simp at this; omega), h4, h5, .inl ⟨rfl, h1, h2⟩⟩
  · exact ⟨_, [], 2, rfl, logs_none _ _, Lib.hid (by simp), by simp, h4, .inr ⟨rfl, rfl⟩⟩
theorem parts_none (w : World) (c : Nat) : PartsA w (.slice none 0 c) [] := ⟨⟨none, c, rfl, by simp, fun j x hx => by simp at hx⟩, by simp⟩
theorem ToldOut.one {w w' : World} {un : Bytes → Option Core} {tm : List Bytes} {e : Ending} (h : ToldOut w un tm e w') : ∃ (v : Value) (ls : List Pt) (n : Nat), e = .returned (.tuple #[v, .int .i64 n]) ∧ PartsA w' v ls ∧ Hid (ls.length ≤ tm.length) ∧ (∀ l ∈ ls, l.it.l.length ≤ 150) ∧ Below w.heap.size w w' ∧
    ((n = 0 ∧ tm.map un = (ls.map Pt.core).map some ∧ OkParts (ls.map Pt.core)) ∨ (n = 2 ∧ ls = [])) := by
  rcases h with ⟨v, ls, rfl, h1, h2, h3, h4, h5⟩ | ⟨_, rfl, h4⟩
  · exact ⟨v, ls, 0, rfl, h3, Lib.hid (by have := congrArg List.length h1; simp at this; omega), h4, h5, .inl ⟨rfl, h1, h2⟩⟩
  · exact ⟨_, [], 2, rfl, parts_none _ _, Lib.hid (by simp), by simp, h4, .inr ⟨rfl, rfl⟩⟩
theorem rowT_short {r : List Bytes} (h : rowE r = 0) : (rowT r).length ≤ maxLen := by
  obtain ⟨e, _, _, hl, _⟩ := Tm.putRow_ok (show Tm.putRow r = (rowT r, 0) from Prod.ext rfl h)
  rw [e]
  unfold maxLen
  omega
theorem took_back {w8 w9 : World} {lx : List Lg} {ex ny : Nat} {vy : Value} {txs : List Bytes} (hx : (ex = 0 ∧ txs.map unlog = (lx.map Lg.core).map some ∧ OkLogs (lx.map Lg.core)) ∨ (ex = 2 ∧ lx = []))
    (hy : (ny = 0 ∧ OkLogs (lx.map Lg.core) ∧ (∀ r ∈ (lx.map Lg.core).map rowLg, rowE r = 0) ∧ w9.ownsRow w8.heap.size 31 1 vy ((lx.map Lg.core).map rowLg).length (txt (((lx.map Lg.core).map rowLg).map rowT))) ∨ (ny = 1 ∧ vy = .slice none 0 0 ∧ (¬ OkLogs (lx.map Lg.core) ∨ ∃ r ∈ (lx.map Lg.core).map rowLg, rowE r ≠ 0)))
    (hs : ∀ z ∈ txs, z.length ≤ maxLen) (hn : txs.length ≤ 4000000) : (ex = 0 ∧ ny = 0 ∧ ∃ y : It, vy = y.v ∧ y.l = txs ∧ ItAt w9 y) ∨ (ex = 2 ∧ lx = []) := by
  rcases hx with ⟨rfl, h1, h2⟩ | h
  · obtain ⟨k1, k2⟩ := take_putC h1 h2
    rcases hy with ⟨rfl, _, _, h3⟩ | ⟨_, _, h3 | ⟨r, hr, hr0⟩⟩
    · rw [k1, show ((lx.map Lg.core).map rowLg).length = txs.length by rw [← k1]; simp] at h3
      obtain ⟨y, e1, e2, e3⟩ := ItAt.of_own h3 hs (by unfold maxLen; omega)
      exact .inl ⟨rfl, rfl, y, e1, e2, e3⟩
    · exact absurd h2 h3
    · exact absurd (k2 r hr) hr0
  · exact .inr h
theorem told_back {w8 w9 : World} {lx : List Pt} {ex ny : Nat} {vy : Value} {txs : List Bytes} (hx : (ex = 0 ∧ txs.map unpart = (lx.map Pt.core).map some ∧ OkParts (lx.map Pt.core)) ∨ (ex = 2 ∧ lx = []))
    (hy : (ny = 0 ∧ OkParts (lx.map Pt.core) ∧ (∀ r ∈ (lx.map Pt.core).map rowPt, rowE r = 0) ∧ w9.ownsRow w8.heap.size 31 1 vy ((lx.map Pt.core).map rowPt).length (txt (((lx.map Pt.core).map rowPt).map rowT))) ∨ (ny = 1 ∧ vy = .slice none 0 0 ∧ (¬ OkParts (lx.map Pt.core) ∨ ∃ r ∈ (lx.map Pt.core).map rowPt, rowE r ≠ 0)))
    (hs : ∀ z ∈ txs, z.length ≤ maxLen) (hn : txs.length ≤ 4000000) : (ex = 0 ∧ ny = 0 ∧ ∃ y : It, vy = y.v ∧ y.l = txs ∧ ItAt w9 y) ∨ (ex = 2 ∧ lx = []) := by
  rcases hx with ⟨rfl, h1, h2⟩ | h
  · obtain ⟨k1, k2⟩ := take_partsC h1 h2
    rcases hy with ⟨rfl, _, _, h3⟩ | ⟨_, _, h3 | ⟨r, hr, hr0⟩⟩
    · rw [k1, show ((lx.map Pt.core).map rowPt).length = txs.length by rw [← k1]; simp] at h3
      obtain ⟨y, e1, e2, e3⟩ := ItAt.of_own h3 hs (by unfold maxLen; omega)
      exact .inl ⟨rfl, rfl, y, e1, e2, e3⟩
    · exact absurd h2 h3
    · exact absurd (k2 r hr) hr0
  · exact .inr h
def BackGo (w0 : World) (l : List Bytes) (k : Nat) (v18 v19 : Value) (wr : World) : Prop :=
  ∃ i : Nat, k + i = l.length ∧ v19 = .int .i64 i ∧ wr.ownsRow w0.heap.size 31 1 v18 i (txt (l.take i)) ∧ Below w0.heap.size w0 wr
set_option maxRecDepth 100000 in
set_option maxHeartbeats 8000000 in
theorem back_calls {v u : Value} {ls : List Lg} {ps : List Pt} (s : It) (w : World) (hl : LogsA w v ls) (hp : PartsA w u ps) (hs : ItAt w s) (n1 : ls.length ≤ 4000000) (n2 : ∀ l ∈ ls, l.it.l.length ≤ 4000000) (n3 : ps.length ≤ 4000000) (n4 : ∀ p ∈ ps, p.it.l.length ≤ 4000000) (n5 : s.l.length ≤ 4000000) :
    Calls Try.prog 5 #[v, u, s.v] w (One w (.bool true)) := by
  obtain ⟨i0, hi, hz0, hz1, hz2⟩ := info_parts info_term
  have HL := Lib.hid hl
  have HP := Lib.hid hp
  have HS := Lib.hid hs
  have HN1 := Lib.hid n1
  have HN2 := Lib.hid n2
  have HN3 := Lib.hid n3
  have HN4 := Lib.hid n4
  obtain ⟨A, c, txs⟩ := s
  replace n5 : txs.length ≤ 4000000 := n5
  simp only [It.v]
  have HSh := Lib.hid (shown_calls w)
  clear hl hp hs n1 n2 n3 n4
  go_enter Try.func5, Try.ntmps5
  go_wp2_with fail
  refine HSh.out.mono ?_
  clear HSh
  rintro e w1 ⟨rfl, b1⟩
  have HAs := Lib.hid (asParts_calls w1 (HP.out.below b1) HN3.out HN4.out)
  have HB1 := Lib.hid b1
  clear b1
  go_wp2_with fail
  refine HAs.out.mono ?_
  clear HAs
  rintro e w2 hq
  rcases hq with ⟨vq, qs, rfl, hqc, hqa, b2⟩ | ⟨vq, rfl, b2⟩
  case inr =>
    have hb2 := HB1.out.trans (b2.mono HB1.out.size)
    have HSl := Lib.hid (short_calls w2 (HL.out.below hb2))
    have HB2 := Lib.hid hb2
    clear b2 hb2
    go_wp2_with fail
    refine HSl.out.mono ?_
    clear HSl
    rintro e w3 ⟨b, rfl, b3⟩
    have HF : Hid (One w (.bool true) (.returned (.bool true)) w3) := ⟨rfl, HB2.out.trans (b3.mono HB2.out.size)⟩
    clear b3
    cases b
    · go_wp2
      go_ret
      exact HF.out
    · go_wp2
      go_ret
      exact HF.out
  have hb2 := HB1.out.trans (b2.mono HB1.out.size)
  have HSl := Lib.hid (short_calls w2 (HL.out.below hb2))
  have HB2 := Lib.hid hb2
  have HQ := Lib.hid (And.intro hqc hqa)
  clear b2 hb2 hqc hqa
  go_wp2_with fail
  refine HSl.out.mono ?_
  clear HSl
  rintro e w3 ⟨b, rfl, b3⟩
  have HB3 := Lib.hid (HB2.out.trans (b3.mono HB2.out.size))
  cases b with
  | false =>
    have HF : Hid (One w (.bool true) (.returned (.bool true)) w3) := ⟨rfl, HB3.out⟩
    clear b3
    go_wp2
    go_ret
    exact HF.out
  | true =>
    by_cases h20 : (txs.length : Int) > 20
    · have HF : Hid (One w (.bool true) (.returned (.bool true)) w3) := ⟨rfl, HB3.out⟩
      clear b3
      go_wp2
      go_ret
      exact HF.out
    have hqa3 := HQ.out.2.below b3
    have HQ3 : Hid (∀ V, Below w3.heap.size w3 V → PartsA V vq qs) := fun V hV => hqa3.below hV
    have HQc := Lib.hid HQ.out.1
    have HPut := Lib.hid (putC_calls w3 (HL.out.below HB3.out) HN1.out HN2.out)
    clear b3 hqa3 HQ HB1 HB2
    go_wp2_with fail
    refine HPut.out.mono ?_
    clear HPut
    rintro e w4 hput
    obtain ⟨va, ne, rfl, b4, hres⟩ := hput.one
    have HB4 := Lib.hid (HB3.out.trans (b4.mono HB3.out.size))
    have HRes := Lib.hid hres
    have HQ4 : Hid (∀ V, Below w4.heap.size w4 V → PartsA V vq qs) := fun V hV => HQ3.out V (b4.trans (hV.mono b4.size))
    have hL4 : LogsA w4 v ls := HL.out.below HB4.out
    have HL4 := Lib.hid hL4
    clear hput b4 hres HQ3 hL4
    go_upto_if 57 with (fail)
    go_cut [] from 12 (fun wc => Below w4.heap.size w4 wc)
    case rest =>
      obtain ⟨XX, rfl⟩ : ∃ z, z = wc := ⟨wc, rfl⟩
      have HB5 : Hid (Below w.heap.size w XX) := HB4.out.trans (hcut.mono HB4.out.size)
      have HQ5 : Hid (∀ V, Below XX.heap.size XX V → PartsA V vq qs) := fun V hV => HQ4.out V (hcut.trans (hV.mono hcut.size))
      have HPt := Lib.hid (partsC_calls XX (HP.out.below HB5.out) HN3.out HN4.out)
      clear hcut HRes HQ4 HL4
      go_wp2_with fail
      refine HPt.out.mono ?_
      clear HPt
      rintro e w6 hput
      obtain ⟨vc, nc, rfl, b6, hres⟩ := hput.one
      have HB6 := Lib.hid (HB5.out.trans (b6.mono HB5.out.size))
      have HRes := Lib.hid hres
      have HQ6 : Hid (∀ V, Below w6.heap.size w6 V → PartsA V vq qs) := fun V hV => HQ5.out V (b6.trans (hV.mono b6.size))
      clear hput b6 hres HQ5
      go_upto_if 78 with (fail)
      go_cut [] from 16 (fun wc => Below w6.heap.size w6 wc)
      case rest =>
        obtain ⟨YY, rfl⟩ : ∃ z, z = wc := ⟨wc, rfl⟩
        have HB7 : Hid (Below w.heap.size w YY) := HB6.out.trans (hcut.mono HB6.out.size)
        clear hcut HRes HQ6 HB4 HB5 HB6 HB3
        have HSt : Hid (BackGo YY txs txs.length (.slice none 0 0) (.int .i64 0) YY) := ⟨0, by omega, rfl, World.ownsRow_nil _ _ _ _, Below.refl _ _⟩
        have HR := Lib.hid (it_read (HS.out.below HB7.out))
        go_wp2
        go_loopg [18, 19] txs.length (fun k v18 v19 wr => BackGo YY txs k v18 v19 wr)
        case atStart => exact HSt.out
        clear HSt
        case round =>
          obtain ⟨i, hk, rfl, hrow, hB⟩ := hrel
          obtain ⟨A8, c8, rfl⟩ := L5.own_slice hrow
          by_cases hil : i < txs.length
          · obtain ⟨t, hx⟩ : ∃ t, txs[i]? = some t := ⟨_, List.getElem?_eq_getElem hil⟩
            obtain ⟨ad, e, hrd⟩ := HR.out i t hx
            obtain rfl : A = some ad := e
            have a0 := hrd wr hB
            have htl := HS.out.short t (List.mem_of_getElem? hx)
            unfold maxLen at htl
            have j1 : (i : Int) < (txs.length : Int) := by omega
            have j2 : (0 : Int) ≤ (i : Int) := by omega
            have hgk := Lib.hid (show gk - 1 < gk by omega)
            by_cases h1000 : (t.length : Int) > 1000
            · have HF : Hid (One w (.bool true) (.returned (.bool true)) wr) := ⟨rfl, HB7.out.trans (hB.mono HB7.out.size)⟩
              clear hk hrow hB hx hrd
              go_wp2
              go_ret
              exact HF.out
            · have hbs := hB.size
              have HF : Hid (∀ v' w1, w1.ownsRow YY.heap.size 31 1 v' (i + 1) (txt (txs.take i) ++ [.string ⟨t.toArray⟩]) → (wr.alloc (.cells #[.string ⟨t.toArray⟩] 31)).grownBy w1 (Value.slice A8 i c8).ownBlock → BackGo YY txs (gk - 1) v' (.int .i64 ((i + 1 : Nat) : Int)) w1) := fun v' w1 h1 h2 => by
                refine ⟨i + 1, by omega, rfl, by rw [take_nextB txs hx, txt_append]; exact h1, (hB.alloc hbs _).grown h2 (by simp; omega) (fun q e => (hrow.lt q e).1)⟩
              have HRw := Lib.hid (hrow.alloc (.cells #[.string ⟨t.toArray⟩] 31))
              clear hk hrow hB hx hrd
              go_wp2_with (at_builtin; refine wpList_append_own _ rfl _ _ 30 rfl YY.heap.size 31 i0 (.string ⟨#[]⟩) 1 16 Try.underlying30 hi hz0 hz1 hz2 rfl (by decide) _ _ _ rfl HRw.out ⟨wr.heap.size, 0, none⟩ 1 1 [.string ⟨t.toArray⟩] rfl rfl (cell_one_new _ _ _) (by simp [Value.oneCell']) (by unfold maxLen; omega) (by omega) (by simp; omega) ?_; intro v' w1 hown' hgrow _; have HJ := Lib.hid (HF.out v' w1 hown' hgrow); clear hown' hgrow)
              go_roundg (gk - 1)
              case measure => exact hgk.out
              case rel => exact HJ.out
          · obtain rfl : i = txs.length := by omega
            have j1 : ¬ (txs.length : Int) < (txs.length : Int) := by omega
            rw [List.take_length] at hrow
            have hT : ItAt wr ⟨A8, c8, txs⟩ := by
              have := (OwnIt.mk (x := ⟨A8, c8, txs⟩) hrow HS.out.short).at
              exact this
            have HT := Lib.hid hT
            have HB8 := Lib.hid (HB7.out.trans (hB.mono HB7.out.size))
            clear hk hrow hB hT HR HB7
            have HTk := Lib.hid (takeC_calls ⟨A8, c8, txs⟩ wr HT.out n5)
            go_wp2_with fail
            refine HTk.out.mono ?_
            clear HTk
            rintro e w8 htk
            obtain ⟨vx, lx, ex, rfl, hlx, hxl, hxi, b8, hxr⟩ := htk.one
            have hpx := putC_calls w8 hlx (Nat.le_trans hxl.out n5) (fun l hl => by have := hxi l hl; omega)
            obtain ⟨Ax, cx, rfl⟩ : ∃ A c, vx = .slice A lx.length c := by obtain ⟨A, c, e, _⟩ := logs_read hlx; exact ⟨A, c, e⟩
            have HPx := Lib.hid hpx
            have HXr := Lib.hid hxr
            have HB8' := Lib.hid (HB8.out.trans (b8.mono HB8.out.size))
            have HT8 := Lib.hid (HT.out.below b8)
            clear htk hlx hxl hxi b8 hxr hpx HT HB8
            go_wp2_with fail
            refine HPx.out.mono ?_
            clear HPx
            rintro e w9 hput
            obtain ⟨vy, ny, rfl, b9, hyr⟩ := hput.one
            have HXY := Lib.hid (took_back HXr.out hyr (by have := HS.out.short; exact this) n5)
            have HB9 := Lib.hid (HB8'.out.trans (b9.mono HB8'.out.size))
            have HT9 := HT8.out.below b9
            have HUn := Lib.hid (unpartC_calls ⟨A8, c8, txs⟩ w9 HT9 n5)
            clear hput b9 hyr HT9 HT8 HB8'
            go_wp2_with fail
            refine HUn.out.mono ?_
            clear HUn
            rintro e w10 htk
            obtain ⟨vz, lz, ez, rfl, hlz, hzl, hzi, b10, hzr⟩ := htk.one
            have hpz := partsC_calls w10 hlz (Nat.le_trans hzl.out n5) (fun l hl => by have := hzi l hl; omega)
            obtain ⟨Az, cz, rfl⟩ : ∃ A c, vz = .slice A lz.length c := by obtain ⟨A, c, e, _⟩ := parts_read hlz; exact ⟨A, c, e⟩
            have HPz := Lib.hid hpz
            have HZr := Lib.hid hzr
            have HB10 := Lib.hid (HB9.out.trans (b10.mono HB9.out.size))
            have HB910 := Lib.hid b10
            clear htk hlz hzl hzi b10 hzr hpz
            go_wp2_with fail
            refine HPz.out.mono ?_
            clear HPz
            rintro e w11 hput
            obtain ⟨vw, nw, rfl, b11, hwr⟩ := hput.one
            have HZW := Lib.hid (told_back HZr.out hwr (by have := HS.out.short; exact this) n5)
            have HB11 := Lib.hid (HB10.out.trans (b11.mono HB10.out.size))
            have HB1011 := Lib.hid b11
            have HI : Hid (∀ y : It, ItAt w9 y → ItAt w11 y) := fun y hy => (hy.below HB910.out).below HB1011.out
            have HS11 := Lib.hid (HS.out.below HB11.out)
            clear hput b11 hwr HXr HZr HB10 HB9 HB910 HB1011
            have HSame : Hid (∀ (y : It) V, y.l = txs → ItAt w11 y → Below w11.heap.size w11 V → Calls Try.prog 18 #[.slice y.a txs.length y.c, .slice A txs.length c] V (One V (.bool true))) := fun y V e hy hV => by
              have := same_calls y ⟨A, c, txs⟩ V (hy.below hV) (HS11.out.below hV)
              simp only [It.v] at this
              rw [e, decide_eq_true rfl] at this
              exact this
            have HFin : Hid (∀ V, Below w11.heap.size w11 V → One w (.bool true) (.returned (.bool true)) V) := fun V hV => ⟨rfl, HB11.out.trans (hV.mono HB11.out.size)⟩
            rcases HXY.out with ⟨rfl, rfl, ⟨A5, c5, l5⟩, rfl, rfl, hay⟩ | ⟨rfl, rfl⟩
            · rcases HZW.out with ⟨rfl, rfl, ⟨A6, c6, l6⟩, rfl, e6, haw⟩ | ⟨rfl, rfl⟩
              · obtain rfl : l6 = l5 := e6
                have HC1 := Lib.hid (HSame.out ⟨A5, c5, l6⟩ w11 rfl (HI.out _ hay) (Below.refl _ _))
                have HC2 := Lib.hid (fun V hV => HSame.out ⟨A6, c6, l6⟩ V rfl haw hV)
                clear HXY HZW HSame HI hay haw HS11 HS
                simp only [It.v]
                go_wp2_with fail
                refine HC1.out.mono ?_
                rintro e w12 ⟨rfl, b12⟩
                have HC3 := Lib.hid (HC2.out w12 b12)
                have HB12 := Lib.hid b12
                clear b12 HC1 HC2
                go_wp2_with fail
                refine HC3.out.mono ?_
                rintro e w13 ⟨rfl, b13⟩
                have HF := Lib.hid (HFin.out w13 (HB12.out.trans (b13.mono HB12.out.size)))
                clear b13 HC3
                go_wp2
                go_ret
                exact HF.out
              · have HC1 := Lib.hid (HSame.out ⟨A5, c5, l5⟩ w11 rfl (HI.out _ hay) (Below.refl _ _))
                clear HXY HZW HSame HI hay HS11 HS
                simp only [It.v]
                go_wp2_with fail
                refine HC1.out.mono ?_
                rintro e w12 ⟨rfl, b12⟩
                have HF := Lib.hid (HFin.out w12 b12)
                clear b12 HC1
                go_wp2
                go_ret
                exact HF.out
            · rcases HZW.out with ⟨rfl, rfl, ⟨A6, c6, l6⟩, rfl, e6, haw⟩ | ⟨rfl, rfl⟩
              · obtain rfl : l6 = txs := e6
                have HC1 := Lib.hid (HSame.out ⟨A6, c6, l6⟩ w11 rfl haw (Below.refl _ _))
                clear HXY HZW HSame HI haw HS11 HS
                simp only [It.v]
                go_wp2_with fail
                refine HC1.out.mono ?_
                rintro e w12 ⟨rfl, b12⟩
                have HF := Lib.hid (HFin.out w12 b12)
                clear b12 HC1
                go_wp2
                go_ret
                exact HF.out
              · have HF := Lib.hid (HFin.out w11 (Below.refl _ _))
                clear HXY HZW HSame HI HS11 HS
                go_wp2
                go_ret
                exact HF.out
      case first =>
        rcases HRes.out with ⟨rfl, hok, hz, hown⟩ | ⟨rfl, rfl, _⟩
        · have hsh : ∀ z ∈ ((ps.map Pt.core).map rowPt).map rowT, z.length ≤ maxLen := fun z hz' => by
            obtain ⟨r, hr, rfl⟩ := List.mem_map.1 hz'
            exact rowT_short (hz r hr)
          obtain ⟨ax, e1, e2, e3⟩ := ItAt.of_own (zs := ((ps.map Pt.core).map rowPt).map rowT) (by rw [List.length_map]; exact hown) hsh (by simp; unfold maxLen; have := HN3.out; omega)
          have hT := unpartC_calls ax w6 e3 (by rw [e2]; simp; exact HN3.out)
          rw [e2] at hT
          rw [← e1] at hT
          have HT := Lib.hid hT
          have HLc := Lib.hid (parts_taken hok hz)
          have HOk := Lib.hid hok
          clear hT e1 e2 e3 hsh hown hz hok HRes
          go_wp2_with fail
          refine HT.out.mono ?_
          clear HT
          rintro e w7 (⟨vb, bs, rfl, hm, ho, hla, _, b7⟩ | ⟨hno, rfl, _⟩)
          case inr => exact absurd ⟨_, HLc.out, HOk.out⟩ hno
          have hbc : bs.map Pt.core = ps.map Pt.core := (List.map_inj_right (fun _ _ h => Option.some.inj h)).1 (hm.symm.trans HLc.out)
          have hS := sameP_calls w7 hla (HQ6.out w7 b7)
          rw [hbc, HQc.out, decide_eq_true rfl] at hS
          have HSm := Lib.hid hS
          have HB8 := Lib.hid b7
          clear hm ho hla b7 hbc HLc HOk hS
          go_wp2_with fail
          refine HSm.out.mono ?_
          clear HSm
          rintro e w8 ⟨rfl, b8⟩
          have HF := Lib.hid (HB8.out.trans (b8.mono HB8.out.size))
          clear b8
          go_wp2
          go_meet
          case rel => exact HF.out
        · clear HRes
          go_wp2
          go_meet
          case rel => exact Below.refl _ _
    case first =>
      rcases HRes.out with ⟨rfl, hok, hz, hown⟩ | ⟨rfl, rfl, _⟩
      · have hsh : ∀ z ∈ ((ls.map Lg.core).map rowLg).map rowT, z.length ≤ maxLen := fun z hz' => by
          obtain ⟨r, hr, rfl⟩ := List.mem_map.1 hz'
          exact rowT_short (hz r hr)
        obtain ⟨ax, e1, e2, e3⟩ := ItAt.of_own (zs := ((ls.map Lg.core).map rowLg).map rowT) (by rw [List.length_map]; exact hown) hsh (by simp; unfold maxLen; have := HN1.out; omega)
        have hT := takeC_calls ax w4 e3 (by rw [e2]; simp; exact HN1.out)
        rw [e2] at hT
        rw [← e1] at hT
        have HT := Lib.hid hT
        have HLc := Lib.hid (put_taken hok hz)
        have HOk := Lib.hid hok
        clear hT e1 e2 e3 hsh hown hz hok HRes
        go_wp2_with fail
        refine HT.out.mono ?_
        clear HT
        rintro e w5 (⟨vb, bs, rfl, hm, ho, hla, _, b5⟩ | ⟨hno, rfl, _⟩)
        case inr => exact absurd ⟨_, HLc.out, HOk.out⟩ hno
        have hbc : bs.map Lg.core = ls.map Lg.core := (List.map_inj_right (fun _ _ h => Option.some.inj h)).1 (hm.symm.trans HLc.out)
        have HAl := Lib.hid (asLogs_calls w5 (HL4.out.below b5) HN1.out HN2.out)
        have HBs := Lib.hid (And.intro hbc (And.intro hla b5))
        clear hm ho hla b5 hbc HLc HOk
        go_wp2_with fail
        refine HAl.out.mono ?_
        clear HAl
        rintro e w6 ⟨vr, rs, rfl, hrc, hra, b6⟩
        obtain ⟨hbc, hla, b5⟩ := HBs.out
        have hS := sameL_calls w6 (hla.below b6) hra
        rw [hbc, hrc, decide_eq_true rfl] at hS
        have HSm := Lib.hid hS
        have HB6 := Lib.hid (b5.trans (b6.mono b5.size))
        clear hrc hra b6 hbc hla b5 hS HBs
        go_wp2_with fail
        refine HSm.out.mono ?_
        clear HSm
        rintro e w7 ⟨rfl, b7⟩
        have HF := Lib.hid (HB6.out.trans (b7.mono HB6.out.size))
        clear b7
        go_wp2
        go_meet
        case rel => exact HF.out
      · clear HRes
        go_wp2
        go_meet
        case rel => exact Below.refl _ _
end Go.Proofs.Ytkalmfhebffklaa.L11
end

section
namespace Go.Proofs.Ytkalmfhebffklaa.L11
open Go.ChangeShapes Go.WideShapes Go.ChangeAt Go.RowKit Go.Deep

theorem pair_inj {v v2 : Value} {n m : Nat} (h : Ending.returned (.tuple #[v, .int .i64 (n : Int)]) = .returned (.tuple #[v2, .int .i64 (m : Int)])) : v = v2 ∧ n = m := by
  injection h with h
  injection h with h
  have h1 := congrArg (fun a : Array Value => a[0]?) h
  have h2 := congrArg (fun a : Array Value => a[1]?) h
  simp at h1 h2
  exact ⟨h1, by omega⟩
theorem cores_itsL {ls rs : List Lg} (h : rs.map Lg.core = ls.map Lg.core) {N : Nat} (hl : ls.length ≤ N) (hi : ∀ l ∈ ls, l.it.l.length ≤ N) : rs.length ≤ N ∧ ∀ l ∈ rs, l.it.l.length ≤ N := by
  have hn : rs.length = ls.length := by have := congrArg List.length h; simpa using this
  refine ⟨by omega, fun l hl => ?_⟩
  have : l.core ∈ ls.map Lg.core := by rw [← h]; exact List.mem_map.2 ⟨l, hl, rfl⟩
  obtain ⟨q, hq, e⟩ := List.mem_map.1 this
  have h2 : q.it.l = l.it.l := congrArg Prod.snd e
  rw [← h2]
  exact hi q hq
theorem cores_itsP {ls rs : List Pt} (h : rs.map Pt.core = ls.map Pt.core) {N : Nat} (hl : ls.length ≤ N) (hi : ∀ l ∈ ls, l.it.l.length ≤ N) : rs.length ≤ N ∧ ∀ l ∈ rs, l.it.l.length ≤ N := by
  have hn : rs.length = ls.length := by have := congrArg List.length h; simpa using this
  refine ⟨by omega, fun l hl => ?_⟩
  have : l.core ∈ ls.map Pt.core := by rw [← h]; exact List.mem_map.2 ⟨l, hl, rfl⟩
  obtain ⟨q, hq, e⟩ := List.mem_map.1 this
  have h2 : q.it.l = l.it.l := congrArg (fun c : Core => c.2.2.2) e
  rw [← h2]
  exact hi q hq
set_option maxRecDepth 100000 in
set_option maxHeartbeats 8000000 in
theorem puts_calls {v u : Value} {ls : List Lg} {ps : List Pt} (s : It) (w : World) (hl : LogsA w v ls) (hp : PartsA w u ps) (hs : ItAt w s) (n1 : ls.length ≤ 4000000) (n2 : ∀ l ∈ ls, l.it.l.length ≤ 4000000) (n3 : ps.length ≤ 4000000) (n4 : ∀ p ∈ ps, p.it.l.length ≤ 4000000) (n5 : s.l.length ≤ 4000000) :
    Calls Try.prog 3 #[v, u, s.v] w (One w (.bool true)) := by
  obtain ⟨i0, hi, hz0, hz1, hz2⟩ := info_parts info_term
  have HL := Lib.hid hl
  have HP := Lib.hid hp
  have HS := Lib.hid hs
  have HN1 := Lib.hid n1
  have HN2 := Lib.hid n2
  have HN3 := Lib.hid n3
  have HN4 := Lib.hid n4
  obtain ⟨A, c, txs⟩ := s
  replace n5 : txs.length ≤ 4000000 := n5
  simp only [It.v]
  have HSh := Lib.hid (shown_calls w)
  clear hl hp hs n1 n2 n3 n4
  go_enter Try.func3, Try.ntmps3
  go_wp2_with fail
  refine HSh.out.mono ?_
  clear HSh
  rintro e w1 ⟨rfl, b1⟩
  have HSl := Lib.hid (short_calls w1 (HL.out.below b1))
  have HB1 := Lib.hid b1
  clear b1
  go_wp2_with fail
  refine HSl.out.mono ?_
  clear HSl
  rintro e w2 ⟨b, rfl, b2⟩
  have hb2 := HB1.out.trans (b2.mono HB1.out.size)
  have HAs := Lib.hid (asParts_calls w2 (HP.out.below hb2) HN3.out HN4.out)
  have HB2 := Lib.hid hb2
  clear b2 hb2
  go_wp2_with fail
  refine HAs.out.mono ?_
  clear HAs
  rintro e w3 hq
  rcases hq with ⟨vq, qs, rfl, hqc, hqa, b3⟩ | ⟨vq, rfl, b3⟩
  case inr =>
    have HF : Hid (One w (.bool true) (.returned (.bool true)) w3) := ⟨rfl, HB2.out.trans (b3.mono HB2.out.size)⟩
    clear b3
    cases b
    · go_wp2
      go_ret
      exact HF.out
    · go_wp2
      go_ret
      exact HF.out
  have HB3 := Lib.hid (HB2.out.trans (b3.mono HB2.out.size))
  have HQ := Lib.hid (And.intro hqc hqa)
  clear b3 hqc hqa HB1 HB2
  cases b with
  | false =>
    have HF : Hid (One w (.bool true) (.returned (.bool true)) w3) := ⟨rfl, HB3.out⟩
    go_wp2
    go_ret
    exact HF.out
  | true =>
    by_cases h20 : (txs.length : Int) > 20
    · have HF : Hid (One w (.bool true) (.returned (.bool true)) w3) := ⟨rfl, HB3.out⟩
      go_wp2
      go_ret
      exact HF.out
    have HSt : Hid (BackGo w3 txs txs.length (.slice none 0 0) (.int .i64 0) w3) := ⟨0, by omega, rfl, World.ownsRow_nil _ _ _ _, Below.refl _ _⟩
    have HR := Lib.hid (it_read (HS.out.below HB3.out))
    go_wp2
    go_loopg [11, 12] txs.length (fun k v11 v12 wr => BackGo w3 txs k v11 v12 wr)
    case atStart => exact HSt.out
    clear HSt
    case round =>
      obtain ⟨i, hk, rfl, hrow, hB⟩ := hrel
      obtain ⟨A8, c8, rfl⟩ := L5.own_slice hrow
      by_cases hil : i < txs.length
      · obtain ⟨t, hx⟩ : ∃ t, txs[i]? = some t := ⟨_, List.getElem?_eq_getElem hil⟩
        obtain ⟨ad, e, hrd⟩ := HR.out i t hx
        obtain rfl : A = some ad := e
        have a0 := hrd wr hB
        have htl := HS.out.short t (List.mem_of_getElem? hx)
        unfold maxLen at htl
        have j1 : (i : Int) < (txs.length : Int) := by omega
        have j2 : (0 : Int) ≤ (i : Int) := by omega
        have hgk := Lib.hid (show gk - 1 < gk by omega)
        by_cases h1000 : (t.length : Int) > 1000
        · have HF : Hid (One w (.bool true) (.returned (.bool true)) wr) := ⟨rfl, HB3.out.trans (hB.mono HB3.out.size)⟩
          clear hk hrow hB hx hrd
          go_wp2
          go_ret
          exact HF.out
        · have hbs := hB.size
          have HF : Hid (∀ v' w1, w1.ownsRow w3.heap.size 31 1 v' (i + 1) (txt (txs.take i) ++ [.string ⟨t.toArray⟩]) → (wr.alloc (.cells #[.string ⟨t.toArray⟩] 31)).grownBy w1 (Value.slice A8 i c8).ownBlock → BackGo w3 txs (gk - 1) v' (.int .i64 ((i + 1 : Nat) : Int)) w1) := fun v' w1 h1 h2 => by
            refine ⟨i + 1, by omega, rfl, by rw [take_nextB txs hx, txt_append]; exact h1, (hB.alloc hbs _).grown h2 (by simp; omega) (fun q e => (hrow.lt q e).1)⟩
          have HRw := Lib.hid (hrow.alloc (.cells #[.string ⟨t.toArray⟩] 31))
          clear hk hrow hB hx hrd
          go_wp2_with (at_builtin; refine wpList_append_own _ rfl _ _ 30 rfl w3.heap.size 31 i0 (.string ⟨#[]⟩) 1 16 Try.underlying30 hi hz0 hz1 hz2 rfl (by decide) _ _ _ rfl HRw.out ⟨wr.heap.size, 0, none⟩ 1 1 [.string ⟨t.toArray⟩] rfl rfl (cell_one_new _ _ _) (by simp [Value.oneCell']) (by unfold maxLen; omega) (by omega) (by simp; omega) ?_; intro v' w1 hown' hgrow _; have HJ := Lib.hid (HF.out v' w1 hown' hgrow); clear hown' hgrow)
          go_roundg (gk - 1)
          case measure => exact hgk.out
          case rel => exact HJ.out
      · obtain rfl : i = txs.length := by omega
        have j1 : ¬ (txs.length : Int) < (txs.length : Int) := by omega
        rw [List.take_length] at hrow
        have HT := Lib.hid ((OwnIt.mk (x := ⟨A8, c8, txs⟩) hrow HS.out.short).at)
        have hbr := HB3.out.trans (hB.mono HB3.out.size)
        have HPut := Lib.hid (putC_calls wr (HL.out.below hbr) HN1.out HN2.out)
        have HBr := Lib.hid hbr
        have HQr : Hid (∀ V, Below wr.heap.size wr V → PartsA V vq qs) := fun V hV => HQ.out.2.below (hB.trans (hV.mono hB.size))
        have HQc := Lib.hid HQ.out.1
        clear hk hrow hB HR HQ hbr
        go_wp2_with fail
        refine HPut.out.mono ?_
        clear HPut
        rintro e w4 hput
        obtain ⟨va, na, rfl, b4, _⟩ := hput.one
        have HA1 := Lib.hid hput
        have HAl := Lib.hid (asLogs_calls w4 (HL.out.below (HBr.out.trans (b4.mono HBr.out.size))) HN1.out HN2.out)
        have HB4 := Lib.hid b4
        clear hput b4
        go_wp2_with fail
        refine HAl.out.mono ?_
        clear HAl
        rintro e w5 ⟨vr, rs, rfl, hrc, hra, b5⟩
        obtain ⟨hm1, hm2⟩ := cores_itsL hrc HN1.out HN2.out
        have hrp := rput_calls w5 hra hm1 hm2
        rw [hrc] at hrp
        have HRp := Lib.hid hrp
        have HB5 := Lib.hid (HB4.out.trans (b5.mono HB4.out.size))
        obtain ⟨Ar, cr, rfl⟩ : ∃ A c, vr = .slice A rs.length c := by obtain ⟨A, c, e, _⟩ := logs_read hra; exact ⟨A, c, e⟩
        have HB45 := Lib.hid b5
        clear hrp hra hrc hm1 hm2 b5
        go_wp2_with fail
        refine HRp.out.mono ?_
        clear HRp
        rintro e w6 hro
        obtain ⟨n1, y1, y2, e1, rfl, hy1, hy2, hy12, _, b6⟩ := rows_alike HA1.out hro (by simp; exact HN1.out)
        obtain ⟨rfl, rfl⟩ := pair_inj e1
        have HY1 : Hid (∀ V, Below w6.heap.size w6 V → ItAt V y1 ∧ ItAt V y2) := fun V hV => ⟨(hy1.below (HB45.out.trans (b6.mono HB45.out.size))).below hV, hy2.below hV⟩
        have HY12 := Lib.hid hy12
        have HB6 := Lib.hid (HB5.out.trans (b6.mono HB5.out.size))
        have HPp := Lib.hid (partsC_calls w6 (HP.out.below (HBr.out.trans ((HB5.out.trans (b6.mono HB5.out.size)).mono HBr.out.size))) HN3.out HN4.out)
        clear hro hy1 hy2 hy12 b6 e1 HA1 HB4 HB5 HB45
        go_wp2_with fail
        refine HPp.out.mono ?_
        clear HPp
        rintro e w7 hput
        obtain ⟨vc, nc, rfl, b7, _⟩ := hput.one
        have HA1 := Lib.hid hput
        obtain ⟨hm1, hm2⟩ := cores_itsP HQc.out HN3.out HN4.out
        have hrp := rparts_calls w7 (HQr.out w7 (HB6.out.trans (b7.mono HB6.out.size))) hm1 hm2
        rw [HQc.out] at hrp
        have HRp := Lib.hid hrp
        have HB7 := Lib.hid b7
        clear hput b7 hm1 hm2 hrp
        go_wp2_with fail
        refine HRp.out.mono ?_
        clear HRp
        rintro e w8 hro
        obtain ⟨n2, y3, y4, e1, rfl, hy3, hy4, hy34, _, b8⟩ := rows_alike HA1.out hro (by simp; exact HN3.out)
        obtain ⟨rfl, rfl⟩ := pair_inj e1
        have HY3 : Hid (∀ V, Below w8.heap.size w8 V → ItAt V y3 ∧ ItAt V y4) := fun V hV => ⟨(hy3.below b8).below hV, hy4.below hV⟩
        have HY34 := Lib.hid hy34
        have hb68 := HB7.out.trans (b8.mono HB7.out.size)
        have HB8 := Lib.hid (HB6.out.trans (hb68.mono HB6.out.size))
        have HB68 := Lib.hid hb68
        clear hro hy3 hy4 hy34 b8 e1 HA1 HB7 HB6 hb68
        have hs1 := same_calls y1 y2 w8 (HY1.out w8 HB68.out).1 (HY1.out w8 HB68.out).2
        rw [HY12.out, decide_eq_true rfl] at hs1
        have HS1 := Lib.hid hs1
        have HSame3 : Hid (∀ V, Below w8.heap.size w8 V → Calls Try.prog 18 #[y3.v, y4.v] V (One V (.bool true))) := fun V hV => by
          have h := same_calls y3 y4 V (HY3.out V hV).1 (HY3.out V hV).2
          rw [HY34.out, decide_eq_true rfl] at h
          exact h
        clear hs1 HY1 HY3 HY34 HY12
        obtain ⟨A1, c1, l1⟩ := y1
        obtain ⟨A2, c2, l2⟩ := y2
        obtain ⟨A3, c3, l3⟩ := y3
        obtain ⟨A4, c4, l4⟩ := y4
        simp only [It.v] at HS1 HSame3 ⊢
        go_wp2_with fail
        refine HS1.out.mono ?_
        clear HS1
        rintro e w9 ⟨rfl, b9⟩
        have HS3 := Lib.hid (HSame3.out w9 b9)
        have HB9 := Lib.hid (HB8.out.trans (b9.mono HB8.out.size))
        clear HSame3 b9 HB68
        go_wp2_with fail
        refine HS3.out.mono ?_
        clear HS3
        rintro e w10 ⟨rfl, b10⟩
        have HB10 := Lib.hid (HB9.out.trans (b10.mono HB9.out.size))
        have HTk := Lib.hid (takeC_calls ⟨A8, c8, txs⟩ w10 (HT.out.below HB10.out) n5)
        clear b10 HB8 HB9
        go_wp2_with fail
        refine HTk.out.mono ?_
        clear HTk
        rintro e w11 htk
        obtain ⟨vx, _, ex, rfl, _, _, _, b11, _⟩ := htk.one
        have HA1 := Lib.hid htk
        have HB11 := Lib.hid (HB10.out.trans (b11.mono HB10.out.size))
        have HRt := Lib.hid (rtake_calls ⟨A, c, txs⟩ w11 ((HS.out.below HBr.out).below HB11.out) n5)
        clear htk b11
        go_wp2_with fail
        refine HRt.out.mono ?_
        clear HRt
        rintro e w12 hrt
        obtain ⟨m1, x1, x2, lx, ly, e1, rfl, hx1, hx2, hx12, _, b12⟩ := took_alike HA1.out hrt
        obtain ⟨rfl, rfl⟩ := pair_inj e1
        have HX : Hid (∀ V, Below w12.heap.size w12 V → LogsA V vx lx ∧ LogsA V x2 ly) := fun V hV => ⟨(hx1.below b12).below hV, hx2.below hV⟩
        have HX12 := Lib.hid hx12
        have HB12 := Lib.hid (HB11.out.trans (b12.mono HB11.out.size))
        have HUn := Lib.hid (unpartC_calls ⟨A8, c8, txs⟩ w12 (HT.out.below (HB11.out.trans (b12.mono HB11.out.size))) n5)
        obtain ⟨Ax, cx, rfl⟩ : ∃ A c, vx = .slice A lx.length c := by obtain ⟨A, c, e, _⟩ := logs_read hx1; exact ⟨A, c, e⟩
        obtain ⟨Ay, cy, rfl⟩ : ∃ A c, x2 = .slice A ly.length c := by obtain ⟨A, c, e, _⟩ := logs_read hx2; exact ⟨A, c, e⟩
        clear hrt hx1 hx2 hx12 b12 e1 HA1 HB10 HB11
        go_wp2_with fail
        refine HUn.out.mono ?_
        clear HUn
        rintro e w13 htk
        obtain ⟨vz, _, ez, rfl, _, _, _, b13, _⟩ := htk.one
        have HA1 := Lib.hid htk
        have HB13 := Lib.hid (HB12.out.trans (b13.mono HB12.out.size))
        have HB1213 := Lib.hid b13
        have HRt := Lib.hid (runpart_calls ⟨A, c, txs⟩ w13 ((HS.out.below HBr.out).below (HB12.out.trans (b13.mono HB12.out.size))) n5)
        clear htk b13
        go_wp2_with fail
        refine HRt.out.mono ?_
        clear HRt
        rintro e w14 hrt
        obtain ⟨m2, z1, z2, lz, lw, e1, rfl, hz1', hz2', hz12, _, b14⟩ := told_alike HA1.out hrt
        obtain ⟨rfl, rfl⟩ := pair_inj e1
        obtain ⟨Az, cz, rfl⟩ : ∃ A c, vz = .slice A lz.length c := by obtain ⟨A, c, e, _⟩ := parts_read hz1'; exact ⟨A, c, e⟩
        obtain ⟨Aw, cw, rfl⟩ : ∃ A c, z2 = .slice A lw.length c := by obtain ⟨A, c, e, _⟩ := parts_read hz2'; exact ⟨A, c, e⟩
        have HZ : Hid (∀ V, Below w14.heap.size w14 V → PartsA V (.slice Az lz.length cz) lz ∧ PartsA V (.slice Aw lw.length cw) lw) := fun V hV => ⟨(hz1'.below b14).below hV, hz2'.below hV⟩
        have HZ12 := Lib.hid hz12
        have hb1214 := HB1213.out.trans (b14.mono HB1213.out.size)
        have HB14 := Lib.hid (HB13.out.trans (b14.mono HB13.out.size))
        have hsl := sameL_calls w14 (HX.out w14 hb1214).1 (HX.out w14 hb1214).2
        rw [HX12.out, decide_eq_true rfl] at hsl
        have HSl := Lib.hid hsl
        clear hrt hz1' hz2' hz12 b14 e1 HA1 HB12 HB13 HB1213 hb1214 hsl HX
        go_wp2_with fail
        refine HSl.out.mono ?_
        clear HSl
        rintro e w15 ⟨rfl, b15⟩
        have hsp := sameP_calls w15 (HZ.out w15 b15).1 (HZ.out w15 b15).2
        rw [HZ12.out, decide_eq_true rfl] at hsp
        have HSp := Lib.hid hsp
        have HB15 := Lib.hid (HB14.out.trans (b15.mono HB14.out.size))
        clear hsp b15 HZ HB14
        go_wp2_with fail
        refine HSp.out.mono ?_
        clear HSp
        rintro e w16 ⟨rfl, b16⟩
        have HF : Hid (One w (.bool true) (.returned (.bool true)) w16) := ⟨rfl, HBr.out.trans ((HB15.out.trans (b16.mono HB15.out.size)).mono HBr.out.size)⟩
        clear b16
        go_wp2
        go_ret
        exact HF.out
end Go.Proofs.Ytkalmfhebffklaa.L11
end

section
namespace Go.Proofs.Ytkalmfhebffklaa
open Go.ChangeShapes Go.WideShapes Go.ChangeAt Go.RowKit

set_option maxRecDepth 100000 in
theorem cputs_contract (H : Type) (enc : TypeId × Value → H) (W : World) (base : Nat) (args : Array Value) (ds gs : List (DataW H)) (before : List MemPlace)
    (hval0 : ∀ (j : Nat) t v, Try.f3.params[j]? = some t → args[j]? = some v → Value.okWide Try.prog W .any base t v)
    (hW : DataW.Whole enc Try.prog Try.f3.params.toList Rows.cutPutsSpec.vars false W args.toList ds gs before) (hk : Rows.uptoSmall H (ds ++ gs) = true) :
    Calls Try.prog 3 args W fun e W' => ∃ v, e = .returned v ∧ Rows.cutPutsSpec.post enc Try.prog Try.f3 false true false false W args v W' := by
  have hval : ∀ (j : Nat) t v, Try.f3.params[j]? = some t → args[j]? = some v → Value.okWide Try.prog W .any base t v := hval0
  have hB : Rows.uptoBulkAll (ds ++ gs) ≤ 1048576 := of_decide_eq_true hk
  have hW' := hW
  obtain ⟨p, q, hA0, hV, rfl, hfz, hnd⟩ := hW
  have hA : DataW.TrodAll enc Try.prog W 0 (fun _ => true) true Try.f3.params.toList args.toList ds p := hA0
  rw [Try.params3] at hA hval
  obtain ⟨v0, vs0, d0, ds0, p0, q0, hargs, rfl, rfl, h0, r0⟩ := trodAll_cons hA
  obtain ⟨v1, vs1, d1, ds1, p1, q1, rfl, rfl, rfl, h1, r1⟩ := trodAll_cons r0
  obtain ⟨v2, vs2, d2, ds2, p2, q2, rfl, rfl, rfl, h2, r2⟩ := trodAll_cons r1
  obtain ⟨rfl, rfl, rfl⟩ := trodAll_nil r2
  obtain rfl : args = #[v0, v1, v2] := by cases args; simp_all
  obtain ⟨rfl, rfl⟩ := trodVars_none hV
  have hd0 : Rows.uptoBulk d0 ≤ 1048576 := Nat.le_trans (L11.bulk_mem (by simp)) hB
  have h0k := h0
  obtain ⟨ls0, hL0, hb0, hn0⟩ := L11.open_logsB (hval 0 22 v0 rfl rfl) h0
  have hd1 : Rows.uptoBulk d1 ≤ 1048576 := Nat.le_trans (L11.bulk_mem (by simp)) hB
  have h1k := h1
  obtain ⟨ps1, hP1, hb1, hn1⟩ := L11.open_partsB (hval 1 23 v1 rfl rfl) h1
  have hd2 : Rows.uptoBulk d2 ≤ 1048576 := Nat.le_trans (L11.bulk_mem (by simp)) hB
  have h2k := h2
  obtain ⟨s2, rfl, hS2, hn2⟩ := L11.open_strsB (hval 2 24 v2 rfl rfl) h2
  clear hA0 hval0
  simp only [List.append_nil] at hW'
  have hlt0 : ∀ x ∈ p0, x.block < W.heap.size := fun x hx => by simpa using hW'.lt x (by simp [hx])
  have hlt1 : ∀ x ∈ p1, x.block < W.heap.size := fun x hx => by simpa using hW'.lt x (by simp [hx])
  have hlt2 : ∀ x ∈ p2, x.block < W.heap.size := fun x hx => by simpa using hW'.lt x (by simp [hx])
  refine (L11.puts_calls s2 W hL0 hP1 hS2 (by omega) (fun l hl => by have := hb0 l hl; omega) (by omega) (fun l hl => by have := hb1 l hl; omega) (by omega)).mono fun e W' ⟨he, hg⟩ => ?_
  subst he
  exact ⟨_, rfl, L5.post_law_at (pv := []) hW' (trodAll_cons_mk (shut_bool Try.underlying4 _) trodAll_mk0) (trodAll_cons_mk (Below.trod L5.laid_out (by kernel_rfl) (of_decide_eq_true (by kernel_rfl)) h0k hg hlt0) (trodAll_cons_mk (Below.trod L5.laid_out (by kernel_rfl) (of_decide_eq_true (by kernel_rfl)) h1k hg hlt1) (trodAll_cons_mk (Below.trod L5.laid_out (by kernel_rfl) (of_decide_eq_true (by kernel_rfl)) h2k hg hlt2) trodAll_mk0))) rfl (by simp) hg⟩

set_option maxRecDepth 100000 in
theorem cputs_lifted (os : Os) (started : os.Started) (H : Type) (enc : TypeId × Value → H) (F : Stop.Interp) :
    ReturnsInHanded {} Try.checked os 3 .any ((Rows.OpenSpec.upto Rows.cutPutsSpec).pre6 enc Try.prog Try.f3 Rows.cutPutsUptoRow.domain false) (((Rows.OpenSpec.upto Rows.cutPutsSpec).at F).post enc Try.prog Try.f3 false true false false) := by
  refine returnsInHanded_of_cond (C := Try.checked) (s := Rows.OpenSpec.upto Rows.cutPutsSpec) (k := Rows.uptoSmall) rfl L5.own started (by kernel_rfl) Try.func3
    (OpenSpec.witness (enc := enc) (C := Try.checked) (s := Rows.OpenSpec.upto Rows.cutPutsSpec) (k := Rows.uptoSmall) rfl false ⟨#[], #[.slice none 0 0, .slice none 0 0, .slice none 0 0], []⟩ 8 (by kernel_rfl) (by kernel_rfl) (by kernel_rfl)
      (x := ([.nil, .nil, .nil], [], [])) (by kernel_rfl) rfl (by kernel_rfl)) ?_
  intro W base args ds gs before hval hW _ hk _
  exact cputs_contract H enc W base args ds gs before hval hW hk

theorem cputs_over : Rows.cutPutsUptoRow.holds Try.pinned (Rows.OpenSpec.upto Rows.cutPutsSpec) :=
  OpenClaim.holds_of_cond 3 Try.f3 rfl rfl rfl rfl rfl rfl rfl ⟨rfl, rfl, rfl, rfl, rfl⟩ rfl rfl rfl rfl rfl (by kernel_rfl) Try.func3 (by kernel_rfl)
    (of_decide_eq_true (by kernel_rfl)) (by unfold Func.isWrapper; first | (rw [if_pos (by decide +kernel)]; kernel_rfl) | (rw [if_neg (by decide +kernel)]; exact ⟨rfl, rfl⟩))
    (fun os started H enc _ F => cputs_lifted os started H enc F)

theorem cputs_proved : Rows.CutPutsUptoSaid := cputs_over

end Go.Proofs.Ytkalmfhebffklaa
end
