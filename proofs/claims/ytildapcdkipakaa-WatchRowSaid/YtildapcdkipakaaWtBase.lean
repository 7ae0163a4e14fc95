/- Rows of ints in memory, and contracts of slices.Clone, of slices.Repeat of one value eight times, and of math/bits.Mul as that one calls it. -/
import Derived.Test.YtildapcdkipakaaWBase
import Derived.Lib.SliceRun
import Derived.Laws.CopyOwn
import Derived.ChangeSlices
import Derived.Deep.RegionLaw
import Derived.Deep.LoopGhost
import Derived.Deep.RegionHeld3
namespace Go.Proofs.Ytildapcdkipakaa.L9
open Go.ChangeShapes Go.WideShapes Go.ChangeAt Go.RowKit Go.Deep

theorem addr_block (ad : Addr) (i : Nat) : (ad.add i).block = ad.block := by unfold Addr.add; split <;> rfl
theorem addr_at (g j : Nat) : (⟨g, 0, none⟩ : Addr).add j = ⟨g, j, none⟩ := by
  simp [Addr.add]
  omega
def isInt (x : Int) : Prop := -9223372036854775808 ≤ x ∧ x ≤ 9223372036854775807
def ints (xs : List Int) : List Value := xs.map fun x => .int .i64 x
theorem ints_len (xs : List Int) : (ints xs).length = xs.length := by simp [ints]
theorem ints_one (xs : List Int) : ∀ u ∈ ints xs, u.oneCell' = true := by
  intro u hu
  obtain ⟨x, _, rfl⟩ := List.mem_map.1 hu
  rfl
theorem ints_at {xs : List Int} {j : Nat} {u : Value} (h : (ints xs)[j]? = some u) : ∃ x, xs[j]? = some x ∧ u = .int .i64 x := by
  simp only [ints, List.getElem?_map, Option.map_eq_some_iff] at h
  obtain ⟨x, hx, rfl⟩ := h
  exact ⟨x, hx, rfl⟩
/-- A row of ints, as it lies in memory. -/
def IRow (w : World) (v : Value) (xs : List Int) : Prop := ∃ A c, v = .slice A xs.length c ∧ ∀ (j : Nat) (x : Int), xs[j]? = some x → ∃ ad : Addr, A = some ad ∧ ad.block < w.heap.size ∧ w.cell? (ad.add j) = some (.int .i64 x)
theorem IRow.below {w w' : World} {v : Value} {xs : List Int} (h : IRow w v xs) (hb : Below w.heap.size w w') : IRow w' v xs := by
  obtain ⟨A, c, e, k⟩ := h
  refine ⟨A, c, e, fun j x hj => ?_⟩
  obtain ⟨ad, e, hl, hc⟩ := k j x hj
  exact ⟨ad, e, Nat.lt_of_lt_of_le hl hb.size, (hb.cell (p := ad.add j) (by rw [addr_block]; exact hl)).trans hc⟩
theorem IRow.of_own {w : World} {B : Nat} {e : TypeId} {v : Value} {xs : List Int} (h : w.ownsRow B e 1 v xs.length (ints xs)) : IRow w v xs := by
  rcases h.2 with ⟨rfl, h0⟩ | ⟨g, cap, cur, rfl, h1, h2, h3⟩
  · have : xs = [] := List.length_eq_zero_iff.1 h0
    subst this
    exact ⟨none, 0, rfl, fun j x hx => by simp at hx⟩
  · refine ⟨some ⟨g, 0, none⟩, cap, rfl, fun j x hx => ⟨⟨g, 0, none⟩, rfl, (h.lt g rfl).2, ?_⟩⟩
    have hjl := (List.getElem?_eq_some_iff.1 hx).1
    have := h.cellAt j (by omega)
    rw [addr_at, this]
    simp [ints, hx]
theorem IRow.new (w : World) (xs : List Int) (t : TypeId) (c : Nat) : IRow (w.alloc (.cells (ints xs).toArray t)) (.slice (some ⟨w.heap.size, 0, none⟩) xs.length c) xs := by
  refine ⟨_, c, rfl, fun j x hx => ⟨_, rfl, by simp, ?_⟩⟩
  rw [addr_at]
  simp only [World.cell?]
  rw [heap_alloc_new]
  simp [ints, hx]
set_option maxRecDepth 100000 in
theorem open_irow {H : Type} {enc : TypeId × Value → H} {W : World} {base : Nat} {v : Value} {d : DataW H} {ps : List MemPlace}
    (hval : Value.okWide Try.prog W .any base 53 v) (h : DataW.Trod enc Try.prog W 0 (fun _ => true) true 53 v d ps) : ∃ zs : List Int, IRow W v zs ∧ zs.length ≤ maxLen ∧ ∀ x ∈ zs, isInt x := by
  obtain ⟨A, n, c, rfl⟩ := okWide_slice Try.underlying53 hval
  obtain ⟨fuel, hf⟩ := h
  rcases open_ints Try.underlying53 Try.underlying3 (by kernel_rfl) hf with ⟨h0, _⟩ | ⟨a, len, cap, zs, hcs, _, hl, hm, hsl, _, hcell, hsz⟩
  · simp [Value.cells] at h0
    obtain ⟨rfl, rfl, rfl⟩ := h0
    exact ⟨[], ⟨none, 0, rfl, fun j x hj => by simp at hj⟩, Nat.zero_le _, by simp⟩
  · simp [Value.cells] at hcs
    obtain ⟨rfl, rfl, rfl⟩ := hcs
    simp only [if_true] at hsl
    refine ⟨zs.take n, ⟨some a, c, by rw [List.length_take]; congr 1; omega, fun j x hj => ?_⟩, by rw [List.length_take]; omega, fun x hx => L5.i64_of_wf (hsz x (List.mem_of_mem_take hx))⟩
    have hjn : j < n := by have := (List.getElem?_eq_some_iff.1 hj).1; rw [List.length_take] at this; omega
    rw [List.getElem?_take_of_lt hjn] at hj
    have hc2 := hcell j (by omega)
    have hlt := World.block_lt_of_cell? W _ hc2
    rw [addr_block] at hlt
    have e : zs.getD j 0 = x := by rw [List.getD, hj, Option.getD_some]
    rw [e] at hc2
    exact ⟨a, rfl, hlt, hc2⟩
theorem info_int : (Try.prog.info? 3).map (fun i => (i.zero, i.size, i.bytes)) = some (some (.int .i64 0), 1, 8) := by kernel_rfl
theorem info_parts9 {e : TypeId} {z : Value} {s b : Nat} (h : (Try.prog.info? e).map (fun i => (i.zero, i.size, i.bytes)) = some (some z, s, b)) : ∃ i, Try.prog.info? e = some i ∧ i.zero = some z ∧ i.size = s ∧ i.bytes = b := by
  cases hq : Try.prog.info? e with
  | none => rw [hq] at h; cases h
  | some i =>
    rw [hq] at h
    simp only [Option.map_some, Option.some.injEq, Prod.mk.injEq] at h
    exact ⟨i, rfl, h.1, h.2.1, h.2.2⟩
/-- A row of the call's own is handed out. -/
def OutRow (w : World) (xs : List Int) (e : Ending) (w' : World) : Prop := ∃ v, e = .returned v ∧ w'.ownsRow w.heap.size 3 1 v xs.length (ints xs) ∧ Below w.heap.size w w'

set_option maxRecDepth 100000 in
set_option maxHeartbeats 1000000 in
/-- slices.Clone at a row of ints that is not nil. -/
theorem Clone_calls (B : Nat) (v : Value) (xs : List Int) (w : World) (r : w.ownsRow B 3 1 v xs.length (ints xs)) (h0 : 0 < xs.length) (hl : xs.length ≤ 1000000) : Calls Try.prog 41 #[v] w (OutRow w xs) := by
  obtain ⟨i0, hi, hz0, hz1, hz2⟩ := info_parts9 info_int
  have r' := r
  rcases r.2 with ⟨rfl, hn⟩ | ⟨g, cap, cur, rfl, _, hg, hc, _⟩
  · omega
  · have hlit : (w.alloc (.cells #[] 3)).ownsRow w.heap.size 3 1 (.slice (some ⟨w.heap.size, 0, none⟩) 0 0) 0 [] :=
      ⟨rfl, .inr ⟨w.heap.size, 0, #[], rfl, Nat.le_refl _, heap_alloc_new _ _, Nat.le_refl _, by decide, rfl, rfl⟩⟩
    have hb : Below w.heap.size w (w.alloc (.cells #[] 3)) := (Below.refl _ w).alloc (Nat.le_refl _) _
    obtain ⟨A, c, e, k⟩ := IRow.of_own r'
    cases e
    have HNews : Hid (∀ (j : Nat) (u : Value), (ints xs)[j]? = some u → (w.alloc (.cells #[] 3)).cell? ((⟨g, 0, none⟩ : Addr).add j) = some u) := fun j u hu => by
      obtain ⟨x, hx, rfl⟩ := ints_at hu
      obtain ⟨ad, e, h1, h2⟩ := k j x hx
      cases e
      exact (hb.cell (p := (⟨g, 0, none⟩ : Addr).add j) (by rw [addr_block]; exact h1)).trans h2
    have HLit := Lib.hid hlit
    have HB := Lib.hid hb
    have HOne := Lib.hid (ints_one xs)
    have HLen : Hid ((ints xs).length = xs.length * 1) := (by rw [ints_len]; omega : (ints xs).length = xs.length * 1)
    have hsz : (w.alloc (.cells #[] 3)).heap.size = w.heap.size + 1 := by simp
    clear r r' hg hlit hb k
    have q22 : ∀ (w : World) (a : Option Addr) (n c n' c' : Nat), (binOp .eql 53 (.slice a n c) (.slice none n' c')).run Try.prog w = .ok (.bool a.isNone) w := fun w a n c n' c' => Lib.run_eql_slice_nil w _ _ a n c n' c' Try.underlying53
    go_enter Try.func41, Try.ntmps41
    go_wp2_with (at_builtin; refine wpList_append_own _ rfl _ _ 53 rfl w.heap.size 3 i0 (.int .i64 0) 1 8 Try.underlying53 hi hz0 hz1 hz2 rfl (by decide) _ _ _ rfl HLit.out ⟨g, 0, none⟩ xs.length cap (ints xs) rfl HLen.out HNews.out HOne.out (by unfold maxLen; omega) (by omega) (by omega) ?_; intro v' w' hown hgrow _; have HF : Hid (OutRow w xs (.returned v') w') := (by refine ⟨v', rfl, ?_, HB.out.grown hgrow (by omega) (fun k e => by cases e; exact Nat.le_refl _)⟩; have := hown; simp only [Nat.zero_add, List.nil_append] at this; exact this); clear hown hgrow)
    go_ret
    exact HF.out

set_option maxRecDepth 100000 in
set_option maxHeartbeats 1000000 in
theorem Mul64_calls (w : World) : Calls Try.prog 55 #[.int .u64 1, .int .u64 8] w fun e w' => e = .returned (.tuple #[.int .u64 0, .int .u64 8]) ∧ w = w' := by
  go_enter Try.func55, Try.ntmps55
  go_wp2
  go_ret2
  exact ⟨rfl, rfl⟩
set_option maxRecDepth 100000 in
set_option maxHeartbeats 1000000 in
theorem Mul_calls (w : World) : Calls Try.prog 48 #[.int .u64 1, .int .u64 8] w fun e w' => e = .returned (.tuple #[.int .u64 0, .int .u64 8]) ∧ w = w' := by
  have HM := Lib.hid Mul64_calls
  go_enter Try.func48, Try.ntmps48
  go_wp2_with fail
  refine (HM.out _).mono ?_
  rintro e w1 ⟨rfl, rfl⟩
  go_wp2
  go_ret2
  exact ⟨rfl, rfl⟩

def eight (x : Int) (n : Nat) : List Value := (ints (List.replicate n x)) ++ (ints (List.replicate (8 - n) 0))
theorem rep_src {w : World} {g : Nat} {x : Int} {n : Nat} (h : w.heap[g]? = some (.cells (eight x n).toArray 3 (0, 0))) : ∀ (j : Nat) (v : Value), (ints (List.replicate n x))[j]? = some v → w.cell? ((⟨g, 0, none⟩ : Addr).add j) = some v := fun j v hj => by
  rw [addr_at]
  simp only [World.cell?]
  rw [h]
  have hl := (List.getElem?_eq_some_iff.1 hj).1
  simp only [eight]
  rw [List.getElem?_toArray, List.getElem?_append_left hl]
  exact hj
theorem rep_own {w : World} {g : Nat} {x : Int} (h : w.heap[g]? = some (.cells (eight x 8).toArray 3 (0, 0))) : w.ownsRow g 3 1 (.slice (some ⟨g, 0, none⟩) 8 8) (List.replicate 8 x).length (ints (List.replicate 8 x)) :=
  ⟨rfl, .inr ⟨g, 8, _, rfl, Nat.le_refl _, h, by simp, by decide, by simp [eight, ints], by simp [eight, ints]⟩⟩
def RepGo (w : World) (g : Nat) (x : Int) (k : Nat) (v8 : Value) (wr : World) : Prop := ∃ n : Nat, ((n = 1 ∧ k = 3) ∨ (n = 2 ∧ k = 2) ∨ (n = 4 ∧ k = 1) ∨ (n = 8 ∧ k = 0)) ∧ v8 = .int .i64 n ∧ wr.heap[g]? = some (.cells (eight x n).toArray 3 (0, 0)) ∧ Below w.heap.size w wr
theorem made_eight (x : Int) : madeCells (Value.int .i64 0).cells 8 = (eight x 0).toArray := by
  have h8 : Array.range 8 = #[0, 1, 2, 3, 4, 5, 6, 7] := by decide
  simp [madeCells, eight, ints, Value.cells, List.replicate, h8]
set_option maxRecDepth 100000 in
set_option maxHeartbeats 1000000 in
/-- slices.Repeat of one value, eight times. -/
theorem Repeat_calls (x : Int) (c : Nat) (ad : Addr) (w : World) (hlt : ad.block < w.heap.size) (hc : w.cell? (ad.add 0) = some (.int .i64 x)) : Calls Try.prog 40 #[.slice (some ad) 1 c, .int .i64 8] w (OutRow w (List.replicate 8 x)) := by
  obtain ⟨i0, hi, hz0, hz1, hz2⟩ := info_parts9 info_int
  have hsz1 : (Try.prog.info? 3).map (·.size) = some 1 := by rw [hi]; simp [hz1]
  have hmk := run_makeSlice (P := Try.prog) (w := w) 53 3 i0 (.int .i64 0) Try.underlying53 hi hz0 .i64 .i64 8 8 (by decide) (by decide) (by rw [hz1]; decide) (by rw [hz2]; decide) (by decide)
  have hcells : madeCells (Value.int .i64 0).cells ((8 : Int).toNat * i0.size) = (eight x 0).toArray := by rw [hz1]; exact made_eight x
  rw [hcells] at hmk
  obtain ⟨W2, hW2⟩ : ∃ W2, w.alloc (.cells (eight x 0).toArray 3) = W2 := ⟨_, rfl⟩
  have hg0 : W2.heap[w.heap.size]? = some (.cells (eight x 0).toArray 3 (0, 0)) := by rw [← hW2]; exact heap_alloc_new _ _
  have hB0 : Below w.heap.size w W2 := by rw [← hW2]; exact (Below.refl _ w).alloc (Nat.le_refl _) _
  have hc2 : W2.cell? (ad.add 0) = some (.int .i64 x) := (hB0.cell (p := ad.add 0) (by rw [addr_block]; exact hlt)).trans hc
  rw [hW2] at hmk
  have hmk' : (Instr.makeSlice 53 (.int .i64 8) (.int .i64 8)).run Try.prog w = .ok (.slice (some ⟨w.heap.size, 0, none⟩) 8 8) W2 := hmk
  obtain ⟨w3, hw3⟩ : ∃ w3, w3 = W2.setRow w.heap.size (eight x 1).toArray := ⟨_, rfl⟩
  have hcp : ∀ ty, (Builtin.copy_ #[53, 53] ty #[.slice (some ⟨w.heap.size, 0, none⟩) 8 8, .slice (some ad) 1 c]).run Try.prog W2 = .ok (goInt 1) w3 := by
    intro ty
    rw [hw3]
    have := run_copy_row (P := Try.prog) W2 53 53 ty 3 w.heap.size 0 8 8 ad 1 c (eight x 0).toArray 3 [.int .i64 x] Try.underlying53 hsz1 hg0 rfl (fun j v hj => by cases j with | zero => cases hj; exact hc2 | succ j => simp at hj) (by simp [eight, ints]) (by intro u hu; simp at hu; subst hu; rfl)
    exact this
  have hg3 : w3.heap[w.heap.size]? = some (.cells (eight x 1).toArray 3 (0, 0)) := by
    rw [hw3]
    exact setRow_heap W2 _ _ _ _ _ hg0
  have hb3 : Below w.heap.size w w3 := by
    rw [hw3]
    exact below_setRow hB0 (Nat.le_refl _) _
  have HM := Lib.hid Mul_calls
  have HG3 := Lib.hid hg3
  have HB3 := Lib.hid hb3
  have HN := Lib.hid hsz1
  clear hmk hcells hg0 hB0 hc2 hlt hc hw3 hg3 hb3 hsz1 hi hz0 hz1 hz2
  go_enter Try.func40, Try.ntmps40
  go_wp2_with fail
  refine (HM.out _).mono ?_
  rintro e w1 ⟨rfl, rfl⟩
  go_wp2
  clear hcp hmk' hW2
  go_loopg [8] 3 (fun k v8 wr => RepGo w w.heap.size x k v8 wr)
  case atStart => exact ⟨1, .inl ⟨rfl, rfl⟩, rfl, HG3.out, HB3.out⟩
  case round =>
    obtain ⟨n, hn, rfl, hg, hb⟩ := hrel
    have HG := Lib.hid hg
    have HB := Lib.hid hb
    clear hg hb
    rcases hn with ⟨rfl, rfl⟩ | ⟨rfl, rfl⟩ | ⟨rfl, rfl⟩ | ⟨rfl, rfl⟩
    · go_wp2
      go_region_law (refine step_copy_splice rfl (.tmp 41) (.tmp 44) 53 53 rfl 3 Try.underlying53 HN.out (some ⟨w.heap.size, 1, none⟩) (some ⟨w.heap.size, 0, none⟩) 7 7 1 8 (by simp [Act.eval, Act.put]) (by simp [Act.eval, Act.put]) w.heap.size 1 (eight x 1) 3 HG.out (ints (List.replicate 1 x)) rfl (fun _ => ⟨rfl, _, rfl, rep_src HG.out⟩) (by simp [eight, ints]) (ints_one _) w.heap.size w HB.out.drew (Nat.le_refl _) ?_; intro w4 hg4 hb4)
      have HF : Hid (RepGo w w.heap.size x 2 (.int .i64 2) w4) := ⟨2, .inr (.inl ⟨rfl, rfl⟩), rfl, hg4.out, hb4⟩
      clear hg4 hb4
      go_wp2
      go_roundg 2
      case measure => decide
      case rel => exact HF.out
    · go_wp2
      go_region_law (refine step_copy_splice rfl (.tmp 41) (.tmp 44) 53 53 rfl 3 Try.underlying53 HN.out (some ⟨w.heap.size, 2, none⟩) (some ⟨w.heap.size, 0, none⟩) 6 6 2 8 (by simp [Act.eval, Act.put]) (by simp [Act.eval, Act.put]) w.heap.size 2 (eight x 2) 3 HG.out (ints (List.replicate 2 x)) rfl (fun _ => ⟨rfl, _, rfl, rep_src HG.out⟩) (by simp [eight, ints]) (ints_one _) w.heap.size w HB.out.drew (Nat.le_refl _) ?_; intro w4 hg4 hb4)
      have HF : Hid (RepGo w w.heap.size x 1 (.int .i64 4) w4) := ⟨4, .inr (.inr (.inl ⟨rfl, rfl⟩)), rfl, hg4.out, hb4⟩
      clear hg4 hb4
      go_wp2
      go_roundg 1
      case measure => decide
      case rel => exact HF.out
    · go_wp2
      go_region_law (refine step_copy_splice rfl (.tmp 41) (.tmp 44) 53 53 rfl 3 Try.underlying53 HN.out (some ⟨w.heap.size, 4, none⟩) (some ⟨w.heap.size, 0, none⟩) 4 4 4 8 (by simp [Act.eval, Act.put]) (by simp [Act.eval, Act.put]) w.heap.size 4 (eight x 4) 3 HG.out (ints (List.replicate 4 x)) rfl (fun _ => ⟨rfl, _, rfl, rep_src HG.out⟩) (by simp [eight, ints]) (ints_one _) w.heap.size w HB.out.drew (Nat.le_refl _) ?_; intro w4 hg4 hb4)
      have HF : Hid (RepGo w w.heap.size x 0 (.int .i64 8) w4) := ⟨8, .inr (.inr (.inr ⟨rfl, rfl⟩)), rfl, hg4.out, hb4⟩
      clear hg4 hb4
      go_wp2
      go_roundg 0
      case measure => decide
      case rel => exact HF.out
    · go_wp2
      go_ret
      exact ⟨_, rfl, rep_own HG.out, HB.out⟩
end Go.Proofs.Ytildapcdkipakaa.L9
