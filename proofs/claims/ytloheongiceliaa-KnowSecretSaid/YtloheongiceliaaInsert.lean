/- Contract of slices.Insert of one term into a row of terms: the row with that term at that place. -/
import Derived.Test.YtloheongiceliaaSearch
import Derived.Lib.Overlaps
import Derived.Laws.CopyOwn
import Derived.Shelf.Spec.SlicesInsert
namespace Go.Proofs.Ytloheongiceliaa
open Go.ChangeShapes Go.WideShapes Go.ChangeAt Go.RowKit

def InsertOut (B : Nat) (w : World) (ys : List (List UInt8)) (e : Ending) (w' : World) : Prop :=
  ∃ g cap, e = .returned (.slice (some ⟨g, 0, none⟩) ys.length cap) ∧ Texts w' g ys ∧ g < w'.heap.size ∧ Below B w w'

theorem texts_of_row {w : World} {B g n cap : Nat} {e : TypeId} {xs : List (List UInt8)} (h : w.ownsRow B e 1 (.slice (some ⟨g, 0, none⟩) n cap) n (strs xs)) : Texts w g xs := by
  intro j x hj
  have hl : (strs xs).length = n * 1 := h.1
  rw [strs_length] at hl
  have hjl := (List.getElem?_eq_some_iff.1 hj).1
  rw [h.cellAt j (by omega)]
  simp [strs, hj]
theorem lt_of_row {w : World} {B g n cap : Nat} {e : TypeId} {xs : List Value} (h : w.ownsRow B e 1 (.slice (some ⟨g, 0, none⟩) n cap) n xs) : g < w.heap.size := (h.lt g rfl).2

set_option maxRecDepth 100000 in
set_option maxHeartbeats 1000000 in
theorem Insert_nil (t : ByteArray) (gv : Nat) (w : World) (hv : w.cell? ⟨gv, 0, none⟩ = some (.string t)) :
    Calls Try.prog 46 #[.slice none 0 0, .int .i64 0, .slice (some ⟨gv, 0, none⟩) 1 1] w (InsertOut w.heap.size w [t.data.toList]) := by
  obtain ⟨i0, hi, hz0, hz1, hz2⟩ := info_parts info_term
  have hnews : ∀ j u, [Value.string t][j]? = some u → w.cell? ((⟨gv, 0, none⟩ : Addr).add j) = some u := by
    intro j u hj
    cases j with
    | zero => simp at hj; subst hj; exact hv
    | succ j => simp at hj
  have HN := Lib.hid hnews
  clear hnews
  go_enter Try.func46, Try.ntmps46
  go_wp2_with (
    at_builtin
    refine wpList_append_own _ rfl _ _ 38 rfl w.heap.size 24 i0 (.string ⟨#[]⟩) 1 16 Try.underlying38 hi hz0 hz1 hz2 rfl (by decide) (.slice none 0 0) 0 [] rfl (World.ownsRow_nil _ _ _ _) ⟨gv, 0, none⟩ 1 1 [.string t] rfl rfl HN.out (fun x hx => by simp at hx; subst hx; rfl) (by unfold maxLen; omega) (by omega) (Nat.le_refl _) ?_
    intro v' w3 hown' hgrow3 hnil3
    obtain ⟨g3, cap3, rfl⟩ : ∃ g3 cap3, v' = .slice (some ⟨g3, 0, none⟩) 1 cap3 := by
      rcases hown'.2 with ⟨_, h⟩ | ⟨g3, cap3, _, h, _⟩
      · omega
      · exact ⟨g3, cap3, h⟩
    have X : Hid (w3.ownsRow w.heap.size 24 1 (.slice (some ⟨g3, 0, none⟩) 1 cap3) 1 [.string t] ∧ Below w.heap.size w w3) := ⟨hown', Below.grown (Below.refl _ _) hgrow3 (Nat.le_refl _) (fun k hk => by simp [Value.ownBlock] at hk)⟩
    clear hown' hgrow3 hnil3)
  go_ret
  have e1 : strs [t.data.toList] = [.string t] := by
    show [Value.string ⟨t.data.toList.toArray⟩] = _
    rw [← of_bytes]
  have h2 := X.out.1
  rw [← e1] at h2
  exact ⟨g3, cap3, rfl, texts_of_row h2, lt_of_row h2, X.out.2⟩

set_option maxRecDepth 100000 in
set_option maxHeartbeats 1000000 in
theorem Insert_end (xs : List (List UInt8)) (t : ByteArray) (B g gv : Nat) (w : World) (hrow : Row32 B g xs w) (hn : xs.length < 32) (hv : w.cell? ⟨gv, 0, none⟩ = some (.string t)) (hBg : B ≤ g) (hB : B ≤ w.heap.size) :
    Calls Try.prog 46 #[.slice (some ⟨g, 0, none⟩) xs.length 32, .int .i64 xs.length, .slice (some ⟨gv, 0, none⟩) 1 1] w (InsertOut B w (xs ++ [t.data.toList])) := by
  obtain ⟨i0, hi, hz0, hz1, hz2⟩ := info_parts info_term
  have hnews : ∀ j u, [Value.string t][j]? = some u → w.cell? ((⟨gv, 0, none⟩ : Addr).add j) = some u := by
    intro j u hj
    cases j with
    | zero => simp at hj; subst hj; exact hv
    | succ j => simp at hj
  have HN := Lib.hid hnews
  have HR := Lib.hid hrow
  clear hnews hrow hv
  have i1 : (0 : Int) ≤ (xs.length : Int) := by omega
  have i2 : ((xs.length : Int) == (xs.length : Int)) = true := by simp
  go_enter Try.func46, Try.ntmps46
  go_wp2_with (
    at_builtin
    refine wpList_append_fits _ rfl _ _ 38 rfl B 24 i0 1 Try.underlying38 hi hz1 g xs.length 32 (strs xs) rfl HR.out ⟨gv, 0, none⟩ 1 1 [.string t] rfl rfl HN.out (fun x hx => by simp at hx; subst hx; rfl) (by omega) ?_
    intro w3 hown3 hgrow3
    have X3 : Hid (w3.ownsRow B 24 1 (.slice (some ⟨g, 0, none⟩) (xs.length + 1) 32) (xs.length + 1) (strs xs ++ [.string t]) ∧ Below B w w3) := ⟨hown3, Below.grown (Below.refl _ _) hgrow3 hB (fun j hj => by cases hj; exact hBg)⟩
    clear hown3 hgrow3)
  all_goals go_ret
  all_goals (
    have e1 : strs (xs ++ [t.data.toList]) = strs xs ++ [.string t] := by
      have : (⟨t.data.toList.toArray⟩ : ByteArray) = t := (of_bytes t).symm
      simp only [strs, List.map_append, List.map_cons, List.map_nil, this]
    have h2 := X3.out.1
    rw [← e1] at h2
    exact ⟨g, 32, by simp, texts_of_row h2, lt_of_row h2, X3.out.2⟩)

theorem texts_of_block {w : World} {g : Nat} {xs : List (List UInt8)} {rest : List Value} {e : TypeId} (h : w.heap[g]? = some (.cells (strs xs ++ rest).toArray e (0, 0))) : Texts w g xs := by
  intro j x hj
  have hjl := (List.getElem?_eq_some_iff.1 hj).1
  rw [cell_of_row w g j _ e _ h]
  simp only [List.getElem?_toArray]
  rw [List.getElem?_append_left (by rw [strs_length]; exact hjl)]
  simp [strs, hj]

theorem splice_insert (xs : List Value) (rest : List Value) (i : Nat) (t : Value) (hi : i < xs.length) :
    splice (splice (xs ++ rest) (i + 1) (xs.drop i)) i [t] = (xs.take i ++ t :: xs.drop i) ++ rest.drop 1 := by
  have h1 : splice (xs ++ rest) (i + 1) (xs.drop i) = xs.take (i + 1) ++ (xs.drop i ++ rest.drop 1) := by
    unfold splice
    rw [List.take_append_of_le_length (by omega), List.length_drop, show i + 1 + (xs.length - i) = xs.length + 1 from by omega, List.drop_append]
    simp
  rw [h1]
  unfold splice
  rw [List.take_append_of_le_length (by simp; omega), List.take_take, Nat.min_eq_left (by omega)]
  have h2 : (xs.take (i + 1) ++ (xs.drop i ++ rest.drop 1)).drop (i + [t].length) = xs.drop i ++ rest.drop 1 := by
    have : (xs.take (i + 1)).length = i + [t].length := by simp; omega
    rw [← this, List.drop_left]
  rw [h2]
  simp

theorem strs_insert (xs : List (List UInt8)) (i : Nat) (t : ByteArray) : strs (xs.take i ++ t.data.toList :: xs.drop i) = (strs xs).take i ++ Value.string t :: (strs xs).drop i := by
  have : (⟨t.data.toList.toArray⟩ : ByteArray) = t := (of_bytes t).symm
  simp only [strs, List.map_append, List.map_cons, List.map_take, List.map_drop, this]

theorem row_block {w : World} {B g : Nat} {xs : List (List UInt8)} (h : Row32 B g xs w) : ∃ rest : List Value, w.heap[g]? = some (.cells (strs xs ++ rest).toArray 24 (0, 0)) ∧ xs.length + rest.length = 32 := by
  rcases h.2 with ⟨h0, _⟩ | ⟨g', cap, cur, hv, _, hh, hn, _, hs, ht⟩
  · cases h0
  · cases hv
    refine ⟨cur.toList.drop xs.length, ?_, ?_⟩
    · have : strs xs ++ cur.toList.drop xs.length = cur.toList := by
        rw [← ht, Nat.mul_one, List.take_append_drop]
      rw [this]
      exact hh
    · simp
      omega

set_option maxRecDepth 100000 in
set_option maxHeartbeats 1000000 in
theorem Insert_shift (xs : List (List UInt8)) (t : ByteArray) (B g gv i : Nat) (w : World) (hrow : Row32 B g xs w) (hn : xs.length < 32) (hi : i < xs.length) (hv : w.heap[gv]? = some (.cells #[.string t] 24 (0, 0))) (hne : gv ≠ g) (hBg : B ≤ g) :
    Calls Try.prog 46 #[.slice (some ⟨g, 0, none⟩) xs.length 32, .int .i64 i, .slice (some ⟨gv, 0, none⟩) 1 1] w (InsertOut B w (xs.take i ++ t.data.toList :: xs.drop i)) := by
  obtain ⟨i0, hi0, hz0, hz1, hz2⟩ := info_parts info_term
  obtain ⟨rest, hblk, hlen⟩ := row_block hrow
  have hsz : (Try.prog.info? 24).map (·.size) = some 1 := by rw [hi0]; simp [hz1]
  have hsa : w.shape? gv = some (24, 1) := by simp [World.shape?, hv]
  have hsb : w.shape? g = some (24, (strs xs ++ rest).length) := by simp [World.shape?, hblk]
  have hov : ∀ lb cb, (callFunc 69 #[.slice (some ⟨gv, 0, none⟩) 1 1, .slice (some ⟨g, i + 1, none⟩) lb cb]).run Try.prog w = .ok (.value (.bool false)) w := fun lb cb => by
    rw [run_callFunc_extern Try.func69 (by kernel_rfl) (by kernel_rfl) (by kernel_rfl) (e := Extern.SlicesOverlaps.overlaps #[38, 38] #[4]) (by kernel_rfl),
      Lib.run_overlaps_apart w 38 4 24 Try.underlying38 1 Try.sizeOf24 ⟨gv, 0, none⟩ ⟨g, i + 1, none⟩ 1 1 lb cb hne _ _ 1 _ hsa hsb (by rw [List.length_append, strs_length]; omega) (frozen_of_row w _ _ _ _ hv) (frozen_of_row w _ _ _ _ hv)]
    rfl
  have hcv : w.cell? ⟨gv, 0, none⟩ = some (.string t) := by rw [cell_of_row w gv 0 _ _ _ hv]; rfl
  have hgl := (Array.getElem?_eq_some_iff.1 hblk).1
  have hx1 : ∀ v ∈ (strs xs).drop i, v.oneCell' = true := by
    intro v hv'
    have := List.mem_of_mem_drop hv'
    simp only [strs, List.mem_map] at this
    obtain ⟨x, _, rfl⟩ := this
    rfl
  have hx2 : ∀ j v, ((strs xs).drop i)[j]? = some v → w.cell? ((⟨g, i, none⟩ : Addr).add j) = some v := by
    intro j v hj
    have hadd : (⟨g, i, none⟩ : Addr).add j = ⟨g, i + j, none⟩ := by unfold Addr.add; split <;> simp_all
    rw [hadd, cell_of_row w g (i + j) _ _ _ hblk]
    rw [List.getElem?_drop] at hj
    have hlt := (List.getElem?_eq_some_iff.1 hj).1
    simp only [List.getElem?_toArray]
    rw [List.getElem?_append_left hlt]
    exact hj
  have hx3 : ((strs xs).drop i).length = Nat.min (xs.length + 1 - i) (xs.length + 1 - (i + 1)) := by
    rw [List.length_drop, strs_length]
    simp only [Nat.min_def]
    split <;> omega
  have hx4 : i + 1 + ((strs xs).drop i).length ≤ (strs xs ++ rest).length := by
    rw [List.length_drop, List.length_append, strs_length]
    omega
  have hfin : splice (splice (strs xs ++ rest) (i + 1) ((strs xs).drop i)) i [.string t] = strs (xs.take i ++ t.data.toList :: xs.drop i) ++ rest.drop 1 := by
    rw [splice_insert (strs xs) rest i (.string t) (by rw [strs_length]; exact hi), strs_insert]
  have hsl : (splice (strs xs ++ rest) (i + 1) ((strs xs).drop i)).length = 32 := by
    rw [length_splice _ _ _ hx4, List.length_append, strs_length]
    exact hlen
  obtain ⟨X1, hX1⟩ : ∃ X1, (strs xs).drop i = X1 := ⟨_, rfl⟩
  obtain ⟨Cur, hCur⟩ : ∃ Cur, strs xs ++ rest = Cur := ⟨_, rfl⟩
  rw [hX1] at hx1 hx2 hx3 hx4 hfin hsl
  rw [hCur] at hx4 hfin hsl hblk
  obtain ⟨w4, hw4⟩ : ∃ w4, w4 = w.drew.setRow g (splice Cur (i + 1) X1).toArray := ⟨_, rfl⟩
  have hcp1 : ∀ ty, (Builtin.copy_ #[38, 38] ty #[.slice (some ⟨g, i + 1, none⟩) (xs.length + 1 - (i + 1)) (32 - (i + 1)), .slice (some ⟨g, i, none⟩) (xs.length + 1 - i) (32 - i)]).run Try.prog w.drew = .ok (goInt X1.length) w4 := by
    intro ty
    rw [hw4]
    have := run_copy_row (P := Try.prog) w.drew 38 38 ty 24 g (i + 1) (xs.length + 1 - (i + 1)) (32 - (i + 1)) ⟨g, i, none⟩ (xs.length + 1 - i) (32 - i) Cur.toArray 24 X1 Try.underlying38 hsz hblk hx3 hx2 (by simpa using hx4) hx1
    simpa [splice] using this
  have hg4 : w4.heap[g]? = some (.cells (splice Cur (i + 1) X1).toArray 24 (0, 0)) := by
    rw [hw4]
    exact setRow_heap w.drew g _ _ _ _ hblk
  have hb4 : Below B w w4 := by
    rw [hw4]
    exact below_setRow (Below.refl B w).drew hBg _
  have hv4 : w4.heap[gv]? = some (.cells #[.string t] 24 (0, 0)) := by
    rw [hw4, setRow_other w.drew g gv _ hne]
    exact hv
  have hnews : ∀ j u, [Value.string t][j]? = some u → w4.cell? ((⟨gv, 0, none⟩ : Addr).add j) = some u := World.news_of_block hv4
  obtain ⟨C2, hC2⟩ : ∃ C2, splice Cur (i + 1) X1 = C2 := ⟨_, rfl⟩
  rw [hC2] at hg4 hfin hsl
  obtain ⟨w5, hw5⟩ : ∃ w5, w5 = w4.setRow g (splice C2 i [.string t]).toArray := ⟨_, rfl⟩
  have hcp2 : ∀ ty, (Builtin.copy_ #[38, 38] ty #[.slice (some ⟨g, i, none⟩) (xs.length + 1 - i) (32 - i), .slice (some ⟨gv, 0, none⟩) 1 1]).run Try.prog w4 = .ok (goInt 1) w5 := by
    intro ty
    rw [hw5]
    have := run_copy_row (P := Try.prog) w4 38 38 ty 24 g i (xs.length + 1 - i) (32 - i) ⟨gv, 0, none⟩ 1 1 C2.toArray 24 [.string t] Try.underlying38 hsz hg4 (by simp only [Nat.min_def, List.length_singleton]; split <;> omega) hnews (by simp; omega) (fun x hx => by simp at hx; subst hx; rfl)
    simpa [splice] using this
  have hg5 : w5.heap[g]? = some (.cells (strs (xs.take i ++ t.data.toList :: xs.drop i) ++ rest.drop 1).toArray 24 (0, 0)) := by
    rw [hw5, ← hfin]
    exact setRow_heap w4 g _ _ _ _ hg4
  have hb5 : Below B w w5 := by
    rw [hw5]
    exact below_setRow hb4 hBg _
  have hl5 : (xs.take i ++ t.data.toList :: xs.drop i).length = xs.length + 1 := by simp; omega
  have H5 : Hid (Texts w5 g (xs.take i ++ t.data.toList :: xs.drop i) ∧ g < w5.heap.size ∧ Below B w w5 ∧ (xs.take i ++ t.data.toList :: xs.drop i).length = xs.length + 1) := ⟨texts_of_block hg5, (Array.getElem?_eq_some_iff.1 hg5).1, hb5, hl5⟩
  have H1 := Lib.hid hcp1
  have H2 := Lib.hid hcp2
  clear hsa hsb hblk hv hrow hX1 hCur hx1 hx2 hx3 hx4 hfin hsl hw4 hw5 hC2 hg4 hb4 hv4 hnews hg5 hb5 hl5 hcp1 hcp2 hcv
  have j1 : (0 : Int) ≤ (i : Int) := by omega
  have j2 : (i : Int) ≤ (xs.length : Int) := by omega
  have j3 : ((i : Int) == (xs.length : Int)) = false := by simp; omega
  have j4 : (xs.length : Int) + 1 ≤ 32 := by omega
  have j5 : (i : Int) + 1 ≤ (xs.length : Int) + 1 := by omega
  have j6 : ¬ (32 = i) := by omega
  have j7 : ¬ (32 = i + 1) := by omega
  have j8 : (i : Int) ≤ (xs.length : Int) + 1 := by omega
  go_enter Try.func46, Try.ntmps46
  go_wp2_with (simp only [hov])
  have k1 : IntKind.i64.wrap ((i : Int) + 1) = (i : Int) + 1 := by rw [IntKind.wrap_i64]; omega
  have k2 : (0 : Int) ≤ (i : Int) + 1 := by omega
  have k3 : ((i : Int) + 1).toNat = i + 1 := by omega
  go_region_law (refine step_copy_runI rfl (.tmp 73) (.tmp 76) 38 38 rfl _ _ (by simp [Act.eval, Act.put]) (by simp [Act.eval, Act.put]) (H1.out _) ?_)
  have hcp2 := H2.out
  clear k1 k2 k3
  go_wp2
  go_ret
  exact ⟨g, 32, by rw [H5.out.2.2.2]; rfl, H5.out.1, H5.out.2.1, H5.out.2.2.1⟩

end Go.Proofs.Ytloheongiceliaa
