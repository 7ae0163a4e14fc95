/- Contract of slices.Delete at a row of datagrams: one is taken out. -/
import Derived.Test.YtildapcdkipakaaNtDouble
import Derived.Lib.SliceRun
import Derived.Shelf.RegionOpenPlain
import Derived.Deep.RegionLaw
namespace Go.Proofs.Ytildapcdkipakaa.L8
open Go.ChangeShapes Go.WideShapes Go.ChangeAt Go.RowKit Go.Deep

theorem setCells_block (b : Nat) (e : TypeId) : ∀ (vs : List Value) (o : Nat) (w : World) (cur : Array Value), w.heap[b]? = some (.cells cur e (0, 0)) → o + vs.length ≤ cur.size →
    ∃ cur', (w.setCells b o vs).heap[b]? = some (.cells cur' e (0, 0)) ∧ cur'.size = cur.size ∧ ∀ k, cur'[k]? = if o ≤ k ∧ k < o + vs.length then vs[k - o]? else cur[k]?
  | [], o, w, cur, h, _ => ⟨cur, h, rfl, fun k => by
      rw [if_neg]
      simp⟩
  | v :: r, o, w, cur, h, hl => by
    have h1 := blk_setj (j := o) h v
    simp only [List.length_cons] at hl
    obtain ⟨cur', k1, k2, k3⟩ := setCells_block b e r (o + 1) (w.setCell ⟨b, o, none⟩ v) _ h1 (by rw [Array.size_setIfInBounds]; omega)
    refine ⟨cur', k1, by rw [k2, Array.size_setIfInBounds], fun k => ?_⟩
    rw [k3 k]
    simp only [List.length_cons]
    by_cases c1 : o + 1 ≤ k ∧ k < o + 1 + r.length
    · rw [if_pos c1, if_pos (by omega)]
      obtain ⟨q, hq⟩ : ∃ q, k - o = q + 1 := ⟨k - o - 1, by omega⟩
      rw [hq, List.getElem?_cons_succ]
      congr 1
      omega
    · rw [if_neg c1]
      by_cases c2 : k = o
      · subst c2
        rw [if_pos (by omega), Array.getElem?_setIfInBounds_self_of_lt (by omega)]
        simp
      · rw [if_neg (by omega), Array.getElem?_setIfInBounds_ne (by omega)]
theorem setCells_grown (b : Nat) : ∀ (vs : List Value) (o : Nat) (w : World), w.grownBy (w.setCells b o vs) (some b)
  | [], _, w => ⟨rfl, rfl, rfl, Nat.le_refl _, fun _ _ _ => rfl⟩
  | v :: r, o, w => L5.grow_trans (w := w.setCell ⟨b, o, none⟩ v) ⟨rfl, rfl, rfl, by simp, fun k _ hk => Below.heap_setCell _ _ _ _ (by show k ≠ b; exact fun e => hk (by rw [e]))⟩ (setCells_grown b r (o + 1) _)
theorem zero_dg (W : World) : (zeroValue 36).run Try.prog W = .ok (.agg #[.int .i64 0, .int .i64 0, .string ⟨#[]⟩]) W := by kernel_rfl
/-- clear of one datagram. -/
theorem clear_dg (w : World) (ty : TypeId) (g o c : Nat) (hc : ∀ j, j < 3 → (w.cell? ⟨g, o + j, none⟩).isSome = true) (hf : ∀ j, j < 3 → w.frozen? ⟨g, o + j, none⟩ = false) :
    (Builtin.clear_ #[47] ty #[.slice (some ⟨g, o, none⟩) 1 c]).run Try.prog w = .ok (.tuple #[]) (w.setCells g o [.int .i64 0, .int .i64 0, .string ⟨#[]⟩]) := by
  have hst := run_storeCells_cells (P := Try.prog) g o [.int .i64 0, .int .i64 0, .string ⟨#[]⟩] 0 w (by simpa using hc) (by simpa using hf) (by simp [Value.oneCell'])
  simp only [Nat.add_zero] at hst
  have hzc : (Builtin.zeroCells (Value.agg #[.int .i64 0, .int .i64 0, .string ⟨#[]⟩]).cells 1).toList = [.int .i64 0, .int .i64 0, .string ⟨#[]⟩] := by kernel_rfl
  have hzd := zero_dg w
  simp [Builtin.clear_, run_underlying Try.underlying47, hzd, hzc, hst]
def DelOut (w : World) (B : Nat) (l : List Dg) (g cap i : Nat) (e : Ending) (w' : World) : Prop :=
  e = .returned (.slice (some ⟨g, 0, none⟩) (l.length - 1) cap) ∧ w'.ownsRow B 36 3 (.slice (some ⟨g, 0, none⟩) (l.length - 1) cap) (l.length - 1) (flat (l.take i ++ l.drop (i + 1))) ∧ w.grownBy w' (some g)
set_option maxHeartbeats 4000000 in
/-- What stands in the block when the rest was moved and one was cleared. -/
theorem del_row {w : World} {B g cap i : Nat} {l : List Dg} {cur : Array Value} (hB : B ≤ g) (hg : w.heap[g]? = some (.cells cur 36 (0, 0))) (hc : l.length ≤ cap) (hm : cap ≤ maxLen) (hsz : cur.size = cap * 3) (htk : cur.toList.take (l.length * 3) = flat l) (hi : i < l.length) :
    ((w.drew.setCells g (0 + i * 3) (flat (l.drop (i + 1)))).setCells g ((i + (l.length - (i + 1))) * 3) [.int .i64 0, .int .i64 0, .string ⟨#[]⟩]).ownsRow B 36 3 (.slice (some ⟨g, 0, none⟩) (l.length - 1) cap) (l.length - 1) (flat (l.take i ++ l.drop (i + 1))) := by
  have hnl : (flat (l.drop (i + 1))).length = (l.length - (i + 1)) * 3 := by rw [flat_len, List.length_drop]
  obtain ⟨c1, h1, z1, k1⟩ := setCells_block g 36 (flat (l.drop (i + 1))) (0 + i * 3) w.drew cur hg (by rw [hnl, hsz]; omega)
  obtain ⟨c2, h2, z2, k2⟩ := setCells_block g 36 [.int .i64 0, .int .i64 0, .string ⟨#[]⟩] ((i + (l.length - (i + 1))) * 3) _ c1 h1 (by rw [z1, hsz]; simp; omega)
  have hlen : (l.take i ++ l.drop (i + 1)).length = l.length - 1 := by simp; omega
  refine ⟨by rw [flat_len, hlen], .inr ⟨g, cap, c2, rfl, hB, h2, by omega, hm, by rw [z2, z1, hsz], ?_⟩⟩
  have hcur : ∀ k, k < l.length * 3 → cur[k]? = (flat l)[k]? := fun k hk => by rw [← htk, List.getElem?_take_of_lt hk, Array.getElem?_toList]
  apply List.ext_getElem?
  intro k
  by_cases hk : k < (l.length - 1) * 3
  · rw [List.getElem?_take_of_lt hk, Array.getElem?_toList, k2 k, if_neg (by omega), k1 k]
    rw [flat_append]
    have hti : (flat (l.take i)).length = i * 3 := by rw [flat_len, List.length_take]; omega
    by_cases hki : k < i * 3
    · rw [if_neg (by omega), List.getElem?_append_left (by omega), ← flat_take, List.getElem?_take_of_lt hki, hcur k (by omega)]
    · rw [if_pos (by omega), List.getElem?_append_right (by omega), hti]
      congr 1
      omega
  · rw [List.getElem?_eq_none (by rw [List.length_take]; omega), List.getElem?_eq_none (by rw [flat_len, hlen]; omega)]
set_option maxRecDepth 100000 in
set_option maxHeartbeats 4000000 in
theorem Delete_calls {w : World} {B g cap i : Nat} {l : List Dg} (r : w.ownsRow B 36 3 (.slice (some ⟨g, 0, none⟩) l.length cap) l.length (flat l)) (hi : i < l.length) (hl : l.length ≤ 1000000) :
    Calls Try.prog 31 #[.slice (some ⟨g, 0, none⟩) l.length cap, .int .i64 i, .int .i64 ((i : Int) + 1)] w (DelOut w B l g cap i) := by
  obtain ⟨i0, hi0, hz0, hz1, hz2⟩ := info_parts8 info_dg
  rcases r.2 with ⟨e1, _⟩ | ⟨g', cap', cur, e1, hB, hg, hc, hm, hsz, htk⟩
  · cases e1
  cases e1
  have HRow := Lib.hid (del_row hB hg hc hm hsz htk hi)
  have hblk : ∀ V : World, (∃ c, V.heap[g]? = some (.cells c 36 (0, 0)) ∧ c.size = cap * 3) → ∀ k, k < cap * 3 → (V.cell? ⟨g, k, none⟩).isSome = true ∧ V.frozen? ⟨g, k, none⟩ = false := fun V ⟨c, h1, h2⟩ k hk => by
    constructor
    · simp only [World.cell?]; rw [h1]; simp; omega
    · simp only [World.frozen?]; rw [h1]; simp
  obtain ⟨news, hnews⟩ : ∃ news, flat (l.drop (i + 1)) = news := ⟨_, rfl⟩
  have hnl : news.length = (l.length - (i + 1)) * 3 := by rw [← hnews, flat_len, List.length_drop]
  have s1 : Hid (news.length = (l.length - (i + 1)) * 3) := hnl
  have s2 : Hid (∀ u ∈ news, u.oneCell' = true) := by rw [← hnews]; exact flat_one_cell _
  have s3 : Hid (∀ t, t < news.length → (w.drew.cell? ⟨g, 0 + i * 3 + t, none⟩).isSome = true ∧ w.drew.frozen? ⟨g, 0 + i * 3 + t, none⟩ = false) := fun t ht => hblk w.drew ⟨cur, hg, hsz⟩ _ (by rw [hnl] at ht; omega)
  obtain ⟨A, hA, hsrc⟩ : ∃ A : Addr, (if cap = i + 1 then some (⟨g, 0, none⟩ : Addr) else some ⟨g, (i + 1) * 3, none⟩) = some A ∧ Hid (∀ t u, news[t]? = some u → w.drew.cell? (A.add t) = some u) := by
    by_cases h : cap = i + 1
    · refine ⟨⟨g, 0, none⟩, by simp [h], fun t u hu => ?_⟩
      have h0 : news.length = 0 := by rw [hnl]; omega
      rw [List.length_eq_zero_iff.1 h0] at hu
      simp at hu
    · refine ⟨⟨g, (i + 1) * 3, none⟩, by simp [h], fun t u hu => ?_⟩
      rw [← hnews, ← flat_drop, List.getElem?_drop] at hu
      have := r.cells (g := g) rfl _ u hu
      rw [add_zero8] at this
      have e : (⟨g, (i + 1) * 3, none⟩ : Addr).add t = ⟨g, (i + 1) * 3 + t, none⟩ := by
        unfold Addr.add
        split
        · rename_i h; subst h; rfl
        · simp
      rw [e]
      exact this
  obtain ⟨W1, hW1⟩ : ∃ W1, W1 = w.drew.setCells g (0 + i * 3) news := ⟨_, rfl⟩
  have hblk1 : ∃ c, W1.heap[g]? = some (.cells c 36 (0, 0)) ∧ c.size = cap * 3 := by
    obtain ⟨c1, h1, z1, _⟩ := setCells_block g 36 news (0 + i * 3) w.drew cur hg (by rw [hnl, hsz]; omega)
    exact ⟨c1, by rw [hW1]; exact h1, by rw [z1, hsz]⟩
  have hone : l.length - (i + (l.length - (i + 1))) = 1 := by omega
  have hcl : ∀ ty, (Builtin.clear_ #[47] ty #[.slice (some ⟨g, (i + (l.length - (i + 1))) * 3, none⟩) (l.length - (i + (l.length - (i + 1)))) (cap - (i + (l.length - (i + 1))))]).run Try.prog W1 = .ok (.tuple #[]) (W1.setCells g ((i + (l.length - (i + 1))) * 3) [.int .i64 0, .int .i64 0, .string ⟨#[]⟩]) := fun ty => by
    rw [hone]
    exact clear_dg W1 ty g _ _ (fun j hj => (hblk W1 hblk1 _ (by omega)).1) (fun j hj => (hblk W1 hblk1 _ (by omega)).2)
  have hgr : Hid (w.grownBy (W1.setCells g ((i + (l.length - (i + 1))) * 3) [.int .i64 0, .int .i64 0, .string ⟨#[]⟩]) (some g)) := by
    rw [hW1]
    exact L5.grow_trans (w := w.drew.setCells g (0 + i * 3) news) (L5.grow_trans (w := w.drew) ⟨rfl, rfl, rfl, Nat.le_refl _, fun _ _ _ => rfl⟩ (setCells_grown g _ _ _)) (setCells_grown g _ _ _)
  rw [hnews, ← hW1] at HRow
  have hW : Hid (W1 = w.drew.setCells g (0 + i * 3) news) := hW1
  have hll : l.length - 1 = i + (l.length - (i + 1)) := by omega
  unfold DelOut
  rw [hll] at HRow ⊢
  clear hll r hg hsz htk hblk hblk1 hone hW1 hnl hnews
  generalize l.length = N at *
  have j1 : (0 : Int) ≤ (i : Int) := by omega
  have j2 : ((i : Int) == (i : Int) + 1) = false := by rw [beq_eq_false_iff_ne]; omega
  have j3 : (0 : Int) ≤ (i : Int) + 1 := by omega
  have j4 : (i : Int) + 1 ≤ (N : Int) := by omega
  have hic : i ≤ cap := by omega
  have hjc : i + 1 ≤ cap := by omega
  go_enter Try.func31, Try.ntmps31
  go_wp2_with fail
  go_region_law (refine step_append_room rfl (.tmp 22) (.tmp 25) 47 rfl 36 i0 3 Try.underlying47 hi0 hz1 g 0 i cap (by simp [Act.eval, Act.put]) A (N - (i + 1)) (cap - (i + 1)) news (by simp [Act.eval, Act.put]) s1.out hsrc.out s2.out (by omega) s3.out ?_; rw [← hW.out])
  go_wp2
  go_ret
  exact ⟨rfl, HRow.out, hgr.out⟩
end Go.Proofs.Ytildapcdkipakaa.L8
