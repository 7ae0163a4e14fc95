/- Contract of parts.All: a row of all terms that stand in a right one, by bytes, each once; none of others. -/
import Derived.Test.YtloheongiceliaaPFnP
import Derived.Test.YtloheongiceliaaPAllPure
import Derived.Test.YtloheongiceliaaShelfS
import Derived.Sort.OwnSorted
namespace Go.Proofs.Ytloheongiceliaa
open Go.ChangeShapes Go.WideShapes Go.ChangeAt Go.RowKit Go.Shelf

attribute [local go_sem] Oper.semAt_some

/-- A range over a function inside a loop: the marks of those that have run. -/
def Marks (B : Nat) (W : World) (ds : List Deferred) : Prop :=
  ∃ Ds : List Nat, ds = Ds.map (fun D => ({ target := .collected D, args := #[] } : Deferred)) ∧ Ds.Nodup ∧ ∀ D ∈ Ds, B ≤ D ∧ W.heap[D]? = some (.deferred (some []))
theorem Marks.none (B : Nat) (W : World) : Marks B W [] := ⟨[], rfl, List.nodup_nil, by simp⟩
theorem Marks.keeps {B : Nat} {W W' : World} {ds : List Deferred} (h : Marks B W ds) (hk : KeepsFrom B W W') : Marks B W' ds := by
  obtain ⟨Ds, h1, h2, h3⟩ := h
  exact ⟨Ds, h1, h2, fun D hD => ⟨(h3 D hD).1, hk.same _ _ (h3 D hD).1 (h3 D hD).2 rfl⟩⟩
theorem Marks.more {B : Nat} {W W' : World} {ds : List Deferred} (h : Marks B W ds) (hk : KeepsFrom B W W') {D : Nat} (hB : B ≤ D) (hD : W.heap.size ≤ D) (hK : W'.heap[D]? = some (.deferred (some []))) : Marks B W' ({ target := .collected D, args := #[] } :: ds) := by
  obtain ⟨Ds, h1, h2, h3⟩ := h
  refine ⟨D :: Ds, by rw [h1]; rfl, List.nodup_cons.2 ⟨fun hm => ?_, h2⟩, fun D' hD' => ?_⟩
  · have := (Array.getElem?_eq_some_iff.1 (h3 D hm).2).1
    omega
  · rcases List.mem_cons.1 hD' with rfl | hm
    · exact ⟨hB, hK⟩
    · exact ⟨(h3 D' hm).1, hk.same _ _ (h3 D' hm).1 (h3 D' hm).2 rfl⟩
theorem leaves_marks {F : Fence} {n : Nat} {P : Program} {fn : Func} {tmps : Array Value} {R : Ending → World → Prop} {G : World → Prop} {B : Nat}
    (hput : ∀ W D, B ≤ D → W.heap[D]? = some (.deferred (some [])) → G W → G (W.putObj D (.deferred none)))
    (hend : ∀ W, G W → LeavesIn F n P fn tmps R [] .returning W) : ∀ (ds : List Deferred) (W : World), Marks B W ds → G W → LeavesInM F n P fn tmps R ds .returning W := by
  rintro ds W ⟨Ds, rfl, h2, h3⟩ hG
  induction Ds generalizing W with
  | nil => exact hend W hG
  | cons D Ds ih =>
    obtain ⟨hm, hn⟩ := List.nodup_cons.1 h2
    refine ⟨by simp, .inl ⟨D, _, rfl, run_takeDeferred (h3 D (by simp)).2, ih _ hn (fun D' hD' => ?_) (hput W D (h3 D (by simp)).1 (h3 D (by simp)).2 hG)⟩⟩
    have hne : D ≠ D' := fun e => hm (e ▸ hD')
    have := h3 D' (List.mem_cons_of_mem _ hD')
    exact ⟨this.1, (World.putObj_heap_other (Ne.symm hne)).trans this.2⟩

def sortedL (l : List (List UInt8)) : List (List UInt8) := l.mergeSort fun x y => decide (x ≤ y)
theorem sortedL_length (l : List (List UInt8)) : (sortedL l).length = l.length := List.length_mergeSort _

/-- slices.Sort at a row of the call's own. -/
theorem Sort_row (l : List (List UInt8)) (B : Nat) (v : Value) (W : World) (h : W.ownsRow B 24 1 v l.length (strs l)) (hne : l ≠ []) (hl : l.length ≤ 4000000000) :
    Calls Try.prog 99 #[v] W fun e W' => e = .returned (.tuple #[]) ∧ W'.ownsRow B 24 1 v l.length (strs (sortedL l)) ∧ W.grownBy W' v.ownBlock := by
  rcases h.2 with ⟨_, h0⟩ | ⟨g, cap, cur, rfl, hbase, hb, h1, h2, h3, h4⟩
  · exact absurd (List.length_eq_zero_iff.1 h0) hne
  · refine (Try.Sort_terms g 0 cap l W (holds_of_block hb (by rw [Nat.mul_one] at h4; exact h4)) (Array.getElem?_eq_some_iff.1 hb).1 (by omega)).mono ?_
    rintro e W' ⟨rfl, n, os, rfl⟩
    exact ⟨rfl, ownsRow_sorted (sortedL_length l) hbase hb h1 h2 h3, grownBy_sorted _⟩

theorem row_head {cur : Array Value} {cap : Nat} (xs : List (List UInt8)) (k : Nat) (h3 : cur.size = cap) (hk : xs.length + k ≤ cap) :
    (Sort.putCells encStr 0 (xs ++ List.replicate k []).toArray cur).toList.take xs.length = strs xs := by
  have h := take_putCells cur (xs ++ List.replicate k []) (by simp; omega)
  have h' := congrArg (List.take xs.length) h
  rw [List.take_take] at h'
  have e : min xs.length (xs ++ List.replicate k []).length = xs.length := by simp
  rw [e] at h'
  rw [h', List.map_append, List.take_left']
  · rfl
  · simp

/-- slices.Compact at a row of the call's own. -/
theorem Compact_row (l : List (List UInt8)) (B : Nat) (v : Value) (W : World) (h : W.ownsRow B 24 1 v l.length (strs l)) (hne : l ≠ []) (hl : l.length ≤ 4000000000) (hc : (Lib.compact l).length ≤ l.length) :
    Calls Try.prog 91 #[v] W fun e W' => ∃ v', e = .returned v' ∧ W'.ownsRow B 24 1 v' (Lib.compact l).length (strs (Lib.compact l)) ∧ W.grownBy W' v.ownBlock := by
  rcases h.2 with ⟨_, h0⟩ | ⟨g, cap, cur, rfl, hbase, hb, h1, h2, h3, h4⟩
  · exact absurd (List.length_eq_zero_iff.1 h0) hne
  · refine (Try.Compact_terms g 0 cap l W (holds_of_block hb (by rw [Nat.mul_one] at h4; exact h4)) (by omega) h1).mono ?_
    rintro e W' ⟨rfl, n, rfl⟩
    have eg := Sort.grow_empty (Sort.putRow encStr (Sort.ahead W n) g 0 (Lib.compact l ++ List.replicate (l.length - (Lib.compact l).length) []).toArray)
    rw [← eg]
    refine ⟨_, rfl, ⟨by simp [strs], .inr ⟨g, cap, _, rfl, hbase, heap_sorted _ hb, by omega, h2, by simp [Sort.putCells, h3], ?_⟩⟩, grownBy_sorted _⟩
    rw [Nat.mul_one]
    exact row_head _ _ (by omega) (by omega)

theorem keeps_row {W W' : World} {B : Nat} {e : TypeId} {size k : Nat} {v : Value} {xs : List Value} (hr : W.ownsRow B e size v k xs) (hg : W.grownBy W' v.ownBlock) : KeepsOthers W W' :=
  KeepsOthers.of_grownBy hg (fun j o hj ho => by
    rcases hr.2 with ⟨rfl, _⟩ | ⟨g, cap, cur, rfl, _, hb, _⟩
    · simp [Value.ownBlock] at hj
    · simp [Value.ownBlock] at hj
      subst hj
      rw [hb] at ho
      cases ho
      rfl)

theorem below_row {a W W' : World} {B : Nat} {e : TypeId} {size k : Nat} {v : Value} {xs : List Value} (h : Below B a W) (hB : B ≤ W.heap.size) (hr : W.ownsRow B e size v k xs) (hg : W.grownBy W' v.ownBlock) : Below B a W' :=
  h.grown hg hB (fun j hj => (hr.lt j hj).1)

def AllRow (w : World) (t : List UInt8) (e : Ending) (w' : World) : Prop :=
  ∃ v xs, e = .returned v ∧ w'.ownsRow w.heap.size 24 1 v xs.length (strs xs) ∧ xs.Pairwise Tm.strict ∧ (∀ x, x ∈ xs ↔ Tm.Sub t x) ∧ xs.length ≤ 700000 ∧ Below w.heap.size w w'

/-- Between two rounds: how far the row has been gone through. -/
def Going (t : List UInt8) (w : World) (b : Nat) (l : List (List UInt8)) (i : Nat) (v : Value) (ds : List Deferred) (W : World) : Prop :=
  Boxed W b 38 v ∧ W.ownsRow w.heap.size 24 1 v l.length (strs l) ∧ Marks w.heap.size W ds ∧ Below w.heap.size w W ∧ Tm.Reached t l i ∧ i ≤ l.length ∧ l.length ≤ 1 + 32 * i ∧ i + (l.drop i).flatten.length ≤ 20000

def allAct (s : ByteArray) (b g : Nat) (i : Nat) (u11 u12 u13 u14 u15 u16 u17 u18 u19 u20 u21 : Value) (ds : List Deferred) : Act :=
  { tmps := #[.string s, undef, .slice none 0 0, .pointer (some ⟨b, 0, none⟩), .int .i64 i, undef, .string s, .bool true, .bool false, .string s, .slice (some ⟨g, 0, none⟩) 1 1, u11, u12, u13, u14, u15, u16, u17, u18, u19, u20, u21, undef, undef, undef, undef, undef, undef, undef, undef, undef], defers := ds }

set_option maxRecDepth 100000 in
set_option maxHeartbeats 4000000 in
theorem All_right (s : ByteArray) (hr : Tm.right s.data.toList = true) (w : World) :
    Calls Try.prog 122 #[.string s] w (AllRow w s.data.toList) := by
  have hs : s.size ≤ 20000 := by have := (Tm.ofL_ok hr).2.2.2.2.2; rwa [len_bytes] at this
  have cR := fun W => Right_calls s (by unfold maxLen; omega) W
  rw [hr] at cR
  have HR := Lib.hid cR
  obtain ⟨i0, hi, hz0, hz1, hz2⟩ := info_parts info_term
  clear cR
  refine (callsIn_wide (n := 9)).1 ?_
  refine callsIn_of_wp_marks Try.func122 rfl trivial ?_ rfl
  simp only [Try.ntmps122, List.size_toArray, List.length_cons, List.length_nil, Nat.reduceAdd, Nat.reduceSub, Array.replicate_succ, Array.replicate_zero, List.push_toArray, List.append_toArray, List.nil_append, List.cons_append]
  gi_wp2_with (refine ⟨trivial, ?_⟩; gi_at_call 43; refine (callsIn_wide.2 (HR.out _)).mono ?_; rintro e w1 ⟨rfl, b1⟩)
  have hw1 := b1.size
  have hlit : (w1.alloc (.cells #[.string s] 24)).ownsRow w.heap.size 24 1 (.slice (some ⟨w1.heap.size, 0, none⟩) 1 1) 1 (strs [s.data.toList]) :=
    ⟨rfl, .inr ⟨w1.heap.size, 1, #[.string s], rfl, hw1, World.alloc_heap_new _ _, Nat.le_refl _, by decide, rfl, rfl⟩⟩
  have bO := Boxed.new (w1.alloc (.cells #[.string s] 24)) 38 (.slice (some ⟨w1.heap.size, 0, none⟩) 1 1)
  rw [World.size_alloc] at bO
  have hfl : s.data.toList.length ≤ 20000 := by rw [len_bytes]; exact hs
  have hG0 : Going s.data.toList w (w1.heap.size + 1) [s.data.toList] 0 (.slice (some ⟨w1.heap.size, 0, none⟩) 1 1) [] ((w1.alloc (.cells #[.string s] 24)).alloc (.cells #[.slice (some ⟨w1.heap.size, 0, none⟩) 1 1] 38)) :=
    ⟨bO, hlit.alloc _, Marks.none _ _, (b1.alloc hw1 _).alloc (by simp; omega) _, Tm.reached_start _, by simp, by simp, by simpa using hfl⟩
  have hsub : Hid (∀ x, Tm.Sub s.data.toList x → Tm.right x = true ∧ x.length ≤ 20000) := fun x hx => by
    have := hx.right hr
    exact ⟨this.1, by omega⟩
  clear hfl hlit bO HR
  refine wpIn_loop_ghost (fun k a W => ∃ l i v ds u11 u12 u13 u14 u15 u16 u17 u18 u19 u20 u21, a = allAct s (w1.heap.size + 1) w1.heap.size i u11 u12 u13 u14 u15 u16 u17 u18 u19 u20 u21 ds ∧ Going s.data.toList w (w1.heap.size + 1) l i v ds W ∧ k = (l.drop i).flatten.length) _ ⟨_, _, _, _, _, _, _, _, _, _, _, _, _, _, _, rfl, hG0, rfl⟩ ?_
  rintro k a W ⟨l, i, v, ds, u11, u12, u13, u14, u15, u16, u17, u18, u19, u20, u21, rfl, ⟨hv, hrow, hM, hB, hre, hil, hll, hfl⟩, rfl⟩
  clear hG0
  unfold allAct
  have hc := hv.cell
  have hsz := hB.size
  have hil2 : i ≤ 20000 := by omega
  by_cases hlt : i < l.length
  · obtain ⟨x, hx⟩ : ∃ x, l[i]? = some x := ⟨_, List.getElem?_eq_getElem hlt⟩
    obtain ⟨hrx, hxl⟩ := hsub.out x (hre.2.1 x (List.mem_of_getElem? hx))
    have hne : l ≠ [] := by rintro rfl; simp at hlt
    obtain ⟨g, cap, rfl, hT, hg⟩ := row_slice hrow hne
    have hcell : W.cell? ⟨g, i, none⟩ = some (.string ⟨x.toArray⟩) := hT i x hx
    have j1 : (i : Int) < (l.length : Int) := by omega
    have j2 : (0 : Int) ≤ (i : Int) := by omega
    have hstep := hre.step hx
    have hshr := Tm.rest_shrinks hx hrx
    have hcnt : (Tm.ofL x).length ≤ 32 := by rw [(Tm.ofL_ok hrx).2.2.1]; exact (Tm.begin_le _).2
    have hHs := Lib.hid (And.intro hstep hshr)
    have HI := Lib.hid (fun W => inside_calls ⟨x.toArray⟩ W)
    have hre' := Lib.hid hre
    clear hstep hshr hre
    gi_wp2_with (refine ⟨trivial, ?_⟩; gi_at_call 109; refine (callsIn_wide.2 (HI.out _)).mono ?_; rintro e w' ⟨rfl, rfl⟩)
    have bN := Boxed.new W 24 (.string ⟨x.toArray⟩)
    have ex : (⟨x.toArray⟩ : ByteArray).data.toList = x := by simp
    have hstops := inside_stops 8 W.heap.size w.heap.size ⟨x.toArray⟩ (by rw [size_list]; exact hxl) (by rw [ex]; exact hrx) (W.alloc (.cells #[.string ⟨x.toArray⟩] 24)) (by simp) bN.cell
    rw [ex] at hstops
    generalize hps : Tm.ofL x = ps at *
    refine wpIn_rangeFunc_ownG rfl (by omega) (gf := 119) (lb := #[.pointer (some ⟨W.heap.size, 0, none⟩)]) rfl trivial (enters_of Try.func119 (by kernel_rfl) rfl)
      hstops belowK_t (belowK_b (by simp; omega)) (Below.refl _ _) (fun _ => rfl)
      (fun pre W' => ((∃ v, Boxed W' (w1.heap.size + 1) 38 v ∧ W'.ownsRow w.heap.size 24 1 v (l.length + pre.length) (strs (l ++ pre)) ∧ True) ∧ Below w.heap.size w W') ∧ KeepsFrom w.heap.size W W')
      (fun _ _ _ => False)
      (OwnFrom.and (OwnFrom.and (Own.from (holdsRow_own w.heap.size (w1.heap.size + 1) 38 24 1 (fun pre => l.length + pre.length) (fun pre => strs (l ++ pre)) (fun _ _ => True)) _) (ownFrom_below (Nat.le_refl _) (by simp; omega))) (ownFrom_keepsFrom (by simp)))
      (fun _ _ _ _ _ hs _ _ => hs)
      ⟨⟨⟨_, hv.alloc _, by simpa using hrow.alloc _, trivial⟩, hB.alloc hsz _⟩, (KeepsOthers.alloc W _).from _⟩
      (fun y => { tmps := #[.string s, undef, .slice none 0 0, .pointer (some ⟨w1.heap.size + 1, 0, none⟩), .int .i64 i, .string ⟨y.toArray⟩, .string s, .bool true, .bool false, .string s, .slice (some ⟨w1.heap.size, 0, none⟩) 1 1, .int .i64 i, .slice (some ⟨g, 0, none⟩) l.length cap, .int .i64 l.length, .bool true, u15, u16, .slice (some ⟨g, 0, none⟩) l.length cap, .int .i64 i, .pointer (some ⟨g, i, none⟩), .string ⟨x.toArray⟩, .func (.func 119) #[] #[.pointer (some ⟨W.heap.size, 0, none⟩)], .string ⟨y.toArray⟩, undef, undef, undef, undef, undef, undef, undef, undef], defers := [] }) ?assign ?body ?done ?stop
    case assign =>
      intro l' y W' K hK
      gi_wp2
      exact hK
    case body =>
      rintro l' pre y W' ⟨⟨⟨v', hv', hrow', _⟩, hB'⟩, hk'⟩ hpre
      have hc' := hv'.cell
      have hsz' := hB'.size
      gi_wp2_with (gi_at_builtin; refine wpListIn_append_own _ rfl _ _ 38 rfl w.heap.size 24 i0 (.string ⟨#[]⟩) 1 16 Try.underlying38 hi hz0 hz1 hz2 rfl (by decide) _ _ _ rfl (hrow'.alloc _) ⟨W'.heap.size, 0, none⟩ 1 1 [.string ⟨y.toArray⟩] rfl rfl (cell_one_new _ _ _) (by simp [Value.oneCell']) (by unfold maxLen; omega) (by omega) (by simp; omega) ?_; intro v2 w2 hown' hgrow _; obtain ⟨g', cap', rfl⟩ := ownsRow_succ hown'; obtain ⟨hv1, hv2, hr2, hk2, hb2⟩ := hv'.appended (by decide) hrow' hB'.size (by omega) hown' hgrow; have hc1 := hv1.cell; have hf1 := hv1.frozen)
      have e1 : l.length + (pre ++ [y]).length = l.length + pre.length + 1 := by simp; omega
      have e2 : strs (l ++ (pre ++ [y])) = strs (l ++ pre) ++ [.string ⟨y.toArray⟩] := by simp [strs]
      refine ⟨hk2.from _, hb2, ⟨⟨_, hv2, ?_⟩, hB'.trans hb2⟩, hk'.trans (hk2.from _)⟩
      rw [e1, e2]
      exact hr2
    case done =>
      rintro D ys W' hD hys ⟨⟨⟨v', hv', hrow', _⟩, hB'⟩, hk'⟩ hK
      subst hys
      have hM' := hM.more hk' (D := D) (by simp at hD; omega) (by simp at hD; omega) hK
      have hrow2 : W'.ownsRow w.heap.size 24 1 v' (l ++ ys).length (strs (l ++ ys)) := by rw [List.length_append]; exact hrow'
      obtain ⟨h1, h2⟩ := hHs.out
      have hG : Going s.data.toList w (w1.heap.size + 1) (l ++ ys) (i + 1) v' ({ target := .collected D, args := #[] } :: ds) W' :=
        ⟨hv', hrow2, hM', hB', hps ▸ h1, by simp; omega, by simp; omega, by rw [← hps] at hcnt ⊢; rw [← hps] at h2; omega⟩
      have HG := Lib.hid hG
      clear hG h1 hM' hK hv' hrow' hrow2 hk' hB' hHs
      gi_wp2
      have e3 : ∀ (m : List (List UInt8)) (j : Nat), (List.drop j (List.map List.length m)).sum = (m.drop j).flatten.length := fun m j => by rw [List.length_flatten, List.map_drop]
      refine ⟨((l ++ ys).drop (i + 1)).flatten.length, ?_, l ++ ys, i + 1, v', _, ⟨by simp, rfl⟩, HG.out, ?_⟩
      · rw [e3]; exact h2
      · rw [e3]
    case stop =>
      rintro D c pre W' _ _ h _
      exact h.elim
  · have hi : i = l.length := by omega
    subst hi
    have hne : l ≠ [] := by rintro rfl; exact absurd hre.1 (by simp)
    obtain ⟨g, cap, rfl, hT, hg⟩ := row_slice hrow hne
    have hall := Lib.hid (fun y => hre.all y)
    have hbox := Lib.hid (And.intro hv (And.intro hrow (And.intro hM hB)))
    obtain ⟨cs1, cs2, cs3⟩ := Tm.compact_sorted l
    have hcs := Lib.hid (And.intro cs1 cs2)
    have j1 : ¬ ((l.length : Int) < (l.length : Int)) := by omega
    have hl7 : l.length ≤ 700000 := by omega
    clear hre hv hM cs1 cs2
    have hnb := hbox.out.1.not_row (by decide) hrow
    have HS := Lib.hid (Sort_row l w.heap.size (.slice (some ⟨g, 0, none⟩) l.length cap) W hrow hne (by omega))
    gi_wp2_with fail
    refine ⟨trivial, ?_⟩
    refine (callsIn_wide.2 HS.out).mono ?_
    rintro e w2 ⟨rfl, hrow2, hg2⟩
    obtain ⟨hv, _, hM, hB⟩ := hbox.out
    have hv2 := hv.kept hg2 hnb
    have hc2 := hv2.cell
    have hM2 := hM.keeps ((keeps_row hrow hg2).from _)
    have hB2 := below_row hB hsz hrow hg2
    have HC := Lib.hid (Compact_row (sortedL l) w.heap.size (.slice (some ⟨g, 0, none⟩) l.length cap) w2 (by rw [sortedL_length]; exact hrow2) (by intro e; have := sortedL_length l; rw [e] at this; exact hne (List.length_eq_zero_iff.1 this.symm)) (by rw [sortedL_length]; omega) (by rw [sortedL_length]; exact cs3))
    clear hv hM hc
    gi_wp2_with fail
    refine ⟨trivial, ?_⟩
    refine (callsIn_wide.2 HC.out).mono ?_
    rintro e w3 ⟨v3, rfl, hrow3, hg3⟩
    have hM3 := hM2.keeps ((keeps_row hrow2 hg3).from _)
    have hB3 := below_row hB2 hB2.size hrow2 hg3
    gi_wp2
    refine leaves_marks (G := fun W => W.ownsRow w.heap.size 24 1 v3 (Lib.compact (sortedL l)).length (strs (Lib.compact (sortedL l))) ∧ Below w.heap.size w W) (B := w.heap.size) ?_ ?_ _ _ hM3 ⟨hrow3, hB3⟩
    · rintro W D hD hK ⟨h1, h2⟩
      exact ⟨ownsRow_putObj h1 _ hK rfl, h2.trans (belowK_b (w := w) (Nat.le_refl _) W D _ _ hD hK rfl rfl)⟩
    · rintro W ⟨h1, h2⟩
      exact ⟨_, results_tmp rfl _ _ _, v3, _, rfl, h1, hcs.out.1, fun y => (hcs.out.2 y).trans (hall.out y), Nat.le_trans cs3 hl7, h2⟩

set_option maxHeartbeats 400000 in
theorem All_wrong (s : ByteArray) (hs : s.size ≤ maxLen) (hr : Tm.right s.data.toList = false) (w : World) :
    Calls Try.prog 122 #[.string s] w fun e w' => e = .returned (.slice none 0 0) ∧ Below w.heap.size w w' := by
  have cR := fun W => Right_calls s hs W
  rw [hr] at cR
  have HR := Lib.hid cR
  clear cR hr
  go_enter Try.func122, Try.ntmps122
  go_wp2_with fail
  refine (HR.out _).mono ?_
  rintro e w1 ⟨rfl, b1⟩
  go_wp2
  go_ret
  exact ⟨rfl, b1⟩

end Go.Proofs.Ytloheongiceliaa
