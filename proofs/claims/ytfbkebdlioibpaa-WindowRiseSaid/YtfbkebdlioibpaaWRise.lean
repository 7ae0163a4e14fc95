/- The law WindowRise: for all numbers it returns true. -/
import Derived.Test.YtfbkebdlioibpaaWSame
namespace Go.Proofs.Ytfbkebdlioibpaa.L5
open Go.ChangeShapes Go.WideShapes Go.ChangeAt Go.RowKit

theorem allS_snoc (l : List Nat) (n : Nat) : allS (l ++ [n]) = stepS (allS l) n := by simp [allS]
theorem topL_le {L : List Nat} {m : Nat} (h : ∀ x ∈ L, x ≤ m) : topL L ≤ m := by
  rcases topL_mem L with e | e
  · omega
  · exact h _ e
theorem stepS_new {L : List Nat} {n m : Nat} (h1 : 1 ≤ n) (h2 : n ∉ L) (h3 : topL L ≤ m) (h4 : m < n + 64) : stepS L n = L ++ [n] := by
  unfold stepS
  rw [if_neg]
  unfold seenS
  rw [decide_eq_true_iff]
  rintro (h | h | h)
  · omega
  · exact h2 h
  · omega

def upE (l : List Nat) : Nat := l.foldl (fun a x => a + 1 + x % 1000000) 0
def ups (l : List Nat) (i : Nat) : List Nat := (List.range i).map (fun j => upE (l.take (j + 1)))
theorem upE_next {l : List Nat} {i n : Nat} (h : l[i]? = some n) : upE (l.take (i + 1)) = upE (l.take i) + 1 + n % 1000000 := by
  unfold upE
  rw [List.take_add_one, h]
  simp
theorem ups_next (l : List Nat) (i : Nat) : ups l (i + 1) = ups l i ++ [upE (l.take (i + 1))] := by simp [ups, List.range_succ]
theorem upE_mono (l : List Nat) {i j : Nat} (hij : i ≤ j) (hj : j ≤ l.length) : upE (l.take i) + (j - i) ≤ upE (l.take j) ∧ upE (l.take j) ≤ upE (l.take i) + (j - i) * 1000000 := by
  induction j with
  | zero =>
    obtain rfl : i = 0 := by omega
    simp
  | succ j ih =>
    by_cases e : i = j + 1
    · subst e; simp
    · obtain ⟨n, hn⟩ : ∃ n, l[j]? = some n := ⟨_, List.getElem?_eq_getElem (by omega)⟩
      rw [upE_next hn]
      have := ih (by omega) (by omega)
      omega
theorem upE_bound (l : List Nat) {i : Nat} (h : i ≤ l.length) : upE (l.take i) ≤ i * 1000000 := by
  have := (upE_mono l (Nat.zero_le i) h).2
  simp [upE] at this ⊢
  omega
theorem ups_mem {l : List Nat} {i : Nat} (hi : i ≤ l.length) {x : Nat} (hx : x ∈ ups l i) : 1 ≤ x ∧ x ≤ upE (l.take i) := by
  obtain ⟨j, hj, rfl⟩ := List.mem_map.1 hx
  rw [List.mem_range] at hj
  have h1 := (upE_mono l (show j + 1 ≤ i by omega) hi).1
  have h2 := (upE_mono l (show 0 ≤ j + 1 by omega) (by omega)).1
  omega
theorem allS_ups (l : List Nat) {i : Nat} (hi : i ≤ l.length) : allS (ups l i) = ups l i := by
  induction i with
  | zero => rfl
  | succ i ih =>
    obtain ⟨n, hn⟩ : ∃ n, l[i]? = some n := ⟨_, List.getElem?_eq_getElem (by omega)⟩
    rw [ups_next, allS_snoc, ih (by omega)]
    have e := upE_next hn
    have hb : ∀ x ∈ ups l i, x ≤ upE (l.take i) := fun x hx => (ups_mem (by omega) hx).2
    exact stepS_new (by omega) (fun h => by have := hb _ h; omega) (topL_le hb) (by omega)

def downs (f j : Nat) : List Nat := (List.range j).map (fun i => f - i)
theorem downs_next (f j : Nat) : downs f (j + 1) = downs f j ++ [f - j] := by simp [downs, List.range_succ]
theorem downs_len (f j : Nat) : (downs f j).length = j := by simp [downs]
theorem allS_downs (f j : Nat) : allS (downs f j) = downs f (min j (min 64 f)) := by
  induction j with
  | zero => simp [downs, allS]
  | succ j ih =>
    rw [downs_next, allS_snoc, ih]
    by_cases h : j < min 64 f
    · rw [show min j (min 64 f) = j by omega, show min (j + 1) (min 64 f) = j + 1 by omega, downs_next]
      refine stepS_new (m := f) (by omega) (fun hm => ?_) (topL_le (fun x hx => ?_)) (by omega)
      · obtain ⟨i, hi, e⟩ := List.mem_map.1 hm
        rw [List.mem_range] at hi
        have e2 : f - i = f - j := e
        omega
      · obtain ⟨i, hi, rfl⟩ := List.mem_map.1 hx
        show f - i ≤ f
        omega
    · rw [show min j (min 64 f) = min 64 f by omega, show min (j + 1) (min 64 f) = min 64 f by omega]
      unfold stepS
      rw [if_pos]
      unfold seenS
      rw [decide_eq_true_iff]
      by_cases h0 : f ≤ j
      · left; omega
      · right; right
        have hmem : f ∈ downs f (min 64 f) := List.mem_map.2 ⟨0, List.mem_range.2 (by omega), by simp⟩
        have := le_topL hmem
        omega
theorem downs_take (f : Nat) {i j : Nat} (h : i ≤ j) : (downs f j).take i = downs f i := by
  unfold downs
  rw [← List.map_take, List.take_range, Nat.min_eq_left h]
theorem downs_le {f j x : Nat} (h : x ∈ downs f j) : x ≤ f := by
  obtain ⟨i, _, rfl⟩ := List.mem_map.1 h
  show f - i ≤ f
  omega

def RiseU (w : World) (l : List Nat) (k : Nat) (v8 v9 v10 : Value) (wr : World) : Prop :=
  ∃ i : Nat, k + i = l.length ∧ v10 = .int .i64 i ∧ v9 = .int .u64 (upE (l.take i)) ∧ wr.ownsRow w.heap.size 30 1 v8 i (nums (ups l i)) ∧ Below w.heap.size w wr
def RiseD (w : World) (f m : Nat) (k : Nat) (v11 v14 : Value) (wr : World) : Prop :=
  ∃ i : Nat, k + i = m ∧ v14 = .int .i64 i ∧ wr.ownsRow w.heap.size 30 1 v11 i (nums (downs f i)) ∧ Below w.heap.size w wr

set_option maxRecDepth 100000 in
set_option maxHeartbeats 8000000 in
theorem rise_all (l : List Nat) (v : Value) (c1 : Int) (f0 : Nat) (w : World) (h : URow w v l) (hc1 : -9223372036854775808 ≤ c1 ∧ c1 ≤ 9223372036854775807) (hf0 : f0 < 18446744073709551616) : Calls Try.prog 9 #[v, .int .i64 c1, .int .u64 f0] w (One w (.bool true)) := by
  obtain ⟨i0, hi, hz0, hz1, hz2⟩ := info_parts info_u64
  obtain ⟨⟨A, c, rfl, hk⟩, hs⟩ := h
  have HL : Hid (∀ j x : Nat, l[j]? = some x → x < 18446744073709551616 ∧ ∃ ad : Addr, A = some ad ∧ ad.block < w.heap.size ∧ w.cell? (ad.add j) = some (.int .u64 x)) := fun j x hx => ⟨hs x (List.mem_of_getElem? hx), hk j x hx⟩
  have HS := Lib.hid shown_calls
  clear hk hs
  by_cases hlen : 100 < l.length
  · have j1 : (100 : Int) < (l.length : Int) := by omega
    go_enter Try.func9, Try.ntmps9
    go_wp2_with fail
    refine (HS.out _).mono ?_
    rintro e w1 ⟨rfl, b1⟩
    have HB := Lib.hid b1
    clear b1
    go_wp2
    go_ret
    exact ⟨rfl, HB.out⟩
  have j1 : ¬ (100 : Int) < (l.length : Int) := by omega
  have HP : Hid (∀ V : World, Calls Try.prog 46 #[.int .i64 c1, .int .i64 200] V fun e w' => e = .returned (.int .i64 (pickN c1 200)) ∧ V = w') := fun V => pick_calls c1 200 hc1.1 hc1.2 (by omega) (by omega) V
  have hpl := pickN_lt c1 200 (by omega)
  generalize pickN c1 200 = kk at *
  have HKK := Lib.hid hpl
  clear hc1 hpl
  go_enter Try.func9, Try.ntmps9
  go_wp2_with fail
  refine (HS.out _).mono ?_
  rintro e w1 ⟨rfl, b1⟩
  have HB1 := Lib.hid b1
  have hsz1 := b1.size
  clear b1
  go_wp2
  go_loopg [8, 9, 10] l.length (fun k v8 v9 v10 wr => RiseU w1 l k v8 v9 v10 wr)
  case atStart => exact ⟨0, rfl, rfl, rfl, World.ownsRow_nil _ _ _ _, Below.refl _ _⟩
  case round =>
    obtain ⟨i, hk, rfl, rfl, hr8, hB⟩ := hrel
    obtain ⟨A8, c8, rfl⟩ := own_slice hr8
    by_cases hlt : i < l.length
    · obtain ⟨n1, hn1⟩ : ∃ n1, l[i]? = some n1 := ⟨_, List.getElem?_eq_getElem hlt⟩
      obtain ⟨hn64, ad, rfl, hadb, hcell⟩ := HL.out i n1 hn1
      have s1 : (i : Int) < (l.length : Int) := by omega
      have s2 : (0 : Int) ≤ (i : Int) := by omega
      have hc1 : wr.cell? (ad.add i) = some (.int .u64 n1) := (hB.cell (p := ad.add i) (by rw [addr_block]; omega)).trans ((HB1.out.cell (p := ad.add i) (by rw [addr_block]; exact hadb)).trans hcell)
      have hub := upE_bound l (show i ≤ l.length by omega)
      have hun := upE_next hn1
      obtain ⟨u, hu⟩ : ∃ u, upE (l.take i) = u := ⟨_, rfl⟩
      obtain ⟨u', hu'⟩ : ∃ u', upE (l.take (i + 1)) = u' := ⟨_, rfl⟩
      obtain ⟨r, hr⟩ : ∃ r, n1 % 1000000 = r := ⟨_, rfl⟩
      have hrI : (n1 : Int) % 1000000 = (r : Int) := by omega
      rw [hu] at hub
      rw [hu, hu', hr] at hun
      have hw1 : IntKind.u64.wrap ((u : Int) + 1) = ((u + 1 : Nat) : Int) := by rw [IntKind.wrap_u64]; omega
      have hw2 : IntKind.u64.wrap (((u : Int) + 1) + (r : Int)) = (u' : Int) := by rw [IntKind.wrap_u64]; omega
      have hu1 : (u : Int) ≤ 100000000 := by omega
      have hu0 : (0 : Int) ≤ (u : Int) := by omega
      have hr1 : (r : Int) < 1000000 := by omega
      have hr0 : (0 : Int) ≤ (r : Int) := by omega
      have hsI : (u : Int) + 1 + (r : Int) = (u' : Int) := by omega
      have hfin : Hid (∀ v2 w6, w6.ownsRow w1.heap.size 30 1 v2 (i + 1) (nums (ups l i) ++ [.int .u64 u']) → (wr.alloc (.cells #[.int .u64 u'] 30)).grownBy w6 (Value.slice A8 i c8).ownBlock → RiseU w1 l (gk - 1) v2 (.int .u64 u') (.int .i64 ((i + 1 : Nat) : Int)) w6) := fun v2 w6 k1 k2 => by
        have hg2 := grow_trans (World.grownBy_alloc wr (.cells #[.int .u64 u'] 30) _) k2
        refine ⟨i + 1, by omega, rfl, by rw [hu'], ?_, hB.grown hg2 hB.size (fun q e => (hr8.lt q e).1)⟩
        rw [ups_next, hu']
        simpa [nums] using k1
      rw [hu]
      have HR8 := Lib.hid hr8
      have hmm := Lib.hid (show gk - 1 < gk by omega)
      have HI := Lib.hid (show i ≤ 100 by omega)
      have HSz := Lib.hid hB.size
      clear hcell hadb hr8 hB hk hn1 hub hun hu hu' hr
      go_wp2_with (at_builtin; refine wpList_append_own_at _ rfl _ _ 66 rfl w1.heap.size 30 i0 _ 1 8 Try.underlying66 hi hz0 hz1 hz2 rfl (by decide) _ _ _ rfl (HR8.out.alloc _) ⟨wr.heap.size, 0, none⟩ 1 1 [.int .u64 u'] rfl rfl (cell_one_new _ _ _) (by simp [Value.oneCell']) (by have := HI.out; unfold maxLen; omega) (by have := HI.out; omega) (by have := HSz.out; simp; omega) ?_; intro v2 w6 hown6 hgrow6 hnil6 hat6; have HF := Lib.hid (hfin.out v2 w6 hown6 hgrow6); clear hown6 hgrow6 hnil6 hat6)
      go_roundg (gk - 1)
      case measure => exact hmm.out
      case rel => simpa using HF.out
    · have s1 : ¬ ((i : Int) < (l.length : Int)) := by omega
      obtain rfl : i = l.length := by omega
      obtain ⟨w2, rfl⟩ : ∃ z, z = wr := ⟨wr, rfl⟩
      have HB2 := Lib.hid (HB1.out.trans (hB.mono HB1.out.size))
      have hul : (ups l l.length).length = l.length := by simp [ups]
      have hub := upE_bound l (Nat.le_refl l.length)
      have hU8 : URow w2 (.slice A8 l.length c8) (ups l l.length) := by
        have := URow.of_own (zs := ups l l.length) (by rw [hul]; exact hr8) (fun x hx => by have := (ups_mem (Nat.le_refl _) hx).2; omega)
        exact this
      have HU8 := Lib.hid (And.intro hU8 hul)
      have HAU := Lib.hid (allS_ups l (Nat.le_refl l.length))
      generalize ups l l.length = U at *
      obtain ⟨f, hf⟩ : ∃ f, f0 % 10000 = f := ⟨_, rfl⟩
      have hfI : (f0 : Int) % 10000 = (f : Int) := by omega
      have hf1 : (f : Int) < 10000 := by omega
      have hf00 : (0 : Int) ≤ (f : Int) := by omega
      obtain ⟨m, hm⟩ : ∃ m, min kk (f + 1) = m := ⟨_, rfl⟩
      have HM := Lib.hid hm
      have HF1 := Lib.hid hf1
      clear hr8 hB hk hul hub hU8 hf hm hf1
      go_wp2_with fail
      refine (HP.out _).mono ?_
      rintro e w3 ⟨rfl, rfl⟩
      go_wp2
      simp only [hfI]
      clear hfI
      go_loopg [11, 14] m (fun k v11 v14 wr => RiseD w2 f m k v11 v14 wr)
      case atStart => exact ⟨0, by omega, rfl, World.ownsRow_nil _ _ _ _, Below.refl _ _⟩
      case round =>
        obtain ⟨j, hk, rfl, hr11, hB⟩ := hrel
        obtain ⟨A11, c11, rfl⟩ := own_slice hr11
        have hf1 := HF1.out
        have hm := HM.out
        have hkk := HKK.out
        by_cases hlt : j < m
        · have t1 : (j : Int) < (kk : Int) := by omega
          have t2 : (j : Int) ≤ (f : Int) := by omega
          have t3 : (0 : Int) ≤ (j : Int) := by omega
          obtain ⟨d, hd⟩ : ∃ d, f - j = d := ⟨_, rfl⟩
          have hdI : (f : Int) - (j : Int) = (d : Int) := by omega
          have hjw : IntKind.u64.wrap (j : Int) = (j : Int) := by rw [IntKind.wrap_u64]; omega
          have hdw : IntKind.u64.wrap ((f : Int) - (j : Int)) = (d : Int) := by rw [IntKind.wrap_u64]; omega
          have hdw2 : IntKind.u64.wrap (d : Int) = (d : Int) := by rw [IntKind.wrap_u64]; omega
          have hfin : Hid (∀ v2 w6, w6.ownsRow w2.heap.size 30 1 v2 (j + 1) (nums (downs f j) ++ [.int .u64 d]) → (wr.alloc (.cells #[.int .u64 d] 30)).grownBy w6 (Value.slice A11 j c11).ownBlock → RiseD w2 f m (gk - 1) v2 (.int .i64 ((j + 1 : Nat) : Int)) w6) := fun v2 w6 k1 k2 => by
            have hg2 := grow_trans (World.grownBy_alloc wr (.cells #[.int .u64 d] 30) _) k2
            refine ⟨j + 1, by omega, rfl, ?_, hB.grown hg2 hB.size (fun q e => (hr11.lt q e).1)⟩
            rw [downs_next, hd]
            simpa [nums] using k1
          have HR11 := Lib.hid hr11
          have hmm := Lib.hid (show gk - 1 < gk by omega)
          have HI := Lib.hid (show j ≤ 200 by omega)
          have HSz := Lib.hid hB.size
          have t4 : (j : Int) < 200 := by omega
          clear hr11 hB hk hd hm hkk hf1 hlt
          go_wp2_with (at_builtin; refine wpList_append_own_at _ rfl _ _ 66 rfl w2.heap.size 30 i0 _ 1 8 Try.underlying66 hi hz0 hz1 hz2 rfl (by decide) _ _ _ rfl (HR11.out.alloc _) ⟨wr.heap.size, 0, none⟩ 1 1 [.int .u64 d] rfl rfl (cell_one_new _ _ _) (by simp [Value.oneCell']) (by have := HI.out; unfold maxLen; omega) (by have := HI.out; omega) (by have := HSz.out; simp; omega) ?_; intro v2 w6 hown6 hgrow6 hnil6 hat6; have HF := Lib.hid (hfin.out v2 w6 hown6 hgrow6); clear hown6 hgrow6 hnil6 hat6)
          go_roundg (gk - 1)
          case measure => exact hmm.out
          case rel => simpa using HF.out
        · obtain rfl : j = m := by omega
          have t1 : ¬ ((j : Int) < (kk : Int)) ∨ ((j : Int) < (kk : Int) ∧ ¬ ((j : Int) ≤ (f : Int))) := by omega
          have t3 : (0 : Int) ≤ (j : Int) := by omega
          have t4 : (j : Int) ≤ 200 := by omega
          have hjw : IntKind.u64.wrap (j : Int) = (j : Int) := by rw [IntKind.wrap_u64]; omega
          obtain ⟨w4, rfl⟩ : ∃ z, z = wr := ⟨wr, rfl⟩
          have hU11 : URow w4 (.slice A11 j c11) (downs f j) := by
            have := URow.of_own (zs := downs f j) (by rw [downs_len]; exact hr11) (fun x hx => by have := downs_le hx; omega)
            exact this
          obtain ⟨q, hq⟩ : ∃ q, min j (min 64 f) = q := ⟨_, rfl⟩
          have HA11 : Hid (Calls Try.prog 45 #[.slice A11 j c11] w4 fun e w' => ∃ v, e = .returned v ∧ w'.ownsRow w4.heap.size 30 1 v q (nums (downs f q)) ∧ Below w4.heap.size w4 w') := by
            refine (All_calls _ _ w4 hU11 (by rw [downs_len]; omega)).mono ?_
            rintro e w' ⟨v, rfl, h1, h2⟩
            rw [allS_downs, hq, downs_len] at h1
            exact ⟨v, rfl, h1, h2⟩
          have HQ := Lib.hid (And.intro hq (And.intro hm (And.intro hkk hf1)))
          have HB4 := Lib.hid hB
          have HU11 := Lib.hid hU11
          have hcap : j ≤ c11 := by
            rcases hr11.2 with ⟨e1, e2⟩ | ⟨g, cap, cur, e1, h1, h2, h3, h4⟩
            · cases e1; omega
            · cases e1; exact h3
          have hcapI : (j : Int) ≤ (c11 : Int) := by omega
          have hcap2 : c11 ≤ maxLen := by
            rcases hr11.2 with ⟨e1, e2⟩ | ⟨g, cap, cur, e1, h1, h2, h3, h4⟩
            · cases e1; decide
            · cases e1; exact h4.1
          have HUs : Hid (∀ V, Below w4.heap.size w4 V → ∀ q, q ≤ j → URow V (.slice A11 q c11) (downs f q)) := fun V hV q hq => by
            obtain ⟨⟨A, c, e, k⟩, hs⟩ := hU11.below hV
            rw [downs_len] at e
            cases e
            refine ⟨⟨A11, c11, by rw [downs_len], fun i x hx => k i x ?_⟩, fun x hx => by have := downs_le hx; omega⟩
            rw [← downs_take f hq] at hx
            rw [List.getElem?_take] at hx
            split at hx
            · exact hx
            · cases hx
          have HSm : Hid (f < 10000 ∧ kk < 200) := ⟨by omega, hkk⟩
          clear hr11 hB hk hm hkk hq hU11 hlt hcap hf1 HKK HM HF1
          have HAU8 : Hid (∀ V, Below w2.heap.size w2 V → Calls Try.prog 45 #[.slice A8 l.length c8] V fun e w' => ∃ v, e = .returned v ∧ w'.ownsRow V.heap.size 30 1 v l.length (nums U) ∧ Below V.heap.size V w') := fun V hV => by
            refine (All_calls _ _ V (HU8.out.1.below hV) (by have := HU8.out.2; omega)).mono ?_
            rintro e w' ⟨v, rfl, h1, h2⟩
            rw [HAU.out, HU8.out.2] at h1
            exact ⟨v, rfl, h1, h2⟩
          rcases t1 with t1 | ⟨t1, t2⟩
          all_goals
            go_wp2_with fail
            refine HA11.out.mono ?_
            rintro e w5 ⟨v15, rfl, hx15, b5⟩
            obtain ⟨A15, c15, rfl⟩ := own_slice hx15
            have HB5 := Lib.hid b5
            have HU15 : Hid (URow w5 (.slice A15 q c15) (downs f q)) := by
              have := URow.of_own (zs := downs f q) (by rw [downs_len]; exact hx15) (fun x hx => by have := downs_le hx; have := HSm.out.1; omega)
              exact this
            clear hx15 b5
            have hcase : (j = f + 1 ∧ 64 < j ∧ 64 < f ∧ q = 64) ∨ (j = f + 1 ∧ 64 < j ∧ ¬ 64 < f ∧ q = f) ∨ (j = f + 1 ∧ ¬ 64 < j ∧ ¬ 64 < f ∧ q = f) ∨ (j ≠ f + 1 ∧ 64 < j ∧ q = 64) ∨ (j ≠ f + 1 ∧ ¬ 64 < j ∧ q = j) := by
              obtain ⟨h1, h2, h3, h4⟩ := HQ.out
              omega
            have HBw5 := Lib.hid (HB4.out.trans (HB5.out.mono HB4.out.size))
            have HSame1 : Hid (∀ V v, V.ownsRow w5.heap.size 30 1 v l.length (nums U) → Below w5.heap.size w5 V → Calls Try.prog 44 #[v, .slice A8 l.length c8] V (One V (.bool true))) := fun V v hv hV => by
              have h1 : URow V v U := URow.of_own (by rw [HU8.out.2]; exact hv) HU8.out.1.small
              have h2 := same_calls U U v (.slice A8 l.length c8) V h1 (HU8.out.1.below (HBw5.out.trans (hV.mono HBw5.out.size))) (by have := HU8.out.2; omega)
              simpa using h2
            have HSame2 : Hid (∀ V, Below w5.heap.size w5 V → q ≤ j → Calls Try.prog 44 #[.slice A15 q c15, .slice A11 q c11] V (One V (.bool true))) := fun V hV hq => by
              have h2 := same_calls (downs f q) (downs f q) _ _ V (HU15.out.below hV) (HUs.out V (HB5.out.trans (hV.mono HB5.out.size)) q hq) (by rw [downs_len]; obtain ⟨g1, g2, g3, g4⟩ := HQ.out; omega)
              simpa using h2
            have HFin := Lib.hid (HB2.out.trans (HBw5.out.mono HB2.out.size))
            have HQ64 : Hid (q ≤ 64 ∧ q ≤ j ∧ q ≤ f) := by obtain ⟨g1, g2, g3, g4⟩ := HQ.out; exact ⟨by omega, by omega, by omega⟩
            clear HU15 HUs HQ HA11
            rcases hcase with ⟨e1, e2, e3, e4⟩ | ⟨e1, e2, e3, e4⟩ | ⟨e1, e2, e3, e4⟩ | ⟨e1, e2, e4⟩ | ⟨e1, e2, e4⟩
            · have h1 : (64 : Int) < (j : Int) := by omega
              have h2 : (64 : Int) < (f : Int) := by omega
              have h3 : (f : Int) + 1 = (j : Int) := by omega
              have h4 : (j : Int) - 1 = (f : Int) := by omega
              have h5 : IntKind.u64.wrap ((f : Int) + 1) = (j : Int) := by rw [IntKind.wrap_u64]; have := HSm.out; omega
              subst e4
              clear e1 e2 e3
              go_wp2_with fail
              refine (HAU8.out _ HBw5.out).mono ?_
              rintro e w6 ⟨v, rfl, hv, b6⟩
              have HV := Lib.hid (HSame1.out w6 v (own_base hv (Nat.le_refl _)) b6)
              have HB6 := Lib.hid b6
              clear hv b6
              go_wp2_with fail
              refine HV.out.mono ?_
              rintro e w7 ⟨rfl, b7⟩
              have HB7 := Lib.hid (HB6.out.trans (b7.mono HB6.out.size))
              have HF7 := Lib.hid (HFin.out.trans (HB7.out.mono HFin.out.size))
              clear b7
              have HS2 := Lib.hid (HSame2.out w7 HB7.out HQ64.out.2.1)
              go_wp2_with fail
              refine HS2.out.mono ?_
              rintro e w8 ⟨rfl, b8⟩
              have HF8 := Lib.hid (HF7.out.trans (b8.mono HF7.out.size))
              clear b8
              go_wp2
              go_ret
              exact ⟨rfl, HF8.out⟩
            · have h1 : (64 : Int) < (j : Int) := by omega
              have h2 : ¬ (64 : Int) < (f : Int) := by omega
              have h3 : (f : Int) + 1 = (j : Int) := by omega
              have h4 : (j : Int) - 1 = (f : Int) := by omega
              have h5 : IntKind.u64.wrap ((f : Int) + 1) = (j : Int) := by rw [IntKind.wrap_u64]; have := HSm.out; omega
              have hz1 : ((f : Int) == 0) = false := by rw [beq_eq_false_iff_ne]; omega
              have hz2 : ¬ (f : Int) = 0 := by omega
              have hz3 : (0 : Int) ≤ (f : Int) := by omega
              have hz4 : (f : Int) ≤ (c11 : Int) := by omega
              subst e4
              clear e1 e2 e3
              go_wp2_with fail
              refine (HAU8.out _ HBw5.out).mono ?_
              rintro e w6 ⟨v, rfl, hv, b6⟩
              have HV := Lib.hid (HSame1.out w6 v (own_base hv (Nat.le_refl _)) b6)
              have HB6 := Lib.hid b6
              clear hv b6
              go_wp2_with fail
              refine HV.out.mono ?_
              rintro e w7 ⟨rfl, b7⟩
              have HB7 := Lib.hid (HB6.out.trans (b7.mono HB6.out.size))
              have HF7 := Lib.hid (HFin.out.trans (HB7.out.mono HFin.out.size))
              clear b7
              have HS2 := Lib.hid (HSame2.out w7 HB7.out HQ64.out.2.1)
              go_wp2_with fail
              refine HS2.out.mono ?_
              rintro e w8 ⟨rfl, b8⟩
              have HF8 := Lib.hid (HF7.out.trans (b8.mono HF7.out.size))
              clear b8
              go_wp2
              go_ret
              exact ⟨rfl, HF8.out⟩
            · have h1 : ¬ (64 : Int) < (j : Int) := by omega
              have h2 : ¬ (64 : Int) < (f : Int) := by omega
              have h3 : (f : Int) + 1 = (j : Int) := by omega
              have h4 : (j : Int) - 1 = (f : Int) := by omega
              have h5 : IntKind.u64.wrap ((f : Int) + 1) = (j : Int) := by rw [IntKind.wrap_u64]; have := HSm.out; omega
              by_cases hz : f = 0
              · have hz1 : (f : Int) = 0 := by omega
                obtain rfl : q = 0 := by omega
                clear e4 hz
                clear e1 e2 e3
                go_wp2_with fail
                refine (HAU8.out _ HBw5.out).mono ?_
                rintro e w6 ⟨v, rfl, hv, b6⟩
                have HV := Lib.hid (HSame1.out w6 v (own_base hv (Nat.le_refl _)) b6)
                have HB6 := Lib.hid b6
                clear hv b6
                go_wp2_with fail
                refine HV.out.mono ?_
                rintro e w7 ⟨rfl, b7⟩
                have HB7 := Lib.hid (HB6.out.trans (b7.mono HB6.out.size))
                have HF7 := Lib.hid (HFin.out.trans (HB7.out.mono HFin.out.size))
                clear b7
                go_wp2
                go_ret
                exact ⟨rfl, HF7.out⟩
              · have hz1 : ((f : Int) == 0) = false := by rw [beq_eq_false_iff_ne]; omega
                have hz2 : ¬ (f : Int) = 0 := by omega
                have hz3 : (0 : Int) ≤ (f : Int) := by omega
                have hz4 : (f : Int) ≤ (c11 : Int) := by omega
                subst e4
                clear hz
                clear e1 e2 e3
                go_wp2_with fail
                refine (HAU8.out _ HBw5.out).mono ?_
                rintro e w6 ⟨v, rfl, hv, b6⟩
                have HV := Lib.hid (HSame1.out w6 v (own_base hv (Nat.le_refl _)) b6)
                have HB6 := Lib.hid b6
                clear hv b6
                go_wp2_with fail
                refine HV.out.mono ?_
                rintro e w7 ⟨rfl, b7⟩
                have HB7 := Lib.hid (HB6.out.trans (b7.mono HB6.out.size))
                have HF7 := Lib.hid (HFin.out.trans (HB7.out.mono HFin.out.size))
                clear b7
                have HS2 := Lib.hid (HSame2.out w7 HB7.out HQ64.out.2.1)
                go_wp2_with fail
                refine HS2.out.mono ?_
                rintro e w8 ⟨rfl, b8⟩
                have HF8 := Lib.hid (HF7.out.trans (b8.mono HF7.out.size))
                clear b8
                go_wp2
                go_ret
                exact ⟨rfl, HF8.out⟩
            · have h1 : (64 : Int) < (j : Int) := by omega
              have h3 : ((j : Int) == (f : Int) + 1) = false := by rw [beq_eq_false_iff_ne]; omega
              have h4 : ¬ (j : Int) = (f : Int) + 1 := by omega
              have h5 : IntKind.u64.wrap ((f : Int) + 1) = (f : Int) + 1 := by rw [IntKind.wrap_u64]; have := HSm.out; omega
              subst e4
              clear e1 e2
              go_wp2_with fail
              refine (HAU8.out _ HBw5.out).mono ?_
              rintro e w6 ⟨v, rfl, hv, b6⟩
              have HV := Lib.hid (HSame1.out w6 v (own_base hv (Nat.le_refl _)) b6)
              have HB6 := Lib.hid b6
              clear hv b6
              go_wp2_with fail
              refine HV.out.mono ?_
              rintro e w7 ⟨rfl, b7⟩
              have HB7 := Lib.hid (HB6.out.trans (b7.mono HB6.out.size))
              have HF7 := Lib.hid (HFin.out.trans (HB7.out.mono HFin.out.size))
              clear b7
              have HS2 := Lib.hid (HSame2.out w7 HB7.out HQ64.out.2.1)
              go_wp2_with fail
              refine HS2.out.mono ?_
              rintro e w8 ⟨rfl, b8⟩
              have HF8 := Lib.hid (HF7.out.trans (b8.mono HF7.out.size))
              clear b8
              go_wp2
              go_ret
              exact ⟨rfl, HF8.out⟩
            · have h1 : ¬ (64 : Int) < (j : Int) := by omega
              have h3 : ((j : Int) == (f : Int) + 1) = false := by rw [beq_eq_false_iff_ne]; omega
              have h4 : ¬ (j : Int) = (f : Int) + 1 := by omega
              have h5 : IntKind.u64.wrap ((f : Int) + 1) = (f : Int) + 1 := by rw [IntKind.wrap_u64]; have := HSm.out; omega
              by_cases hz : j = 0
              · first
                | (exfalso; omega)
                | (have hz1 : (j : Int) = 0 := by omega
                   obtain rfl : q = 0 := by omega
                   clear e4 hz
                   clear e1 e2
                   go_wp2_with fail
                   refine (HAU8.out _ HBw5.out).mono ?_
                   rintro e w6 ⟨v, rfl, hv, b6⟩
                   have HV := Lib.hid (HSame1.out w6 v (own_base hv (Nat.le_refl _)) b6)
                   have HB6 := Lib.hid b6
                   clear hv b6
                   go_wp2_with fail
                   refine HV.out.mono ?_
                   rintro e w7 ⟨rfl, b7⟩
                   have HB7 := Lib.hid (HB6.out.trans (b7.mono HB6.out.size))
                   have HF7 := Lib.hid (HFin.out.trans (HB7.out.mono HFin.out.size))
                   clear b7
                   go_wp2
                   go_ret
                   exact ⟨rfl, HF7.out⟩)
              · have hz1 : ((j : Int) == 0) = false := by rw [beq_eq_false_iff_ne]; omega
                have hz2 : ¬ (j : Int) = 0 := by omega
                have hz3 : (0 : Int) ≤ (j : Int) := by omega
                have hz4 : (j : Int) ≤ (c11 : Int) := by omega
                subst e4
                clear hz
                clear e1 e2
                go_wp2_with fail
                refine (HAU8.out _ HBw5.out).mono ?_
                rintro e w6 ⟨v, rfl, hv, b6⟩
                have HV := Lib.hid (HSame1.out w6 v (own_base hv (Nat.le_refl _)) b6)
                have HB6 := Lib.hid b6
                clear hv b6
                go_wp2_with fail
                refine HV.out.mono ?_
                rintro e w7 ⟨rfl, b7⟩
                have HB7 := Lib.hid (HB6.out.trans (b7.mono HB6.out.size))
                have HF7 := Lib.hid (HFin.out.trans (HB7.out.mono HFin.out.size))
                clear b7
                have HS2 := Lib.hid (HSame2.out w7 HB7.out HQ64.out.2.1)
                go_wp2_with fail
                refine HS2.out.mono ?_
                rintro e w8 ⟨rfl, b8⟩
                have HF8 := Lib.hid (HF7.out.trans (b8.mono HF7.out.size))
                clear b8
                go_wp2
                go_ret
                exact ⟨rfl, HF8.out⟩

end Go.Proofs.Ytfbkebdlioibpaa.L5
