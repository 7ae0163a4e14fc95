/- The law WindowShift: for all numbers it returns true. -/
import Derived.Test.YtfbkebdlioibpaaWSame
namespace Go.Proofs.Ytfbkebdlioibpaa.L5
open Go.ChangeShapes Go.WideShapes Go.ChangeAt Go.RowKit

theorem topL_shift (L : List Nat) (by_ : Nat) (h : L ≠ []) : topL (L.map (· + by_)) = topL L + by_ := by
  have h1 : topL (L.map (· + by_)) ≤ topL L + by_ := by
    rcases topL_mem (L.map (· + by_)) with h0 | h0
    · omega
    · obtain ⟨x, hx, e⟩ := List.mem_map.1 h0
      have := le_topL hx
      omega
  rcases topL_mem L with h0 | h0
  · obtain ⟨x, hx⟩ := List.exists_mem_of_ne_nil L h
    have h2 : x + by_ ≤ topL (L.map (· + by_)) := le_topL (List.mem_map.2 ⟨x, hx, rfl⟩)
    omega
  · have h2 : topL L + by_ ≤ topL (L.map (· + by_)) := le_topL (List.mem_map.2 ⟨_, h0, rfl⟩)
    omega
theorem seenS_shift (L : List Nat) (by_ n : Nat) (hn : 1 ≤ n) : seenS (L.map (· + by_)) (n + by_) = seenS L n := by
  unfold seenS
  rw [decide_eq_decide]
  by_cases h : L = []
  · subst h
    simp [topL]
    omega
  · rw [topL_shift L by_ h]
    have hm : n + by_ ∈ L.map (· + by_) ↔ n ∈ L := by
      constructor
      · intro h1
        obtain ⟨x, hx, e⟩ := List.mem_map.1 h1
        have e2 : x + by_ = n + by_ := e
        have e' : x = n := by omega
        rwa [e'] at hx
      · exact fun h1 => List.mem_map.2 ⟨n, h1, rfl⟩
    rw [hm]
    constructor
    · rintro (h1 | h1 | h1)
      · omega
      · exact .inr (.inl h1)
      · exact .inr (.inr (by omega))
    · rintro (h1 | h1 | h1)
      · omega
      · exact .inr (.inl h1)
      · exact .inr (.inr (by omega))
theorem foldl_shift (l : List Nat) (by_ : Nat) : ∀ L : List Nat, (∀ x ∈ l, 1 ≤ x) → (l.map (· + by_)).foldl stepS (L.map (· + by_)) = (l.foldl stepS L).map (· + by_) := by
  induction l with
  | nil => intro L _; rfl
  | cons a l ih =>
    intro L h
    rw [List.map_cons, List.foldl_cons, List.foldl_cons]
    have e : stepS (L.map (· + by_)) (a + by_) = (stepS L a).map (· + by_) := by
      unfold stepS
      rw [seenS_shift L by_ a (h a (by simp))]
      split <;> simp
    rw [e]
    exact ih _ (fun x hx => h x (List.mem_cons_of_mem _ hx))
theorem allS_shift (l : List Nat) (by_ : Nat) (h : ∀ x ∈ l, 1 ≤ x) : allS (l.map (· + by_)) = (allS l).map (· + by_) := foldl_shift l by_ [] h

def red (l : List Nat) : List Nat := l.map (fun x => x % 1099511627776 + 1)
theorem red_pos (l : List Nat) : ∀ x ∈ red l, 1 ≤ x ∧ x ≤ 1099511627776 := fun x hx => by
  obtain ⟨y, _, rfl⟩ := List.mem_map.1 hx
  omega
theorem red_take {l : List Nat} {i n : Nat} (h : l[i]? = some n) : red (l.take (i + 1)) = red (l.take i) ++ [n % 1099511627776 + 1] := by
  unfold red
  rw [List.take_add_one, h]
  simp
theorem row_other {wr w6 : World} {B : Nat} {e : TypeId} {n : Nat} {v v' : Value} {xs : List Value} {o : Obj} (h : wr.ownsRow B e 1 v' n xs) (hg : (wr.alloc o).grownBy w6 v.ownBlock) (hne : ∀ q q', v.ownBlock = some q → v'.ownBlock = some q' → q ≠ q') : w6.ownsRow B e 1 v' n xs := by
  refine own_same h (fun q e => ?_)
  have hlt := (h.lt q e).2
  have hg2 := grow_trans (World.grownBy_alloc wr o _) hg
  exact hg2.block q hlt (fun e2 => hne q q e2.symm e rfl)
theorem apart_then {wr : World} {B : Nat} {e : TypeId} {n : Nat} {v v' v2 : Value} {xs : List Value} {o : Obj} (h : wr.ownsRow B e 1 v' n xs) (hat : v2.ownBlock = v.ownBlock ∨ v2.ownBlock = some (wr.alloc o).heap.size) (hne : ∀ q q', v.ownBlock = some q → v'.ownBlock = some q' → q ≠ q') : ∀ q q', v2.ownBlock = some q → v'.ownBlock = some q' → q ≠ q' := by
  intro q q' h1 h2
  rcases hat with e | e
  · exact hne q q' (e ▸ h1) h2
  · rw [e] at h1
    cases h1
    have := (h.lt q' h2).2
    simp
    omega
def ShiftGo (w : World) (l : List Nat) (by_ : Nat) (k : Nat) (v6 v7 v8 : Value) (wr : World) : Prop :=
  ∃ i : Nat, k + i = l.length ∧ v8 = .int .i64 i ∧ wr.ownsRow w.heap.size 30 1 v6 (red (l.take i)).length (nums (red (l.take i))) ∧ wr.ownsRow w.heap.size 30 1 v7 (red (l.take i)).length (nums ((red (l.take i)).map (· + by_))) ∧ (∀ q q', v6.ownBlock = some q → v7.ownBlock = some q' → q ≠ q') ∧ Below w.heap.size w wr
def ShiftEnd (w : World) (m k : Nat) (v12 : Value) (wr : World) : Prop := ∃ i : Nat, k + i = m ∧ v12 = .int .i64 i ∧ Below w.heap.size w wr

set_option maxRecDepth 100000 in
set_option maxHeartbeats 8000000 in
theorem shift_all (l : List Nat) (v : Value) (b0 : Nat) (w : World) (h : URow w v l) (hb0 : b0 < 18446744073709551616) : Calls Try.prog 8 #[v, .int .u64 b0] w (One w (.bool true)) := by
  obtain ⟨i0, hi, hz0, hz1, hz2⟩ := info_parts info_u64
  obtain ⟨⟨A, c, rfl, hk⟩, hs⟩ := h
  have HL : Hid (∀ j x : Nat, l[j]? = some x → x < 18446744073709551616 ∧ ∃ ad : Addr, A = some ad ∧ ad.block < w.heap.size ∧ w.cell? (ad.add j) = some (.int .u64 x)) := fun j x hx => ⟨hs x (List.mem_of_getElem? hx), hk j x hx⟩
  have HS := Lib.hid shown_calls
  clear hk hs
  by_cases hlen : 100 < l.length
  · have j1 : (100 : Int) < (l.length : Int) := by omega
    go_enter Try.func8, Try.ntmps8
    go_wp2_with fail
    refine (HS.out _).mono ?_
    rintro e w1 ⟨rfl, b1⟩
    have HB := Lib.hid b1
    clear b1
    go_wp2
    go_ret
    exact ⟨rfl, HB.out⟩
  have j1 : ¬ (100 : Int) < (l.length : Int) := by omega
  obtain ⟨by_, hby⟩ : ∃ b, b0 % 1099511627776 = b := ⟨_, rfl⟩
  have hbI : (b0 : Int) % 1099511627776 = (by_ : Int) := by omega
  have hbs : by_ < 1099511627776 := by omega
  have hbs' : (by_ : Int) < 1099511627776 := by omega
  have hb0' : (0 : Int) ≤ (by_ : Int) := by omega
  have HBy := Lib.hid (And.intro hbs (And.intro hbs' hb0'))
  clear hby hbs hbs' hb0'
  go_enter Try.func8, Try.ntmps8
  go_wp2_with fail
  refine (HS.out _).mono ?_
  rintro e w1 ⟨rfl, b1⟩
  have HB1 := Lib.hid b1
  have hsz1 := b1.size
  clear b1
  go_wp2
  simp only [hbI]
  clear hbI
  go_loopg [6, 7, 8] l.length (fun k v6 v7 v8 wr => ShiftGo w1 l by_ k v6 v7 v8 wr)
  case atStart => exact ⟨0, rfl, rfl, World.ownsRow_nil _ _ _ _, World.ownsRow_nil _ _ _ _, (fun q q' h => by simp [Value.ownBlock] at h), Below.refl _ _⟩
  case round =>
    obtain ⟨i, hk, rfl, hr6, hr7, hne, hB⟩ := hrel
    obtain ⟨A6, c6, rfl⟩ := own_slice hr6
    obtain ⟨A7, c7, rfl⟩ := own_slice hr7
    have HRL := Lib.hid (show (red (l.take i)).length = min i l.length by simp [red])
    by_cases hlt : i < l.length
    · obtain ⟨n1, hn1⟩ : ∃ n1, l[i]? = some n1 := ⟨_, List.getElem?_eq_getElem hlt⟩
      obtain ⟨hn64, ad, rfl, hadb, hcell⟩ := HL.out i n1 hn1
      have s1 : (i : Int) < (l.length : Int) := by omega
      have s2 : (0 : Int) ≤ (i : Int) := by omega
      have hc1 : wr.cell? (ad.add i) = some (.int .u64 n1) := (hB.cell (p := ad.add i) (by rw [addr_block]; omega)).trans ((HB1.out.cell (p := ad.add i) (by rw [addr_block]; exact hadb)).trans hcell)
      obtain ⟨m, hm⟩ : ∃ m, n1 % 1099511627776 + 1 = m := ⟨_, rfl⟩
      have hmI : (n1 : Int) % 1099511627776 + 1 = (m : Int) := by omega
      have hms : (m : Int) ≤ 1099511627776 := by omega
      have hms0 : (0 : Int) ≤ (m : Int) := by omega
      obtain ⟨s, hsum⟩ : ∃ s, m + by_ = s := ⟨_, rfl⟩
      have hsI : (m : Int) + (by_ : Int) = (s : Int) := by omega
      have hsw : IntKind.u64.wrap ((m : Int) + (by_ : Int)) = (s : Int) := by rw [IntKind.wrap_u64]; have := HBy.out.1; omega
      have hsw2 : IntKind.u64.wrap (s : Int) = (s : Int) := by rw [IntKind.wrap_u64]; have := HBy.out.1; omega
      have HSum := Lib.hid hsum
      have hfin : Hid (∀ v2 v2' w6 w7, w6.ownsRow w1.heap.size 30 1 v2 ((red (l.take i)).length + 1) (nums (red (l.take i)) ++ [.int .u64 m]) → (wr.alloc (.cells #[.int .u64 m] 30)).grownBy w6 (Value.slice A6 (red (l.take i)).length c6).ownBlock → (v2.ownBlock = (Value.slice A6 (red (l.take i)).length c6).ownBlock ∨ v2.ownBlock = some (wr.alloc (.cells #[.int .u64 m] 30)).heap.size) →
          w7.ownsRow w1.heap.size 30 1 v2' ((red (l.take i)).length + 1) (nums ((red (l.take i)).map (· + by_)) ++ [.int .u64 s]) → (w6.alloc (.cells #[.int .u64 s] 30)).grownBy w7 (Value.slice A7 (red (l.take i)).length c7).ownBlock → (v2'.ownBlock = (Value.slice A7 (red (l.take i)).length c7).ownBlock ∨ v2'.ownBlock = some (w6.alloc (.cells #[.int .u64 s] 30)).heap.size) → ShiftGo w1 l by_ (gk - 1) v2 v2' (.int .i64 ((i + 1 : Nat) : Int)) w7) := fun v2 v2' w6 w7 k1 k2 k3 k4 k5 k6 => by
        have ht := red_take hn1
        rw [hm] at ht
        have hr7' := row_other hr7 k2 hne
        have hne2 := apart_then hr7 k3 hne
        have hne2' : ∀ q q', (Value.slice A7 (red (l.take i)).length c7).ownBlock = some q → v2.ownBlock = some q' → q ≠ q' := fun q q' a b e => hne2 q' q b a e.symm
        have k1' := row_other k1 k5 hne2'
        have hne3 := apart_then k1 k6 hne2'
        have hg2 := grow_trans (World.grownBy_alloc wr (.cells #[.int .u64 m] 30) _) k2
        have hg3 := grow_trans (World.grownBy_alloc w6 (.cells #[.int .u64 s] 30) _) k5
        have hB6 := hB.grown hg2 hB.size (fun q e => (hr6.lt q e).1)
        have hB7 := hB6.grown hg3 hB6.size (fun q e => (hr7.lt q e).1)
        refine ⟨i + 1, by omega, rfl, ?_, ?_, fun q q' a b e => hne3 q' q b a e.symm, hB7⟩
        · rw [ht]; simpa [nums] using k1'
        · rw [ht]; rw [← hsum] at k4; simpa [nums] using k4
      have HR6 := Lib.hid hr6
      have HR7 := Lib.hid (And.intro hr7 hne)
      have hml := Lib.hid (show (red (l.take i)).length ≤ 100 by have := HRL.out; omega)
      have hmm := Lib.hid (show gk - 1 < gk by omega)
      have HSz := Lib.hid hB.size
      clear hcell hadb hr6 hr7 hne hB hk hn1 hm hsum
      go_wp2_with (at_builtin; first
        | (refine wpList_append_own_at _ rfl _ _ 66 rfl w1.heap.size 30 i0 _ 1 8 Try.underlying66 hi hz0 hz1 hz2 rfl (by decide) _ _ _ rfl (HR6.out.alloc _) ⟨wr.heap.size, 0, none⟩ 1 1 [.int .u64 m] rfl rfl (cell_one_new _ _ _) (by simp [Value.oneCell']) (by have := hml.out; unfold maxLen; omega) (by have := hml.out; omega) (by have := HSz.out; simp; omega) ?_; intro v2 w6 hown6 hgrow6 hnil6 hat6; have H6 := Lib.hid (And.intro hown6 (And.intro hgrow6 hat6)); have HR7' := Lib.hid (row_other HR7.out.1 hgrow6 HR7.out.2); clear hown6 hgrow6 hnil6 hat6)
        | (refine wpList_append_own_at _ rfl _ _ 66 rfl w1.heap.size 30 i0 _ 1 8 Try.underlying66 hi hz0 hz1 hz2 rfl (by decide) _ _ _ rfl (HR7'.out.alloc _) ⟨w6.heap.size, 0, none⟩ 1 1 [.int .u64 s] rfl rfl (cell_one_new _ _ _) (by simp [Value.oneCell']) (by have := hml.out; unfold maxLen; omega) (by have := hml.out; omega) (by have := HSz.out; have := H6.out.2.1.size; simp at this; simp; omega) ?_; intro v2' w7 hown7 hgrow7 hnil7 hat7; have HF := Lib.hid (hfin.out v2 v2' w6 w7 H6.out.1 H6.out.2.1 H6.out.2.2 hown7 hgrow7 hat7); clear hown7 hgrow7 hnil7 hat7))
      go_roundg (gk - 1)
      case measure => exact hmm.out
      case rel => simpa using HF.out
    · have s1 : ¬ ((i : Int) < (l.length : Int)) := by omega
      have e : l.take i = l := List.take_of_length_le (by omega)
      rw [e] at hr6 hr7 ⊢
      have hrl : (red l).length = l.length := by simp [red]
      have hrl2 : ((red l).map (· + by_)).length = (red l).length := by simp
      have hsm := red_pos l
      have hb1 := HBy.out.1
      have hU6 : URow wr (.slice A6 (red l).length c6) (red l) := URow.of_own hr6 (fun x hx => by have := hsm x hx; omega)
      have hU7 : URow wr (.slice A7 (red l).length c7) ((red l).map (· + by_)) := URow.of_own (by rw [hrl2]; exact hr7) (fun x hx => by
        obtain ⟨y, hy, rfl⟩ := List.mem_map.1 hx
        have := hsm y hy
        show y + by_ < _
        omega)
      have HA6 : Hid (Calls Try.prog 45 #[.slice A6 (red l).length c6] wr fun e w' => ∃ v, e = .returned v ∧ w'.ownsRow wr.heap.size 30 1 v (allS (red l)).length (nums (allS (red l))) ∧ Below wr.heap.size wr w') := All_calls (red l) _ wr hU6 (by omega)
      have HA7 := Lib.hid (fun (V : World) (hV : Below wr.heap.size wr V) => All_calls ((red l).map (· + by_)) _ V (hU7.below hV) (by rw [hrl2]; omega))
      have hsh := allS_shift (red l) by_ (fun x hx => (hsm x hx).1)
      have hmem : ∀ x ∈ allS (red l), x ≤ 1099511627776 := fun x hx => by
        have : x ∈ red l := by
          suffices ∀ (l L : List Nat) (x : Nat), x ∈ l.foldl stepS L → x ∈ L ∨ x ∈ l by
            rcases this _ _ _ hx with h | h
            · simp at h
            · exact h
          intro l
          induction l with
          | nil => intro L x hx; exact .inl hx
          | cons a l ih =>
            intro L x hx
            rcases ih _ _ hx with h | h
            · unfold stepS at h
              split at h
              · exact .inl h
              · rcases List.mem_append.1 h with h | h
                · exact .inl h
                · simp at h; exact .inr (by simp [h])
            · exact .inr (List.mem_cons_of_mem _ h)
        exact (hsm x this).2
      have HA7' : Hid (∀ (V : World), Below wr.heap.size wr V → Calls Try.prog 45 #[.slice A7 (red l).length c7] V fun e w' => ∃ v, e = .returned v ∧ w'.ownsRow V.heap.size 30 1 v (allS (red l)).length (nums ((allS (red l)).map (· + by_))) ∧ Below V.heap.size V w') := fun V hV => by
        refine (HA7.out V hV).mono ?_
        rintro e w' ⟨v, rfl, h1, h2⟩
        rw [hsh] at h1
        exact ⟨v, rfl, by simpa using h1, h2⟩
      clear HA7
      have hlL := allS_len (red l)
      have HBw := Lib.hid (HB1.out.trans (hB.mono HB1.out.size))
      generalize (red l).length = rl at *
      generalize allS (red l) = L at *
      have HMem := Lib.hid hmem
      have hL100 : (L.length : Int) ≤ 100 := by omega
      clear hr6 hr7 hne hB hk hrl2 hsm hU6 hU7 hsh HRL hb1 hmem hrl hlL
      go_wp2_with fail
      refine HA6.out.mono ?_
      rintro e w2 ⟨v10, rfl, hx10, b2⟩
      have HX10 := Lib.hid hx10
      have HB2 := Lib.hid b2
      clear hx10 b2
      go_wp2_with fail
      refine (HA7'.out _ HB2.out).mono ?_
      rintro e w3 ⟨v11, rfl, hx11, b3⟩
      have hU10 : URow w3 v10 L := (URow.of_own HX10.out (fun x hx => by have := HMem.out x hx; omega)).below b3
      have hU11 : URow w3 v11 (L.map (· + by_)) := URow.of_own (by rw [List.length_map]; exact hx11) (fun x hx => by
        obtain ⟨y, hy, rfl⟩ := List.mem_map.1 hx
        have := HMem.out y hy
        have := HBy.out.1
        show y + by_ < _
        omega)
      obtain ⟨⟨A10, c10, rfl, hk10⟩, _⟩ := hU10
      obtain ⟨⟨A11, c11, rfl, hk11⟩, _⟩ := hU11
      rw [List.length_map]
      have HK : Hid (∀ j x : Nat, L[j]? = some x → ∃ ad bd : Addr, A10 = some ad ∧ A11 = some bd ∧ ad.block < w3.heap.size ∧ bd.block < w3.heap.size ∧ w3.cell? (ad.add j) = some (.int .u64 x) ∧ w3.cell? (bd.add j) = some (.int .u64 (x + by_ : Nat)) ∧ x ≤ 1099511627776) := fun j x hx => by
        obtain ⟨ad, e1, p1, p2⟩ := hk10 j x hx
        obtain ⟨bd, e2, q1, q2⟩ := hk11 j (x + by_) (by simp [hx])
        exact ⟨ad, bd, e1, e2, p1, q1, p2, q2, HMem.out x (List.mem_of_getElem? hx)⟩
      have HB3 : Hid (Below w.heap.size w w3) := (HBw.out.trans ((HB2.out.trans (b3.mono HB2.out.size)).mono HBw.out.size))
      clear hx11 b3 hk10 hk11 HX10 HB2 HA6 HA7' HMem HBw
      go_wp2
      go_loopg [12] L.length (fun k v12 wr => ShiftEnd w3 L.length k v12 wr)
      case atStart => exact ⟨0, by omega, rfl, Below.refl _ _⟩
      case round =>
        obtain ⟨j, hk, rfl, hB⟩ := hrel
        by_cases hlt2 : j < L.length
        · obtain ⟨x, hx⟩ : ∃ x, L[j]? = some x := ⟨_, List.getElem?_eq_getElem hlt2⟩
          obtain ⟨ad, bd, rfl, rfl, p1, q1, p2, q2, hxs⟩ := HK.out j x hx
          have c1 : wr.cell? (ad.add j) = some (.int .u64 x) := (hB.cell (p := ad.add j) (by rw [addr_block]; exact p1)).trans p2
          obtain ⟨s, hsum⟩ : ∃ s, x + by_ = s := ⟨_, rfl⟩
          rw [hsum] at q2
          have c2 : wr.cell? (bd.add j) = some (.int .u64 s) := (hB.cell (p := bd.add j) (by rw [addr_block]; exact q1)).trans q2
          have hb1 := HBy.out.1
          have hsI : (x : Int) + (by_ : Int) = (s : Int) := by omega
          have hsw : IntKind.u64.wrap ((x : Int) + (by_ : Int)) = (s : Int) := by rw [IntKind.wrap_u64]; omega
          have hsw2 : IntKind.u64.wrap (s : Int) = (s : Int) := by rw [IntKind.wrap_u64]; omega
          have t1 : (j : Int) < (L.length : Int) := by omega
          have t2 : (0 : Int) ≤ (j : Int) := by omega
          have hfin : Hid (ShiftEnd w3 L.length (gk - 1) (.int .i64 ((j + 1 : Nat) : Int)) wr.drew) := ⟨j + 1, by omega, rfl, below_drewN hB 1⟩
          have hm := Lib.hid (show gk - 1 < gk by omega)
          clear hB hk hx p1 q1 p2 q2 hxs hsum hb1
          go_wp2
          go_region_held3 (fun w' => w'.cell? (ad.add j) = some (.int .u64 x) ∧ w'.cell? (bd.add j) = some (.int .u64 s)) (go_keep) (fail)
          go_wp2
          go_roundg (gk - 1)
          case measure => exact hm.out
          case rel => simpa using hfin.out
        · have t1 : ¬ ((j : Int) < (L.length : Int)) := by omega
          have HBf := Lib.hid (HB3.out.trans (hB.mono HB3.out.size))
          clear hB hk
          go_wp2
          go_ret
          exact ⟨rfl, HBf.out⟩

end Go.Proofs.Ytfbkebdlioibpaa.L5
