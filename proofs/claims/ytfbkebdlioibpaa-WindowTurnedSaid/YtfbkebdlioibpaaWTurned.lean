/- The law WindowTurned: for all numbers, and orders, it returns true. -/
import Derived.Test.YtfbkebdlioibpaaWSame
import Derived.Deep.RegionLaw
import Derived.Laws.AppendOwn
import Derived.Deep.Cut
import Derived.ChangeSlices
namespace Go.Proofs.Ytfbkebdlioibpaa.L5
open Go.ChangeShapes Go.WideShapes Go.ChangeAt Go.RowKit

theorem mem_foldl (l : List Nat) : ∀ (L : List Nat) (x : Nat), x ∈ l.foldl stepS L → x ∈ L ∨ x ∈ l := by
  induction l with
  | nil => intro L x hx; exact .inl hx
  | cons a l ih =>
    intro L x hx
    rcases ih _ _ hx with h | h
    · unfold stepS at h
      split at h
      · exact .inl h
      · rcases List.mem_append.1 h with h | h
        · exact .inl h
        · simp at h; exact .inr (by simp [h])
    · exact .inr (List.mem_cons_of_mem _ h)
/-- Numbers within the width, each once: all are let in. -/
theorem foldl_within (a : Nat) (l : List Nat) : ∀ L : List Nat, (∀ x ∈ L, a < x ∧ x ≤ a + 64) → (∀ x ∈ l, a < x ∧ x ≤ a + 64) → (L ++ l).Nodup → l.foldl stepS L = L ++ l := by
  induction l with
  | nil => intro L _ _ _; simp
  | cons n l ih =>
    intro L h1 h2 h3
    have hn := h2 n (by simp)
    have hnL : n ∉ L := fun h => by
      rw [List.nodup_append] at h3
      exact h3.2.2 n h n (by simp) rfl
    have ht : topL L ≤ a + 64 := by
      rcases topL_mem L with e | e
      · omega
      · exact (h1 _ e).2
    have e : stepS L n = L ++ [n] := by
      unfold stepS
      rw [if_neg]
      unfold seenS
      rw [decide_eq_true_iff]
      rintro (h | h | h)
      · omega
      · exact hnL h
      · omega
    rw [List.foldl_cons, e, ih]
    · simp
    · intro x hx
      rcases List.mem_append.1 hx with hx | hx
      · exact h1 x hx
      · simp at hx; rw [hx]; exact hn
    · exact fun x hx => h2 x (List.mem_cons_of_mem _ hx)
    · simpa using h3
theorem foldl_again (l L : List Nat) (h : ∀ x ∈ l, x ∈ L) : l.foldl stepS L = L := by
  induction l with
  | nil => rfl
  | cons n l ih =>
    have e : stepS L n = L := by
      unfold stepS
      rw [if_pos]
      unfold seenS
      rw [decide_eq_true_iff]
      exact .inr (.inl (h n (by simp)))
    rw [List.foldl_cons, e]
    exact ih (fun x hx => h x (List.mem_cons_of_mem _ hx))
theorem allS_within {a : Nat} {l : List Nat} (h : ∀ x ∈ l, a < x ∧ x ≤ a + 64) (hd : l.Nodup) : allS l = l := by
  have := foldl_within a l [] (by simp) h (by simpa using hd)
  simpa [allS] using this
theorem allS_twice {a : Nat} {l : List Nat} (h : ∀ x ∈ l, a < x ∧ x ≤ a + 64) (hd : l.Nodup) : allS (l ++ l) = l := by
  have e := allS_within h hd
  unfold allS at e ⊢
  rw [List.foldl_append, e]
  exact foldl_again l l (fun x hx => hx)

/-- append onto a slice that the call owns, at a step of a region that draws its order. -/
theorem step_append_owned {P : Program} {w : World} {ops : Array Oper} {o : Oper} {a : Act} {K : Act → World → Prop} {Q : Exit → Act → World → Prop} {E : Prop} (hgd : o.guard = none) (s x : Operand) (t : TypeId)
    (ho : o.op = .call { callee := .builtin .append, args := #[s, x], argTypes := #[t, t] })
    (base : Nat) (e : TypeId) (i : TypeInfo) (z : Value) (size bytes : Nat) (ht : P.underlying t = some (.slice e)) (hi : P.info? e = some i) (hz : i.zero = some z)
    (hsize : i.size = size) (hby : i.bytes = bytes) (hzs : z.cells.size = size) (hsz : 0 < size)
    (v : Value) (n : Nat) (xs : List Value) (hs : a.eval s = v) (hown : w.ownsRow base e size v n xs)
    (ad : Addr) (m c : Nat) (news : List Value) (hx : a.eval x = .slice (some ad) m c) (hl : news.length = m * size) (hnews : ∀ j u, news[j]? = some u → w.cell? (ad.add j) = some u) (h1 : ∀ u ∈ news, u.oneCell' = true)
    (h63 : n + m ≤ maxLen) (hbytes : (n + m) * bytes ≤ 140737488355328) (hbase : base ≤ w.heap.size)
    (h : ∀ v' w', w'.ownsRow base e size v' (n + m) (xs ++ news) → w.grownBy w' v.ownBlock → K (a.put o.dst v') w') :
    if Region.wanted o (yielded ops a.tmps) = true then Oper.wp P o a w K Q else E := by
  have hw : Region.wanted o (yielded ops a.tmps) = true := by simp [Region.wanted, hgd]
  rw [if_pos hw]
  obtain ⟨v', w', hr, h2, h3, _⟩ := run_append_own (P := P) w base t o.type e i z size bytes ht hi hz hsize hby hzs hsz v n xs hown ad m c news hl hnews h1 h63 hbytes hbase
  unfold Oper.wp execOp
  simp only [ho, resolve, invoke, builtin, Sem.run_bind, Sem.run_pure, Result.andThen_ok, List.map_toArray, List.map_cons, List.map_nil, hs, hx, hr]
  exact h v' w' h2 h3

theorem row_keep {wr w6 : World} {B : Nat} {e : TypeId} {n : Nat} {v v' : Value} {xs : List Value} {o : Obj} (h : wr.ownsRow B e 1 v' n xs) (hg : (wr.alloc o).grownBy w6 v.ownBlock) (hne : ∀ q q', v'.ownBlock = some q → v.ownBlock = some q' → q ≠ q') : w6.ownsRow B e 1 v' n xs := by
  refine own_same h (fun q e => ?_)
  have hlt := (h.lt q e).2
  have hg2 := grow_trans (World.grownBy_alloc wr o _) hg
  exact hg2.block q hlt (fun e2 => hne q q e e2.symm rfl)
theorem add_zero_at (g j : Nat) : ((⟨g, 0, none⟩ : Addr).add j) = ⟨g, j, none⟩ := by
  simp [Addr.add]
  omega
theorem add_off_at (g i j : Nat) : ((⟨g, i, none⟩ : Addr).add j) = ⟨g, i + j, none⟩ := by
  simp [Addr.add]
theorem nums_one (zs : List Nat) : ∀ u ∈ nums zs, u.oneCell' = true := fun u hu => by
  obtain ⟨x, _, rfl⟩ := List.mem_map.1 hu
  simp [Value.oneCell']
/-- append onto a slice that the call owns, at an operation whose guard stands. -/
theorem wpList_append_wanted {P : Program} {w : World} {ops : Array Oper} {rest : List Oper} {o : Oper} {a : Act} {Q : Exit → Act → World → Prop} (hw : Region.wanted o (yielded ops a.tmps) = true) (s x : Operand) (t : TypeId)
    (ho : o.op = .call { callee := .builtin .append, args := #[s, x], argTypes := #[t, t] })
    (base : Nat) (e : TypeId) (i : TypeInfo) (z : Value) (size bytes : Nat) (ht : P.underlying t = some (.slice e)) (hi : P.info? e = some i) (hz : i.zero = some z)
    (hsize : i.size = size) (hby : i.bytes = bytes) (hzs : z.cells.size = size) (hsz : 0 < size)
    (v : Value) (n : Nat) (xs : List Value) (hs : a.eval s = v) (hown : w.ownsRow base e size v n xs)
    (ad : Addr) (m c : Nat) (news : List Value) (hx : a.eval x = .slice (some ad) m c) (hl : news.length = m * size) (hnews : ∀ j u, news[j]? = some u → w.cell? (ad.add j) = some u) (h1 : ∀ u ∈ news, u.oneCell' = true)
    (h63 : n + m ≤ maxLen) (hbytes : (n + m) * bytes ≤ 140737488355328) (hbase : base ≤ w.heap.size)
    (h : ∀ v' w', w'.ownsRow base e size v' (n + m) (xs ++ news) → w.grownBy w' v.ownBlock → wpList P ops Q rest (a.put o.dst v') w') :
    wpList P ops Q (o :: rest) a w := by
  refine wpList_step fun K hK => ?_
  rw [if_pos hw]
  obtain ⟨v', w', hr, h2, h3, _⟩ := run_append_own (P := P) w base t o.type e i z size bytes ht hi hz hsize hby hzs hsz v n xs hown ad m c news hl hnews h1 h63 hbytes hbase
  unfold Oper.wp execOp
  simp only [ho, resolve, invoke, builtin, Sem.run_bind, Sem.run_pure, Result.andThen_ok, List.map_toArray, List.map_cons, List.map_nil, hs, hx, hr]
  exact hK _ _ (h v' w' h2 h3)

/-- A row of ints, as it lies in memory. -/
def IRow (w : World) (A : Option Addr) (n : Nat) : Prop := ∀ j, j < n → ∃ (ad : Addr) (x : Int), A = some ad ∧ ad.block < w.heap.size ∧ w.cell? (ad.add j) = some (.int .i64 x) ∧ -9223372036854775808 ≤ x ∧ x ≤ 9223372036854775807
def lefts (a n : Nat) : List Nat := (List.range n).map (fun i => a + 1 + i)
theorem lefts_next (a n : Nat) : lefts a (n + 1) = lefts a n ++ [a + 1 + n] := by simp [lefts, List.range_succ]
theorem lefts_len (a n : Nat) : (lefts a n).length = n := by simp [lefts]
theorem lefts_mem {a n x : Nat} (h : x ∈ lefts a n) : a < x ∧ x ≤ a + n := by
  obtain ⟨i, hi, rfl⟩ := List.mem_map.1 h
  rw [List.mem_range] at hi
  show a < a + 1 + i ∧ a + 1 + i ≤ a + n
  omega
theorem lefts_nodup (a n : Nat) : (lefts a n).Nodup := by
  induction n with
  | zero => simp [lefts]
  | succ n ih =>
    rw [lefts_next, List.nodup_append]
    refine ⟨ih, by simp, fun x hx y hy e => ?_⟩
    have := (lefts_mem hx).2
    simp at hy
    omega
def TurnA (w : World) (a n : Nat) (k : Nat) (v9 v10 : Value) (wr : World) : Prop :=
  ∃ i : Nat, k + i = n ∧ v10 = .int .i64 i ∧ wr.ownsRow w.heap.size 30 1 v9 i (nums (lefts a i)) ∧ Below w.heap.size w wr
def TurnB (w : World) (a n : Nat) (k : Nat) (v9 v11 v12 : Value) (wr : World) : Prop :=
  ∃ (i : Nat) (done ls : List Nat), k = ls.length ∧ i + ls.length = n ∧ v12 = .int .i64 i ∧ (done ++ ls).Perm (lefts a n) ∧ wr.ownsRow w.heap.size 30 1 v9 ls.length (nums ls) ∧ wr.ownsRow w.heap.size 30 1 v11 done.length (nums done) ∧ (∀ q q', v9.ownBlock = some q → v11.ownBlock = some q' → q ≠ q') ∧ Below w.heap.size w wr

/-- One more is taken out. -/
theorem turn_next {w1 w6 w4 w5 : World} {a n t at_ : Nat} {done ls : List Nat} {x : Nat} {v11 v4 v5 : Value} (hx : ls[at_]? = some x) (hk : t + ls.length = n) (hperm : (done ++ ls).Perm (lefts a n)) (h11 : w6.ownsRow w1.heap.size 30 1 v11 (done.length + 1) (nums done ++ [.int .u64 x])) (hB : Below w1.heap.size w1 w6)
    (k4 : w4.ownsRow w6.heap.size 30 1 v4 at_ (nums (ls.take at_))) (g4 : (w6.drew.alloc (.cells #[] 30)).grownBy w4 (some w6.heap.size)) (k5 : w5.ownsRow w6.heap.size 30 1 v5 (at_ + (ls.length - (at_ + 1))) (nums (ls.take at_) ++ nums (ls.drop (at_ + 1)))) (g5 : w4.grownBy w5 v4.ownBlock) :
    TurnB w1 a n (ls.length - 1) v5 v11 (.int .i64 ((t + 1 : Nat) : Int)) w5 := by
  have hat := (List.getElem?_eq_some_iff.1 hx).1
  have hB6 : Below w6.heap.size w6 (w6.drew.alloc (.cells #[] 30)) := (below_drewN (Below.refl w6.heap.size w6) 1).alloc (Nat.le_refl _) _
  have hB4 : Below w6.heap.size w6 w4 := hB6.grown g4 hB6.size (fun q e => by cases e; exact Nat.le_refl _)
  have hB5 : Below w6.heap.size w6 w5 := hB4.grown g5 hB4.size (fun q e => (k4.lt q e).1)
  have hsz := hB.size
  have hls : (ls.take at_ ++ ls.drop (at_ + 1)).length = ls.length - 1 := by simp; omega
  have hsplit : ls = ls.take at_ ++ x :: ls.drop (at_ + 1) := by
    have h1 := (List.take_append_drop at_ ls).symm
    have h2 : ls.drop at_ = x :: ls.drop (at_ + 1) := by
      rw [List.drop_eq_getElem_cons hat]
      congr 1
      have := (List.getElem?_eq_some_iff.1 hx).2
      exact this
    rw [h2] at h1
    exact h1
  refine ⟨t + 1, done ++ [x], ls.take at_ ++ ls.drop (at_ + 1), hls.symm, by omega, rfl, ?_, ?_, ?_, fun q q' e1 e2 e => ?_, hB.trans (hB5.mono hsz)⟩
  · refine List.Perm.trans ?_ hperm
    rw [List.append_assoc]
    refine List.Perm.append_left done ?_
    conv => rhs; rw [hsplit]
    have := (List.perm_middle (a := x) (l₁ := ls.take at_) (l₂ := ls.drop (at_ + 1))).symm
    simpa using this
  · have := own_base k5 hsz
    rw [hls]
    have e3 : at_ + (ls.length - (at_ + 1)) = ls.length - 1 := by omega
    rw [e3] at this
    simpa [nums] using this
  · have := own_below h11 hB5
    simpa [nums] using this
  · have h1 := (k5.lt q e1).1
    have h2 := (h11.lt q' e2).2
    omega

set_option maxRecDepth 100000 in
set_option maxHeartbeats 8000000 in
theorem turned_all (f0 : Nat) (c1 : Int) (A : Option Addr) (no c : Nat) (w : World) (h : IRow w A no) (hno : no ≤ maxLen) (hf0 : f0 < 18446744073709551616) (hc1 : -9223372036854775808 ≤ c1 ∧ c1 ≤ 9223372036854775807) : Calls Try.prog 11 #[.int .u64 f0, .int .i64 c1, .slice A no c] w (One w (.bool true)) := by
  obtain ⟨i0, hi, hz0, hz1, hz2⟩ := info_parts info_u64
  have HO := Lib.hid h
  have HS := Lib.hid shown_calls
  unfold maxLen at hno
  clear h
  by_cases hlen : 100 < no
  · have j1 : (100 : Int) < (no : Int) := by omega
    go_enter Try.func11, Try.ntmps11
    go_wp2_with fail
    refine (HS.out _).mono ?_
    rintro e w1 ⟨rfl, b1⟩
    have HB := Lib.hid b1
    clear b1
    go_wp2
    go_ret
    exact ⟨rfl, HB.out⟩
  have j1 : ¬ (100 : Int) < (no : Int) := by omega
  have HP : Hid (∀ V : World, Calls Try.prog 46 #[.int .i64 c1, .int .i64 64] V fun e w' => e = .returned (.int .i64 (pickN c1 64)) ∧ V = w') := fun V => pick_calls c1 64 hc1.1 hc1.2 (by omega) (by omega) V
  have hpl := pickN_lt c1 64 (by omega)
  generalize pickN c1 64 = kk at *
  obtain ⟨n, hn⟩ : ∃ n, 1 + kk = n := ⟨_, rfl⟩
  have hnI : (1 : Int) + (kk : Int) = (n : Int) := by omega
  have HN := Lib.hid (show 1 ≤ n ∧ n ≤ 64 by omega)
  obtain ⟨a, ha⟩ : ∃ a, f0 % 1099511627776 = a := ⟨_, rfl⟩
  have haI : (f0 : Int) % 1099511627776 = (a : Int) := by omega
  have HA := Lib.hid (show a < 1099511627776 by omega)
  have HKK := Lib.hid hpl
  have hnb1 : (0 : Int) ≤ (n : Int) := by omega
  have hnb2 : (n : Int) ≤ 64 := by omega
  clear hc1 hpl hn ha hno
  go_enter Try.func11, Try.ntmps11
  go_wp2_with fail
  refine (HS.out _).mono ?_
  rintro e w1 ⟨rfl, b1⟩
  have HB1 := Lib.hid b1
  have hsz1 := b1.size
  clear b1
  go_wp2_with fail
  refine (HP.out _).mono ?_
  rintro e w2 ⟨rfl, rfl⟩
  go_wp2
  clear hnI hnb1 hnb2
  go_loopg [9, 10] n (fun k v9 v10 wr => TurnA w1 a n k v9 v10 wr)
  case atStart => exact ⟨0, by omega, rfl, World.ownsRow_nil _ _ _ _, Below.refl _ _⟩
  case round =>
    obtain ⟨i, hk, rfl, hr9, hB⟩ := hrel
    obtain ⟨A9, c9, rfl⟩ := own_slice hr9
    by_cases hlt : i < n
    · have hn64 := HN.out.2
      have ha40 := HA.out
      have s1 : (i : Int) < (n : Int) := by omega
      have s2 : (0 : Int) ≤ (i : Int) := by omega
      have s3 : (i : Int) < 64 := by omega
      obtain ⟨x, hx⟩ : ∃ x, a + 1 + i = x := ⟨_, rfl⟩
      have hxI : (a : Int) + 1 + (i : Int) = (x : Int) := by omega
      have hw1 : IntKind.u64.wrap ((a : Int) + 1) = (a : Int) + 1 := by rw [IntKind.wrap_u64]; omega
      have hw2 : IntKind.u64.wrap ((a : Int) + 1 + (i : Int)) = (x : Int) := by rw [IntKind.wrap_u64]; omega
      have hw3 : IntKind.u64.wrap (i : Int) = (i : Int) := by rw [IntKind.wrap_u64]; omega
      have hw4 : IntKind.u64.wrap (x : Int) = (x : Int) := by rw [IntKind.wrap_u64]; omega
      have hfin : Hid (∀ v2 w6, w6.ownsRow w1.heap.size 30 1 v2 (i + 1) (nums (lefts a i) ++ [.int .u64 x]) → (wr.alloc (.cells #[.int .u64 x] 30)).grownBy w6 (Value.slice A9 i c9).ownBlock → TurnA w1 a n (gk - 1) v2 (.int .i64 ((i + 1 : Nat) : Int)) w6) := fun v2 w6 k1 k2 => by
        have hg2 := grow_trans (World.grownBy_alloc wr (.cells #[.int .u64 x] 30) _) k2
        refine ⟨i + 1, by omega, rfl, ?_, hB.grown hg2 hB.size (fun q e => (hr9.lt q e).1)⟩
        rw [lefts_next, hx]
        simpa [nums] using k1
      have HR9 := Lib.hid hr9
      have hmm := Lib.hid (show gk - 1 < gk by omega)
      have HI := Lib.hid (show i ≤ 64 by omega)
      have HSz := Lib.hid hB.size
      clear hr9 hB hk hx hn64 ha40 hlt
      go_wp2_with (at_builtin; refine wpList_append_own_at _ rfl _ _ 66 rfl w1.heap.size 30 i0 _ 1 8 Try.underlying66 hi hz0 hz1 hz2 rfl (by decide) _ _ _ rfl (HR9.out.alloc _) ⟨wr.heap.size, 0, none⟩ 1 1 [.int .u64 x] rfl rfl (cell_one_new _ _ _) (by simp [Value.oneCell']) (by have := HI.out; unfold maxLen; omega) (by have := HI.out; omega) (by have := HSz.out; simp; omega) ?_; intro v2 w6 hown6 hgrow6 hnil6 hat6; have HF := Lib.hid (hfin.out v2 w6 hown6 hgrow6); clear hown6 hgrow6 hnil6 hat6)
      go_roundg (gk - 1)
      case measure => exact hmm.out
      case rel => simpa using HF.out
    · have s1 : ¬ ((i : Int) < (n : Int)) := by omega
      obtain rfl : i = n := by omega
      have HR9 := Lib.hid hr9
      have HB := Lib.hid hB
      clear hr9 hB hk hlt
      go_wp2
      go_loopg [9, 11, 12] i (fun k v9 v11 v12 wr => TurnB w1 a i k v9 v11 v12 wr)
      case atStart => exact ⟨0, [], lefts a i, by rw [lefts_len], by rw [lefts_len]; omega, rfl, by simp, by rw [lefts_len]; exact HR9.out, World.ownsRow_nil _ _ _ _, (fun q q' _ h => by simp [Value.ownBlock] at h), HB.out⟩
      case round =>
        obtain ⟨t, done, ls, rfl, hk, rfl, hperm, hr9, hr11, hne, hB⟩ := hrel
        obtain ⟨A11, c11, rfl⟩ := own_slice hr11
        have hn := HN.out
        by_cases hlt : 0 < ls.length
        · rcases hr9.2 with ⟨_, h0⟩ | ⟨g9, c9, cur, rfl, hg9lo, hg9b, hcap, hcapm, _⟩
          · omega
          have hcells : ∀ j y : Nat, ls[j]? = some y → wr.cell? ⟨g9, j, none⟩ = some (.int .u64 y) := fun j y hy => by
            have hjl := (List.getElem?_eq_some_iff.1 hy).1
            rw [hr9.cellAt j (by omega)]
            simp [nums, hy]
          have hg9 := (hr9.lt g9 rfl).2
          have HX : Hid (∀ at_, at_ < ls.length → ∃ x, ls[at_]? = some x ∧ wr.cell? ⟨g9, at_, none⟩ = some (.int .u64 x)) := fun at_ h => ⟨_, List.getElem?_eq_getElem h, hcells _ _ (List.getElem?_eq_getElem h)⟩
          have HH := Lib.hid (And.intro hk (And.intro hperm (And.intro hr9 (And.intro hr11 (And.intro hne hB)))))
          have HCl := Lib.hid hcells
          have s0 : (0 : Int) < (ls.length : Int) := by omega
          have s64 : (ls.length : Int) ≤ 64 := by omega
          have HCap := Lib.hid (And.intro hcap hcapm)
          have hdl : done.length ≤ 64 := by have := hperm.length_eq; simp [lefts_len] at this; omega
          have HT := Lib.hid (show t ≤ 64 ∧ done.length ≤ 64 ∧ ls.length ≤ 64 by omega)
          have HG9 := Lib.hid (And.intro hg9lo hg9)
          have t0 : (0 : Int) ≤ (t : Int) := by omega
          have t64 : (t : Int) ≤ 64 := by omega
          clear hk hperm hr9 hr11 hne hB hcells hg9b hcap hcapm hdl hg9lo hg9 hn
          by_cases hno : no = 0
          · have n0 : ¬ (0 : Int) < (no : Int) := by omega
            obtain ⟨at_, hat0⟩ : ∃ z : Nat, (z : Int) = 0 := ⟨0, rfl⟩
            have HAt := Lib.hid (show at_ < ls.length by omega)
            clear hno hlt
            have HZ := Lib.hid hat0
            clear hat0
            go_upto_region 17 with (fail)
            rw [← HZ.out]
            obtain ⟨x, hx, hcx⟩ := HX.out at_ HAt.out
            have z0 : (0 : Int) ≤ (at_ : Int) := by omega
            have z1 : (at_ : Int) < (ls.length : Int) := by have := HAt.out; omega
            have HR11 := Lib.hid HH.out.2.2.2.1
            have HSz := Lib.hid HH.out.2.2.2.2.2.size
            go_wp2_with (at_builtin; refine wpList_append_own_at _ rfl _ _ 66 rfl w1.heap.size 30 i0 _ 1 8 Try.underlying66 hi hz0 hz1 hz2 rfl (by decide) _ _ _ rfl (HR11.out.alloc _) ⟨wr.heap.size, 0, none⟩ 1 1 [.int .u64 x] rfl rfl (cell_one_new _ _ _) (by simp [Value.oneCell']) (by have := HT.out; unfold maxLen; omega) (by have := HT.out; omega) (by have := HSz.out; simp; omega) ?_; intro v2 w6 hown6 hgrow6 hnil6 hat6; have H6 := Lib.hid (And.intro hown6 hgrow6); clear hown6 hgrow6 hnil6 hat6)
            have hr9' := row_keep HH.out.2.2.1 H6.out.2 HH.out.2.2.2.2.1
            have hg2 := grow_trans (World.grownBy_alloc wr (.cells #[.int .u64 x] 30) _) H6.out.2
            have hB6 : Below w1.heap.size w1 w6 := HH.out.2.2.2.2.2.grown hg2 HH.out.2.2.2.2.2.size (fun q e => (HR11.out.lt q e).1)
            have hg9 := (hr9'.lt g9 rfl).2
            have hc6 : ∀ j y : Nat, ls[j]? = some y → w6.cell? ⟨g9, j, none⟩ = some (.int .u64 y) := fun j y hy => by
              have hjl := (List.getElem?_eq_some_iff.1 hy).1
              rw [hr9'.cellAt j (by omega)]
              simp [nums, hy]
            have hcap := HCap.out.1
            have hcapm := HCap.out.2
            unfold maxLen at hcapm
            have hat := HAt.out
            have hl64 := HT.out.2.2
            have z3 : (at_ : Int) ≤ (ls.length : Int) := by omega
            have z4 : (at_ : Int) ≤ (c9 : Int) := by omega
            have z5 : (at_ : Int) + 1 ≤ (ls.length : Int) := by omega
            have z6 : (ls.length : Int) ≤ (c9 : Int) := by omega
            have z7 : (at_ : Int) + 1 ≤ 64 := by omega
            have z8 : (0 : Int) ≤ (at_ : Int) + 1 := by omega
            have hgw : w6.heap.size ≠ g9 := by omega
            have hlit : (w6.drew.alloc (.cells #[] 30)).ownsRow w6.heap.size 30 1 (.slice (some ⟨w6.heap.size, 0, none⟩) 0 0) 0 [] := World.ownsRow_lit (e := 30) (base := w6.heap.size) (size := 1) w6.drew #[] 0 (Nat.le_refl _) (by unfold maxLen; omega) rfl
            have hcells : ∀ j u, (nums ls)[j]? = some u → (w6.drew.alloc (.cells #[] 30)).cell? ⟨g9, j, none⟩ = some u := by
              intro j u hu
              obtain ⟨z, hz, rfl⟩ : ∃ z, ls[j]? = some z ∧ u = .int .u64 (z : Int) := by
                unfold nums at hu
                rw [List.getElem?_map, Option.map_eq_some_iff] at hu
                obtain ⟨z, hz, e⟩ := hu
                exact ⟨z, hz, e.symm⟩
              exact ((((below_drewN (Below.refl w6.heap.size w6) 1)).alloc (Nat.le_refl _) (.cells #[] 30)).cell (p := ⟨g9, j, none⟩) hg9).trans (hc6 j z hz)
            have hnt : nums (ls.take at_) = (nums ls).take at_ := by simp [nums, List.map_take]
            have hnd : nums (ls.drop (at_ + 1)) = (nums ls).drop (at_ + 1) := by simp [nums, List.map_drop]
            have hnews1 : ∀ j u, (nums (ls.take at_))[j]? = some u → (w6.drew.alloc (.cells #[] 30)).cell? ((⟨g9, 0, none⟩ : Addr).add j) = some u := by
              intro j u hu
              rw [add_zero_at]
              refine hcells j u ?_
              rw [hnt] at hu
              have hj := (List.getElem?_eq_some_iff.1 hu).1
              rw [List.getElem?_take_of_lt (by simp at hj; omega)] at hu
              exact hu
            have far : ∀ (V : World), (w6.drew.alloc (.cells #[] 30)).grownBy V (some w6.heap.size) → ∀ j u, (nums (ls.drop (at_ + 1)))[j]? = some u → V.cell? ⟨g9, at_ + 1 + j, none⟩ = some u := by
              intro V hV j u hu
              rw [hnd, List.getElem?_drop] at hu
              have h1 := hcells _ _ hu
              rw [hV.cell_far ⟨g9, at_ + 1 + j, none⟩ (by simp; omega) (by simp; omega)]
              exact h1
            have HLit := Lib.hid hlit
            have HN1 := Lib.hid hnews1
            have HFar := Lib.hid far
            have HOne := Lib.hid nums_one
            have hL1 : Hid ((nums (ls.take at_)).length = at_ * 1) := by show _ = _; simp [nums]; omega
            have hL2 : Hid ((nums (ls.drop (at_ + 1))).length = (ls.length - (at_ + 1)) * 1) := by show _ = _; simp [nums]
            have m1 : Hid (0 + at_ ≤ maxLen ∧ (0 + at_) * 8 ≤ 140737488355328 ∧ at_ + (ls.length - (at_ + 1)) ≤ maxLen ∧ (at_ + (ls.length - (at_ + 1))) * 8 ≤ 140737488355328) := ⟨by unfold maxLen; omega, by omega, by unfold maxLen; omega, by omega⟩
            have m2 : Hid (w6.heap.size ≤ (w6.drew.alloc (.cells #[] 30)).heap.size) := by show _ ≤ _; simp
            have hwr : IntKind.i64.wrap ((at_ : Int) + 1) = (at_ : Int) + 1 := by rw [IntKind.wrap_i64]; omega
            have htn : ((at_ : Int) + 1).toNat = at_ + 1 := by omega
            have HNx : Hid (∀ w4 w5 v4 v5, w4.ownsRow w6.heap.size 30 1 v4 at_ (nums (ls.take at_)) → (w6.drew.alloc (.cells #[] 30)).grownBy w4 (some w6.heap.size) → w5.ownsRow w6.heap.size 30 1 v5 (at_ + (ls.length - (at_ + 1))) (nums (ls.take at_) ++ nums (ls.drop (at_ + 1))) → w4.grownBy w5 v4.ownBlock → TurnB w1 a i (ls.length - 1) v5 v2 (.int .i64 ((t + 1 : Nat) : Int)) w5) := fun w4 w5 v4 v5 k1 k2 k3 k4 => turn_next hx HH.out.1 HH.out.2.1 H6.out.1 hB6 k1 k2 k3 k4
            have hmm := Lib.hid (show ls.length - 1 < ls.length by omega)
            clear hlit hnews1 hcells far hnt hnd hc6 hr9' hg2 hB6 hg9 hat hl64 hcx hx hcapm hcap HR11 HSz
            by_cases hce : c9 = at_ + 1
            · subst hce
              have hnil : ls.length ≤ at_ + 1 := by omega
              have HNil : Hid (nums (ls.drop (at_ + 1)) = []) := by show _ = _; rw [List.drop_of_length_le hnil]; rfl
              have z9 : (at_ : Int) ≤ (at_ : Int) + 1 := by omega
              clear hnil
              go_region_law (first
                | (refine step_append_owned rfl (.tmp 69) (.tmp 73) 66 rfl w6.heap.size 30 i0 (.int .u64 0) 1 8 Try.underlying66 hi hz0 hz1 hz2 rfl (by decide) v4 at_ (nums (ls.take at_)) (by simp [Act.eval]) X4.out.1 ⟨g9, 0, none⟩ (ls.length - (at_ + 1)) 0 (nums (ls.drop (at_ + 1))) (by simp [Act.eval] <;> omega) hL2.out (fun j u hu => by rw [HNil.out] at hu; simp at hu) (HOne.out _) m1.out.2.2.1 m1.out.2.2.2 (Nat.le_trans m2.out X4.out.2.size) ?_
                   intro v5 w5 hown5 hgrow5
                   have X5 : Hid (w5.ownsRow w6.heap.size 30 1 v5 (at_ + (ls.length - (at_ + 1))) (nums (ls.take at_) ++ nums (ls.drop (at_ + 1))) ∧ w4.grownBy w5 v4.ownBlock) := ⟨hown5, hgrow5⟩
                   clear hown5 hgrow5)
                | (refine step_append_owned rfl (.tmp 65) (.tmp 68) 66 rfl w6.heap.size 30 i0 (.int .u64 0) 1 8 Try.underlying66 hi hz0 hz1 hz2 rfl (by decide) (.slice (some ⟨w6.heap.size, 0, none⟩) 0 0) 0 [] (by simp [Act.eval]) HLit.out ⟨g9, 0, none⟩ at_ (at_ + 1) (nums (ls.take at_)) (by simp [Act.eval]) hL1.out HN1.out (HOne.out _) m1.out.1 m1.out.2.1 m2.out ?_
                   intro v4 w4 hown4 hgrow4
                   have X4 : Hid (w4.ownsRow w6.heap.size 30 1 v4 at_ (nums (ls.take at_)) ∧ (w6.drew.alloc (.cells #[] 30)).grownBy w4 (some w6.heap.size)) := ⟨by rw [Nat.zero_add] at hown4; exact hown4, hgrow4⟩
                   clear hown4 hgrow4))
              go_wp2
              go_roundg (ls.length - 1)
              case measure => exact hmm.out
              case rel => simpa using HNx.out _ _ _ _ X4.out.1 X4.out.2 X5.out.1 X5.out.2
            · go_region_law (first
                | (refine step_append_owned rfl (.tmp 69) (.tmp 73) 66 rfl w6.heap.size 30 i0 (.int .u64 0) 1 8 Try.underlying66 hi hz0 hz1 hz2 rfl (by decide) v4 at_ (nums (ls.take at_)) (by simp [Act.eval]) X4.out.1 ⟨g9, at_ + 1, none⟩ (ls.length - (at_ + 1)) (c9 - (at_ + 1)) (nums (ls.drop (at_ + 1))) (by simp [Act.eval]) hL2.out (fun j u hu => by rw [add_off_at]; exact HFar.out _ X4.out.2 j u hu) (HOne.out _) m1.out.2.2.1 m1.out.2.2.2 (Nat.le_trans m2.out X4.out.2.size) ?_
                   intro v5 w5 hown5 hgrow5
                   have X5 : Hid (w5.ownsRow w6.heap.size 30 1 v5 (at_ + (ls.length - (at_ + 1))) (nums (ls.take at_) ++ nums (ls.drop (at_ + 1))) ∧ w4.grownBy w5 v4.ownBlock) := ⟨hown5, hgrow5⟩
                   clear hown5 hgrow5)
                | (refine step_append_owned rfl (.tmp 65) (.tmp 68) 66 rfl w6.heap.size 30 i0 (.int .u64 0) 1 8 Try.underlying66 hi hz0 hz1 hz2 rfl (by decide) (.slice (some ⟨w6.heap.size, 0, none⟩) 0 0) 0 [] (by simp [Act.eval]) HLit.out ⟨g9, 0, none⟩ at_ c9 (nums (ls.take at_)) (by simp [Act.eval]) hL1.out HN1.out (HOne.out _) m1.out.1 m1.out.2.1 m2.out ?_
                   intro v4 w4 hown4 hgrow4
                   have X4 : Hid (w4.ownsRow w6.heap.size 30 1 v4 at_ (nums (ls.take at_)) ∧ (w6.drew.alloc (.cells #[] 30)).grownBy w4 (some w6.heap.size)) := ⟨by rw [Nat.zero_add] at hown4; exact hown4, hgrow4⟩
                   clear hown4 hgrow4))
              go_wp2
              go_roundg (ls.length - 1)
              case measure => exact hmm.out
              case rel => simpa using HNx.out _ _ _ _ X4.out.1 X4.out.2 X5.out.1 X5.out.2
          · have n0 : (0 : Int) < (no : Int) := by omega
            obtain ⟨r, hr⟩ : ∃ r, t % no = r := ⟨_, rfl⟩
            have hrlt : r < no := by rw [← hr]; exact Nat.mod_lt _ (by omega)
            have hrI : (t : Int) % (no : Int) = (r : Int) := by rw [← hr]; simp
            obtain ⟨od, y, rfl, ho1, ho2, ho3, ho4⟩ := HO.out r hrlt
            have hco : wr.cell? (od.add r) = some (.int .i64 y) := (HH.out.2.2.2.2.2.cell (p := od.add r) (by rw [addr_block]; omega)).trans ((HB1.out.cell (p := od.add r) (by rw [addr_block]; exact ho1)).trans ho2)
            have r0 : (0 : Int) ≤ (r : Int) := by omega
            have r1 : (r : Int) < (no : Int) := by omega
            have n1 : ((no : Int) == 0) = false := by rw [beq_eq_false_iff_ne]; omega
            have n2 : ¬ (no : Int) = 0 := by omega
            have HPk := Lib.hid (fun V => pick_calls y ls.length ho3 ho4 hlt (by have := HT.out; omega) V)
            have HAt := Lib.hid (pickN_lt y ls.length hlt)
            generalize pickN y ls.length = at_ at *
            clear hno hlt hr hrlt ho1 ho2
            go_wp2_with fail
            refine (HPk.out _).mono ?_
            rintro e w3 ⟨rfl, rfl⟩
            go_upto_region 17 with (fail)
            clear hco hrI r0 r1 HPk
            obtain ⟨x, hx, hcx⟩ := HX.out at_ HAt.out
            have z0 : (0 : Int) ≤ (at_ : Int) := by omega
            have z1 : (at_ : Int) < (ls.length : Int) := by have := HAt.out; omega
            have HR11 := Lib.hid HH.out.2.2.2.1
            have HSz := Lib.hid HH.out.2.2.2.2.2.size
            go_wp2_with (at_builtin; refine wpList_append_own_at _ rfl _ _ 66 rfl w1.heap.size 30 i0 _ 1 8 Try.underlying66 hi hz0 hz1 hz2 rfl (by decide) _ _ _ rfl (HR11.out.alloc _) ⟨wr.heap.size, 0, none⟩ 1 1 [.int .u64 x] rfl rfl (cell_one_new _ _ _) (by simp [Value.oneCell']) (by have := HT.out; unfold maxLen; omega) (by have := HT.out; omega) (by have := HSz.out; simp; omega) ?_; intro v2 w6 hown6 hgrow6 hnil6 hat6; have H6 := Lib.hid (And.intro hown6 hgrow6); clear hown6 hgrow6 hnil6 hat6)
            have hr9' := row_keep HH.out.2.2.1 H6.out.2 HH.out.2.2.2.2.1
            have hg2 := grow_trans (World.grownBy_alloc wr (.cells #[.int .u64 x] 30) _) H6.out.2
            have hB6 : Below w1.heap.size w1 w6 := HH.out.2.2.2.2.2.grown hg2 HH.out.2.2.2.2.2.size (fun q e => (HR11.out.lt q e).1)
            have hg9 := (hr9'.lt g9 rfl).2
            have hc6 : ∀ j y : Nat, ls[j]? = some y → w6.cell? ⟨g9, j, none⟩ = some (.int .u64 y) := fun j y hy => by
              have hjl := (List.getElem?_eq_some_iff.1 hy).1
              rw [hr9'.cellAt j (by omega)]
              simp [nums, hy]
            have hcap := HCap.out.1
            have hcapm := HCap.out.2
            unfold maxLen at hcapm
            have hat := HAt.out
            have hl64 := HT.out.2.2
            have z3 : (at_ : Int) ≤ (ls.length : Int) := by omega
            have z4 : (at_ : Int) ≤ (c9 : Int) := by omega
            have z5 : (at_ : Int) + 1 ≤ (ls.length : Int) := by omega
            have z6 : (ls.length : Int) ≤ (c9 : Int) := by omega
            have z7 : (at_ : Int) + 1 ≤ 64 := by omega
            have z8 : (0 : Int) ≤ (at_ : Int) + 1 := by omega
            have hgw : w6.heap.size ≠ g9 := by omega
            have hlit : (w6.drew.alloc (.cells #[] 30)).ownsRow w6.heap.size 30 1 (.slice (some ⟨w6.heap.size, 0, none⟩) 0 0) 0 [] := World.ownsRow_lit (e := 30) (base := w6.heap.size) (size := 1) w6.drew #[] 0 (Nat.le_refl _) (by unfold maxLen; omega) rfl
            have hcells : ∀ j u, (nums ls)[j]? = some u → (w6.drew.alloc (.cells #[] 30)).cell? ⟨g9, j, none⟩ = some u := by
              intro j u hu
              obtain ⟨z, hz, rfl⟩ : ∃ z, ls[j]? = some z ∧ u = .int .u64 (z : Int) := by
                unfold nums at hu
                rw [List.getElem?_map, Option.map_eq_some_iff] at hu
                obtain ⟨z, hz, e⟩ := hu
                exact ⟨z, hz, e.symm⟩
              exact ((((below_drewN (Below.refl w6.heap.size w6) 1)).alloc (Nat.le_refl _) (.cells #[] 30)).cell (p := ⟨g9, j, none⟩) hg9).trans (hc6 j z hz)
            have hnt : nums (ls.take at_) = (nums ls).take at_ := by simp [nums, List.map_take]
            have hnd : nums (ls.drop (at_ + 1)) = (nums ls).drop (at_ + 1) := by simp [nums, List.map_drop]
            have hnews1 : ∀ j u, (nums (ls.take at_))[j]? = some u → (w6.drew.alloc (.cells #[] 30)).cell? ((⟨g9, 0, none⟩ : Addr).add j) = some u := by
              intro j u hu
              rw [add_zero_at]
              refine hcells j u ?_
              rw [hnt] at hu
              have hj := (List.getElem?_eq_some_iff.1 hu).1
              rw [List.getElem?_take_of_lt (by simp at hj; omega)] at hu
              exact hu
            have far : ∀ (V : World), (w6.drew.alloc (.cells #[] 30)).grownBy V (some w6.heap.size) → ∀ j u, (nums (ls.drop (at_ + 1)))[j]? = some u → V.cell? ⟨g9, at_ + 1 + j, none⟩ = some u := by
              intro V hV j u hu
              rw [hnd, List.getElem?_drop] at hu
              have h1 := hcells _ _ hu
              rw [hV.cell_far ⟨g9, at_ + 1 + j, none⟩ (by simp; omega) (by simp; omega)]
              exact h1
            have HLit := Lib.hid hlit
            have HN1 := Lib.hid hnews1
            have HFar := Lib.hid far
            have HOne := Lib.hid nums_one
            have hL1 : Hid ((nums (ls.take at_)).length = at_ * 1) := by show _ = _; simp [nums]; omega
            have hL2 : Hid ((nums (ls.drop (at_ + 1))).length = (ls.length - (at_ + 1)) * 1) := by show _ = _; simp [nums]
            have m1 : Hid (0 + at_ ≤ maxLen ∧ (0 + at_) * 8 ≤ 140737488355328 ∧ at_ + (ls.length - (at_ + 1)) ≤ maxLen ∧ (at_ + (ls.length - (at_ + 1))) * 8 ≤ 140737488355328) := ⟨by unfold maxLen; omega, by omega, by unfold maxLen; omega, by omega⟩
            have m2 : Hid (w6.heap.size ≤ (w6.drew.alloc (.cells #[] 30)).heap.size) := by show _ ≤ _; simp
            have hwr : IntKind.i64.wrap ((at_ : Int) + 1) = (at_ : Int) + 1 := by rw [IntKind.wrap_i64]; omega
            have htn : ((at_ : Int) + 1).toNat = at_ + 1 := by omega
            have HNx : Hid (∀ w4 w5 v4 v5, w4.ownsRow w6.heap.size 30 1 v4 at_ (nums (ls.take at_)) → (w6.drew.alloc (.cells #[] 30)).grownBy w4 (some w6.heap.size) → w5.ownsRow w6.heap.size 30 1 v5 (at_ + (ls.length - (at_ + 1))) (nums (ls.take at_) ++ nums (ls.drop (at_ + 1))) → w4.grownBy w5 v4.ownBlock → TurnB w1 a i (ls.length - 1) v5 v2 (.int .i64 ((t + 1 : Nat) : Int)) w5) := fun w4 w5 v4 v5 k1 k2 k3 k4 => turn_next hx HH.out.1 HH.out.2.1 H6.out.1 hB6 k1 k2 k3 k4
            have hmm := Lib.hid (show ls.length - 1 < ls.length by omega)
            clear hlit hnews1 hcells far hnt hnd hc6 hr9' hg2 hB6 hg9 hat hl64 hcx hx hcapm hcap HR11 HSz
            by_cases hce : c9 = at_ + 1
            · subst hce
              have hnil : ls.length ≤ at_ + 1 := by omega
              have HNil : Hid (nums (ls.drop (at_ + 1)) = []) := by show _ = _; rw [List.drop_of_length_le hnil]; rfl
              have z9 : (at_ : Int) ≤ (at_ : Int) + 1 := by omega
              clear hnil
              go_region_law (first
                | (refine step_append_owned rfl (.tmp 69) (.tmp 73) 66 rfl w6.heap.size 30 i0 (.int .u64 0) 1 8 Try.underlying66 hi hz0 hz1 hz2 rfl (by decide) v4 at_ (nums (ls.take at_)) (by simp [Act.eval]) X4.out.1 ⟨g9, 0, none⟩ (ls.length - (at_ + 1)) 0 (nums (ls.drop (at_ + 1))) (by simp [Act.eval] <;> omega) hL2.out (fun j u hu => by rw [HNil.out] at hu; simp at hu) (HOne.out _) m1.out.2.2.1 m1.out.2.2.2 (Nat.le_trans m2.out X4.out.2.size) ?_
                   intro v5 w5 hown5 hgrow5
                   have X5 : Hid (w5.ownsRow w6.heap.size 30 1 v5 (at_ + (ls.length - (at_ + 1))) (nums (ls.take at_) ++ nums (ls.drop (at_ + 1))) ∧ w4.grownBy w5 v4.ownBlock) := ⟨hown5, hgrow5⟩
                   clear hown5 hgrow5)
                | (refine step_append_owned rfl (.tmp 65) (.tmp 68) 66 rfl w6.heap.size 30 i0 (.int .u64 0) 1 8 Try.underlying66 hi hz0 hz1 hz2 rfl (by decide) (.slice (some ⟨w6.heap.size, 0, none⟩) 0 0) 0 [] (by simp [Act.eval]) HLit.out ⟨g9, 0, none⟩ at_ (at_ + 1) (nums (ls.take at_)) (by simp [Act.eval]) hL1.out HN1.out (HOne.out _) m1.out.1 m1.out.2.1 m2.out ?_
                   intro v4 w4 hown4 hgrow4
                   have X4 : Hid (w4.ownsRow w6.heap.size 30 1 v4 at_ (nums (ls.take at_)) ∧ (w6.drew.alloc (.cells #[] 30)).grownBy w4 (some w6.heap.size)) := ⟨by rw [Nat.zero_add] at hown4; exact hown4, hgrow4⟩
                   clear hown4 hgrow4))
              go_wp2
              go_roundg (ls.length - 1)
              case measure => exact hmm.out
              case rel => simpa using HNx.out _ _ _ _ X4.out.1 X4.out.2 X5.out.1 X5.out.2
            · go_region_law (first
                | (refine step_append_owned rfl (.tmp 69) (.tmp 73) 66 rfl w6.heap.size 30 i0 (.int .u64 0) 1 8 Try.underlying66 hi hz0 hz1 hz2 rfl (by decide) v4 at_ (nums (ls.take at_)) (by simp [Act.eval]) X4.out.1 ⟨g9, at_ + 1, none⟩ (ls.length - (at_ + 1)) (c9 - (at_ + 1)) (nums (ls.drop (at_ + 1))) (by simp [Act.eval]) hL2.out (fun j u hu => by rw [add_off_at]; exact HFar.out _ X4.out.2 j u hu) (HOne.out _) m1.out.2.2.1 m1.out.2.2.2 (Nat.le_trans m2.out X4.out.2.size) ?_
                   intro v5 w5 hown5 hgrow5
                   have X5 : Hid (w5.ownsRow w6.heap.size 30 1 v5 (at_ + (ls.length - (at_ + 1))) (nums (ls.take at_) ++ nums (ls.drop (at_ + 1))) ∧ w4.grownBy w5 v4.ownBlock) := ⟨hown5, hgrow5⟩
                   clear hown5 hgrow5)
                | (refine step_append_owned rfl (.tmp 65) (.tmp 68) 66 rfl w6.heap.size 30 i0 (.int .u64 0) 1 8 Try.underlying66 hi hz0 hz1 hz2 rfl (by decide) (.slice (some ⟨w6.heap.size, 0, none⟩) 0 0) 0 [] (by simp [Act.eval]) HLit.out ⟨g9, 0, none⟩ at_ c9 (nums (ls.take at_)) (by simp [Act.eval]) hL1.out HN1.out (HOne.out _) m1.out.1 m1.out.2.1 m2.out ?_
                   intro v4 w4 hown4 hgrow4
                   have X4 : Hid (w4.ownsRow w6.heap.size 30 1 v4 at_ (nums (ls.take at_)) ∧ (w6.drew.alloc (.cells #[] 30)).grownBy w4 (some w6.heap.size)) := ⟨by rw [Nat.zero_add] at hown4; exact hown4, hgrow4⟩
                   clear hown4 hgrow4))
              go_wp2
              go_roundg (ls.length - 1)
              case measure => exact hmm.out
              case rel => simpa using HNx.out _ _ _ _ X4.out.1 X4.out.2 X5.out.1 X5.out.2
        · obtain rfl : ls = [] := List.length_eq_zero_iff.1 (by omega)
          obtain ⟨A9', c9', rfl⟩ := own_slice hr9
          simp only [List.append_nil] at hperm
          have hdn : done.Nodup := hperm.nodup_iff.2 (lefts_nodup a i)
          have hdw : ∀ x ∈ done, a < x ∧ x ≤ a + 64 := fun x hx => by
            have := lefts_mem (hperm.mem_iff.1 hx)
            have := HN.out
            omega
          have hdl : done.length = i := by have := hperm.length_eq; rwa [lefts_len] at this
          have ha := HA.out
          have hds : ∀ x ∈ done, x < 18446744073709551616 := fun x hx => by have := hdw x hx; omega
          have hU11 : URow wr (.slice A11 done.length c11) done := URow.of_own hr11 hds
          have hi1 := HN.out
          obtain ⟨g11, rfl⟩ : ∃ g, A11 = some ⟨g, 0, none⟩ := by
            rcases hr11.2 with ⟨_, h0⟩ | ⟨g, cap, cur, e, _⟩
            · omega
            · cases e; exact ⟨g, rfl⟩
          have hg11 := (hr11.lt g11 rfl).2
          have HC11 : Hid (∀ j u, (nums done)[j]? = some u → wr.cell? ⟨g11, j, none⟩ = some u) := fun j u hu => by
            have hjl := (List.getElem?_eq_some_iff.1 hu).1
            rw [nums_length] at hjl
            rw [hr11.cellAt j (by omega)]
            exact hu
          have HBw := Lib.hid (HB1.out.trans (hB.mono HB1.out.size))
          have HA1 : Hid (∀ V, Below wr.heap.size wr V → Calls Try.prog 45 #[.slice (some ⟨g11, 0, none⟩) done.length c11] V fun e w' => ∃ v, e = .returned v ∧ w'.ownsRow V.heap.size 30 1 v done.length (nums done) ∧ Below V.heap.size V w') := fun V hV => by
            refine (All_calls done _ V (hU11.below hV) (by omega)).mono ?_
            rintro e w' ⟨v, rfl, h1, h2⟩
            rw [allS_within hdw hdn] at h1
            exact ⟨v, rfl, h1, h2⟩
          have HSame : Hid (∀ V v, URow V v done → Below wr.heap.size wr V → Calls Try.prog 44 #[v, .slice (some ⟨g11, 0, none⟩) done.length c11] V (One V (.bool true))) := fun V v h1 hV => by
            have h2 := same_calls done done v _ V h1 (hU11.below hV) (by omega)
            simpa using h2
          have HDs := Lib.hid (And.intro hds (And.intro hdw hdn))
          have HU := Lib.hid hU11
          have s0 : ¬ (0 : Int) < ((0 : Nat) : Int) := by omega
          have HDL := Lib.hid (And.intro hdl hi1)
          clear hr9 hr11 hne hB hk hperm hdn hdw ha hds hU11 hlt hn hdl hi1
          go_wp2_with fail
          refine (HA1.out _ (Below.refl _ _)).mono ?_
          rintro e w3 ⟨v3, rfl, hx3, b3⟩
          have HV := Lib.hid (HSame.out w3 v3 (URow.of_own hx3 HDs.out.1) b3)
          have HB3 := Lib.hid b3
          clear hx3 b3
          go_wp2_with fail
          refine HV.out.mono ?_
          rintro e w4 ⟨rfl, b4⟩
          have HB4 := Lib.hid (HB3.out.trans (b4.mono HB3.out.size))
          clear b4 HV
          have hs4 : wr.heap.size ≤ w4.heap.size := HB4.out.size
          obtain ⟨hdl, hi1⟩ := HDL.out
          have HLit : Hid ((w4.alloc (.cells #[] 30)).ownsRow w4.heap.size 30 1 (.slice (some ⟨w4.heap.size, 0, none⟩) 0 0) 0 []) := World.ownsRow_lit (e := 30) (base := w4.heap.size) (size := 1) w4 #[] 0 (Nat.le_refl _) (by unfold maxLen; omega) rfl
          have hg4 : g11 < w4.heap.size := by omega
          have hB45 : Below w4.heap.size w4 (w4.alloc (.cells #[] 30)) := (Below.refl _ w4).alloc (Nat.le_refl _) _
          have HN4 : Hid (∀ j u, (nums done)[j]? = some u → (w4.alloc (.cells #[] 30)).cell? ((⟨g11, 0, none⟩ : Addr).add j) = some u) := fun j u hu => by
            rw [add_zero_at]
            exact (hB45.cell (p := ⟨g11, j, none⟩) hg4).trans ((HB4.out.cell (p := ⟨g11, j, none⟩) hg11).trans (HC11.out j u hu))
          have HN5 : Hid (∀ V : World, (w4.alloc (.cells #[] 30)).grownBy V (some w4.heap.size) → ∀ j u, (nums done)[j]? = some u → V.cell? ((⟨g11, 0, none⟩ : Addr).add j) = some u) := fun V hV j u hu => by
            have h1 := HN4.out j u hu
            rw [add_zero_at] at h1 ⊢
            rw [hV.cell_far ⟨g11, j, none⟩ (by simp; omega) (by simp; omega)]
            exact h1
          have hL : Hid ((nums done).length = done.length * 1) := by show _ = _; rw [nums_length]; omega
          have m1 : Hid (0 + done.length ≤ maxLen ∧ (0 + done.length) * 8 ≤ 140737488355328 ∧ done.length + done.length ≤ maxLen ∧ (done.length + done.length) * 8 ≤ 140737488355328) := ⟨by unfold maxLen; omega, by omega, by unfold maxLen; omega, by omega⟩
          have m2 : Hid (w4.heap.size ≤ (w4.alloc (.cells #[] 30)).heap.size) := by show _ ≤ _; simp
          have HOne := Lib.hid nums_one
          have HFin : Hid (∀ w5 w6 v5 v6, w5.ownsRow w4.heap.size 30 1 v5 done.length (nums done) → (w4.alloc (.cells #[] 30)).grownBy w5 (some w4.heap.size) → w6.ownsRow w4.heap.size 30 1 v6 (done.length + done.length) (nums done ++ nums done) → w5.grownBy w6 v5.ownBlock → Below wr.heap.size wr w6 ∧ Calls Try.prog 45 #[v6] w6 fun e w' => ∃ v, e = .returned v ∧ URow w' v done ∧ Below w6.heap.size w6 w') := fun w5 w6 v5 v6 k1 k2 k3 k4 => by
            have b5 : Below w4.heap.size w4 w5 := hB45.grown k2 hB45.size (fun q e => by cases e; exact Nat.le_refl _)
            have b6 : Below w4.heap.size w4 w6 := b5.grown k4 b5.size (fun q e => (k1.lt q e).1)
            refine ⟨HB4.out.trans (b6.mono hs4), ?_⟩
            have hU : URow w6 v6 (done ++ done) := URow.of_own (by simpa [nums] using k3) (fun x hx => by
              rcases List.mem_append.1 hx with h | h
              · exact HDs.out.1 x h
              · exact HDs.out.1 x h)
            refine (All_calls _ _ w6 hU (by simp; omega)).mono ?_
            rintro e w' ⟨v, rfl, h1, h2⟩
            rw [allS_twice HDs.out.2.1 HDs.out.2.2] at h1
            exact ⟨v, rfl, URow.of_own h1 HDs.out.1, h2⟩
          clear hs4 hg4 hB45 hg11 hi1 hdl
          go_wp2_with (at_builtin; first
            | (refine wpList_append_wanted (by rfl) (.tmp 82) (.tmp 83) 66 rfl w4.heap.size 30 i0 (.int .u64 0) 1 8 Try.underlying66 hi hz0 hz1 hz2 rfl (by decide) v5 done.length (nums done) (by simp [Act.eval]) X5.out.1 ⟨g11, 0, none⟩ done.length c11 (nums done) (by simp [Act.eval]) hL.out (HN5.out _ X5.out.2) (HOne.out _) m1.out.2.2.1 m1.out.2.2.2 (Nat.le_trans m2.out X5.out.2.size) ?_; intro v6 w6 hown6 hgrow6; have X6 := Lib.hid (HFin.out w5 w6 v5 v6 X5.out.1 X5.out.2 hown6 hgrow6); clear hown6 hgrow6)
            | (refine wpList_append_wanted (by rfl) (.tmp 80) (.tmp 81) 66 rfl w4.heap.size 30 i0 (.int .u64 0) 1 8 Try.underlying66 hi hz0 hz1 hz2 rfl (by decide) (.slice (some ⟨w4.heap.size, 0, none⟩) 0 0) 0 [] (by simp [Act.eval]) HLit.out ⟨g11, 0, none⟩ done.length c11 (nums done) (by simp [Act.eval]) hL.out HN4.out (HOne.out _) m1.out.1 m1.out.2.1 m2.out ?_; intro v5 w5 hown5 hgrow5; have X5 : Hid (w5.ownsRow w4.heap.size 30 1 v5 done.length (nums done) ∧ (w4.alloc (.cells #[] 30)).grownBy w5 (some w4.heap.size)) := ⟨by rw [Nat.zero_add] at hown5; simpa using hown5, hgrow5⟩; clear hown5 hgrow5))
          refine X6.out.2.mono ?_
          rintro e w7 ⟨v7, rfl, hU7, b7⟩
          have HB7 := Lib.hid (X6.out.1.trans (b7.mono X6.out.1.size))
          have HV := Lib.hid (HSame.out w7 v7 hU7 HB7.out)
          clear hU7 b7
          go_wp2_with fail
          refine HV.out.mono ?_
          rintro e w8 ⟨rfl, b8⟩
          have HB8 := Lib.hid (HBw.out.trans ((HB7.out.trans (b8.mono HB7.out.size)).mono HBw.out.size))
          clear b8
          go_wp2
          go_ret
          exact ⟨rfl, HB8.out⟩


set_option maxRecDepth 100000 in
theorem open_irow {H : Type} {enc : TypeId × Value → H} {W : World} {base : Nat} {v : Value} {d : DataW H} {ps : List MemPlace}
    (hval : Value.okWide Try.prog W .any base 23 v) (h : DataW.Trod enc Try.prog W 0 (fun _ => true) true 23 v d ps) : ∃ B : Option Addr × Nat × Nat, v = .slice B.1 B.2.1 B.2.2 ∧ IRow W B.1 B.2.1 ∧ B.2.1 ≤ maxLen := by
  obtain ⟨A, n, c, rfl⟩ := okWide_slice Try.underlying23 hval
  obtain ⟨fuel, hf⟩ := h
  rcases open_ints Try.underlying23 Try.underlying3 (by kernel_rfl) hf with ⟨h0, _⟩ | ⟨a, len, cap, zs, hcs, _, hl, hm, hsl, _, hcell, hsz⟩
  · simp [Value.cells] at h0
    obtain ⟨rfl, rfl, rfl⟩ := h0
    exact ⟨(none, 0, 0), rfl, fun j hj => absurd hj (by simp), Nat.zero_le _⟩
  · simp [Value.cells] at hcs
    obtain ⟨rfl, rfl, rfl⟩ := hcs
    simp only [if_true] at hsl
    refine ⟨(some a, n, c), rfl, fun j hj => ?_, by show n ≤ maxLen; omega⟩
    have hj' : j < n := hj
    have hc2 := hcell j (by omega)
    have hlt := World.block_lt_of_cell? W _ hc2
    rw [addr_block] at hlt
    have hw := i64_of_wf (hsz (zs.getD j 0) (by
      rw [List.getD, List.getElem?_eq_getElem (by omega), Option.getD_some]
      exact List.getElem_mem _))
    exact ⟨a, zs.getD j 0, rfl, hlt, hc2, hw.1, hw.2⟩

end Go.Proofs.Ytfbkebdlioibpaa.L5
