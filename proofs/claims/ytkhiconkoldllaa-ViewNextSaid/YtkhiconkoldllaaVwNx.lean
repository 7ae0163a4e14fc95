/- Ids one behind the other, and a row of ids in memory. The law ViewNext: ids that are made one behind the other rise. The statement ViewNext: for every input the law returns true, and its arguments read as they did. -/
import Derived.Test.YtkhiconkoldllaaVwA
import Derived.Laws.AppendOwn
import Derived.Deep.RegionLaw
import Derived.Test.YtkhiconkoldllaaR4G
import Derived.Deep.RegionHeld3
section
namespace Go.Proofs.Ytkhiconkoldllaa.L10
open Go.ChangeShapes Go.WideShapes Go.ChangeAt Go.RowKit

/-- The k-th of the ids that are made one behind the other. -/
def idAt (e c : Int) (l : List Int) (k : Nat) : Int × Int := (e + k, if k = 0 then c else l.getD (k - 1) 0)
def idsN (e c : Int) (l : List Int) (n : Nat) : List (Int × Int) := (List.range n).map (idAt e c l)
theorem idsN_succ (e c : Int) (l : List Int) (n : Nat) : idsN e c l (n + 1) = idsN e c l n ++ [idAt e c l n] := by simp [idsN, List.range_succ]
theorem idsN_at {e c : Int} {l : List Int} {n k : Nat} (h : k < n) : (idsN e c l n)[k]? = some (idAt e c l k) := by simp [idsN, h]
def flat2 (l : List (Int × Int)) : List Value := l.flatMap (fun p => [.int .i64 p.1, .int .i64 p.2])
theorem flat2_append (a b : List (Int × Int)) : flat2 (a ++ b) = flat2 a ++ flat2 b := by simp [flat2]
theorem flat2_at {l : List (Int × Int)} {j : Nat} {p : Int × Int} (h : l[j]? = some p) : (flat2 l)[j * 2]? = some (.int .i64 p.1) ∧ (flat2 l)[j * 2 + 1]? = some (.int .i64 p.2) := by
  induction l generalizing j with
  | nil => simp at h
  | cons q l ih =>
    have e : flat2 (q :: l) = .int .i64 q.1 :: .int .i64 q.2 :: flat2 l := by simp [flat2]
    rw [e]
    cases j with
    | zero =>
      obtain rfl : q = p := by simpa using h
      simp
    | succ j =>
      have := ih (j := j) (by simpa using h)
      rw [show (j + 1) * 2 = j * 2 + 1 + 1 by omega, show j * 2 + 1 + 1 + 1 = (j * 2 + 1) + 1 + 1 by omega]
      simpa using this
/-- A row of ids. -/
def IdsA (B : Nat) (w : World) (v : Value) (l : List (Int × Int)) : Prop := w.ownsRow B 23 2 v l.length (flat2 l)
theorem IdsA.cells {B : Nat} {w : World} {g cap : Nat} {n : Nat} {l : List (Int × Int)} (h : IdsA B w (.slice (some ⟨g, 0, none⟩) n cap) l) {j : Nat} {p : Int × Int} (hj : l[j]? = some p) : w.cell? ⟨g, j * 2, none⟩ = some (.int .i64 p.1) ∧ w.cell? ⟨g, j * 2 + 1, none⟩ = some (.int .i64 p.2) := by
  have hl : j < l.length := (List.getElem?_eq_some_iff.1 hj).1
  obtain ⟨h1, h2⟩ := flat2_at hj
  obtain ⟨A, c, e⟩ := own_slice h
  have hn : n = l.length := by cases e; rfl
  subst hn
  exact ⟨(World.ownsRow.cellAt h _ (by omega)).trans h1, (World.ownsRow.cellAt h _ (by omega)).trans h2⟩
theorem IdsA.below {B : Nat} {w w' : World} {v : Value} {l : List (Int × Int)} (h : IdsA B w v l) (hb : Below w.heap.size w w') : IdsA B w' v l := own_below h hb
theorem IdsA.slice {B : Nat} {w : World} {v : Value} {l : List (Int × Int)} (h : IdsA B w v l) (hl : l ≠ []) : ∃ g cap, v = .slice (some ⟨g, 0, none⟩) l.length cap := by
  rcases h.2 with ⟨_, h0⟩ | ⟨g, cap, _, rfl, _⟩
  · exact absurd (List.eq_nil_of_length_eq_zero h0) hl
  · exact ⟨g, cap, rfl⟩
/-- append onto a slice that the call owns, at a step of a region that draws its order. -/
theorem step_append_owned {P : Program} {w : World} {ops : Array Oper} {o : Oper} {a : Act} {K : Act → World → Prop} {Q : Exit → Act → World → Prop} {E : Prop} (hgd : o.guard = none) (s x : Operand) (t : TypeId)
    (ho : o.op = .call { callee := .builtin .append, args := #[s, x], argTypes := #[t, t] })
    (base : Nat) (e : TypeId) (i : TypeInfo) (z : Value) (size bytes : Nat) (ht : P.underlying t = some (.slice e)) (hi : P.info? e = some i) (hz : i.zero = some z)
    (hsize : i.size = size) (hby : i.bytes = bytes) (hzs : z.cells.size = size) (hsz : 0 < size)
    (v : Value) (n : Nat) (xs : List Value) (hs : a.eval s = v) (hown : w.ownsRow base e size v n xs)
    (ad : Addr) (m c : Nat) (news : List Value) (hx : a.eval x = .slice (some ad) m c) (hl : news.length = m * size) (hnews : ∀ j u, news[j]? = some u → w.cell? (ad.add j) = some u) (h1 : ∀ u ∈ news, u.oneCell' = true)
    (h63 : n + m ≤ maxLen) (hbytes : (n + m) * bytes ≤ 140737488355328) (hbase : base ≤ w.heap.size)
    (h : ∀ v' w', w'.ownsRow base e size v' (n + m) (xs ++ news) → w.grownBy w' v.ownBlock → K (a.put o.dst v') w') :
    if Region.wanted o (yielded ops a.tmps) = true then Oper.wp P o a w K Q else E := by
  have hw : Region.wanted o (yielded ops a.tmps) = true := by simp [Region.wanted, hgd]
  rw [if_pos hw]
  obtain ⟨v', w', hr, h2, h3, _⟩ := run_append_own (P := P) w base t o.type e i z size bytes ht hi hz hsize hby hzs hsz v n xs hown ad m c news hl hnews h1 h63 hbytes hbase
  unfold Oper.wp execOp
  simp only [ho, resolve, invoke, builtin, Sem.run_bind, Sem.run_pure, Result.andThen_ok, List.map_toArray, List.map_cons, List.map_nil, hs, hx, hr]
  exact h v' w' h2 h3
end Go.Proofs.Ytkhiconkoldllaa.L10
end

section
namespace Go.Proofs.Ytkhiconkoldllaa.L10
open Go.ChangeShapes Go.WideShapes Go.ChangeAt Go.RowKit Go.Shelf Go.Deep

theorem info_id10 : (Try.prog.info? 23).map (fun i => (i.zero, i.size, i.bytes)) = some (some (.agg #[.int .i64 0, .int .i64 0]), 2, 16) := by kernel_rfl
def Made (W1 : World) (e c : Int) (l : List Int) (k : Nat) (v6 v7 : Value) (wr : World) : Prop := ∃ i : Nat, k + i = l.length ∧ v7 = .int .i64 i ∧ IdsA W1.heap.size wr v6 (idsN e c l (i + 1)) ∧ Below W1.heap.size W1 wr
theorem ids_first (W1 : World) (e c : Int) (l : List Int) : IdsA W1.heap.size (W1.alloc (.cells #[.int .i64 e, .int .i64 c] 23)) (.slice (some ⟨W1.heap.size, 0, none⟩) 1 1) (idsN e c l 1) := by
  refine ⟨by simp [idsN, idAt, flat2], .inr ⟨W1.heap.size, 1, _, rfl, Nat.le_refl _, World.alloc_heap_new W1 _, by simp [idsN], by unfold maxLen; omega, rfl, by simp [idsN, idAt, flat2]⟩⟩

def Going (V0 : World) (n k : Nat) (v8 : Value) (wr : World) : Prop := ∃ i : Nat, k + i = n ∧ v8 = .int .i64 i ∧ Below V0.heap.size V0 wr
set_option maxRecDepth 100000 in
set_option maxHeartbeats 8000000 in
theorem next_law (e c : Int) (v : Value) (l : List Int) (w : World) (hI : IntsA w v l) : Calls Try.prog 6 #[.agg #[.int .i64 e, .int .i64 c], v] w (One w (.bool true)) := by
  obtain ⟨i0, hi, hz0, hz1, hz2⟩ := info_parts info_id10
  obtain ⟨A, cp, rfl, _⟩ := id hI.reads
  have hfew := hI.few
  unfold maxLen at hfew
  obtain ⟨W0, hW0⟩ : ∃ W0, w.alloc (.cells #[.int .i64 e, .int .i64 c] 23) = W0 := ⟨_, rfl⟩
  have hB0 : Below w.heap.size w W0 := by rw [← hW0]; exact (Below.refl _ w).alloc (Nat.le_refl _) _
  have hx0 : W0.heap[w.heap.size]? = some (.cells #[.int .i64 e, .int .i64 c] 23 (0, 0)) := by rw [← hW0]; exact World.alloc_heap_new w _
  have HX : Hid (∀ V, Below W0.heap.size W0 V → V.cell? ⟨w.heap.size, 0, none⟩ = some (.int .i64 e) ∧ V.cell? ⟨w.heap.size, 1, none⟩ = some (.int .i64 c)) := fun V hV => ⟨(hV.cell (p := ⟨w.heap.size, 0, none⟩) (Array.getElem?_eq_some_iff.1 hx0).1).trans (by simp [World.cell?, hx0]), (hV.cell (p := ⟨w.heap.size, 1, none⟩) (Array.getElem?_eq_some_iff.1 hx0).1).trans (by simp [World.cell?, hx0])⟩
  have HW : Hid (∀ V, Below W0.heap.size W0 V → Below w.heap.size w V) := fun V hV => hB0.trans (hV.mono hB0.size)
  have HI := Lib.hid (ints_read hI)
  have HS := Lib.hid (shown_calls W0)
  obtain ⟨x0, x1⟩ := HX.out W0 (Below.refl _ _)
  clear hI hB0 hx0
  by_cases hbad : 50 < l.length ∨ 4611686018427387904 < e ∨ e < -4611686018427387904
  · by_cases n1 : (50 : Int) < (l.length : Int)
    · clear hbad
      go_enter Try.func6, Try.ntmps6
      go_wp2_with fail
      clear hW0
      refine HS.out.mono ?_
      rintro e' W1 ⟨rfl, b1⟩
      have HB1 := Lib.hid (HW.out W1 b1)
      clear b1
      go_wp2
      go_ret
      exact ⟨rfl, HB1.out⟩
    by_cases n2 : 4611686018427387904 < e
    · clear hbad
      go_enter Try.func6, Try.ntmps6
      go_wp2_with fail
      clear hW0 x0 x1
      refine HS.out.mono ?_
      rintro e' W1 ⟨rfl, b1⟩
      have HB1 := Lib.hid (HW.out W1 b1)
      obtain ⟨x0, x1⟩ := HX.out W1 b1
      clear b1
      go_wp2
      go_ret
      exact ⟨rfl, HB1.out⟩
    · have n3 : e < -4611686018427387904 := by omega
      clear hbad
      go_enter Try.func6, Try.ntmps6
      go_wp2_with fail
      clear hW0 x0 x1
      refine HS.out.mono ?_
      rintro e' W1 ⟨rfl, b1⟩
      have HB1 := Lib.hid (HW.out W1 b1)
      obtain ⟨x0, x1⟩ := HX.out W1 b1
      clear b1
      go_wp2
      go_ret
      exact ⟨rfl, HB1.out⟩
  · have n1 : ¬ (50 : Int) < (l.length : Int) := by omega
    have n2 : ¬ 4611686018427387904 < e := by omega
    have n3 : ¬ e < -4611686018427387904 := by omega
    have HE : Hid (l.length ≤ 50 ∧ -4611686018427387904 ≤ e ∧ e ≤ 4611686018427387904) := by constructor <;> omega
    clear hbad
    go_enter Try.func6, Try.ntmps6
    go_wp2_with fail
    clear hW0 x0 x1
    refine HS.out.mono ?_
    rintro e' W1 ⟨rfl, b1⟩
    have HB1 := Lib.hid b1
    obtain ⟨x0, x1⟩ := HX.out W1 b1
    clear b1 HS
    go_wp2
    clear x0 x1 n1 n2 n3
    have HStart : Hid (Made W1 e c l l.length (.slice (some ⟨W1.heap.size, 0, none⟩) 1 1) (.int .i64 0) (W1.alloc (.cells #[.int .i64 e, .int .i64 c] 23))) := ⟨0, rfl, rfl, ids_first W1 e c l, (Below.refl _ W1).alloc (Nat.le_refl _) _⟩
    go_loopg [6, 7] l.length (fun k v6 v7 wr => Made W1 e c l k v6 v7 wr)
    case atStart => exact HStart.out
    case round =>
      clear HStart
      obtain ⟨i, hk, rfl, hids, hB⟩ := hrel
      by_cases hlt : i < l.length
      · obtain ⟨x, hx⟩ : ∃ x, l[i]? = some x := ⟨_, List.getElem?_eq_getElem hlt⟩
        obtain ⟨ad, rfl, hcx⟩ := HI.out i x hx
        have hW1 : Below w.heap.size w wr := HW.out wr (HB1.out.trans (hB.mono HB1.out.size))
        have cx := hcx wr hW1
        obtain ⟨g, cap, rfl⟩ := hids.slice (by simp [idsN])
        rw [show (idsN e c l (i + 1)).length = i + 1 by simp [idsN]] at *
        obtain ⟨p, hp⟩ : ∃ p, idAt e c l i = p := ⟨_, rfl⟩
        have hpi : (idsN e c l (i + 1))[i]? = some p := by rw [idsN_at (by omega), hp]
        obtain ⟨y0, y1⟩ := hids.cells hpi
        have HC := Lib.hid (fun V => next_calls p.1 p.2 x V)
        have hup : up p.1 = e + ((i + 1 : Nat) : Int) := by
          have := HE.out
          rw [← hp]
          simp only [idAt]
          rw [up_small (by omega) (by omega)]
          omega
        have hnx : idAt e c l (i + 1) = (up p.1, x) := by
          rw [hup]
          simp [idAt, hx]
        have hrow : wr.ownsRow W1.heap.size 23 2 (.slice (some ⟨g, 0, none⟩) (i + 1) cap) (i + 1) (flat2 (idsN e c l (i + 1))) := by
          have := hids
          unfold IdsA at this
          rwa [show (idsN e c l (i + 1)).length = i + 1 by simp [idsN]] at this
        have HIds := Lib.hid hrow
        have HNext : Hid (∀ w5 v' w', Below wr.heap.size wr w5 → w'.ownsRow W1.heap.size 23 2 v' (i + 1 + 1) (flat2 (idsN e c l (i + 1)) ++ [.int .i64 (up p.1), .int .i64 x]) → (w5.alloc (.cells #[.int .i64 (up p.1), .int .i64 x] 23)).grownBy w' (Value.slice (some ⟨g, 0, none⟩) (i + 1) cap).ownBlock → Made W1 e c l (gk - 1) v' (.int .i64 ((i + 1 : Nat) : Int)) w') := by
          intro w5 v' w' b5 k1 k2
          have b4 := hB.trans (b5.mono hB.size)
          have hg2 := grow_trans (World.grownBy_alloc w5 (.cells #[.int .i64 (up p.1), .int .i64 x] 23) _) k2
          refine ⟨i + 1, by omega, rfl, ?_, b4.grown hg2 b4.size (fun q e => (World.ownsRow.lt hids q e).1)⟩
          have e1 : idsN e c l (i + 1 + 1) = idsN e c l (i + 1) ++ [(up p.1, x)] := by rw [idsN_succ, hnx]
          show w'.ownsRow _ _ _ _ _ _
          rw [e1, flat2_append]
          simpa [idsN, flat2] using k1
        have HG := Lib.hid (show gk - 1 < gk by omega)
        have hsz := hB.size
        have j1 : (i : Int) < (l.length : Int) := by omega
        have j2 : (0 : Int) ≤ (i : Int) := by omega
        have j3 : (i : Int) < ((i + 1 : Nat) : Int) := by omega
        have h50 := HE.out.1
        have j4 : (i : Int) < (i : Int) + 1 := by omega
        obtain ⟨p1, p2⟩ := p
        dsimp only at *
        generalize flat2 (idsN e c l (i + 1)) = zs at *
        clear hk hx hcx hids hB hW1 hp hpi hup hnx hrow
        have HOneCell : Hid (∀ u ∈ ([.int .i64 (up p1), .int .i64 x] : List Value), u.oneCell' = true) := by
          show ∀ u ∈ ([.int .i64 (up p1), .int .i64 x] : List Value), u.oneCell' = true
          simp [Value.oneCell']
        have HCells : Hid (∀ (w5 : World) j u, ([.int .i64 (up p1), .int .i64 x] : List Value)[j]? = some u → (w5.alloc (.cells #[.int .i64 (up p1), .int .i64 x] 23)).cell? ((⟨w5.heap.size, 0, none⟩ : Addr).add j) = some u) := fun w5 j u hu => by
          rw [addr_flat]
          simp only [World.cell?]
          rw [World.alloc_heap_new]
          simpa using hu
        go_wp2
        go_region_law (first
          | (go_simp; go_at_call 11; refine (HC.out _).mono ?_; rintro e' w5 ⟨rfl, b5⟩
             have B5 : Hid (Below wr.heap.size wr w5) := below_drew' b5
             have hids5 := Lib.hid (own_below HIds.out B5.out)
             have hs5 := B5.out.size
             clear b5)
          | (refine step_append_owned rfl (.tmp 37) (.tmp 47) 45 rfl W1.heap.size 23 i0 (.agg #[.int .i64 0, .int .i64 0]) 2 16 Try.underlying45 hi hz0 hz1 hz2 rfl (by decide) (.slice (some ⟨g, 0, none⟩) (i + 1) cap) (i + 1) zs (by simp [Act.eval]) (World.ownsRow.alloc hids5.out _) ⟨w5.heap.size, 0, none⟩ 1 1 [.int .i64 (up p1), .int .i64 x] (by simp [Act.eval]) rfl (HCells.out w5) HOneCell.out (by unfold maxLen; omega) (by omega) (by simp; omega) ?_
             intro v' w' k1 k2
             have HR := Lib.hid (HNext.out w5 v' w' B5.out k1 k2)
             clear k1 k2))
        all_goals
          go_wp2
          go_roundg (gk - 1)
          case measure => exact HG.out
          case rel => exact HR.out
      · have hil : i = l.length := by omega
        subst hil
        have HIds := Lib.hid hids
        have HB := Lib.hid hB
        obtain ⟨g, cap, rfl⟩ := hids.slice (by simp [idsN])
        rw [show (idsN e c l (l.length + 1)).length = l.length + 1 by simp [idsN]] at *
        obtain ⟨V0, rfl⟩ : ∃ V0, V0 = wr := ⟨wr, rfl⟩
        have hSt : Hid (∀ n V, Below V0.heap.size V0 V → Going V0 n n (.int .i64 0) V) := fun n V hV => ⟨0, rfl, rfl, hV⟩
        have HCe : Hid (∀ (V : World) (j : Nat), Below V0.heap.size V0 V → j < l.length + 1 → V.cell? ⟨g, j * 2, none⟩ = some (.int .i64 (idAt e c l j).1) ∧ V.cell? ⟨g, j * 2 + 1, none⟩ = some (.int .i64 (idAt e c l j).2)) := fun V j hV hj => (HIds.out.below hV).cells (idsN_at hj)
        have HL : Hid (∀ a b c' d V, Below V0.heap.size V0 V → Calls Try.prog 12 #[.agg #[.int .i64 a, .int .i64 b], .agg #[.int .i64 c', .int .i64 d]] V (fun e' V' => e' = .returned (.bool (lessB a b c' d)) ∧ Below V0.heap.size V0 V')) := fun a b c' d V hV => by
          refine (less_calls a b c' d V).mono ?_
          rintro e' V' ⟨rfl, hb⟩
          exact ⟨rfl, hV.trans (hb.mono hV.size)⟩
        clear hk hlt hids hB
        go_wp2
        have HSt0 := hSt.out (l.length + 1) V0 (Below.refl _ _)
        go_loopg [8] (l.length + 1) (fun k v8 V => Going V0 (l.length + 1) k v8 V)
        case atStart => exact HSt0
        case round =>
          clear HSt0
          obtain ⟨i, hk, rfl, hB⟩ := hrel
          have HBi := Lib.hid hB
          by_cases hlt : i < l.length + 1
          · have hgk := Lib.hid (show gk - 1 < gk by omega)
            have j1 : (i : Int) < (l.length : Int) + 1 := by omega
            have j2 : (0 : Int) ≤ (i : Int) := by omega
            have hOut : Hid (∀ V, Below V0.heap.size V0 V → Going V0 (l.length + 1) (gk - 1) (.int .i64 ((i + 1 : Nat) : Int)) V) := fun V hV => ⟨i + 1, by omega, rfl, hV⟩
            have HSt1 := hSt.out i wr hB
            obtain ⟨k0, rfl⟩ : ∃ k0, k0 = gk := ⟨gk, rfl⟩
            clear hk hB
            go_wp2
            go_loopg [9] i (fun k v9 V => Going V0 i k v9 V)
            case atStart => exact HSt1
            case round =>
              clear HSt1
              obtain ⟨j, hk, rfl, hB⟩ := hrel
              have HBj := Lib.hid hB
              by_cases hjt : j < i
              · have hgk2 := Lib.hid (show gk - 1 < gk by omega)
                have hIn : Hid (∀ V, Below V0.heap.size V0 V → Going V0 i (gk - 1) (.int .i64 ((j + 1 : Nat) : Int)) V) := fun V hV => ⟨j + 1, by omega, rfl, hV⟩
                have i1 : (j : Int) < (i : Int) := by omega
                have i2 : (0 : Int) ≤ (j : Int) := by omega
                have i3 : (j : Int) < (l.length : Int) + 1 := by omega
                obtain ⟨c0, c1⟩ := HCe.out wr j hB (by omega)
                obtain ⟨d0, d1⟩ := HCe.out wr i hB hlt
                obtain ⟨⟨a0, a1⟩, ha⟩ : ∃ p, idAt e c l j = p := ⟨_, rfl⟩
                obtain ⟨⟨b0, b1⟩, hb⟩ : ∃ p, idAt e c l i = p := ⟨_, rfl⟩
                have hab : a0 < b0 := by
                  have h1 : (idAt e c l j).1 = a0 := by rw [ha]
                  have h2 : (idAt e c l i).1 = b0 := by rw [hb]
                  simp only [idAt] at h1 h2
                  omega
                rw [ha] at c0 c1
                rw [hb] at d0 d1
                have E1 : Hid (lessB a0 a1 b0 b1 = true) := by show lessB a0 a1 b0 b1 = true; rw [lessB_iff]; exact .inl hab
                have E2 : Hid (lessB b0 b1 a0 a1 = false) := by
                  show lessB b0 b1 a0 a1 = false
                  cases h : lessB b0 b1 a0 a1 with
                  | false => rfl
                  | true => rw [lessB_iff] at h; omega
                have hne : ¬ b0 = a0 := by omega
                have HFour : Hid (∀ V, Below V0.heap.size V0 V → V.cell? ⟨g, j * 2, none⟩ = some (.int .i64 a0) ∧ V.cell? ⟨g, j * 2 + 1, none⟩ = some (.int .i64 a1) ∧ V.cell? ⟨g, i * 2, none⟩ = some (.int .i64 b0) ∧ V.cell? ⟨g, i * 2 + 1, none⟩ = some (.int .i64 b1)) := fun V hV => by
                  obtain ⟨k0, k1⟩ := HCe.out V j hV (by omega)
                  obtain ⟨k2, k3⟩ := HCe.out V i hV hlt
                  rw [ha] at k0 k1
                  rw [hb] at k2 k3
                  exact ⟨k0, k1, k2, k3⟩
                clear ha hb hab hk
                go_wp2
                go_region_held3 (fun w' => w'.cell? ⟨g, j * 2, none⟩ = some (.int .i64 a0) ∧ w'.cell? ⟨g, j * 2 + 1, none⟩ = some (.int .i64 a1) ∧ w'.cell? ⟨g, i * 2, none⟩ = some (.int .i64 b0) ∧ w'.cell? ⟨g, i * 2 + 1, none⟩ = some (.int .i64 b1) ∧ Below V0.heap.size V0 w') (first | exact ⟨c0, c1, d0, d1, hB.drew⟩ | (go_split_ands; refine ⟨?_, ?_, ?_, ?_, ?_⟩ <;> assumption))
                  ((go_at_call 12; refine (HL.out _ _ _ _ _ (by first | exact hB.drew | assumption)).mono ?_; rintro e' u ⟨rfl, yb⟩; obtain ⟨y0, y1, y2, y3⟩ := HFour.out u yb; first | rw [E1.out] | rw [E2.out]))
                go_wp2
                go_roundg (gk - 1)
                case measure => exact hgk2.out
                case rel => exact hIn.out _ (by assumption)
              · have hji : j = i := by omega
                subst hji
                clear hk hB
                go_wp2
                go_roundg (k0 - 1)
                case measure => exact hgk.out
                case rel => exact hOut.out _ HBj.out
          · have hil : i = l.length + 1 := by omega
            subst hil
            have hW1 : Below W0.heap.size W0 wr := HB1.out.trans ((HB.out.trans (hB.mono HB.out.size)).mono HB1.out.size)
            have HW1 := Lib.hid (HW.out wr hW1)
            have HEnd : Hid (∀ q, Below w.heap.size w (wr.drewN q)) := fun q => HW1.out.trans (below_drewN _ _ _)
            obtain ⟨x0, _⟩ := HX.out wr hW1
            obtain ⟨y0, _⟩ := HCe.out wr l.length hB (by omega)
            have hid0 : (idAt e c l l.length).1 = e + (l.length : Int) := rfl
            rw [hid0] at y0
            have hE := HE.out
            have k1 : IntKind.i64.wrap ((l.length : Int) + 1 - 1) = (l.length : Int) := by rw [IntKind.wrap_i64]; omega
            have k2 : IntKind.i64.wrap (e + (l.length : Int)) = e + (l.length : Int) := by rw [IntKind.wrap_i64]; omega
            have k3 : (l.length : Int) < (l.length : Int) + 1 := by omega
            have k5 : IntKind.i64.wrap (l.length : Int) = (l.length : Int) := by rw [IntKind.wrap_i64]; omega
            have k6 : wrap64 (l.length : Int) = (l.length : Int) := by unfold wrap64; omega
            have k7 : wrap64 (e + (l.length : Int)) = e + (l.length : Int) := by unfold wrap64; omega
            have k4 : (0 : Int) ≤ (l.length : Int) := by omega
            clear hk hlt hB hW1 hid0
            go_wp2
            refine L4.wp_region_still (by kernel_rfl) (by kernel_rfl) ?_
            repeat
              (refine Quietly.step (fun K hK => ?_)
               go_simp
               refine hK _ ?_
               clear hK K)
            refine Quietly.none ?_
            rintro w2 ⟨nq, rfl⟩
            go_wp2
            go_ret
            exact ⟨by simp, HEnd.out _⟩
end Go.Proofs.Ytkhiconkoldllaa.L10
end

section
namespace Go.Proofs.Ytkhiconkoldllaa
open Go.ChangeShapes Go.WideShapes Go.ChangeAt Go.RowKit

set_option maxRecDepth 100000 in
theorem vnext_lifted (os : Os) (started : os.Started) (H : Type) (enc : TypeId × Value → H) :
    ReturnsInHanded {} Try.checked os 6 .any (Rows.viewNextSpec.pre6 enc Try.prog Try.f6 Rows.viewNextRow.domain false) (Rows.viewNextSpec.post enc Try.prog Try.f6 false true false false) := by
  refine returnsInHanded_of_change (C := Try.checked) L5.own started (by kernel_rfl) Try.func6
    (ChangeSpec.witness6 (enc := enc) (C := Try.checked) false ⟨#[], #[.agg #[.int .i64 0, .int .i64 0], .slice none 0 0], []⟩ 8 (by kernel_rfl) (by kernel_rfl) (by kernel_rfl) (by kernel_rfl)) ?_
  intro W base args ds gs before hval0 hW hcnd _
  have hval : ∀ (j : Nat) t v, Try.f6.params[j]? = some t → args[j]? = some v → Value.okWide Try.prog W .any base t v := hval0
  have hW' := hW
  obtain ⟨p, q, hA0, hV, rfl, hfz, hnd⟩ := hW
  have hA : DataW.TrodAll enc Try.prog W 0 (fun _ => true) true Try.f6.params.toList args.toList ds p := hA0
  rw [Try.params6] at hA hval
  obtain ⟨v0, vs0, d0, ds0, p0, q0, hargs, rfl, rfl, h0, r0⟩ := trodAll_cons hA
  obtain ⟨v1, vs1, d1, ds1, p1, q1, rfl, rfl, rfl, h1, r1⟩ := trodAll_cons r0
  obtain ⟨rfl, rfl, rfl⟩ := trodAll_nil r1
  obtain rfl : args = #[v0, v1] := by cases args; simp_all
  obtain ⟨rfl, rfl⟩ := trodVars_none hV
  have h0k := h0
  obtain ⟨e0, c0, rfl⟩ := L10.open_id (hval 0 23 v0 rfl rfl) h0
  have h1k := h1
  obtain ⟨zs1, hI1⟩ := L10.open_irow (hval 1 24 v1 rfl rfl) h1
  clear hA0 hval0
  simp only [List.append_nil] at hW'
  have hlt0 : ∀ x ∈ p0, x.block < W.heap.size := fun x hx => by simpa using hW'.lt x (by simp [hx])
  have hlt1 : ∀ x ∈ p1, x.block < W.heap.size := fun x hx => by simpa using hW'.lt x (by simp [hx])
  refine (L10.next_law e0 c0 v1 zs1 W hI1).mono fun e W' ⟨he, hg⟩ => ?_
  subst he
  exact ⟨_, rfl, L5.post_law_at (pv := []) hW' (trodAll_cons_mk (shut_bool Try.underlying4 _) trodAll_mk0) (trodAll_cons_mk (Below.trod L5.laid_out (by kernel_rfl) (of_decide_eq_true (by kernel_rfl)) h0k hg hlt0) (trodAll_cons_mk (Below.trod L5.laid_out (by kernel_rfl) (of_decide_eq_true (by kernel_rfl)) h1k hg hlt1) trodAll_mk0)) rfl (by simp) hg⟩

theorem vnext_over : Rows.viewNextRow.holds Try.pinned (OpenSpec.ofChange Rows.viewNextSpec) :=
  OpenClaim.holds_of_wide 6 Try.f6 rfl rfl rfl rfl rfl rfl rfl ⟨rfl, rfl, rfl, rfl, rfl⟩ rfl rfl rfl rfl rfl (by kernel_rfl) Try.func6 (by kernel_rfl)
    (of_decide_eq_true (by kernel_rfl)) (by unfold Func.isWrapper; first | (rw [if_pos (by decide +kernel)]; kernel_rfl) | (rw [if_neg (by decide +kernel)]; exact ⟨rfl, rfl⟩))
    (fun os started H enc _ => vnext_lifted os started H enc)

theorem vnext_proved : Rows.ViewNextSaid := vnext_over

end Go.Proofs.Ytkhiconkoldllaa
end
