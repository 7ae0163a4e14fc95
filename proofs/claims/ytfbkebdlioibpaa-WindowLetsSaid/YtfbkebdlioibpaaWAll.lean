/- Contract of window.All: those that are let in, one behind the other. -/
import Derived.Test.YtfbkebdlioibpaaWLet
import Derived.Deep.LoopGhost
namespace Go.Proofs.Ytfbkebdlioibpaa.L5
open Go.ChangeShapes Go.WideShapes Go.ChangeAt Go.RowKit

theorem info_u64 : (Try.prog.info? 30).map (fun i => (i.zero, i.size, i.bytes)) = some (some (.int .u64 0), 1, 8) := by kernel_rfl
theorem addr_block (ad : Addr) (i : Nat) : (ad.add i).block = ad.block := by unfold Addr.add; split <;> rfl
def nums (zs : List Nat) : List Value := zs.map (fun x : Nat => Value.int .u64 (x : Int))
theorem nums_length (zs : List Nat) : (nums zs).length = zs.length := by simp [nums]
/-- A row of numbers, as it lies in memory. -/
structure URow (w : World) (v : Value) (zs : List Nat) : Prop where
  reads : ∃ A c, v = .slice A zs.length c ∧ ∀ j x : Nat, zs[j]? = some x → ∃ ad : Addr, A = some ad ∧ ad.block < w.heap.size ∧ w.cell? (ad.add j) = some (.int .u64 x)
  small : ∀ x ∈ zs, x < 18446744073709551616
theorem URow.below {w w' : World} {v : Value} {zs : List Nat} (h : URow w v zs) (hb : Below w.heap.size w w') : URow w' v zs := by
  obtain ⟨⟨A, c, e, k⟩, hs⟩ := h
  refine ⟨⟨A, c, e, fun j x hx => ?_⟩, hs⟩
  obtain ⟨ad, rfl, h1, h2⟩ := k j x hx
  exact ⟨ad, rfl, Nat.lt_of_lt_of_le h1 hb.size, (hb.cell (p := ad.add j) (by rw [addr_block]; exact h1)).trans h2⟩
theorem URow.of_own {w : World} {B : Nat} {e : TypeId} {v : Value} {zs : List Nat} (h : w.ownsRow B e 1 v zs.length (nums zs)) (hs : ∀ x ∈ zs, x < 18446744073709551616) : URow w v zs := by
  refine ⟨?_, hs⟩
  rcases h.2 with ⟨rfl, h0⟩ | ⟨g, cap, cur, rfl, h1, h2, h3⟩
  · have : zs = [] := List.length_eq_zero_iff.1 h0
    subst this
    exact ⟨none, 0, rfl, fun j x hx => by simp at hx⟩
  · refine ⟨some ⟨g, 0, none⟩, cap, rfl, fun j x hx => ⟨⟨g, 0, none⟩, rfl, (h.lt g rfl).2, ?_⟩⟩
    have hjl := (List.getElem?_eq_some_iff.1 hx).1
    have := h.cellAt j (by omega)
    have e2 : ((⟨g, 0, none⟩ : Addr).add j) = ⟨g, j, none⟩ := by
      simp [Addr.add]
      omega
    rw [e2, this]
    simp [nums, hx]
theorem own_base {W : World} {B B' : Nat} {e : TypeId} {size n : Nat} {v : Value} {xs : List Value} (h : W.ownsRow B e size v n xs) (hb : B' ≤ B) : W.ownsRow B' e size v n xs := by
  refine ⟨h.1, ?_⟩
  rcases h.2 with hn | ⟨g, cap, cur, rfl, h1, h2⟩
  · exact .inl hn
  · exact .inr ⟨g, cap, cur, rfl, Nat.le_trans hb h1, h2⟩

theorem allS_take {l : List Nat} {i n : Nat} (h : l[i]? = some n) : allS (l.take (i + 1)) = stepS (allS (l.take i)) n := by
  unfold allS
  rw [List.take_add_one, h]
  simp
theorem stepS_len (L : List Nat) (n : Nat) : (stepS L n).length ≤ L.length + 1 := by unfold stepS; split <;> simp
theorem allS_len (l : List Nat) : (allS l).length ≤ l.length := by
  unfold allS
  suffices ∀ L : List Nat, (l.foldl stepS L).length ≤ L.length + l.length by simpa using this []
  induction l with
  | nil => simp
  | cons a l ih => intro L; simp only [List.foldl_cons, List.length_cons]; have := ih (stepS L a); have := stepS_len L a; omega

def AllOut (w : World) (l : List Nat) (e : Ending) (w' : World) : Prop := ∃ v, e = .returned v ∧ w'.ownsRow w.heap.size 30 1 v (allS l).length (nums (allS l)) ∧ Below w.heap.size w w'
def AllGo (w : World) (l : List Nat) (k : Nat) (v3 v11 : Value) (wr : World) : Prop :=
  ∃ (i t b : Nat), k + i = l.length ∧ v11 = .int .i64 i ∧ Inv t b (allS (l.take i)) ∧ WinAt wr w.heap.size t b ∧ wr.ownsRow (w.heap.size + 1) 30 1 v3 (allS (l.take i)).length (nums (allS (l.take i))) ∧ Below w.heap.size w wr

set_option maxRecDepth 100000 in
set_option maxHeartbeats 4000000 in
theorem All_calls (l : List Nat) (v : Value) (w : World) (h : URow w v l) (hl : l.length ≤ 1000) : Calls Try.prog 45 #[v] w (AllOut w l) := by
  obtain ⟨i0, hi, hz0, hz1, hz2⟩ := info_parts info_u64
  obtain ⟨⟨A, c, rfl, hk⟩, hs⟩ := h
  have HL : Hid (∀ j x : Nat, l[j]? = some x → x < 18446744073709551616 ∧ ∃ ad : Addr, A = some ad ∧ ad.block < w.heap.size ∧ w.cell? (ad.add j) = some (.int .u64 x)) := fun j x hx => ⟨hs x (List.mem_of_getElem? hx), hk j x hx⟩
  have hN := WinAt.new w 0 0
  obtain ⟨w0, hw0⟩ : ∃ w0, w.alloc (.cells #[.int .u64 ((0 : Nat) : Int), .int .u64 ((0 : Nat) : Int)] 68) = w0 := ⟨_, rfl⟩
  have hw0' : w.alloc (.cells #[.int .u64 0, .int .u64 0] 68) = w0 := hw0
  have hB0 : Below w.heap.size w w0 := by rw [← hw0]; exact (Below.refl _ w).alloc (Nat.le_refl _) _
  rw [hw0] at hN
  have H0 := Lib.hid (And.intro hN hB0)
  clear hk hs hN hB0 hw0
  go_enter Try.func45, Try.ntmps45
  go_wp2
  go_loopg [3, 11] l.length (fun k v3 v11 wr => AllGo w l k v3 v11 wr)
  case atStart => exact ⟨0, 0, 0, rfl, rfl, Inv.nil, H0.out.1, World.ownsRow_nil _ _ _ _, H0.out.2⟩
  case round =>
    obtain ⟨i, t, b, hk, rfl, hInv, hwin, hrow, hB⟩ := hrel
    obtain ⟨A3, c3, rfl⟩ := own_slice hrow
    by_cases hlt : i < l.length
    · obtain ⟨n, hn⟩ : ∃ n, l[i]? = some n := ⟨_, List.getElem?_eq_getElem hlt⟩
      obtain ⟨hn64, ad, rfl, hadb, hcell⟩ := HL.out i n hn
      have j1 : (i : Int) < (l.length : Int) := by omega
      have j2 : (0 : Int) ≤ (i : Int) := by omega
      have hc1 : wr.cell? (ad.add i) = some (.int .u64 n) := (hB.cell (p := ad.add i) (by rw [addr_block]; exact hadb)).trans hcell
      have HLet := Lib.hid (fun V => Let_calls hInv n hn64 V)
      obtain ⟨x0, x1, _, _⟩ := hwin.cells
      have HA := Lib.hid (And.intro hInv (And.intro hwin (And.intro hrow (And.intro hB (And.intro hk hn)))))
      clear hInv hwin hrow hB hk hn hcell hadb
      go_wp2_with fail
      refine (HLet.out _).mono ?_
      rintro e w1 ⟨b1, ⟨hseen, rfl⟩ | ⟨hseen, t', b', hInv', rfl⟩⟩
      · have hsz : wr.heap.size ≤ w1.heap.size := b1.size
        have hfin : Hid (∀ cs, AllGo w l (l.length - (i + 1)) (.slice A3 (allS (l.take i)).length c3) (.int .i64 ((i + 1 : Nat) : Int)) (w1.alloc cs)) := fun cs => by
          obtain ⟨hInv, hwin, hrow, hB, hk, hn⟩ := HA.out
          have hb2 : Below wr.heap.size wr (w1.alloc cs) := b1.alloc hsz _
          have hst : allS (l.take (i + 1)) = allS (l.take i) := by rw [allS_take hn]; unfold stepS; rw [if_pos hseen]
          refine ⟨i + 1, t, b, by omega, rfl, by rw [hst]; exact hInv, hwin.below hb2 hwin.lt, by rw [hst]; exact own_below hrow hb2, hB.trans (hb2.mono hB.size)⟩
        have hm := Lib.hid (show l.length - (i + 1) < gk by obtain ⟨_, _, _, _, hk, _⟩ := HA.out; omega)
        clear b1 hsz HA HLet x0 x1 hc1 hseen
        go_wp2
        go_roundg (l.length - (i + 1))
        case measure => exact hm.out
        case rel => simpa using hfin.out _
      · obtain ⟨hInv, hwin, hrow, hB, hk, hn⟩ := HA.out
        have hst : allS (l.take (i + 1)) = allS (l.take i) ++ [n] := by rw [allS_take hn]; unfold stepS; rw [if_neg (by rw [hseen]; decide)]
        obtain ⟨w2, hw2⟩ : ∃ w2, w1.alloc (.cells #[.int .u64 t', .int .u64 b'] 68) = w2 := ⟨_, rfl⟩
        have hN := WinAt.new w1 t' b'
        have hb2 : Below wr.heap.size wr w2 := by rw [← hw2]; exact b1.alloc b1.size _
        rw [hw2] at hN
        obtain ⟨n0, n1, _, _⟩ := hN.cells
        have hwin2 := hwin.below hb2 hwin.lt
        clear x0 x1
        obtain ⟨x0, x1, f0, f1⟩ := hwin2.cells
        obtain ⟨s1, s2, e1, d1, g1, e2, hA2, hs2, hB2, hq2⟩ := hwin2.store t' b'
        have hrow2 : s2.ownsRow (w.heap.size + 1) 30 1 (.slice A3 (allS (l.take i)).length c3) (allS (l.take i)).length (nums (allS (l.take i))) := own_same (own_below hrow hb2) (fun q e => hq2 q (by have := (hrow.lt q e).1; omega))
        have hBs : Below w.heap.size w s2 := (hB.trans (hb2.mono hB.size)).trans (hB2 _ (Nat.le_refl _))
        have hlen := allS_len (l.take i)
        have hlen2 : (allS (l.take i)).length ≤ 1000 := by rw [List.length_take] at hlen; omega
        have hgs : w.heap.size < s2.heap.size := hA2.lt
        have hfin : Hid (∀ v2 w4, w4.ownsRow (w.heap.size + 1) 30 1 v2 ((allS (l.take i)).length + 1) (nums (allS (l.take i)) ++ [.int .u64 n]) → (s2.alloc (.cells #[.int .u64 n] 30)).grownBy w4 (Value.slice A3 (allS (l.take i)).length c3).ownBlock → AllGo w l (l.length - (i + 1)) v2 (.int .i64 ((i + 1 : Nat) : Int)) w4) := fun v2 w4 k1 k2 => by
          have hg2 := grow_trans (World.grownBy_alloc s2 (.cells #[.int .u64 n] 30) _) k2
          refine ⟨i + 1, t', b', by omega, rfl, by rw [hst]; exact hInv', (hg2.block w.heap.size hgs (fun e => ?_)).trans hA2, ?_, hBs.grown hg2 hBs.size (fun q e => by have := (hrow.lt q e).1; omega)⟩
          · have := (hrow.lt _ e.symm).1; omega
          · rw [hst]
            simpa [nums] using k1
        have hm := Lib.hid (show l.length - (i + 1) < gk by omega)
        have HR := Lib.hid hrow2
        clear hInv hwin hrow hB hk hn hst hN hb2 hwin2 hA2 hs2 hB2 hq2 hrow2 hBs hlen HA HLet b1 hInv' hseen
        go_wp2_with (at_builtin; refine wpList_append_own_at _ rfl _ _ 66 rfl (w.heap.size + 1) 30 i0 _ 1 8 Try.underlying66 hi hz0 hz1 hz2 rfl (by decide) _ _ _ rfl (HR.out.alloc _) ⟨s2.heap.size, 0, none⟩ 1 1 [.int .u64 n] rfl rfl (cell_one_new _ _ _) (by simp [Value.oneCell']) (by unfold maxLen; omega) (by omega) (by simp; omega) ?_; intro v2 w6 hown' hgrow hnil hat; have HFi := Lib.hid (hfin.out v2 w6 hown' hgrow))
        go_roundg (l.length - (i + 1))
        case measure => exact hm.out
        case rel => simpa using HFi.out
    · have j1 : ¬ ((i : Int) < (l.length : Int)) := by omega
      have hfin : Hid (AllOut w l (.returned (.slice A3 (allS (l.take i)).length c3)) wr) := by
        have e : l.take i = l := List.take_of_length_le (by omega)
        rw [e] at hrow ⊢
        exact ⟨_, rfl, own_base hrow (by omega), hB⟩
      clear hk hInv hwin hrow hB
      go_wp2
      go_ret
      exact hfin.out

end Go.Proofs.Ytfbkebdlioibpaa.L5
