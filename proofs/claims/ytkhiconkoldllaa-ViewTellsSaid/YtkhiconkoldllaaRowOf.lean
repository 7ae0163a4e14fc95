/- Contract of list.rowOf: a right message as a row of terms. -/
import Derived.Test.YtkhiconkoldllaaMsgR
import Derived.Test.YtkhiconkoldllaaLTake
import Derived.Deep.AppendLies
import Derived.Laws.MakeOwn
import Derived.Laws.AppendOwnNone
namespace Go.Proofs.Ytkhiconkoldllaa
open Go.ChangeShapes Go.WideShapes Go.ChangeAt Go.RowKit

namespace Tm
def numL (n : Int) : List UInt8 := 117 :: be8 n.toNat
end Tm
def Msg.head (m : Msg) : List Int := [m.kind, m.e1, m.c1, m.e2, m.c2, m.num, (m.mem.length : Int)]
def Msg.nums (m : Msg) : List Int := m.head ++ m.mem
def Msg.row (m : Msg) : List (List UInt8) := m.nums.map Tm.numL ++ m.terms
def RowOfOut (w : World) (zs : List (List UInt8)) (e : Ending) (w' : World) : Prop :=
  ∃ v, e = .returned v ∧ w'.ownsRow w.heap.size 28 1 v zs.length (strs zs) ∧ Below w.heap.size w w'
/-- A loop that appends the numbers of ns, as terms, behind those of pre. -/
def Numbering (w : World) (pre ns : List Int) (k : Nat) (v4 vi : Value) (wr : World) : Prop :=
  ∃ i : Nat, k + i = ns.length ∧ vi = .int .i64 i ∧ wr.ownsRow w.heap.size 28 1 v4 (pre.length + i) (strs ((pre ++ ns.take i).map Tm.numL)) ∧ Below w.heap.size w wr

theorem own_base {W : World} {base base' : Nat} {e : TypeId} {size n : Nat} {v : Value} {xs : List Value} (h : W.ownsRow base e size v n xs) (hb : base' ≤ base) : W.ownsRow base' e size v n xs :=
  ⟨h.1, h.2.imp id (fun ⟨g, cap, cur, a, b, c⟩ => ⟨g, cap, cur, a, Nat.le_trans hb b, c⟩)⟩
theorem numbering_step {w wr w3 w4 : World} {pre ns : List Int} {i : Nat} {v4 v2 : Value} {x : Int} (hi : i < ns.length) (hx : ns[i]? = some x) (hB : Below w.heap.size w wr)
    (hrow : wr.ownsRow w.heap.size 28 1 v4 (pre.length + i) (strs ((pre ++ ns.take i).map Tm.numL))) (b3 : Below wr.heap.size wr w3)
    (k1 : w4.ownsRow w.heap.size 28 1 v2 (pre.length + i + 1) (strs ((pre ++ ns.take i).map Tm.numL) ++ [.string ⟨(Tm.numL x).toArray⟩]))
    (k2 : (w3.alloc (.cells #[.string ⟨(Tm.numL x).toArray⟩] 28)).grownBy w4 v4.ownBlock) : Numbering w pre ns (ns.length - (i + 1)) v2 (.int .i64 ((i + 1 : Nat) : Int)) w4 := by
  have ht : ns.take (i + 1) = ns.take i ++ [x] := by rw [List.take_add_one, hx]; rfl
  have b4 := hB.trans (b3.mono hB.size)
  have hg2 := grow_trans (World.grownBy_alloc w3 (.cells #[.string ⟨(Tm.numL x).toArray⟩] 28) _) k2
  refine ⟨i + 1, by omega, rfl, ?_, b4.grown hg2 b4.size (fun q e => (hrow.lt q e).1)⟩
  rw [ht]
  simpa [strs, Nat.add_assoc] using k1
theorem numL_calls (x : Int) (h0 : 0 ≤ x) (h1 : x ≤ 9223372036854775807) (V : World) : Calls Try.prog 50 #[.int .u64 x] V (One V (.string ⟨(Tm.numL x).toArray⟩)) := by
  have := Number_calls x.toNat (by omega) V
  rw [show ((x.toNat : Nat) : Int) = x from by omega] at this
  exact this

set_option maxRecDepth 100000 in
set_option maxHeartbeats 8000000 in
theorem rowOf_calls (m : Msg) (vm vt : Value) (w : World) (h : MsgA w m vm vt) (hn : ∀ n ∈ m.nums, 0 ≤ n ∧ n ≤ 9223372036854775807) (hm : m.mem.length ≤ 8) (ht : m.terms.length ≤ 150) (hnil : ∀ n c, vt = .slice none n c → c = 0) : Calls Try.prog 36 #[.agg (msgCells m vm vt)] w (RowOfOut w m.row) := by
  obtain ⟨i0, hi, hzz0, hz1, hz2⟩ := info_parts info_term
  obtain ⟨A5, c5, rfl, hI⟩ : ∃ A c, vm = .slice A m.mem.length c ∧ IntsA w vm m.mem := by obtain ⟨⟨A, c, e, k⟩, f⟩ := h.mem; exact ⟨A, c, e, h.mem⟩
  obtain ⟨A6, c6, rfl, hT⟩ : ∃ A c, vt = .slice A m.terms.length c ∧ RowA w vt m.terms := by obtain ⟨⟨A, c, e, k⟩, f⟩ := h.terms; exact ⟨A, c, e, h.terms⟩
  clear h
  unfold msgCells
  obtain ⟨W0, hW0⟩ : ∃ W0, w.alloc (.cells #[.int .i64 m.kind, .int .i64 m.e1, .int .i64 m.c1, .int .i64 m.e2, .int .i64 m.c2, .int .i64 m.num, .slice A5 m.mem.length c5, .slice A6 m.terms.length c6] 51) = W0 := ⟨_, rfl⟩
  have hz0 : W0.heap.size = w.heap.size + 1 := by rw [← hW0]; simp
  have hcs : ∀ j, W0.cell? ⟨w.heap.size, j, none⟩ = (#[.int .i64 m.kind, .int .i64 m.e1, .int .i64 m.c1, .int .i64 m.e2, .int .i64 m.c2, .int .i64 m.num, .slice A5 m.mem.length c5, .slice A6 m.terms.length c6] : Array Value)[j]? := fun j => by
    rw [← hW0]
    simp only [World.cell?]
    rw [World.alloc_heap_new]
    rfl
  have y0 := hcs 0
  have y1 := hcs 1
  have y2 := hcs 2
  have y3 := hcs 3
  have y4 := hcs 4
  have y5 := hcs 5
  have y6 := hcs 6
  have y7 := hcs 7
  simp at y0 y1 y2 y3 y4 y5 y6 y7
  have hrow : Hid (m.row = (m.head ++ m.mem).map Tm.numL ++ m.terms) := rfl
  obtain ⟨zs, hzs⟩ : ∃ zs, m.row = zs := ⟨_, rfl⟩
  rw [hzs] at hrow ⊢
  have HN := Lib.hid hn
  clear hn hcs hzs
  obtain ⟨W1, hW1⟩ : ∃ W1, W0.alloc (.cells #[.int .i64 m.kind, .int .i64 m.e1, .int .i64 m.c1, .int .i64 m.e2, .int .i64 m.c2, .int .i64 m.num, .int .i64 (m.mem.length : Int)] 82) = W1 := ⟨_, rfl⟩
  have hs1 : W1.heap.size = w.heap.size + 2 := by rw [← hW1]; simp [hz0]
  have hB1 : Below w.heap.size w W1 := by
    rw [← hW1, ← hW0]
    exact ((Below.refl _ w).alloc (Nat.le_refl _) _).alloc (by simp) _
  have hb01 : ∀ j, W1.cell? ⟨w.heap.size, j, none⟩ = W0.cell? ⟨w.heap.size, j, none⟩ := fun j => by
    rw [← hW1]
    exact ((Below.refl W0.heap.size W0).alloc (Nat.le_refl _) _).cell (p := ⟨w.heap.size, j, none⟩) (by simp; omega)
  have hc1 : ∀ j, W1.cell? ⟨w.heap.size + 1, j, none⟩ = (#[.int .i64 m.kind, .int .i64 m.e1, .int .i64 m.c1, .int .i64 m.e2, .int .i64 m.c2, .int .i64 m.num, .int .i64 (m.mem.length : Int)] : Array Value)[j]? := fun j => by
    rw [← hW1, ← hz0]
    simp only [World.cell?]
    rw [World.alloc_heap_new]
    rfl
  obtain ⟨W2, hmk, hown0, hg0⟩ := run_make_own (P := Try.prog) (w := W1) W1.heap.size 49 28 i0 (.string ⟨#[]⟩) 1 Try.underlying49 hi hzz0 hz1 .i64 .i64 (7 + m.mem.length + m.terms.length) (by rw [hz2]; omega) (by unfold maxLen; omega) (Nat.le_refl _)
  have hmk' : (Instr.makeSlice 49 (.int .i64 0) (.int .i64 (7 + (m.mem.length : Int) + (m.terms.length : Int)))).run Try.prog W1 = .ok (.slice (some ⟨w.heap.size + 2, 0, none⟩) 0 (7 + m.mem.length + m.terms.length)) W2 := by
    rw [← hs1, ← hmk]
    congr 2
  rw [hs1] at hown0
  have hB2 : Below W1.heap.size W1 W2 := (Below.refl _ _).grown hg0 (Nat.le_refl _) (by simp)
  have q0 := (hB2.cell (p := ⟨w.heap.size + 1, 0, none⟩) (by simp; omega)).trans (hc1 0)
  have q1 := (hB2.cell (p := ⟨w.heap.size + 1, 1, none⟩) (by simp; omega)).trans (hc1 1)
  have q2 := (hB2.cell (p := ⟨w.heap.size + 1, 2, none⟩) (by simp; omega)).trans (hc1 2)
  have q3 := (hB2.cell (p := ⟨w.heap.size + 1, 3, none⟩) (by simp; omega)).trans (hc1 3)
  have q4 := (hB2.cell (p := ⟨w.heap.size + 1, 4, none⟩) (by simp; omega)).trans (hc1 4)
  have q5 := (hB2.cell (p := ⟨w.heap.size + 1, 5, none⟩) (by simp; omega)).trans (hc1 5)
  have q6 := (hB2.cell (p := ⟨w.heap.size + 1, 6, none⟩) (by simp; omega)).trans (hc1 6)
  simp at q0 q1 q2 q3 q4 q5 q6
  have x6 := (hb01 6).trans y6
  have x7 := (hb01 7).trans y7
  have HX6 : Hid (∀ V, Below W1.heap.size W1 V → V.cell? ⟨w.heap.size, 6, none⟩ = some (.slice A5 m.mem.length c5) ∧ V.cell? ⟨w.heap.size, 7, none⟩ = some (.slice A6 m.terms.length c6)) := fun V hb => ⟨(hb.cell (p := ⟨w.heap.size, 6, none⟩) (by simp; omega)).trans x6, (hb.cell (p := ⟨w.heap.size, 7, none⟩) (by simp; omega)).trans x7⟩
  clear hmk
  have HOwn := Lib.hid hown0
  have HB2 := Lib.hid hB2
  have HB1 := Lib.hid hB1
  have HI5 := Lib.hid hI
  have HT6 := Lib.hid hT
  clear hown0 hg0 hB2 hB1 hI hT hc1 hb01
  go_enter Try.func36, Try.ntmps36
  go_wp2
  clear x6 x7 y0 y1 y2 y3 y4 y5 y6 y7 q0 q1 q2 q3 q4 q5 q6 hmk' hW0 hW1
  obtain ⟨hv, hhv⟩ : ∃ hv : Array Value, (#[.int .i64 m.kind, .int .i64 m.e1, .int .i64 m.c1, .int .i64 m.e2, .int .i64 m.c2, .int .i64 m.num, .int .i64 (m.mem.length : Int)] : Array Value) = hv := ⟨_, rfl⟩
  rw [hhv]
  have hvs : hv.size = 7 := by rw [← hhv]; rfl
  have HVe : Hid (∀ (i : Nat) (x : Int), m.head[i]? = some x → ∀ V : World, (Instr.index 82 (.agg hv) (.int .i64 (i : Int))).run Try.prog V = .ok (.int .i64 x) V) := by
    intro i x hx
    rw [← hhv]
    unfold Msg.head at hx
    match i, hx with
    | 0, hx => simp at hx; subst hx; intro V; kernel_rfl
    | 1, hx => simp at hx; subst hx; intro V; kernel_rfl
    | 2, hx => simp at hx; subst hx; intro V; kernel_rfl
    | 3, hx => simp at hx; subst hx; intro V; kernel_rfl
    | 4, hx => simp at hx; subst hx; intro V; kernel_rfl
    | 5, hx => simp at hx; subst hx; intro V; kernel_rfl
    | 6, hx => simp at hx; subst hx; intro V; kernel_rfl
    | (n + 7), hx => simp at hx
  have HStart : Hid (Numbering W1 [] m.head 7 (.slice (some ⟨w.heap.size + 2, 0, none⟩) 0 (7 + m.mem.length + m.terms.length)) (.int .i64 0) W2) := ⟨0, rfl, rfl, by rw [hs1]; exact HOwn.out, HB2.out⟩
  clear hhv HOwn HB2
  go_loopg [4, 39] 7 (fun k v4 v39 wr => Numbering W1 [] m.head k v4 v39 wr)
  case atStart => exact HStart.out
  case round =>
    clear HStart
    obtain ⟨i, hk, rfl, hrow1, hB⟩ := hrel
    rw [show m.head.length = 7 from rfl] at hk
    by_cases hlt : i < 7
    · obtain ⟨x, hx⟩ : ∃ x, m.head[i]? = some x := ⟨_, List.getElem?_eq_getElem (show i < m.head.length from hlt)⟩
      have hxv := HVe.out i x hx
      have hxn := HN.out x (List.mem_append.2 (.inl (List.mem_of_getElem? hx)))
      have HNum := Lib.hid (fun V => numL_calls x hxn.1 hxn.2 V)
      have HSt := Lib.hid (fun w3 w4 v2 b3 k1 k2 => numbering_step (w3 := w3) (w4 := w4) (v2 := v2) (show i < m.head.length from hlt) hx hB hrow1 b3 k1 k2)
      have j1 : (i : Int) < 7 := by omega
      have j2 : (0 : Int) ≤ (i : Int) := by omega
      obtain ⟨A4, c4, rfl⟩ := own_slice hrow1
      have j3 : IntKind.u64.wrap x = x := by rw [IntKind.wrap_u64]; omega
      have hrw : Hid (Below W1.heap.size W1 wr ∧ W1.heap.size ≤ wr.heap.size) := ⟨hB, hB.size⟩
      have HRow := Lib.hid hrow1
      have HK := Lib.hid hk
      have hi7 : ([] : List Int).length + i + 1 ≤ 7 := by simp; omega
      generalize ([] : List Int).length + i = ni at *
      generalize strs (([] ++ m.head.take i).map Tm.numL) = xs at *
      clear hrow1 hB hk hx hxn hlt
      go_wp2_with (first
        | (go_at_call 50
           refine (HNum.out _).mono ?_
           rintro e' w3 ⟨rfl, b3⟩
           have hr3 := Lib.hid (own_below HRow.out b3)
           have hs3 := Nat.le_trans hrw.out.2 b3.size)
        | (at_builtin
           refine wpList_append_own_at _ rfl _ _ 49 rfl W1.heap.size 28 i0 _ 1 16 Try.underlying49 hi hzz0 hz1 hz2 rfl (by decide) _ _ _ rfl (hr3.out.alloc _) ⟨w3.heap.size, 0, none⟩ 1 1 [.string ⟨(Tm.numL x).toArray⟩] rfl rfl (cell_one_new _ _ _) (by simp [Value.oneCell']) (by unfold maxLen; omega) (by omega) (by simp; omega) ?_
           intro v2 w4 hown' hgrow hnil hat
           have hRl := Lib.hid (HSt.out w3 w4 v2 b3 hown' hgrow)
           clear hown' hgrow hnil hat))
      go_roundg (m.head.length - (i + 1))
      case measure => have := HK.out; rw [show m.head.length = 7 from rfl]; omega
      case rel => exact hRl.out
    · obtain rfl : i = 7 := by omega
      obtain ⟨x6, x7⟩ := HX6.out wr hB
      have hrow7 : Hid (wr.ownsRow W1.heap.size 28 1 u4 7 (strs (m.head.map Tm.numL))) := hrow1
      have HBw := Lib.hid hB
      obtain ⟨A4, c4, rfl⟩ := own_slice hrow1
      rw [show ([] : List Int).length + 7 = 7 from rfl] at *
      clear hrow1 hB hk hlt hvs HVe
      go_wp2
      clear x6 x7
      have HStart : Hid (Numbering W1 m.head m.mem m.mem.length (.slice A4 7 c4) (.int .i64 0) wr) := ⟨0, rfl, rfl, by rw [show m.head.length + 0 = 7 from rfl]; simpa using hrow7.out, HBw.out⟩
      clear hrow7 HBw
      go_loopg [4, 52] m.mem.length (fun k v4 v52 wr => Numbering W1 m.head m.mem k v4 v52 wr)
      case atStart => exact HStart.out
      case round =>
        clear HStart
        obtain ⟨i, hk, rfl, hrow1, hB⟩ := hrel
        by_cases hlt : i < m.mem.length
        · obtain ⟨x, hx⟩ : ∃ x, m.mem[i]? = some x := ⟨_, List.getElem?_eq_getElem hlt⟩
          obtain ⟨ad, rfl, a1, a3⟩ : ∃ ad : Addr, A5 = some ad ∧ ad.block < w.heap.size ∧ w.cell? (ad.add i) = some (.int .i64 x) := by
            obtain ⟨⟨A, c, e, k⟩, _⟩ := HI5.out
            cases e
            exact k i x hx
          have a4 := (hB.cell (p := ad.add i) (by rw [addr_block]; omega)).trans ((HB1.out.cell (p := ad.add i) (by rw [addr_block]; exact a1)).trans a3)
          have hxn := HN.out x (List.mem_append.2 (.inr (List.mem_of_getElem? hx)))
          have HNum := Lib.hid (fun V => numL_calls x hxn.1 hxn.2 V)
          have HSt := Lib.hid (fun w3 w4 v2 b3 k1 k2 => numbering_step (w3 := w3) (w4 := w4) (v2 := v2) hlt hx hB hrow1 b3 k1 k2)
          have j1 : (i : Int) < (m.mem.length : Int) := by omega
          have j2 : (0 : Int) ≤ (i : Int) := by omega
          obtain ⟨A4, c4, rfl⟩ := own_slice hrow1
          have j3 : IntKind.u64.wrap x = x := by rw [IntKind.wrap_u64]; omega
          have hrw : Hid (Below W1.heap.size W1 wr ∧ W1.heap.size ≤ wr.heap.size) := ⟨hB, hB.size⟩
          have HRow := Lib.hid hrow1
          have HK := Lib.hid hk
          have hi7 : m.head.length + i + 1 ≤ 20 := by rw [show m.head.length = 7 from rfl]; omega
          generalize m.head.length + i = ni at *
          generalize strs ((m.head ++ m.mem.take i).map Tm.numL) = xs at *
          clear hrow1 hB hk hx hxn hlt a1 a3
          go_wp2_with (first
            | (go_at_call 50
               refine (HNum.out _).mono ?_
               rintro e' w3 ⟨rfl, b3⟩
               have hr3 := Lib.hid (own_below HRow.out b3)
               have hs3 := Nat.le_trans hrw.out.2 b3.size)
            | (at_builtin
               refine wpList_append_own_at _ rfl _ _ 49 rfl W1.heap.size 28 i0 _ 1 16 Try.underlying49 hi hzz0 hz1 hz2 rfl (by decide) _ _ _ rfl (hr3.out.alloc _) ⟨w3.heap.size, 0, none⟩ 1 1 [.string ⟨(Tm.numL x).toArray⟩] rfl rfl (cell_one_new _ _ _) (by simp [Value.oneCell']) (by unfold maxLen; omega) (by omega) (by simp; omega) ?_
               intro v2 w4 hown' hgrow hnil' hat
               have hRl := Lib.hid (HSt.out w3 w4 v2 b3 hown' hgrow)
               clear hown' hgrow hnil' hat))
          go_roundg (m.mem.length - (i + 1))
          case measure => have := HK.out; omega
          case rel => exact hRl.out
        · obtain rfl : i = m.mem.length := by omega
          obtain ⟨x6, x7⟩ := HX6.out wr hB
          rw [List.take_length] at hrow1
          have HRow := Lib.hid hrow1
          have HBw := Lib.hid hB
          have HAll : Hid (m.head.length + m.mem.length ≤ 15 ∧ (strs ((m.head ++ m.mem).map Tm.numL)).length = m.head.length + m.mem.length) := ⟨by rw [show m.head.length = 7 from rfl]; omega, by simp [strs]⟩
          obtain ⟨A4, c4, rfl⟩ := own_slice hrow1
          have HFin : Hid (∀ v5 w5, w5.ownsRow W1.heap.size 28 1 v5 (m.head.length + m.mem.length + m.terms.length) (strs ((m.head ++ m.mem).map Tm.numL) ++ strs m.terms) → wr.grownBy w5 (Value.slice A4 (m.head.length + m.mem.length) c4).ownBlock → RowOfOut w zs (.returned v5) w5) := by
            intro v5 w5 k1 k2
            have hw5 : Below W1.heap.size W1 w5 := HBw.out.grown k2 HBw.out.size (fun q e => (HRow.out.lt q e).1)
            refine ⟨v5, rfl, ?_, HB1.out.trans (hw5.mono (by omega))⟩
            rw [hrow.out]
            have hk : ((m.head ++ m.mem).map Tm.numL ++ m.terms).length = m.head.length + m.mem.length + m.terms.length := by simp; omega
            rw [hk]
            have := own_base (base' := w.heap.size) k1 (by omega)
            simpa [strs] using this
          cases A6 with
          | none =>
            have hz : m.terms = [] := by
              cases hm' : m.terms with
              | nil => rfl
              | cons z zs =>
                obtain ⟨A, c, e, k⟩ := HT6.out.reads
                cases e
                obtain ⟨ad, e2, _⟩ := k 0 z (by rw [hm']; rfl)
                cases e2
            obtain rfl : c6 = 0 := hnil _ _ rfl
            have HF := Lib.hid (HFin.out _ wr (by rw [hz]; simpa [strs] using HRow.out) (World.grownBy.refl _ _))
            rw [hz] at x7 
            rw [show ([] : List (List UInt8)).length = 0 from rfl] at x7
            obtain ⟨nt, hnt⟩ : ∃ nt, m.terms.length = nt := ⟨_, rfl⟩
            have hnt0 : nt = 0 := by rw [← hnt, hz]; rfl
            clear hrow1 hB hk hlt HFin HAll
            go_wp2_with (at_builtin; refine wpList_append_own_none rfl _ _ 49 rfl W1.heap.size 28 i0 1 Try.underlying49 hi _ _ _ rfl HRow.out rfl ?_)
            go_ret
            exact HF.out
          | some ad =>
            have hnews : ∀ j u, (strs m.terms)[j]? = some u → wr.cell? (ad.add j) = some u := by
              intro j u hu
              unfold strs at hu
              rw [List.getElem?_map, Option.map_eq_some_iff] at hu
              obtain ⟨z, hz, rfl⟩ := hu
              obtain ⟨A, c, e, k⟩ := HT6.out.reads
              cases e
              obtain ⟨ad', e2, b1, _, b2⟩ := k j z hz
              cases e2
              exact (hB.cell (p := ad.add j) (by rw [addr_block]; omega)).trans ((HB1.out.cell (p := ad.add j) (by rw [addr_block]; exact b1)).trans b2)
            have HNews := Lib.hid hnews
            have HOne : Hid (∀ u ∈ strs m.terms, u.oneCell' = true) := by
              intro u hu
              unfold strs at hu
              obtain ⟨z, _, rfl⟩ := List.mem_map.1 hu
              rfl
            have HLen : Hid (m.head.length + m.mem.length + m.terms.length ≤ 165 ∧ (strs m.terms).length = m.terms.length * 1 ∧ W1.heap.size ≤ wr.heap.size) := ⟨by have := HAll.out.1; omega, by simp [strs], hB.size⟩
            clear hrow1 hB hk hlt HAll hnews
            go_wp2_with (at_builtin; refine wpList_append_own_at _ rfl _ _ 49 rfl W1.heap.size 28 i0 _ 1 16 Try.underlying49 hi hzz0 hz1 hz2 rfl (by decide) _ _ _ rfl HRow.out ad m.terms.length c6 (strs m.terms) rfl HLen.out.2.1 HNews.out HOne.out (by have := HLen.out.1; unfold maxLen; omega) (by have := HLen.out.1; omega) HLen.out.2.2 ?_; intro v5 w5 k1 k2 _ _)
            have HF := Lib.hid (HFin.out _ _ k1 k2)
            clear k1 k2
            go_ret
            exact HF.out
end Go.Proofs.Ytkhiconkoldllaa
