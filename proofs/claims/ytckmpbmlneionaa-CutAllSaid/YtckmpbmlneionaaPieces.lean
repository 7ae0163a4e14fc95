/- Rows from behind: the pieces of which a row's term is put together. -/
import Derived.Test.YtckmpbmlneionaaEach
namespace Go.Proofs.Ytckmpbmlneionaa
open Go.ChangeShapes Go.WideShapes Go.ChangeAt Go.RowKit Go.Shelf

attribute [local go_sem] Oper.semAt_some

namespace Tm
def num0 : List UInt8 := 117 :: be8 0
/-- The last m of a row, the last one first, each with its place. -/
def back (zs : List (List UInt8)) : Nat → List (Nat × List UInt8)
  | 0 => []
  | m + 1 => back zs m ++ [(zs.length - 1 - m, zs.getD (zs.length - 1 - m) [])]
theorem back_prefix (zs : List (List UInt8)) {m N : Nat} (h : m ≤ N) : back zs m <+: back zs N := by
  induction N with
  | zero => rw [show m = 0 by omega]; exact List.prefix_refl _
  | succ N ih =>
    by_cases e : m = N + 1
    · rw [e]; exact List.prefix_refl _
    · exact (ih (by omega)).trans ⟨_, rfl⟩
def pieces (bs : List (Nat × List UInt8)) : List (List UInt8) := num0 :: bs.flatMap (fun e => [e.2, [112]])
theorem pieces_snoc (bs : List (Nat × List UInt8)) (e : Nat × List UInt8) : pieces (bs ++ [e]) = pieces bs ++ [e.2] ++ [[112]] := by simp [pieces]
theorem pieces_prefix {bs cs : List (Nat × List UInt8)} (h : bs <+: cs) : pieces bs <+: pieces cs := by
  obtain ⟨t, rfl⟩ := h
  exact ⟨t.flatMap (fun e => [e.2, [112]]), by simp [pieces]⟩
/-- A row as bytes. -/
def rowL (zs : List (List UInt8)) : List UInt8 := zs.flatMap (fun z => 112 :: z) ++ num0
def tailL (ps : List (List UInt8)) : List UInt8 := ps.reverse.flatten
theorem tailL_snoc (ps : List (List UInt8)) (x : List UInt8) : tailL (ps ++ [x]) = x ++ tailL ps := by simp [tailL]
theorem tailL_back (zs : List (List UInt8)) {m : Nat} (h : m ≤ zs.length) : tailL (pieces (back zs m)) = rowL (zs.drop (zs.length - m)) := by
  induction m with
  | zero => simp [back, pieces, tailL, rowL]
  | succ m ih =>
    have hk : zs.length - (m + 1) < zs.length := by omega
    have e2 : zs.length - 1 - m = zs.length - (m + 1) := by omega
    show tailL (pieces (back zs m ++ [_])) = _
    rw [pieces_snoc, tailL_snoc, tailL_snoc, ih (by omega), List.drop_eq_getElem_cons hk, show zs.length - (m + 1) + 1 = zs.length - m by omega]
    rw [e2]
    simp [rowL, List.getD, hk]
theorem tailL_all (zs : List (List UInt8)) : tailL (pieces (back zs zs.length)) = rowL zs := by rw [tailL_back zs (Nat.le_refl _), Nat.sub_self, List.drop_zero]
end Tm

/-- A row of texts that can be read, wherever it lies. -/
def ReadsA (X : Nat → Prop) (w : World) (v : Value) (xs : List (List UInt8)) : Prop :=
  ∃ A c, v = .slice A xs.length c ∧ ∀ j x, xs[j]? = some x → ∃ ad : Addr, A = some ad ∧ ad.block < w.heap.size ∧ ¬ X ad.block ∧ w.cell? (ad.add j) = some (.string ⟨x.toArray⟩)
theorem addr_block (ad : Addr) (i : Nat) : (ad.add i).block = ad.block := by unfold Addr.add; split <;> rfl
theorem Spare.at {X : Nat → Prop} {W W' : World} (h : Spare X W W') {a : Addr} (hb : a.block < W.heap.size) (hx : ¬ X a.block) : W'.cell? a = W.cell? a := World.cell?_of_block (h.same a.block hb hx)
theorem ReadsA.spare {X : Nat → Prop} {W W' : World} {v : Value} {xs : List (List UInt8)} (h : ReadsA X W v xs) (hs : Spare X W W') : ReadsA X W' v xs := by
  obtain ⟨A, c, h1, h2⟩ := h
  refine ⟨A, c, h1, fun j x hx => ?_⟩
  obtain ⟨ad, e, k1, k2, k3⟩ := h2 j x hx
  exact ⟨ad, e, Nat.lt_of_lt_of_le k1 hs.size, k2, (hs.at (by rw [addr_block]; exact k1) (by rw [addr_block]; exact k2)).trans k3⟩

def Backing (X : Nat → Prop) (W : World) (zs : List (List UInt8)) (J : List (Nat × List UInt8) → World → Prop) (k : Nat) (v3 : Value) (wr : World) : Prop :=
  ∃ m, k + m = zs.length ∧ v3 = .int .i64 ((k : Int) - 1) ∧ J (Tm.back zs m) wr ∧ Spare X W wr

set_option maxRecDepth 100000 in
set_option maxHeartbeats 2000000 in
theorem backward1_in (n l Bs : Nat) (zs : List (List UInt8)) (v : Value) (X : Nat → Prop) (J : List (Nat × List UInt8) → World → Prop)
    (hY : ∀ m pre x W1, pre ++ [x] <+: Tm.back zs zs.length → J pre W1 → YieldAt Fence.wide m Try.prog l #[.int .i64 (x.1 : Int), .string ⟨x.2.toArray⟩] W1 fun e W' => e = .returned (.bool true) ∧ J (pre ++ [x]) W' ∧ Spare X W1 W')
    (W : World) (hBs : W.cell? ⟨Bs, 0, none⟩ = some v) (hBl : Bs < W.heap.size) (hBX : ¬ X Bs) (hR : ReadsA X W v zs) (hlen : zs.length ≤ 1000000) (h0 : J [] W) :
    CallsIn Fence.wide n Try.prog 97 #[.func (.yield l) #[] #[], .pointer (some ⟨Bs, 0, none⟩)] W fun e W' => (∃ v, e = .returned v) ∧ J (Tm.back zs zs.length) W' := by
  obtain ⟨A, c, rfl, hcells⟩ := hR
  have HY := Lib.hid hY
  have HC := Lib.hid hcells
  clear hY hcells
  refine callsIn_of_wp Try.func97 rfl trivial ?_ rfl
  simp only [Try.ntmps97, List.size_toArray, List.length_cons, List.length_nil, Nat.reduceAdd, Nat.reduceSub, Array.replicate_succ, Array.replicate_zero, List.push_toArray, List.append_toArray, List.nil_append, List.cons_append]
  gi_wp2
  gi_loopg [3] zs.length (fun k v3 wr => Backing X W zs J k v3 wr)
  case atStart => exact ⟨0, by omega, rfl, h0, Spare.refl _ _⟩
  case round =>
    obtain ⟨m, hk, rfl, hJs, hs⟩ := hrel
    cases gk with
    | zero =>
      have e : m = zs.length := by omega
      rw [e] at hJs
      have HJ := Lib.hid hJs
      have j1 : ¬ ((0 : Int) ≤ ((0 : Nat) : Int) - 1) := by omega
      clear hJs hs hk
      gi_wp2
      go_end0
      exact ⟨⟨_, rfl⟩, HJ.out⟩
    | succ k =>
      have hkl : k < zs.length := by omega
      have e1 : zs.length - 1 - m = k := by omega
      obtain ⟨x, hx⟩ : ∃ x, zs[k]? = some x := ⟨_, List.getElem?_eq_getElem hkl⟩
      obtain ⟨ad, rfl, a1, a2, a3⟩ := HC.out k x hx
      have hcx := (hs.at (a := ad.add k) (by rw [addr_block]; exact a1) (by rw [addr_block]; exact a2)).trans a3
      have hcb := (hs.at (a := ⟨Bs, 0, none⟩) hBl hBX).trans hBs
      have hbk : Tm.back zs (m + 1) = Tm.back zs m ++ [(k, x)] := by
        show Tm.back zs m ++ [_] = _
        rw [e1]
        simp [List.getD, hx]
      have HYy := Lib.hid (fun mm => HY.out mm (Tm.back zs m) (k, x) wr (by rw [← hbk]; exact Tm.back_prefix zs (by omega)) hJs)
      have HS := Lib.hid (And.intro hs (And.intro hbk hk))
      have j1 : (0 : Int) ≤ ((k + 1 : Nat) : Int) - 1 := by omega
      have j2 : ((k + 1 : Nat) : Int) - 1 = (k : Int) := by omega
      have j3 : (k : Int) < (zs.length : Int) := by omega
      have j4 : (0 : Int) ≤ (k : Int) := by omega
      rw [j2]
      clear hs hbk hk hJs hx a1 a2 a3 e1
      obtain ⟨fn, tmps, assign, body, hy5, hR⟩ := HYy.out (n - 1)
      gi_wp2
      refine ⟨(fun h => nomatch h), hR.mono ?_⟩
      rintro e W3 ⟨rfl, hJ3, hs3⟩
      have hRel : Hid (Backing X W zs J k (.int .i64 ((k : Int) - 1)) W3) := by
        obtain ⟨k1, k2, k3⟩ := HS.out
        exact ⟨m + 1, by omega, rfl, by rw [k2]; exact hJ3, k1.trans hs3⟩
      clear hJ3 hs3 hy5 hR HYy
      gi_wp2
      gi_roundg k
      case measure => omega
      case rel => exact hRel.out

set_option maxHeartbeats 400000 in
theorem backward_calls (v : Value) (A : Option Addr) (len c : Nat) (hv : v = .slice A len c) (w : World) :
    Calls Try.prog 83 #[v] w fun e w' => e = .returned (.func (.func 97) #[] #[.pointer (some ⟨w.heap.size, 0, none⟩)]) ∧ w.alloc (.cells #[v] 30) = w' := by
  subst hv
  go_enter Try.func83, Try.ntmps83
  go_wp2
  go_ret
  exact ⟨rfl, rfl⟩
theorem backward_each (Bs : Nat) (zs : List (List UInt8)) (v : Value) (X : Nat → Prop) (w : World) (hBs : w.cell? ⟨Bs, 0, none⟩ = some v) (hBl : Bs < w.heap.size) (hBX : ¬ X Bs) (hR : ReadsA X w v zs) (hlen : zs.length ≤ 1000000) :
    SeqEach Try.prog 97 #[.pointer (some ⟨Bs, 0, none⟩)] (fun x : Nat × List UInt8 => #[.int .i64 (x.1 : Int), .string ⟨x.2.toArray⟩]) X (Tm.back zs zs.length) w := by
  intro n l J W hW _ _ hY h0
  exact backward1_in n l Bs zs v X J hY W ((hW.cell (p := ⟨Bs, 0, none⟩) hBl).trans hBs) (Nat.lt_of_lt_of_le hBl hW.size) hBX (hR.spare (.of_below hW)) hlen h0

end Go.Proofs.Ytckmpbmlneionaa
