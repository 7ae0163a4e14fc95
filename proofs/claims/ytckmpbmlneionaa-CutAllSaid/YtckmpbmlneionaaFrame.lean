/- Contracts of inKey and took: what is asked of, and done to, the innermost open term. -/
import Derived.Test.YtckmpbmlneionaaHead
import Derived.Deep.AppendLies
import Derived.Laws.OwnMore
import Derived.Maps.AppendAt
namespace Go.Proofs.Ytckmpbmlneionaa
open Go.ChangeShapes Go.WideShapes Go.ChangeAt Go.RowKit

def S (l : List UInt8) : Value := .string ⟨l.toArray⟩

def frCells (f : Tm.Fr) : List Value := [.int .u8 f.kind.toNat, .int .i64 f.left, .int .i64 f.frm, .string ⟨f.ahead.toArray⟩]

/-- The stack, the outermost first. -/
def flat : List Tm.Fr → List Value
  | [] => []
  | f :: st => flat st ++ frCells f

theorem flat_length (st : List Tm.Fr) : (flat st).length = st.length * 4 := by
  induction st with
  | nil => rfl
  | cons f st ih => simp [flat, frCells, ih]; omega

theorem flat_top (f : Tm.Fr) (st : List Tm.Fr) (i : Nat) (h : i < 4) : (flat (f :: st))[st.length * 4 + i]? = (frCells f)[i]? := by
  rw [← flat_length st]
  show (flat st ++ frCells f)[(flat st).length + i]? = _
  rw [List.getElem?_append_right (by omega)]
  congr 1
  omega

theorem toList_extract (s : ByteArray) (a b : Nat) : (s.extract a b).data.toList = (s.data.toList.drop a).take (b - a) := by
  obtain ⟨l, rfl⟩ := of_list s
  rw [ByteArray.extract_mk]
theorem extract_eq (s : ByteArray) (a b : Nat) : s.extract a b = ⟨((s.data.toList.drop a).take (b - a)).toArray⟩ := by
  obtain ⟨l, rfl⟩ := of_list s
  rw [ByteArray.extract_mk]

theorem info_frame : (Try.prog.info? 171).map (fun i => (i.zero, i.size, i.bytes)) = some (some (.agg #[.int .u8 0, .int .i64 0, .int .i64 0, .string ⟨#[]⟩]), 4, 40) := by kernel_rfl

set_option maxHeartbeats 400000 in
theorem inKey_calls (st : List Tm.Fr) (base : Nat) (v : Value) (w : World) (hown : w.ownsRow base 171 4 v st.length (flat st)) (hst : st.length ≤ 400) :
    Calls Try.prog 98 #[v] w fun e w' => e = .returned (.bool (Tm.inKey st)) ∧ w = w' := by
  cases st with
  | nil =>
    rcases hown.2 with ⟨rfl, _⟩ | ⟨g, cap, cur, rfl, _⟩
    · go_enter Try.func98, Try.ntmps98
      go_wp2
      go_ret
      exact ⟨rfl, rfl⟩
    · simp only [List.length_nil]
      go_enter Try.func98, Try.ntmps98
      go_wp2
      go_ret
      exact ⟨rfl, rfl⟩
  | cons f rest =>
    rcases hown.2 with ⟨_, hn0⟩ | ⟨g, cap, cur, rfl, _, _, hncap, hcapm, _, _⟩
    · simp at hn0
    simp only [List.length_cons] at hown hncap hst ⊢
    have ct0 := (hown.cellAt (rest.length * 4) (by omega)).trans (flat_top f rest 0 (by omega))
    simp only [frCells, List.getElem?_cons_zero] at ct0
    have hf : Tm.inKey (f :: rest) = (f.kind == 107) := rfl
    have hf2 : (f.kind == 107) = ((f.kind.toNat : Int) == 107) := by
      rw [Bool.eq_iff_iff]; simp; exact (u8_iff f.kind 107 (by omega)).symm
    rw [hf, hf2]
    clear hf hf2 hown
    have c24 : Try.prog.cellsOf 171 = 4 := by kernel_rfl
    have hwr : IntKind.i64.wrap (rest.length : Int) = (rest.length : Int) := by rw [IntKind.wrap_i64]; omega
    have hix1 : (rest.length : Int) < (rest.length : Int) + 1 := by omega
    have hix3 : rest.length < rest.length + 1 := by omega
    have hix0 : (0 : Int) ≤ (rest.length : Int) := by omega
    have hgt : (0 : Int) < (rest.length : Int) + 1 := by omega
    go_enter Try.func98, Try.ntmps98
    go_wp2
    all_goals go_ret
    all_goals exact ⟨rfl, rfl⟩

set_option maxHeartbeats 400000 in
theorem took_calls (g o : Nat) (f : Tm.Fr) (s : ByteArray) (at_ : Nat) (w : World) (h0 : f.frm ≤ at_) (h1 : at_ ≤ s.size) (hl : f.left ≤ 32)
    (c0 : w.cell? ⟨g, o, none⟩ = some (.int .u8 f.kind.toNat)) (c1 : w.cell? ⟨g, o + 1, none⟩ = some (.int .i64 f.left)) (c2 : w.cell? ⟨g, o + 2, none⟩ = some (.int .i64 f.frm)) (c3 : w.cell? ⟨g, o + 3, none⟩ = some (.string ⟨f.ahead.toArray⟩))
    (f1 : w.frozen? ⟨g, o + 1, none⟩ = false) (f2 : w.frozen? ⟨g, o + 2, none⟩ = false) (f3 : w.frozen? ⟨g, o + 3, none⟩ = false)
    (hno : ¬ (f.kind = 101 ∧ Tm.less ((s.data.toList.drop f.frm).take (at_ - f.frm)) f.ahead = true)) :
    Calls Try.prog 101 #[.pointer (some ⟨g, o, none⟩), .string s, .int .i64 at_] w fun e w' => e = .returned (.bool true) ∧
      w' = ((w.setCell ⟨g, o + 3, none⟩ (.string (s.extract f.frm at_))).setCell ⟨g, o + 2, none⟩ (.int .i64 at_)).setCell ⟨g, o + 1, none⟩ (.int .i64 (f.left - 1)) := by
  have i0 : (0 : Int) ≤ (f.frm : Int) := by omega
  have i1 : (f.frm : Int) ≤ (at_ : Int) := by omega
  have i2 : (at_ : Int) ≤ (s.size : Int) := by omega
  by_cases hk : f.kind = 101
  · have hls : Op.bytesLess (s.extract f.frm at_).toList f.ahead = false := by
      rw [ByteArray.toList_eq, toList_extract]
      have := fun h => hno ⟨hk, h⟩
      simpa [Tm.less] using this
    have hk' : ((f.kind.toNat : Int) == 101) = true := u8_yes (n := 101) (by omega) hk
    clear hno hk
    go_enter Try.func101, Try.ntmps101
    go_wp2
    go_ret
    exact ⟨rfl, rfl⟩
  · have hk' : ((f.kind.toNat : Int) == 101) = false := u8_no (n := 101) (by omega) hk
    clear hno hk
    go_enter Try.func101, Try.ntmps101
    go_wp2
    go_ret
    exact ⟨rfl, rfl⟩

set_option maxHeartbeats 400000 in
theorem took_no_calls (g o : Nat) (f : Tm.Fr) (s : ByteArray) (at_ : Nat) (w : World) (h0 : f.frm ≤ at_) (h1 : at_ ≤ s.size)
    (c0 : w.cell? ⟨g, o, none⟩ = some (.int .u8 f.kind.toNat)) (c2 : w.cell? ⟨g, o + 2, none⟩ = some (.int .i64 f.frm)) (c3 : w.cell? ⟨g, o + 3, none⟩ = some (.string ⟨f.ahead.toArray⟩))
    (hyes : f.kind = 101 ∧ Tm.less ((s.data.toList.drop f.frm).take (at_ - f.frm)) f.ahead = true) :
    Calls Try.prog 101 #[.pointer (some ⟨g, o, none⟩), .string s, .int .i64 at_] w fun e w' => e = .returned (.bool false) ∧ w = w' := by
  have i0 : (0 : Int) ≤ (f.frm : Int) := by omega
  have i1 : (f.frm : Int) ≤ (at_ : Int) := by omega
  have i2 : (at_ : Int) ≤ (s.size : Int) := by omega
  obtain ⟨hk, hl⟩ := hyes
  have hls : Op.bytesLess (s.extract f.frm at_).toList f.ahead = true := by
    rw [ByteArray.toList_eq, toList_extract]
    exact hl
  have hk' : ((f.kind.toNat : Int) == 101) = true := u8_yes (n := 101) (by omega) hk
  clear hk hl
  go_enter Try.func101, Try.ntmps101
  go_wp2
  go_ret
  exact ⟨rfl, rfl⟩

theorem flat_set (f f' : Tm.Fr) (st : List Tm.Fr) (hk : f'.kind = f.kind) :
    ((((flat (f :: st)).set (st.length * 4 + 3) (.string ⟨f'.ahead.toArray⟩)).set (st.length * 4 + 2) (.int .i64 f'.frm)).set (st.length * 4 + 1) (.int .i64 f'.left)) = flat (f' :: st) := by
  rw [← flat_length st]
  simp only [flat]
  rw [List.set_append_right _ _ (by omega), List.set_append_right _ _ (by omega), List.set_append_right _ _ (by omega)]
  simp [frCells, hk]

theorem took_row (base g cap : Nat) (f : Tm.Fr) (rest : List Tm.Fr) (s : ByteArray) (at_ : Nat) (w : World) (h0 : f.frm ≤ at_) (h1 : at_ ≤ s.size) (hl : f.left ≤ 32) (hl0 : 0 < f.left)
    (hown : w.ownsRow base 171 4 (.slice (some ⟨g, 0, none⟩) (rest.length + 1) cap) (rest.length + 1) (flat (f :: rest)))
    (hno : ¬ (f.kind = 101 ∧ Tm.less ((s.data.toList.drop f.frm).take (at_ - f.frm)) f.ahead = true)) :
    Calls Try.prog 101 #[.pointer (some ⟨g, rest.length * 4, none⟩), .string s, .int .i64 at_] w fun e w' => e = .returned (.bool true) ∧
      w'.ownsRow base 171 4 (.slice (some ⟨g, 0, none⟩) (rest.length + 1) cap) (rest.length + 1) (flat (⟨f.kind, f.left - 1, at_, (s.data.toList.drop f.frm).take (at_ - f.frm)⟩ :: rest)) ∧ w.grownBy w' (some g) := by
  have c := fun (i : Nat) (hi : i < 4) => (hown.cellAt (rest.length * 4 + i) (by omega)).trans (flat_top f rest i hi)
  have fz := fun (i : Nat) => hown.frozenAt (rest.length * 4 + i)
  refine (took_calls g (rest.length * 4) f s at_ w h0 h1 hl (c 0 (by omega)) (c 1 (by omega)) (c 2 (by omega)) (c 3 (by omega)) (fz 1) (fz 2) (fz 3) hno).mono ?_
  rintro e w' ⟨rfl, rfl⟩
  have e1 : ((f.left : Int) - 1) = ((f.left - 1 : Nat) : Int) := by omega
  rw [extract_eq, e1]
  obtain ⟨o1, g1⟩ := hown.stored (rest.length * 4 + 3) (.string ⟨((s.data.toList.drop f.frm).take (at_ - f.frm)).toArray⟩)
  obtain ⟨o2, g2⟩ := o1.stored (rest.length * 4 + 2) (.int .i64 (at_ : Int))
  obtain ⟨o3, g3⟩ := o2.stored (rest.length * 4 + 1) (.int .i64 ((f.left - 1 : Nat) : Int))
  refine ⟨rfl, ?_, World.grownBy.trans (World.grownBy.trans g1 g2) g3⟩
  rw [← flat_set f ⟨f.kind, f.left - 1, at_, (s.data.toList.drop f.frm).take (at_ - f.frm)⟩ rest rfl]
  exact o3

theorem took_row_no (base g cap : Nat) (f : Tm.Fr) (rest : List Tm.Fr) (s : ByteArray) (at_ : Nat) (w : World) (h0 : f.frm ≤ at_) (h1 : at_ ≤ s.size)
    (hown : w.ownsRow base 171 4 (.slice (some ⟨g, 0, none⟩) (rest.length + 1) cap) (rest.length + 1) (flat (f :: rest)))
    (hyes : f.kind = 101 ∧ Tm.less ((s.data.toList.drop f.frm).take (at_ - f.frm)) f.ahead = true) :
    Calls Try.prog 101 #[.pointer (some ⟨g, rest.length * 4, none⟩), .string s, .int .i64 at_] w fun e w' => e = .returned (.bool false) ∧ w = w' := by
  have c := fun (i : Nat) (hi : i < 4) => (hown.cellAt (rest.length * 4 + i) (by omega)).trans (flat_top f rest i hi)
  exact took_no_calls g (rest.length * 4) f s at_ w h0 h1 (c 0 (by omega)) (c 2 (by omega)) (c 3 (by omega)) hyes

theorem ownsRow_pop {w : World} {base : Nat} {e : TypeId} {g cap : Nat} {f : Tm.Fr} {rest : List Tm.Fr} (h : w.ownsRow base e 4 (.slice (some ⟨g, 0, none⟩) (rest.length + 1) cap) (rest.length + 1) (flat (f :: rest))) :
    w.ownsRow base e 4 (.slice (some ⟨g, 0, none⟩) rest.length cap) rest.length (flat rest) := by
  obtain ⟨h1, h2⟩ := h
  rcases h2 with ⟨h0, _⟩ | ⟨g', cap', cur, hv, hg, hh, hn, hcap, hsz, htake⟩
  · cases h0
  · cases hv
    refine ⟨by rw [flat_length], .inr ⟨g, cap, cur, rfl, hg, hh, by omega, hcap, hsz, ?_⟩⟩
    have h3 : (cur.toList.take ((rest.length + 1) * 4)).take (rest.length * 4) = (flat (f :: rest)).take (rest.length * 4) := by rw [htake]
    rw [List.take_take, Nat.min_eq_left (by omega)] at h3
    rw [h3, ← flat_length rest]
    simp [flat]

theorem extract_drop (s : ByteArray) (a : Nat) : (s.extract a s.size).data.toList = s.data.toList.drop a := by
  rw [toList_extract]
  exact List.take_of_length_le (by simp)

end Go.Proofs.Ytckmpbmlneionaa
