/- Contract of list.Take: the row of a term, or what is wrong. -/
import Derived.Test.YtckmpbmlneionaaListPure
import Derived.Maps.AppendAt
namespace Go.Proofs.Ytckmpbmlneionaa
open Go.ChangeShapes Go.WideShapes Go.ChangeAt Go.RowKit

namespace Tm
/-- The row of a right term; none, if it is no row's, or a longer one. -/
def unrow : Nat → List UInt8 → Option (List (List UInt8))
  | 0, _ => none
  | k + 1, t => if t.getD 0 0 = 112 then (match ofL t with | [x, y] => (unrow k y).map (x :: ·) | _ => none) else if t = num0 then some [] else none
def takeRow (t : List UInt8) : List (List UInt8) × Nat := if right t = true then (match unrow 151 t with | some zs => (zs, 0) | none => ([], 2)) else ([], 2)
theorem pair_two {t : List UInt8} (h : right t = true) (hk : t.getD 0 0 = 112) : ∃ x y, ofL t = [x, y] ∧ t = 112 :: (x ++ y) ∧ Good 400 20000 x ∧ right y = true ∧ y.length < t.length ∧ y.length ≤ 20000 := by
  obtain ⟨o1, o2, o3, o4, o5, o6⟩ := ofL_ok h
  have hh : headOf t = (1, 2) := by unfold headOf; rw [if_neg (right_ne_nil h).1, hk]; simp
  have hb : begin_ t = (1, 2) := by rw [(head_of_right h).1, hh]
  rw [hb] at o3 o1
  match hx : ofL t, o3 with
  | [x, y], _ =>
    rw [hx] at o1 o2
    have hx2 := o2 x (by simp)
    have hy2 := o2 y (by simp)
    refine ⟨x, y, rfl, ?_, ⟨hx2.1, depthOf_le x, by have := hx2.2.2; omega⟩, (right_iff y).2 hy2.1, hy2.2.2, by have := hy2.2.2; omega⟩
    cases t with
    | nil => exact absurd rfl (right_ne_nil h).1
    | cons c t' =>
      simp at o1 hk
      rw [hk, ← o1]
end Tm

def TakeOut (w : World) (r : List (List UInt8) × Nat) (e : Ending) (w' : World) : Prop :=
  ∃ v, e = .returned (.tuple #[v, .int .i64 (r.2 : Nat)]) ∧ w'.ownsRow w.heap.size 31 1 v r.1.length (strs r.1) ∧ (r.2 ≠ 0 → v = .slice none 0 0) ∧ Below w.heap.size w w'
def Taking (w : World) (t0 : List UInt8) (k : Nat) (v0 v4 : Value) (wr : World) : Prop :=
  ∃ t acc, k + acc.length = 151 ∧ acc.length ≤ 150 ∧ v0 = .string ⟨t.toArray⟩ ∧ Tm.right t = true ∧ Tm.unrow 151 t0 = (Tm.unrow k t).map (acc ++ ·) ∧ wr.ownsRow w.heap.size 31 1 v4 acc.length (strs acc) ∧ Below w.heap.size w wr

set_option maxRecDepth 100000 in
set_option maxHeartbeats 4000000 in
theorem ltake_right (t : List UInt8) (hr : Tm.right t = true) (w : World) : Calls Try.prog 59 #[.string ⟨t.toArray⟩] w (TakeOut w (match Tm.unrow 151 t with | some zs => (zs, 0) | none => ([], 2))) := by
  obtain ⟨i0, hi, hz0, hz1, hz2⟩ := info_parts info_term
  have o6 := (Tm.ofL_ok hr).2.2.2.2.2
  have cR := fun W => Right_calls ⟨t.toArray⟩ (by rw [size_list]; unfold maxLen; omega) W
  rw [show (⟨t.toArray⟩ : ByteArray).data.toList = t from rfl, hr] at cR
  have HRg := Lib.hid cR
  have HNum : Hid (∀ V : World, Calls Try.prog 35 #[.int .u64 0] V (One V (.string ⟨Tm.num0.toArray⟩))) := fun V => Number_calls 0 (by decide) V
  obtain ⟨r, hrr⟩ : ∃ r, (match Tm.unrow 151 t with | some zs => ((zs, 0) : List (List UInt8) × Nat) | none => ([], 2)) = r := ⟨_, rfl⟩
  rw [hrr]
  have HRr := Lib.hid hrr
  have HT0 := Lib.hid hr
  clear cR hr hrr
  go_enter Try.func59, Try.ntmps59
  go_wp2_with fail
  refine (HRg.out _).mono ?_
  rintro e w1 ⟨rfl, b1⟩
  have HB1 := Lib.hid b1
  clear b1
  go_wp2
  go_loopg [0, 4] 151 (fun k v0 v4 wr => Taking w t k v0 v4 wr)
  case atStart => exact ⟨t, [], rfl, by simp, rfl, HT0.out, by simp, World.ownsRow_nil _ _ _ _, HB1.out⟩
  case round =>
    obtain ⟨t1, acc, hk, hal, rfl, hr1, hun, hrow, hB⟩ := hrel
    obtain ⟨k, rfl⟩ : ∃ k, gk = k + 1 := ⟨gk - 1, by omega⟩
    have HK := Lib.hid hk
    have HRow := Lib.hid hrow
    have HB := Lib.hid hB
    have hszB := hB.size
    by_cases hp : t1.getD 0 0 = 112
    · obtain ⟨x, y, hof, rfl, hgx, hry, hyl, hy2⟩ := Tm.pair_two hr1 hp
      have hl1 := (Tm.ofL_ok hr1).2.2.2.2.2
      have hi0 : (0 : Int) < ((⟨(112 :: (x ++ y)).toArray⟩ : ByteArray).size : Int) := by rw [size_list, List.length_cons]; omega
      have hi1 : (1 : Int) ≤ ((⟨(112 :: (x ++ y)).toArray⟩ : ByteArray).size : Int) := by omega
      have e2 : (⟨(112 :: (x ++ y)).toArray⟩ : ByteArray).extract 1 (x.length + y.length + 1) = ⟨(x ++ y).toArray⟩ := by
        rw [extract_eq]
        simp [← List.length_append]
      have HTk := Lib.hid (fun W => take_at hgx y (by omega) W)
      rw [← e2] at HTk
      have hun1 : Tm.unrow (k + 1) (112 :: (x ++ y)) = (Tm.unrow k y).map (x :: ·) := by
        show (if _ then _ else _) = _
        rw [if_pos hp, hof]
      rw [hun1] at hun
      by_cases hfull : acc.length = 150
      · obtain rfl : k = 0 := by omega
        have hfin : Hid (∀ w3, Below wr.heap.size wr w3 → TakeOut w r (.returned (.tuple #[.slice none 0 0, .int .i64 2])) w3) := fun w3 b3 => by
          have h1 : Tm.unrow 151 t = none := by rw [hun]; rfl
          have := HRr.out
          rw [h1] at this
          rw [← this]
          exact ⟨_, rfl, World.ownsRow_nil _ _ _ _, fun _ => rfl, HB.out.trans (b3.mono hszB)⟩
        have hvl : ∃ A c, u4 = .slice A acc.length c := own_slice hrow
        obtain ⟨A, c, rfl⟩ := hvl
        rw [hfull]
        clear hrow hB e2 hun hr1 hp hof hgx hry hyl hun1 HRow hk hal hfull
        go_wp2_with fail
        refine (HTk.out _).mono ?_
        rintro e w3 ⟨rfl, b3⟩
        have HF := Lib.hid (hfin.out w3 b3)
        clear b3
        go_wp2
        go_ret2
        exact HF.out
      · have hal2 : acc.length < 150 := by omega
        have hneq : ((acc.length : Int) == 150) = false := by rw [beq_eq_false_iff_ne]; omega
        have hvl : ∃ A c, u4 = .slice A acc.length c := own_slice hrow
        obtain ⟨A, c, rfl⟩ := hvl
        have hRel : Hid (∀ (w3 : World) (v2 : Value) (w4 : World), Below wr.heap.size wr w3 → w4.ownsRow w.heap.size 31 1 v2 (acc.length + 1) (strs acc ++ [.string ⟨x.toArray⟩]) → (w3.alloc (.cells #[.string ⟨x.toArray⟩] 31)).grownBy w4 (Value.slice A acc.length c).ownBlock → Taking w t k (.string ⟨y.toArray⟩) v2 w4) := by
          intro w3 v2 w4 b3 k1 k2
          refine ⟨y, acc ++ [x], by simp; omega, by simp; omega, rfl, hry, ?_, by simpa [strs] using k1, ?_⟩
          · rw [hun, Option.map_map]
            congr 1
            funext l
            simp
          · have b4 := HB.out.trans (b3.mono hszB)
            have hg2 := grow_trans (World.grownBy_alloc w3 (.cells #[.string ⟨x.toArray⟩] 31) _) k2
            exact b4.grown hg2 b4.size (fun q e => (HRow.out.lt q e).1)
        have hrow3 : Hid (∀ w3, Below wr.heap.size wr w3 → w3.ownsRow w.heap.size 31 1 (.slice A acc.length c) acc.length (strs acc)) := fun w3 b3 => own_below HRow.out b3
        clear hrow hB e2 hun hr1 hp hof hgx hry hyl hun1 hk hal hfull
        go_wp2_with fail
        refine (HTk.out _).mono ?_
        rintro e w3 ⟨rfl, b3⟩
        have hr3 := hrow3.out w3 b3
        have HB3 := Lib.hid b3
        have hsz3 := b3.size
        clear b3
        go_wp2_with (at_builtin; refine wpList_append_own_at _ rfl _ _ 30 rfl w.heap.size 31 i0 _ 1 16 Try.underlying30 hi hz0 hz1 hz2 rfl (by decide) _ _ _ rfl (hr3.alloc _) ⟨w3.heap.size, 0, none⟩ 1 1 [.string ⟨x.toArray⟩] rfl rfl (cell_one_new _ _ _) (by simp [Value.oneCell']) (by unfold maxLen; omega) (by omega) (by simp; omega) ?_; intro v2 w4 hown' hgrow hnil hat)
        have hRl := Lib.hid (hRel.out w3 v2 w4 HB3.out hown' hgrow)
        clear hown' hgrow hnil hat
        go_roundg k
        case measure => omega
        case rel => exact hRl.out
    · obtain ⟨c0, t', rfl⟩ : ∃ c0 t', t1 = c0 :: t' := by
        cases t1 with
        | nil => exact absurd rfl (Tm.right_ne_nil hr1).1
        | cons c0 t' => exact ⟨c0, t', rfl⟩
      have hc0 : c0 ≠ 112 := fun e => hp (by rw [e]; rfl)
      have hi0 : (0 : Int) < ((⟨(c0 :: t').toArray⟩ : ByteArray).size : Int) := by rw [size_list, List.length_cons]; omega
      have n0 : ∀ h, (((((⟨(c0 :: t').toArray⟩ : ByteArray)[0]'h).toNat : Nat) : Int) == 112) = false := fun _ => by
        rw [beq_eq_false_iff_ne]
        intro h
        apply hc0
        apply UInt8.toNat_inj.1
        exact Int.ofNat.inj h
      have hun1 : Tm.unrow (k + 1) (c0 :: t') = if c0 :: t' = Tm.num0 then some [] else none := by
        show (if _ then _ else _) = _
        rw [if_neg hp]
      rw [hun1] at hun
      have hvl : ∃ A c, u4 = .slice A acc.length c := own_slice hrow
      obtain ⟨A, c, rfl⟩ := hvl
      by_cases hz : c0 :: t' = Tm.num0
      · have hfin : Hid (∀ w3, Below wr.heap.size wr w3 → TakeOut w r (.returned (.tuple #[.slice A acc.length c, .int .i64 0])) w3) := fun w3 b3 => by
          rw [if_pos hz] at hun
          have := HRr.out
          rw [hun] at this
          simp at this
          rw [← this]
          exact ⟨_, rfl, own_below HRow.out b3, fun h => absurd rfl h, HB.out.trans (b3.mono hszB)⟩
        have hbq : (c0 :: t' == Tm.num0) = true := by rw [hz]; exact beq_self_eq_true _
        clear hrow hB hun hr1 hp hun1 HRow hk hal hz
        go_wp2_with fail
        refine (HNum.out _).mono ?_
        rintro e w3 ⟨rfl, b3⟩
        have HF := Lib.hid (hfin.out w3 b3)
        clear b3
        go_wp2
        go_ret2
        exact HF.out
      · have hfin : Hid (∀ w3, Below wr.heap.size wr w3 → TakeOut w r (.returned (.tuple #[.slice none 0 0, .int .i64 2])) w3) := fun w3 b3 => by
          rw [if_neg hz] at hun
          have := HRr.out
          rw [hun] at this
          simp at this
          rw [← this]
          exact ⟨_, rfl, World.ownsRow_nil _ _ _ _, fun _ => rfl, HB.out.trans (b3.mono hszB)⟩
        have hbq : (c0 :: t' == Tm.num0) = false := beq_eq_false_iff_ne.2 hz
        clear hrow hB hun hr1 hp hun1 HRow hk hal hz
        go_wp2_with fail
        refine (HNum.out _).mono ?_
        rintro e w3 ⟨rfl, b3⟩
        have HF := Lib.hid (hfin.out w3 b3)
        clear b3
        go_wp2
        go_ret2
        exact HF.out

set_option maxHeartbeats 400000 in
theorem ltake_calls (s : ByteArray) (hs : s.size ≤ maxLen) (w : World) : Calls Try.prog 59 #[.string s] w (TakeOut w (Tm.takeRow s.data.toList)) := by
  unfold Tm.takeRow
  cases hr : Tm.right s.data.toList with
  | true =>
    rw [if_pos rfl]
    have := ltake_right s.data.toList hr w
    rw [show (⟨s.data.toList.toArray⟩ : ByteArray) = s by cases s; simp] at this
    exact this
  | false =>
    rw [if_neg (by simp)]
    have cR := fun W => Right_calls s hs W
    rw [hr] at cR
    have HR := Lib.hid cR
    clear cR hr
    go_enter Try.func59, Try.ntmps59
    go_wp2_with fail
    refine (HR.out _).mono ?_
    rintro e w1 ⟨rfl, b1⟩
    go_wp2
    go_ret2
    exact ⟨_, rfl, World.ownsRow_nil _ _ _ _, fun _ => rfl, b1⟩

end Go.Proofs.Ytckmpbmlneionaa
