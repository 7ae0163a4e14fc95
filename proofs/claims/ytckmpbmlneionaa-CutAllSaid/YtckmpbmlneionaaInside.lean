/- Contracts of parts.bytesInside, of the iterator that parts.inside hands back, and of parts.Kind. -/
import Derived.Test.YtckmpbmlneionaaOfPure
import Derived.RangeFuncNested
import Derived.RangeFuncBound
import Derived.RangeFuncCalls
import Derived.RangeFuncLeaves
import Derived.RangeFuncBox
import Derived.Shelf.Abstract
import Derived.Shelf.RegionOpen
import Derived.WalkKit
import Derived.OwnWalkIn
import Derived.TacticsInMore
import Derived.LoopNIn
import Derived.LoopIn
import Derived.Maps.AppendAt
import Derived.Sort.LoopGhostIn
namespace Go.Proofs.Ytckmpbmlneionaa
open Go.ChangeShapes Go.WideShapes Go.ChangeAt Go.RowKit Go.Shelf

attribute [local go_sem] Oper.semAt_some

set_option maxHeartbeats 400000 in
theorem Kind_calls (s : ByteArray) (hs : s.size ≤ maxLen) (w : World) :
    Calls Try.prog 74 #[.string s] w (One w (.int .u8 (Tm.kindOf s.data.toList).toNat)) := by
  have cR := fun W => Right_calls s hs W
  unfold Tm.kindOf
  cases hr : Tm.right s.data.toList with
  | false =>
    rw [hr] at cR
    have HR := Lib.hid cR
    clear cR hr
    go_enter Try.func74, Try.ntmps74
    go_wp2_with fail
    refine (HR.out _).mono ?_
    rintro e' w1 ⟨rfl, b1⟩
    go_wp2
    go_ret
    exact ⟨rfl, b1⟩
  | true =>
    rw [hr] at cR
    have hp := (Tm.right_ne_nil hr).2
    rw [len_bytes] at hp
    have hg := getD_bytes s 0 hp
    rw [if_pos rfl, hg]
    have HR := Lib.hid cR
    have i1 : (0 : Int) < (s.size : Int) := by omega
    clear cR hr hg
    go_enter Try.func74, Try.ntmps74
    go_wp2_with fail
    refine (HR.out _).mono ?_
    rintro e' w1 ⟨rfl, b1⟩
    go_wp2
    go_ret
    exact ⟨rfl, b1⟩

theorem grown_of_below {w w' : World} (h : Below w.heap.size w w') : w.grownBy w' none := ⟨h.os, h.tape, h.output, h.size, fun k hk _ => h.block k hk⟩

/-- What is still to come of the terms in t. -/
def Telling (ps : List (List UInt8)) (J : List (List UInt8) → World → Prop) (k : Nat) (v3 : Value) (wr : World) : Prop :=
  ∃ pre rest, k = rest.length ∧ v3 = .string ⟨rest.flatten.toArray⟩ ∧ ps = pre ++ rest ∧ J pre wr

end Go.Proofs.Ytckmpbmlneionaa
