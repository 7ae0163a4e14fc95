/-
  No cell of these rows narrows 'for every input' (looked for: loops, veiled, ifaces, maps, wideKeys, modest, calm, conditions, laid).
  DERIVED. THE GIVEN ROWS OF THIS SEAT. 6 by the template 'for every input the law returns true; each argument reads behind the call as it read before'; 0 by the template 'total and deterministic' (their statements: YtcdhfkfokckjgaaTotals.lean).
  GIVEN WITH THE SEED: the statements are not yours to turn. If you find one false, say at which input.
  Laid BY PROGRAM, IN A SANDBOX (cutbox-rows.mjs): the forced cells as the released guide's own fill.sh prints them over the translation 0821f185ab7317b8… (all of the seat's roots in one cut). By AI agents, Wed Nov 11 2026. No macro, syntax, notation, axiom, sorry.
-/
import Derived.Test.YtcdhfkfokckjgaaChecked
import GoSem.Claim
import GoSem.ClaimJoined
import GoSem.ClaimMapViews
import Derived.JoinedTies
import Derived.KernelRfl
namespace Go.Proofs.Ytcdhfkfokckjgaa
/- THE CELL 'sum', in the pinned program and in every row, IS THE sha256 OF THE DUMP (.gsa) THAT YtcdhfkfokckjgaaProg.lean LOADS. Nothing in Lean hashes anything: it is a label: what it is worth is what the hold of that sum in a sandbox is worth. -/
noncomputable def Try.pinned : Pinned := { name := "ytcdhfkfokckjgaa", sum := "0821f185ab7317b8416a766d20651f5b73bb91e162c76ef3a0a003d39e8ce593", checked := Try.checked }
namespace Rows
def none {H : Type} : Left H := { results := [], args := [] }

/-- 'gemotlaw8.NetPlays': WHATEVER THE INPUT: true; the input reads as it did. -/
def netPlaysSpec : ChangeSpec := { name := "netPlays", fn := fun _ => fun
  | [d] => { results := [.lit (.bool true)], args := [d] }
  | _ => none }
def netPlaysRow : OpenClaim := { program := "ytcdhfkfokckjgaa", sum := "0821f185ab7317b8416a766d20651f5b73bb91e162c76ef3a0a003d39e8ce593", func := "gemot/gemotlaw8.NetPlays", spec := "netPlays", unfollowed := true, recurses := true, apart := false }
def NetPlaysSaid : Prop := netPlaysRow.holds Try.pinned (OpenSpec.ofChange netPlaysSpec)

/-- ITS FALSE NEIGHBOUR: 'it returns false'. Refute it at one input. -/
def netPlaysWrong : ChangeSpec := { name := "netPlays", fn := fun _ => fun
  | [d] => { results := [.lit (.bool false)], args := [d] }
  | _ => none }
def NetPlaysWrongFalsely : Prop := netPlaysRow.holds Try.pinned (OpenSpec.ofChange netPlaysWrong)

/-- 'gemotlaw8.NetRoom': WHATEVER THE INPUT: true; the input reads as it did. -/
def netRoomSpec : ChangeSpec := { name := "netRoom", fn := fun _ => fun
  | [d1, d2] => { results := [.lit (.bool true)], args := [d1, d2] }
  | _ => none }
def netRoomRow : OpenClaim := { program := "ytcdhfkfokckjgaa", sum := "0821f185ab7317b8416a766d20651f5b73bb91e162c76ef3a0a003d39e8ce593", func := "gemot/gemotlaw8.NetRoom", spec := "netRoom", unfollowed := true, recurses := true, apart := false }
def NetRoomSaid : Prop := netRoomRow.holds Try.pinned (OpenSpec.ofChange netRoomSpec)

/-- ITS FALSE NEIGHBOUR: 'it returns false'. Refute it at one input. -/
def netRoomWrong : ChangeSpec := { name := "netRoom", fn := fun _ => fun
  | [d1, d2] => { results := [.lit (.bool false)], args := [d1, d2] }
  | _ => none }
def NetRoomWrongFalsely : Prop := netRoomRow.holds Try.pinned (OpenSpec.ofChange netRoomWrong)

/-- 'gemotlaw8.NetHeard': WHATEVER THE INPUT: true; the input reads as it did. -/
def netHeardSpec : ChangeSpec := { name := "netHeard", fn := fun _ => fun
  | [d] => { results := [.lit (.bool true)], args := [d] }
  | _ => none }
def netHeardRow : OpenClaim := { program := "ytcdhfkfokckjgaa", sum := "0821f185ab7317b8416a766d20651f5b73bb91e162c76ef3a0a003d39e8ce593", func := "gemot/gemotlaw8.NetHeard", spec := "netHeard", unfollowed := true, recurses := true, apart := false }
def NetHeardSaid : Prop := netHeardRow.holds Try.pinned (OpenSpec.ofChange netHeardSpec)

/-- ITS FALSE NEIGHBOUR: 'it returns false'. Refute it at one input. -/
def netHeardWrong : ChangeSpec := { name := "netHeard", fn := fun _ => fun
  | [d] => { results := [.lit (.bool false)], args := [d] }
  | _ => none }
def NetHeardWrongFalsely : Prop := netHeardRow.holds Try.pinned (OpenSpec.ofChange netHeardWrong)

/-- 'gemotlaw8.NetOrder': WHATEVER THE INPUT: true; the input reads as it did. -/
def netOrderSpec : ChangeSpec := { name := "netOrder", fn := fun _ => fun
  | [d1, d2] => { results := [.lit (.bool true)], args := [d1, d2] }
  | _ => none }
def netOrderRow : OpenClaim := { program := "ytcdhfkfokckjgaa", sum := "0821f185ab7317b8416a766d20651f5b73bb91e162c76ef3a0a003d39e8ce593", func := "gemot/gemotlaw8.NetOrder", spec := "netOrder", apart := false }
def NetOrderSaid : Prop := netOrderRow.holds Try.pinned (OpenSpec.ofChange netOrderSpec)

/-- ITS FALSE NEIGHBOUR: 'it returns false'. Refute it at one input. -/
def netOrderWrong : ChangeSpec := { name := "netOrder", fn := fun _ => fun
  | [d1, d2] => { results := [.lit (.bool false)], args := [d1, d2] }
  | _ => none }
def NetOrderWrongFalsely : Prop := netOrderRow.holds Try.pinned (OpenSpec.ofChange netOrderWrong)

/-- 'gemotlaw8.NetKinds': WHATEVER THE INPUT: true; the input reads as it did. -/
def netKindsSpec : ChangeSpec := { name := "netKinds", fn := fun _ => fun
  | [d1, d2, d3] => { results := [.lit (.bool true)], args := [d1, d2, d3] }
  | _ => none }
def netKindsRow : OpenClaim := { program := "ytcdhfkfokckjgaa", sum := "0821f185ab7317b8416a766d20651f5b73bb91e162c76ef3a0a003d39e8ce593", func := "gemot/gemotlaw8.NetKinds", spec := "netKinds", unfollowed := true, recurses := true, apart := false }
def NetKindsSaid : Prop := netKindsRow.holds Try.pinned (OpenSpec.ofChange netKindsSpec)

/-- ITS FALSE NEIGHBOUR: 'it returns false'. Refute it at one input. -/
def netKindsWrong : ChangeSpec := { name := "netKinds", fn := fun _ => fun
  | [d1, d2, d3] => { results := [.lit (.bool false)], args := [d1, d2, d3] }
  | _ => none }
def NetKindsWrongFalsely : Prop := netKindsRow.holds Try.pinned (OpenSpec.ofChange netKindsWrong)

/-- 'gemotlaw8.NetLost': WHATEVER THE INPUT: true; the input reads as it did. -/
def netLostSpec : ChangeSpec := { name := "netLost", fn := fun _ => fun
  | [d1, d2] => { results := [.lit (.bool true)], args := [d1, d2] }
  | _ => none }
def netLostRow : OpenClaim := { program := "ytcdhfkfokckjgaa", sum := "0821f185ab7317b8416a766d20651f5b73bb91e162c76ef3a0a003d39e8ce593", func := "gemot/gemotlaw8.NetLost", spec := "netLost", unfollowed := true, recurses := true, apart := false }
def NetLostSaid : Prop := netLostRow.holds Try.pinned (OpenSpec.ofChange netLostSpec)

/-- ITS FALSE NEIGHBOUR: 'it returns false'. Refute it at one input. -/
def netLostWrong : ChangeSpec := { name := "netLost", fn := fun _ => fun
  | [d1, d2] => { results := [.lit (.bool false)], args := [d1, d2] }
  | _ => none }
def NetLostWrongFalsely : Prop := netLostRow.holds Try.pinned (OpenSpec.ofChange netLostWrong)

/- THE SECOND FORM. 'bulk': how many values and letters a reading holds, each counted each time it is reached (what is shared counts as often as it is met; a slice's spare places count too). A statement '..UptoSaid' is the law's where the arguments, and the package variables that the reading takes, are together of bulk at most 1048576: NARROWER than '..Said'. Prove '..Said' where nothing that the law and all that it calls make is longer than what came in: it says more and counts as full. Else prove '..UptoSaid'. A law counts once. -/
mutual
def uptoBulk {H : Type} : DataW H → Nat
  | .lit (.string bytes) => bytes.length + 1
  | .lit _ => 1
  | .nil => 1
  | .ptr d => uptoBulk d + 1
  | .slice elems spare => uptoBulkAll elems + uptoBulkAll spare + 1
  | .agg parts => uptoBulkAll parts + 1
  | .iface _ d => uptoBulk d + 1
  | .map entries => uptoBulkEntries entries + 1
  | .held _ => 1
def uptoBulkAll {H : Type} : List (DataW H) → Nat
  | [] => 0
  | d :: r => uptoBulk d + uptoBulkAll r
def uptoBulkEntries {H : Type} : List (Lit × DataW H) → Nat
  | [] => 0
  | x :: r => uptoBulkEntry x + uptoBulkEntries r
def uptoBulkEntry {H : Type} : Lit × DataW H → Nat
  | (.string bytes, d) => bytes.length + uptoBulk d + 1
  | (_, d) => uptoBulk d + 1
 end
def uptoSmall : (H : Type) → List (DataW H) → Bool := fun _ ds => decide (uptoBulkAll ds ≤ 1048576)
def OpenSpec.upto (s : _root_.Go.ChangeSpec) : _root_.Go.OpenSpec := { _root_.Go.OpenSpec.ofChange s with cond := some uptoSmall }

/-- 'gemotlaw8.NetPlays', WHERE WHAT IT READS IS OF BULK AT MOST 1048576: true; the input reads as it did. -/
def netPlaysUptoRow : OpenClaim := { program := "ytcdhfkfokckjgaa", sum := "0821f185ab7317b8416a766d20651f5b73bb91e162c76ef3a0a003d39e8ce593", func := "gemot/gemotlaw8.NetPlays", spec := "netPlays", unfollowed := true, recurses := true, apart := false, narrowed := true }
def NetPlaysUptoSaid : Prop := netPlaysUptoRow.holds Try.pinned (OpenSpec.upto netPlaysSpec)

/-- 'gemotlaw8.NetRoom', WHERE WHAT IT READS IS OF BULK AT MOST 1048576: true; the input reads as it did. -/
def netRoomUptoRow : OpenClaim := { program := "ytcdhfkfokckjgaa", sum := "0821f185ab7317b8416a766d20651f5b73bb91e162c76ef3a0a003d39e8ce593", func := "gemot/gemotlaw8.NetRoom", spec := "netRoom", unfollowed := true, recurses := true, apart := false, narrowed := true }
def NetRoomUptoSaid : Prop := netRoomUptoRow.holds Try.pinned (OpenSpec.upto netRoomSpec)

/-- 'gemotlaw8.NetHeard', WHERE WHAT IT READS IS OF BULK AT MOST 1048576: true; the input reads as it did. -/
def netHeardUptoRow : OpenClaim := { program := "ytcdhfkfokckjgaa", sum := "0821f185ab7317b8416a766d20651f5b73bb91e162c76ef3a0a003d39e8ce593", func := "gemot/gemotlaw8.NetHeard", spec := "netHeard", unfollowed := true, recurses := true, apart := false, narrowed := true }
def NetHeardUptoSaid : Prop := netHeardUptoRow.holds Try.pinned (OpenSpec.upto netHeardSpec)

/-- 'gemotlaw8.NetOrder', WHERE WHAT IT READS IS OF BULK AT MOST 1048576: true; the input reads as it did. -/
def netOrderUptoRow : OpenClaim := { program := "ytcdhfkfokckjgaa", sum := "0821f185ab7317b8416a766d20651f5b73bb91e162c76ef3a0a003d39e8ce593", func := "gemot/gemotlaw8.NetOrder", spec := "netOrder", apart := false, narrowed := true }
def NetOrderUptoSaid : Prop := netOrderUptoRow.holds Try.pinned (OpenSpec.upto netOrderSpec)

/-- 'gemotlaw8.NetKinds', WHERE WHAT IT READS IS OF BULK AT MOST 1048576: true; the input reads as it did. -/
def netKindsUptoRow : OpenClaim := { program := "ytcdhfkfokckjgaa", sum := "0821f185ab7317b8416a766d20651f5b73bb91e162c76ef3a0a003d39e8ce593", func := "gemot/gemotlaw8.NetKinds", spec := "netKinds", unfollowed := true, recurses := true, apart := false, narrowed := true }
def NetKindsUptoSaid : Prop := netKindsUptoRow.holds Try.pinned (OpenSpec.upto netKindsSpec)

/-- 'gemotlaw8.NetLost', WHERE WHAT IT READS IS OF BULK AT MOST 1048576: true; the input reads as it did. -/
def netLostUptoRow : OpenClaim := { program := "ytcdhfkfokckjgaa", sum := "0821f185ab7317b8416a766d20651f5b73bb91e162c76ef3a0a003d39e8ce593", func := "gemot/gemotlaw8.NetLost", spec := "netLost", unfollowed := true, recurses := true, apart := false, narrowed := true }
def NetLostUptoSaid : Prop := netLostUptoRow.holds Try.pinned (OpenSpec.upto netLostSpec)

end Rows
end Go.Proofs.Ytcdhfkfokckjgaa
