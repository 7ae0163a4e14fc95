/-
  No cell of these rows narrows 'for every input' (looked for: loops, veiled, ifaces, maps, wideKeys, modest, calm, conditions, laid).
  DERIVED. THE GIVEN ROWS OF THIS SEAT. 10 by the template 'for every input the law returns true; each argument reads behind the call as it read before'; 0 by the template 'total and deterministic' (their statements: YtccdpimmmicgaaaTotals.lean).
  GIVEN WITH THE SEED: the statements are not yours to turn. If you find one false, say at which input.
  Laid BY PROGRAM, IN A SANDBOX (cutbox-rows.mjs): the forced cells as the released guide's own fill.sh prints them over the translation a034129932044b03… (all of the seat's roots in one cut). By AI agents, Wed Nov 11 2026. No macro, syntax, notation, axiom, sorry.
-/
import Derived.Test.YtccdpimmmicgaaaChecked
import GoSem.Claim
import GoSem.ClaimJoined
import GoSem.ClaimMapViews
import Derived.JoinedTies
import Derived.KernelRfl
namespace Go.Proofs.Ytccdpimmmicgaaa
/- THE CELL 'sum', in the pinned program and in every row, IS THE sha256 OF THE DUMP (.gsa) THAT YtccdpimmmicgaaaProg.lean LOADS. Nothing in Lean hashes anything: it is a label: what it is worth is what the hold of that sum in a sandbox is worth. -/
noncomputable def Try.pinned : Pinned := { name := "ytccdpimmmicgaaa", sum := "a034129932044b03a4461789874b6a95b0833d9f5ff784794c37e37dc587fcde", checked := Try.checked }
namespace Rows
def none {H : Type} : Left H := { results := [], args := [] }

/-- 'gemotlaw1.TermMakes': WHATEVER THE INPUT: true; the input reads as it did. -/
def termMakesSpec : ChangeSpec := { name := "termMakes", fn := fun _ => fun
  | [d1, d2, d3] => { results := [.lit (.bool true)], args := [d1, d2, d3] }
  | _ => none }
def termMakesRow : OpenClaim := { program := "ytccdpimmmicgaaa", sum := "a034129932044b03a4461789874b6a95b0833d9f5ff784794c37e37dc587fcde", func := "gemot/gemotlaw1.TermMakes", spec := "termMakes", inPlace := ["slices.overlaps[gemot/term.Term]", "internal/abi.NoEscape", "internal/bytealg.MakeNoZero"], recurses := true, apart := false }
def TermMakesSaid : Prop := termMakesRow.holds Try.pinned (OpenSpec.ofChange termMakesSpec)

/-- ITS FALSE NEIGHBOUR: 'it returns false'. Refute it at one input. -/
def termMakesWrong : ChangeSpec := { name := "termMakes", fn := fun _ => fun
  | [d1, d2, d3] => { results := [.lit (.bool false)], args := [d1, d2, d3] }
  | _ => none }
def TermMakesWrongFalsely : Prop := termMakesRow.holds Try.pinned (OpenSpec.ofChange termMakesWrong)

/-- 'gemotlaw1.TermBack': WHATEVER THE INPUT: true; the input reads as it did. -/
def termBackSpec : ChangeSpec := { name := "termBack", fn := fun _ => fun
  | [d1, d2] => { results := [.lit (.bool true)], args := [d1, d2] }
  | _ => none }
def termBackRow : OpenClaim := { program := "ytccdpimmmicgaaa", sum := "a034129932044b03a4461789874b6a95b0833d9f5ff784794c37e37dc587fcde", func := "gemot/gemotlaw1.TermBack", spec := "termBack", inPlace := ["slices.overlaps[gemot/term.Term]", "internal/abi.NoEscape", "internal/bytealg.MakeNoZero"], apart := false }
def TermBackSaid : Prop := termBackRow.holds Try.pinned (OpenSpec.ofChange termBackSpec)

/-- ITS FALSE NEIGHBOUR: 'it returns false'. Refute it at one input. -/
def termBackWrong : ChangeSpec := { name := "termBack", fn := fun _ => fun
  | [d1, d2] => { results := [.lit (.bool false)], args := [d1, d2] }
  | _ => none }
def TermBackWrongFalsely : Prop := termBackRow.holds Try.pinned (OpenSpec.ofChange termBackWrong)

/-- 'gemotlaw1.TermTurns': WHATEVER THE INPUT: true; the input reads as it did. -/
def termTurnsSpec : ChangeSpec := { name := "termTurns", fn := fun _ => fun
  | [d1, d2] => { results := [.lit (.bool true)], args := [d1, d2] }
  | _ => none }
def termTurnsRow : OpenClaim := { program := "ytccdpimmmicgaaa", sum := "a034129932044b03a4461789874b6a95b0833d9f5ff784794c37e37dc587fcde", func := "gemot/gemotlaw1.TermTurns", spec := "termTurns", inPlace := ["slices.overlaps[gemot/term.Term]", "internal/abi.NoEscape", "internal/bytealg.MakeNoZero"], apart := false }
def TermTurnsSaid : Prop := termTurnsRow.holds Try.pinned (OpenSpec.ofChange termTurnsSpec)

/-- ITS FALSE NEIGHBOUR: 'it returns false'. Refute it at one input. -/
def termTurnsWrong : ChangeSpec := { name := "termTurns", fn := fun _ => fun
  | [d1, d2] => { results := [.lit (.bool false)], args := [d1, d2] }
  | _ => none }
def TermTurnsWrongFalsely : Prop := termTurnsRow.holds Try.pinned (OpenSpec.ofChange termTurnsWrong)

/-- 'gemotlaw2.PartsTaken': WHATEVER THE INPUT: true; the input reads as it did. -/
def partsTakenSpec : ChangeSpec := { name := "partsTaken", fn := fun _ => fun
  | [d] => { results := [.lit (.bool true)], args := [d] }
  | _ => none }
def partsTakenRow : OpenClaim := { program := "ytccdpimmmicgaaa", sum := "a034129932044b03a4461789874b6a95b0833d9f5ff784794c37e37dc587fcde", func := "gemot/gemotlaw2.PartsTaken", spec := "partsTaken", unfollowed := true, recurses := true, apart := false }
def PartsTakenSaid : Prop := partsTakenRow.holds Try.pinned (OpenSpec.ofChange partsTakenSpec)

/-- ITS FALSE NEIGHBOUR: 'it returns false'. Refute it at one input. -/
def partsTakenWrong : ChangeSpec := { name := "partsTaken", fn := fun _ => fun
  | [d] => { results := [.lit (.bool false)], args := [d] }
  | _ => none }
def PartsTakenWrongFalsely : Prop := partsTakenRow.holds Try.pinned (OpenSpec.ofChange partsTakenWrong)

/-- 'gemotlaw2.PartsOpened': WHATEVER THE INPUT: true; the input reads as it did. -/
def partsOpenedSpec : ChangeSpec := { name := "partsOpened", fn := fun _ => fun
  | [d1, d2, d3] => { results := [.lit (.bool true)], args := [d1, d2, d3] }
  | _ => none }
def partsOpenedRow : OpenClaim := { program := "ytccdpimmmicgaaa", sum := "a034129932044b03a4461789874b6a95b0833d9f5ff784794c37e37dc587fcde", func := "gemot/gemotlaw2.PartsOpened", spec := "partsOpened", unfollowed := true, recurses := true, apart := false }
def PartsOpenedSaid : Prop := partsOpenedRow.holds Try.pinned (OpenSpec.ofChange partsOpenedSpec)

/-- ITS FALSE NEIGHBOUR: 'it returns false'. Refute it at one input. -/
def partsOpenedWrong : ChangeSpec := { name := "partsOpened", fn := fun _ => fun
  | [d1, d2, d3] => { results := [.lit (.bool false)], args := [d1, d2, d3] }
  | _ => none }
def PartsOpenedWrongFalsely : Prop := partsOpenedRow.holds Try.pinned (OpenSpec.ofChange partsOpenedWrong)

/-- 'gemotlaw2.PartsBack': WHATEVER THE INPUT: true; the input reads as it did. -/
def partsBackSpec : ChangeSpec := { name := "partsBack", fn := fun _ => fun
  | [d1, d2, d3, d4, d5] => { results := [.lit (.bool true)], args := [d1, d2, d3, d4, d5] }
  | _ => none }
def partsBackRow : OpenClaim := { program := "ytccdpimmmicgaaa", sum := "a034129932044b03a4461789874b6a95b0833d9f5ff784794c37e37dc587fcde", func := "gemot/gemotlaw2.PartsBack", spec := "partsBack", inPlace := ["slices.overlaps[gemot/term.Term]", "internal/abi.NoEscape", "internal/bytealg.MakeNoZero"], unfollowed := true, recurses := true, apart := false }
def PartsBackSaid : Prop := partsBackRow.holds Try.pinned (OpenSpec.ofChange partsBackSpec)

/-- ITS FALSE NEIGHBOUR: 'it returns false'. Refute it at one input. -/
def partsBackWrong : ChangeSpec := { name := "partsBack", fn := fun _ => fun
  | [d1, d2, d3, d4, d5] => { results := [.lit (.bool false)], args := [d1, d2, d3, d4, d5] }
  | _ => none }
def PartsBackWrongFalsely : Prop := partsBackRow.holds Try.pinned (OpenSpec.ofChange partsBackWrong)

/-- 'gemotlaw2.PartsAll': WHATEVER THE INPUT: true; the input reads as it did. -/
def partsAllSpec : ChangeSpec := { name := "partsAll", fn := fun _ => fun
  | [d1, d2] => { results := [.lit (.bool true)], args := [d1, d2] }
  | _ => none }
def partsAllRow : OpenClaim := { program := "ytccdpimmmicgaaa", sum := "a034129932044b03a4461789874b6a95b0833d9f5ff784794c37e37dc587fcde", func := "gemot/gemotlaw2.PartsAll", spec := "partsAll", inPlace := ["slices.overlaps[gemot/term.Term]", "internal/abi.NoEscape", "internal/bytealg.MakeNoZero"], unfollowed := true, recurses := true, apart := false }
def PartsAllSaid : Prop := partsAllRow.holds Try.pinned (OpenSpec.ofChange partsAllSpec)

/-- ITS FALSE NEIGHBOUR: 'it returns false'. Refute it at one input. -/
def partsAllWrong : ChangeSpec := { name := "partsAll", fn := fun _ => fun
  | [d1, d2] => { results := [.lit (.bool false)], args := [d1, d2] }
  | _ => none }
def PartsAllWrongFalsely : Prop := partsAllRow.holds Try.pinned (OpenSpec.ofChange partsAllWrong)

/-- 'gemotlaw2.PartsValues': WHATEVER THE INPUT: true; the input reads as it did. -/
def partsValuesSpec : ChangeSpec := { name := "partsValues", fn := fun _ => fun
  | [d1, d2, d3, d4] => { results := [.lit (.bool true)], args := [d1, d2, d3, d4] }
  | _ => none }
def partsValuesRow : OpenClaim := { program := "ytccdpimmmicgaaa", sum := "a034129932044b03a4461789874b6a95b0833d9f5ff784794c37e37dc587fcde", func := "gemot/gemotlaw2.PartsValues", spec := "partsValues", inPlace := ["slices.overlaps[gemot/term.Term]", "internal/abi.NoEscape", "internal/bytealg.MakeNoZero"], unfollowed := true, recurses := true, apart := false }
def PartsValuesSaid : Prop := partsValuesRow.holds Try.pinned (OpenSpec.ofChange partsValuesSpec)

/-- ITS FALSE NEIGHBOUR: 'it returns false'. Refute it at one input. -/
def partsValuesWrong : ChangeSpec := { name := "partsValues", fn := fun _ => fun
  | [d1, d2, d3, d4] => { results := [.lit (.bool false)], args := [d1, d2, d3, d4] }
  | _ => none }
def PartsValuesWrongFalsely : Prop := partsValuesRow.holds Try.pinned (OpenSpec.ofChange partsValuesWrong)

/-- 'gemotlaw2.PartsPowers': WHATEVER THE INPUT: true; the input reads as it did. -/
def partsPowersSpec : ChangeSpec := { name := "partsPowers", fn := fun _ => fun
  | [d1, d2, d3] => { results := [.lit (.bool true)], args := [d1, d2, d3] }
  | _ => none }
def partsPowersRow : OpenClaim := { program := "ytccdpimmmicgaaa", sum := "a034129932044b03a4461789874b6a95b0833d9f5ff784794c37e37dc587fcde", func := "gemot/gemotlaw2.PartsPowers", spec := "partsPowers", inPlace := ["slices.overlaps[gemot/term.Term]", "internal/abi.NoEscape", "internal/bytealg.MakeNoZero"], unfollowed := true, recurses := true, apart := false }
def PartsPowersSaid : Prop := partsPowersRow.holds Try.pinned (OpenSpec.ofChange partsPowersSpec)

/-- ITS FALSE NEIGHBOUR: 'it returns false'. Refute it at one input. -/
def partsPowersWrong : ChangeSpec := { name := "partsPowers", fn := fun _ => fun
  | [d1, d2, d3] => { results := [.lit (.bool false)], args := [d1, d2, d3] }
  | _ => none }
def PartsPowersWrongFalsely : Prop := partsPowersRow.holds Try.pinned (OpenSpec.ofChange partsPowersWrong)

/-- 'gemotlaw2.PartsKeys': WHATEVER THE INPUT: true; the input reads as it did. -/
def partsKeysSpec : ChangeSpec := { name := "partsKeys", fn := fun _ => fun
  | [d1, d2, d3, d4, d5] => { results := [.lit (.bool true)], args := [d1, d2, d3, d4, d5] }
  | _ => none }
def partsKeysRow : OpenClaim := { program := "ytccdpimmmicgaaa", sum := "a034129932044b03a4461789874b6a95b0833d9f5ff784794c37e37dc587fcde", func := "gemot/gemotlaw2.PartsKeys", spec := "partsKeys", inPlace := ["slices.overlaps[gemot/term.Term]", "internal/abi.NoEscape", "internal/bytealg.MakeNoZero"], unfollowed := true, recurses := true, apart := false }
def PartsKeysSaid : Prop := partsKeysRow.holds Try.pinned (OpenSpec.ofChange partsKeysSpec)

/-- ITS FALSE NEIGHBOUR: 'it returns false'. Refute it at one input. -/
def partsKeysWrong : ChangeSpec := { name := "partsKeys", fn := fun _ => fun
  | [d1, d2, d3, d4, d5] => { results := [.lit (.bool false)], args := [d1, d2, d3, d4, d5] }
  | _ => none }
def PartsKeysWrongFalsely : Prop := partsKeysRow.holds Try.pinned (OpenSpec.ofChange partsKeysWrong)

/- THE SECOND FORM. 'bulk': how many values and letters a reading holds, each counted each time it is reached (what is shared counts as often as it is met; a slice's spare places count too). A statement '..UptoSaid' is the law's where the arguments, and the package variables that the reading takes, are together of bulk at most 1048576: NARROWER than '..Said'. Prove '..Said' where nothing that the law and all that it calls make is longer than what came in: it says more and counts as full. Else prove '..UptoSaid'. A law counts once. -/
mutual
def uptoBulk {H : Type} : DataW H → Nat
  | .lit (.string bytes) => bytes.length + 1
  | .lit _ => 1
  | .nil => 1
  | .ptr d => uptoBulk d + 1
  | .slice elems spare => uptoBulkAll elems + uptoBulkAll spare + 1
  | .agg parts => uptoBulkAll parts + 1
  | .iface _ d => uptoBulk d + 1
  | .map entries => uptoBulkEntries entries + 1
  | .held _ => 1
def uptoBulkAll {H : Type} : List (DataW H) → Nat
  | [] => 0
  | d :: r => uptoBulk d + uptoBulkAll r
def uptoBulkEntries {H : Type} : List (Lit × DataW H) → Nat
  | [] => 0
  | x :: r => uptoBulkEntry x + uptoBulkEntries r
def uptoBulkEntry {H : Type} : Lit × DataW H → Nat
  | (.string bytes, d) => bytes.length + uptoBulk d + 1
  | (_, d) => uptoBulk d + 1
 end
def uptoSmall : (H : Type) → List (DataW H) → Bool := fun _ ds => decide (uptoBulkAll ds ≤ 1048576)
def OpenSpec.upto (s : _root_.Go.ChangeSpec) : _root_.Go.OpenSpec := { _root_.Go.OpenSpec.ofChange s with cond := some uptoSmall }

/-- 'gemotlaw1.TermMakes', WHERE WHAT IT READS IS OF BULK AT MOST 1048576: true; the input reads as it did. -/
def termMakesUptoRow : OpenClaim := { program := "ytccdpimmmicgaaa", sum := "a034129932044b03a4461789874b6a95b0833d9f5ff784794c37e37dc587fcde", func := "gemot/gemotlaw1.TermMakes", spec := "termMakes", inPlace := ["slices.overlaps[gemot/term.Term]", "internal/abi.NoEscape", "internal/bytealg.MakeNoZero"], recurses := true, apart := false, narrowed := true }
def TermMakesUptoSaid : Prop := termMakesUptoRow.holds Try.pinned (OpenSpec.upto termMakesSpec)

/-- 'gemotlaw1.TermBack', WHERE WHAT IT READS IS OF BULK AT MOST 1048576: true; the input reads as it did. -/
def termBackUptoRow : OpenClaim := { program := "ytccdpimmmicgaaa", sum := "a034129932044b03a4461789874b6a95b0833d9f5ff784794c37e37dc587fcde", func := "gemot/gemotlaw1.TermBack", spec := "termBack", inPlace := ["slices.overlaps[gemot/term.Term]", "internal/abi.NoEscape", "internal/bytealg.MakeNoZero"], apart := false, narrowed := true }
def TermBackUptoSaid : Prop := termBackUptoRow.holds Try.pinned (OpenSpec.upto termBackSpec)

/-- 'gemotlaw1.TermTurns', WHERE WHAT IT READS IS OF BULK AT MOST 1048576: true; the input reads as it did. -/
def termTurnsUptoRow : OpenClaim := { program := "ytccdpimmmicgaaa", sum := "a034129932044b03a4461789874b6a95b0833d9f5ff784794c37e37dc587fcde", func := "gemot/gemotlaw1.TermTurns", spec := "termTurns", inPlace := ["slices.overlaps[gemot/term.Term]", "internal/abi.NoEscape", "internal/bytealg.MakeNoZero"], apart := false, narrowed := true }
def TermTurnsUptoSaid : Prop := termTurnsUptoRow.holds Try.pinned (OpenSpec.upto termTurnsSpec)

/-- 'gemotlaw2.PartsTaken', WHERE WHAT IT READS IS OF BULK AT MOST 1048576: true; the input reads as it did. -/
def partsTakenUptoRow : OpenClaim := { program := "ytccdpimmmicgaaa", sum := "a034129932044b03a4461789874b6a95b0833d9f5ff784794c37e37dc587fcde", func := "gemot/gemotlaw2.PartsTaken", spec := "partsTaken", unfollowed := true, recurses := true, apart := false, narrowed := true }
def PartsTakenUptoSaid : Prop := partsTakenUptoRow.holds Try.pinned (OpenSpec.upto partsTakenSpec)

/-- 'gemotlaw2.PartsOpened', WHERE WHAT IT READS IS OF BULK AT MOST 1048576: true; the input reads as it did. -/
def partsOpenedUptoRow : OpenClaim := { program := "ytccdpimmmicgaaa", sum := "a034129932044b03a4461789874b6a95b0833d9f5ff784794c37e37dc587fcde", func := "gemot/gemotlaw2.PartsOpened", spec := "partsOpened", unfollowed := true, recurses := true, apart := false, narrowed := true }
def PartsOpenedUptoSaid : Prop := partsOpenedUptoRow.holds Try.pinned (OpenSpec.upto partsOpenedSpec)

/-- 'gemotlaw2.PartsBack', WHERE WHAT IT READS IS OF BULK AT MOST 1048576: true; the input reads as it did. -/
def partsBackUptoRow : OpenClaim := { program := "ytccdpimmmicgaaa", sum := "a034129932044b03a4461789874b6a95b0833d9f5ff784794c37e37dc587fcde", func := "gemot/gemotlaw2.PartsBack", spec := "partsBack", inPlace := ["slices.overlaps[gemot/term.Term]", "internal/abi.NoEscape", "internal/bytealg.MakeNoZero"], unfollowed := true, recurses := true, apart := false, narrowed := true }
def PartsBackUptoSaid : Prop := partsBackUptoRow.holds Try.pinned (OpenSpec.upto partsBackSpec)

/-- 'gemotlaw2.PartsAll', WHERE WHAT IT READS IS OF BULK AT MOST 1048576: true; the input reads as it did. -/
def partsAllUptoRow : OpenClaim := { program := "ytccdpimmmicgaaa", sum := "a034129932044b03a4461789874b6a95b0833d9f5ff784794c37e37dc587fcde", func := "gemot/gemotlaw2.PartsAll", spec := "partsAll", inPlace := ["slices.overlaps[gemot/term.Term]", "internal/abi.NoEscape", "internal/bytealg.MakeNoZero"], unfollowed := true, recurses := true, apart := false, narrowed := true }
def PartsAllUptoSaid : Prop := partsAllUptoRow.holds Try.pinned (OpenSpec.upto partsAllSpec)

/-- 'gemotlaw2.PartsValues', WHERE WHAT IT READS IS OF BULK AT MOST 1048576: true; the input reads as it did. -/
def partsValuesUptoRow : OpenClaim := { program := "ytccdpimmmicgaaa", sum := "a034129932044b03a4461789874b6a95b0833d9f5ff784794c37e37dc587fcde", func := "gemot/gemotlaw2.PartsValues", spec := "partsValues", inPlace := ["slices.overlaps[gemot/term.Term]", "internal/abi.NoEscape", "internal/bytealg.MakeNoZero"], unfollowed := true, recurses := true, apart := false, narrowed := true }
def PartsValuesUptoSaid : Prop := partsValuesUptoRow.holds Try.pinned (OpenSpec.upto partsValuesSpec)

/-- 'gemotlaw2.PartsPowers', WHERE WHAT IT READS IS OF BULK AT MOST 1048576: true; the input reads as it did. -/
def partsPowersUptoRow : OpenClaim := { program := "ytccdpimmmicgaaa", sum := "a034129932044b03a4461789874b6a95b0833d9f5ff784794c37e37dc587fcde", func := "gemot/gemotlaw2.PartsPowers", spec := "partsPowers", inPlace := ["slices.overlaps[gemot/term.Term]", "internal/abi.NoEscape", "internal/bytealg.MakeNoZero"], unfollowed := true, recurses := true, apart := false, narrowed := true }
def PartsPowersUptoSaid : Prop := partsPowersUptoRow.holds Try.pinned (OpenSpec.upto partsPowersSpec)

/-- 'gemotlaw2.PartsKeys', WHERE WHAT IT READS IS OF BULK AT MOST 1048576: true; the input reads as it did. -/
def partsKeysUptoRow : OpenClaim := { program := "ytccdpimmmicgaaa", sum := "a034129932044b03a4461789874b6a95b0833d9f5ff784794c37e37dc587fcde", func := "gemot/gemotlaw2.PartsKeys", spec := "partsKeys", inPlace := ["slices.overlaps[gemot/term.Term]", "internal/abi.NoEscape", "internal/bytealg.MakeNoZero"], unfollowed := true, recurses := true, apart := false, narrowed := true }
def PartsKeysUptoSaid : Prop := partsKeysUptoRow.holds Try.pinned (OpenSpec.upto partsKeysSpec)

end Rows
end Go.Proofs.Ytccdpimmmicgaaa
