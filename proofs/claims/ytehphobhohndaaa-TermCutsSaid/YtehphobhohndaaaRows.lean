/-
  No cell of these rows narrows 'for every input' (looked for: loops, veiled, ifaces, maps, wideKeys, modest, calm, conditions, laid).
  DERIVED. THE GIVEN ROWS OF THIS SEAT. 9 by the template 'for every input the law returns true; each argument reads behind the call as it read before'; 0 by the template 'total and deterministic' (their statements: YtehphobhohndaaaTotals.lean).
  GIVEN WITH THE SEED: the statements are not yours to turn. If you find one false, say at which input.
  Laid BY PROGRAM, IN A SANDBOX (cutbox-rows.mjs): the forced cells as the released guide's own fill.sh prints them over the translation e06c23e4cf732d01… (all of the seat's roots in one cut). By AI agents, Wed Nov 11 2026. No macro, syntax, notation, axiom, sorry.
-/
import Derived.Test.YtehphobhohndaaaChecked
import GoSem.Claim
import GoSem.ClaimJoined
import GoSem.ClaimMapViews
import Derived.JoinedTies
import Derived.KernelRfl
namespace Go.Proofs.Ytehphobhohndaaa
/- THE CELL 'sum', in the pinned program and in every row, IS THE sha256 OF THE DUMP (.gsa) THAT YtehphobhohndaaaProg.lean LOADS. Nothing in Lean hashes anything: it is a label: what it is worth is what the hold of that sum in a sandbox is worth. -/
noncomputable def Try.pinned : Pinned := { name := "ytehphobhohndaaa", sum := "e06c23e4cf732d0129809385511ce3f3345e8e2930f148e3734da685832bde58", checked := Try.checked }
namespace Rows
def none {H : Type} : Left H := { results := [], args := [] }

/-- 'gemotlaw1.TermLeaves': WHATEVER THE INPUT: true; the input reads as it did. -/
def termLeavesSpec : ChangeSpec := { name := "termLeaves", fn := fun _ => fun
  | [d1, d2, d3] => { results := [.lit (.bool true)], args := [d1, d2, d3] }
  | _ => none }
def termLeavesRow : OpenClaim := { program := "ytehphobhohndaaa", sum := "e06c23e4cf732d0129809385511ce3f3345e8e2930f148e3734da685832bde58", func := "gemot/gemotlaw1.TermLeaves", spec := "termLeaves", inPlace := ["slices.overlaps[gemot/term.Term]", "internal/abi.NoEscape", "internal/bytealg.MakeNoZero"], apart := false }
def TermLeavesSaid : Prop := termLeavesRow.holds Try.pinned (OpenSpec.ofChange termLeavesSpec)

/-- ITS FALSE NEIGHBOUR: 'it returns false'. Refute it at one input. -/
def termLeavesWrong : ChangeSpec := { name := "termLeaves", fn := fun _ => fun
  | [d1, d2, d3] => { results := [.lit (.bool false)], args := [d1, d2, d3] }
  | _ => none }
def TermLeavesWrongFalsely : Prop := termLeavesRow.holds Try.pinned (OpenSpec.ofChange termLeavesWrong)

/-- 'gemotlaw1.TermMakes': WHATEVER THE INPUT: true; the input reads as it did. -/
def termMakesSpec : ChangeSpec := { name := "termMakes", fn := fun _ => fun
  | [d1, d2, d3] => { results := [.lit (.bool true)], args := [d1, d2, d3] }
  | _ => none }
def termMakesRow : OpenClaim := { program := "ytehphobhohndaaa", sum := "e06c23e4cf732d0129809385511ce3f3345e8e2930f148e3734da685832bde58", func := "gemot/gemotlaw1.TermMakes", spec := "termMakes", inPlace := ["slices.overlaps[gemot/term.Term]", "internal/abi.NoEscape", "internal/bytealg.MakeNoZero"], recurses := true, apart := false }
def TermMakesSaid : Prop := termMakesRow.holds Try.pinned (OpenSpec.ofChange termMakesSpec)

/-- ITS FALSE NEIGHBOUR: 'it returns false'. Refute it at one input. -/
def termMakesWrong : ChangeSpec := { name := "termMakes", fn := fun _ => fun
  | [d1, d2, d3] => { results := [.lit (.bool false)], args := [d1, d2, d3] }
  | _ => none }
def TermMakesWrongFalsely : Prop := termMakesRow.holds Try.pinned (OpenSpec.ofChange termMakesWrong)

/-- 'gemotlaw1.TermBack': WHATEVER THE INPUT: true; the input reads as it did. -/
def termBackSpec : ChangeSpec := { name := "termBack", fn := fun _ => fun
  | [d1, d2] => { results := [.lit (.bool true)], args := [d1, d2] }
  | _ => none }
def termBackRow : OpenClaim := { program := "ytehphobhohndaaa", sum := "e06c23e4cf732d0129809385511ce3f3345e8e2930f148e3734da685832bde58", func := "gemot/gemotlaw1.TermBack", spec := "termBack", inPlace := ["slices.overlaps[gemot/term.Term]", "internal/abi.NoEscape", "internal/bytealg.MakeNoZero"], apart := false }
def TermBackSaid : Prop := termBackRow.holds Try.pinned (OpenSpec.ofChange termBackSpec)

/-- ITS FALSE NEIGHBOUR: 'it returns false'. Refute it at one input. -/
def termBackWrong : ChangeSpec := { name := "termBack", fn := fun _ => fun
  | [d1, d2] => { results := [.lit (.bool false)], args := [d1, d2] }
  | _ => none }
def TermBackWrongFalsely : Prop := termBackRow.holds Try.pinned (OpenSpec.ofChange termBackWrong)

/-- 'gemotlaw1.TermTurns': WHATEVER THE INPUT: true; the input reads as it did. -/
def termTurnsSpec : ChangeSpec := { name := "termTurns", fn := fun _ => fun
  | [d1, d2] => { results := [.lit (.bool true)], args := [d1, d2] }
  | _ => none }
def termTurnsRow : OpenClaim := { program := "ytehphobhohndaaa", sum := "e06c23e4cf732d0129809385511ce3f3345e8e2930f148e3734da685832bde58", func := "gemot/gemotlaw1.TermTurns", spec := "termTurns", inPlace := ["slices.overlaps[gemot/term.Term]", "internal/abi.NoEscape", "internal/bytealg.MakeNoZero"], apart := false }
def TermTurnsSaid : Prop := termTurnsRow.holds Try.pinned (OpenSpec.ofChange termTurnsSpec)

/-- ITS FALSE NEIGHBOUR: 'it returns false'. Refute it at one input. -/
def termTurnsWrong : ChangeSpec := { name := "termTurns", fn := fun _ => fun
  | [d1, d2] => { results := [.lit (.bool false)], args := [d1, d2] }
  | _ => none }
def TermTurnsWrongFalsely : Prop := termTurnsRow.holds Try.pinned (OpenSpec.ofChange termTurnsWrong)

/-- 'gemotlaw1.TermParts': WHATEVER THE INPUT: true; the input reads as it did. -/
def termPartsSpec : ChangeSpec := { name := "termParts", fn := fun _ => fun
  | [d1, d2, d3, d4] => { results := [.lit (.bool true)], args := [d1, d2, d3, d4] }
  | _ => none }
def termPartsRow : OpenClaim := { program := "ytehphobhohndaaa", sum := "e06c23e4cf732d0129809385511ce3f3345e8e2930f148e3734da685832bde58", func := "gemot/gemotlaw1.TermParts", spec := "termParts", inPlace := ["slices.overlaps[gemot/term.Term]", "internal/abi.NoEscape", "internal/bytealg.MakeNoZero"], apart := false }
def TermPartsSaid : Prop := termPartsRow.holds Try.pinned (OpenSpec.ofChange termPartsSpec)

/-- ITS FALSE NEIGHBOUR: 'it returns false'. Refute it at one input. -/
def termPartsWrong : ChangeSpec := { name := "termParts", fn := fun _ => fun
  | [d1, d2, d3, d4] => { results := [.lit (.bool false)], args := [d1, d2, d3, d4] }
  | _ => none }
def TermPartsWrongFalsely : Prop := termPartsRow.holds Try.pinned (OpenSpec.ofChange termPartsWrong)

/-- 'gemotlaw1.TermNames': WHATEVER THE INPUT: true; the input reads as it did. -/
def termNamesSpec : ChangeSpec := { name := "termNames", fn := fun _ => fun
  | [d1, d2, d3, d4] => { results := [.lit (.bool true)], args := [d1, d2, d3, d4] }
  | _ => none }
def termNamesRow : OpenClaim := { program := "ytehphobhohndaaa", sum := "e06c23e4cf732d0129809385511ce3f3345e8e2930f148e3734da685832bde58", func := "gemot/gemotlaw1.TermNames", spec := "termNames", inPlace := ["slices.overlaps[gemot/term.Term]", "internal/abi.NoEscape", "internal/bytealg.MakeNoZero"], apart := false }
def TermNamesSaid : Prop := termNamesRow.holds Try.pinned (OpenSpec.ofChange termNamesSpec)

/-- ITS FALSE NEIGHBOUR: 'it returns false'. Refute it at one input. -/
def termNamesWrong : ChangeSpec := { name := "termNames", fn := fun _ => fun
  | [d1, d2, d3, d4] => { results := [.lit (.bool false)], args := [d1, d2, d3, d4] }
  | _ => none }
def TermNamesWrongFalsely : Prop := termNamesRow.holds Try.pinned (OpenSpec.ofChange termNamesWrong)

/-- 'gemotlaw1.TermCuts': WHATEVER THE INPUT: true; the input reads as it did. -/
def termCutsSpec : ChangeSpec := { name := "termCuts", fn := fun _ => fun
  | [d1, d2, d3, d4] => { results := [.lit (.bool true)], args := [d1, d2, d3, d4] }
  | _ => none }
def termCutsRow : OpenClaim := { program := "ytehphobhohndaaa", sum := "e06c23e4cf732d0129809385511ce3f3345e8e2930f148e3734da685832bde58", func := "gemot/gemotlaw1.TermCuts", spec := "termCuts", inPlace := ["slices.overlaps[gemot/term.Term]", "internal/abi.NoEscape", "internal/bytealg.MakeNoZero"], apart := false }
def TermCutsSaid : Prop := termCutsRow.holds Try.pinned (OpenSpec.ofChange termCutsSpec)

/-- ITS FALSE NEIGHBOUR: 'it returns false'. Refute it at one input. -/
def termCutsWrong : ChangeSpec := { name := "termCuts", fn := fun _ => fun
  | [d1, d2, d3, d4] => { results := [.lit (.bool false)], args := [d1, d2, d3, d4] }
  | _ => none }
def TermCutsWrongFalsely : Prop := termCutsRow.holds Try.pinned (OpenSpec.ofChange termCutsWrong)

/-- 'gemotlaw1.TermSeals': WHATEVER THE INPUT: true; the input reads as it did. -/
def termSealsSpec : ChangeSpec := { name := "termSeals", fn := fun _ => fun
  | [d1, d2, d3, d4, d5] => { results := [.lit (.bool true)], args := [d1, d2, d3, d4, d5] }
  | _ => none }
def termSealsRow : OpenClaim := { program := "ytehphobhohndaaa", sum := "e06c23e4cf732d0129809385511ce3f3345e8e2930f148e3734da685832bde58", func := "gemot/gemotlaw1.TermSeals", spec := "termSeals", inPlace := ["slices.overlaps[gemot/term.Term]", "internal/abi.NoEscape", "internal/bytealg.MakeNoZero"], apart := false }
def TermSealsSaid : Prop := termSealsRow.holds Try.pinned (OpenSpec.ofChange termSealsSpec)

/-- ITS FALSE NEIGHBOUR: 'it returns false'. Refute it at one input. -/
def termSealsWrong : ChangeSpec := { name := "termSeals", fn := fun _ => fun
  | [d1, d2, d3, d4, d5] => { results := [.lit (.bool false)], args := [d1, d2, d3, d4, d5] }
  | _ => none }
def TermSealsWrongFalsely : Prop := termSealsRow.holds Try.pinned (OpenSpec.ofChange termSealsWrong)

/-- 'gemotlaw1.TermTakesAll': WHATEVER THE INPUT: true; the input reads as it did. -/
def termTakesAllSpec : ChangeSpec := { name := "termTakesAll", fn := fun _ => fun
  | [d] => { results := [.lit (.bool true)], args := [d] }
  | _ => none }
def termTakesAllRow : OpenClaim := { program := "ytehphobhohndaaa", sum := "e06c23e4cf732d0129809385511ce3f3345e8e2930f148e3734da685832bde58", func := "gemot/gemotlaw1.TermTakesAll", spec := "termTakesAll", inPlace := ["slices.overlaps[gemot/term.Term]", "internal/abi.NoEscape", "internal/bytealg.MakeNoZero"], apart := false }
def TermTakesAllSaid : Prop := termTakesAllRow.holds Try.pinned (OpenSpec.ofChange termTakesAllSpec)

/-- ITS FALSE NEIGHBOUR: 'it returns false'. Refute it at one input. -/
def termTakesAllWrong : ChangeSpec := { name := "termTakesAll", fn := fun _ => fun
  | [d] => { results := [.lit (.bool false)], args := [d] }
  | _ => none }
def TermTakesAllWrongFalsely : Prop := termTakesAllRow.holds Try.pinned (OpenSpec.ofChange termTakesAllWrong)

/- THE SECOND FORM. 'bulk': how many values and letters a reading holds, each counted each time it is reached (what is shared counts as often as it is met; a slice's spare places count too). A statement '..UptoSaid' is the law's where the arguments, and the package variables that the reading takes, are together of bulk at most 1048576: NARROWER than '..Said'. Prove '..Said' where nothing that the law and all that it calls make is longer than what came in: it says more and counts as full. Else prove '..UptoSaid'. A law counts once. -/
mutual
def uptoBulk {H : Type} : DataW H → Nat
  | .lit (.string bytes) => bytes.length + 1
  | .lit _ => 1
  | .nil => 1
  | .ptr d => uptoBulk d + 1
  | .slice elems spare => uptoBulkAll elems + uptoBulkAll spare + 1
  | .agg parts => uptoBulkAll parts + 1
  | .iface _ d => uptoBulk d + 1
  | .map entries => uptoBulkEntries entries + 1
  | .held _ => 1
def uptoBulkAll {H : Type} : List (DataW H) → Nat
  | [] => 0
  | d :: r => uptoBulk d + uptoBulkAll r
def uptoBulkEntries {H : Type} : List (Lit × DataW H) → Nat
  | [] => 0
  | x :: r => uptoBulkEntry x + uptoBulkEntries r
def uptoBulkEntry {H : Type} : Lit × DataW H → Nat
  | (.string bytes, d) => bytes.length + uptoBulk d + 1
  | (_, d) => uptoBulk d + 1
 end
def uptoSmall : (H : Type) → List (DataW H) → Bool := fun _ ds => decide (uptoBulkAll ds ≤ 1048576)
def OpenSpec.upto (s : _root_.Go.ChangeSpec) : _root_.Go.OpenSpec := { _root_.Go.OpenSpec.ofChange s with cond := some uptoSmall }

/-- 'gemotlaw1.TermLeaves', WHERE WHAT IT READS IS OF BULK AT MOST 1048576: true; the input reads as it did. -/
def termLeavesUptoRow : OpenClaim := { program := "ytehphobhohndaaa", sum := "e06c23e4cf732d0129809385511ce3f3345e8e2930f148e3734da685832bde58", func := "gemot/gemotlaw1.TermLeaves", spec := "termLeaves", inPlace := ["slices.overlaps[gemot/term.Term]", "internal/abi.NoEscape", "internal/bytealg.MakeNoZero"], apart := false, narrowed := true }
def TermLeavesUptoSaid : Prop := termLeavesUptoRow.holds Try.pinned (OpenSpec.upto termLeavesSpec)

/-- 'gemotlaw1.TermMakes', WHERE WHAT IT READS IS OF BULK AT MOST 1048576: true; the input reads as it did. -/
def termMakesUptoRow : OpenClaim := { program := "ytehphobhohndaaa", sum := "e06c23e4cf732d0129809385511ce3f3345e8e2930f148e3734da685832bde58", func := "gemot/gemotlaw1.TermMakes", spec := "termMakes", inPlace := ["slices.overlaps[gemot/term.Term]", "internal/abi.NoEscape", "internal/bytealg.MakeNoZero"], recurses := true, apart := false, narrowed := true }
def TermMakesUptoSaid : Prop := termMakesUptoRow.holds Try.pinned (OpenSpec.upto termMakesSpec)

/-- 'gemotlaw1.TermBack', WHERE WHAT IT READS IS OF BULK AT MOST 1048576: true; the input reads as it did. -/
def termBackUptoRow : OpenClaim := { program := "ytehphobhohndaaa", sum := "e06c23e4cf732d0129809385511ce3f3345e8e2930f148e3734da685832bde58", func := "gemot/gemotlaw1.TermBack", spec := "termBack", inPlace := ["slices.overlaps[gemot/term.Term]", "internal/abi.NoEscape", "internal/bytealg.MakeNoZero"], apart := false, narrowed := true }
def TermBackUptoSaid : Prop := termBackUptoRow.holds Try.pinned (OpenSpec.upto termBackSpec)

/-- 'gemotlaw1.TermTurns', WHERE WHAT IT READS IS OF BULK AT MOST 1048576: true; the input reads as it did. -/
def termTurnsUptoRow : OpenClaim := { program := "ytehphobhohndaaa", sum := "e06c23e4cf732d0129809385511ce3f3345e8e2930f148e3734da685832bde58", func := "gemot/gemotlaw1.TermTurns", spec := "termTurns", inPlace := ["slices.overlaps[gemot/term.Term]", "internal/abi.NoEscape", "internal/bytealg.MakeNoZero"], apart := false, narrowed := true }
def TermTurnsUptoSaid : Prop := termTurnsUptoRow.holds Try.pinned (OpenSpec.upto termTurnsSpec)

/-- 'gemotlaw1.TermParts', WHERE WHAT IT READS IS OF BULK AT MOST 1048576: true; the input reads as it did. -/
def termPartsUptoRow : OpenClaim := { program := "ytehphobhohndaaa", sum := "e06c23e4cf732d0129809385511ce3f3345e8e2930f148e3734da685832bde58", func := "gemot/gemotlaw1.TermParts", spec := "termParts", inPlace := ["slices.overlaps[gemot/term.Term]", "internal/abi.NoEscape", "internal/bytealg.MakeNoZero"], apart := false, narrowed := true }
def TermPartsUptoSaid : Prop := termPartsUptoRow.holds Try.pinned (OpenSpec.upto termPartsSpec)

/-- 'gemotlaw1.TermNames', WHERE WHAT IT READS IS OF BULK AT MOST 1048576: true; the input reads as it did. -/
def termNamesUptoRow : OpenClaim := { program := "ytehphobhohndaaa", sum := "e06c23e4cf732d0129809385511ce3f3345e8e2930f148e3734da685832bde58", func := "gemot/gemotlaw1.TermNames", spec := "termNames", inPlace := ["slices.overlaps[gemot/term.Term]", "internal/abi.NoEscape", "internal/bytealg.MakeNoZero"], apart := false, narrowed := true }
def TermNamesUptoSaid : Prop := termNamesUptoRow.holds Try.pinned (OpenSpec.upto termNamesSpec)

/-- 'gemotlaw1.TermCuts', WHERE WHAT IT READS IS OF BULK AT MOST 1048576: true; the input reads as it did. -/
def termCutsUptoRow : OpenClaim := { program := "ytehphobhohndaaa", sum := "e06c23e4cf732d0129809385511ce3f3345e8e2930f148e3734da685832bde58", func := "gemot/gemotlaw1.TermCuts", spec := "termCuts", inPlace := ["slices.overlaps[gemot/term.Term]", "internal/abi.NoEscape", "internal/bytealg.MakeNoZero"], apart := false, narrowed := true }
def TermCutsUptoSaid : Prop := termCutsUptoRow.holds Try.pinned (OpenSpec.upto termCutsSpec)

/-- 'gemotlaw1.TermSeals', WHERE WHAT IT READS IS OF BULK AT MOST 1048576: true; the input reads as it did. -/
def termSealsUptoRow : OpenClaim := { program := "ytehphobhohndaaa", sum := "e06c23e4cf732d0129809385511ce3f3345e8e2930f148e3734da685832bde58", func := "gemot/gemotlaw1.TermSeals", spec := "termSeals", inPlace := ["slices.overlaps[gemot/term.Term]", "internal/abi.NoEscape", "internal/bytealg.MakeNoZero"], apart := false, narrowed := true }
def TermSealsUptoSaid : Prop := termSealsUptoRow.holds Try.pinned (OpenSpec.upto termSealsSpec)

/-- 'gemotlaw1.TermTakesAll', WHERE WHAT IT READS IS OF BULK AT MOST 1048576: true; the input reads as it did. -/
def termTakesAllUptoRow : OpenClaim := { program := "ytehphobhohndaaa", sum := "e06c23e4cf732d0129809385511ce3f3345e8e2930f148e3734da685832bde58", func := "gemot/gemotlaw1.TermTakesAll", spec := "termTakesAll", inPlace := ["slices.overlaps[gemot/term.Term]", "internal/abi.NoEscape", "internal/bytealg.MakeNoZero"], apart := false, narrowed := true }
def TermTakesAllUptoSaid : Prop := termTakesAllUptoRow.holds Try.pinned (OpenSpec.upto termTakesAllSpec)

end Rows
end Go.Proofs.Ytehphobhohndaaa
