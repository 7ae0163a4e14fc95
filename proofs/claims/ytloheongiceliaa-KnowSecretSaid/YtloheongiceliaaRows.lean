/-
  No cell of these rows narrows 'for every input' (looked for: loops, veiled, ifaces, maps, wideKeys, modest, calm, conditions, laid).
  DERIVED. THE GIVEN ROWS OF THIS SEAT. 3 by the template 'for every input the law returns true; each argument reads behind the call as it read before'; 0 by the template 'total and deterministic' (their statements: YtloheongiceliaaTotals.lean).
  GIVEN WITH THE SEED: the statements are not yours to turn. If you find one false, say at which input.
  Laid BY PROGRAM, IN A SANDBOX (cutbox-rows.mjs): the forced cells as the released guide's own fill.sh prints them over the translation a2c1051e45c9716f… (all of the seat's roots in one cut). By AI agents, Wed Nov 11 2026. No macro, syntax, notation, axiom, sorry.
-/
import Derived.Test.YtloheongiceliaaChecked
import GoSem.Claim
import GoSem.ClaimJoined
import GoSem.ClaimMapViews
import Derived.JoinedTies
import Derived.KernelRfl
namespace Go.Proofs.Ytloheongiceliaa
/- THE CELL 'sum', in the pinned program and in every row, IS THE sha256 OF THE DUMP (.gsa) THAT YtloheongiceliaaProg.lean LOADS. Nothing in Lean hashes anything: it is a label: what it is worth is what the hold of that sum in a sandbox is worth. -/
noncomputable def Try.pinned : Pinned := { name := "ytloheongiceliaa", sum := "a2c1051e45c9716f7da515eaa781678e557414b682d76e12cbaedef4ba7dd6e1", checked := Try.checked }
namespace Rows
def none {H : Type} : Left H := { results := [], args := [] }

/-- 'gemotlaw1.TermLeaves': WHATEVER THE INPUT: true; the input reads as it did. -/
def termLeavesSpec : ChangeSpec := { name := "termLeaves", fn := fun _ => fun
  | [d1, d2, d3] => { results := [.lit (.bool true)], args := [d1, d2, d3] }
  | _ => none }
def termLeavesRow : OpenClaim := { program := "ytloheongiceliaa", sum := "a2c1051e45c9716f7da515eaa781678e557414b682d76e12cbaedef4ba7dd6e1", func := "gemot/gemotlaw1.TermLeaves", spec := "termLeaves", inPlace := ["slices.overlaps[gemot/term.Term]", "internal/abi.NoEscape", "internal/bytealg.MakeNoZero"], apart := false }
def TermLeavesSaid : Prop := termLeavesRow.holds Try.pinned (OpenSpec.ofChange termLeavesSpec)

/-- ITS FALSE NEIGHBOUR: 'it returns false'. Refute it at one input. -/
def termLeavesWrong : ChangeSpec := { name := "termLeaves", fn := fun _ => fun
  | [d1, d2, d3] => { results := [.lit (.bool false)], args := [d1, d2, d3] }
  | _ => none }
def TermLeavesWrongFalsely : Prop := termLeavesRow.holds Try.pinned (OpenSpec.ofChange termLeavesWrong)

/-- 'gemotlaw3.KnowSecret': WHATEVER THE INPUT: true; the input reads as it did. -/
def knowSecretSpec : ChangeSpec := { name := "knowSecret", fn := fun _ => fun
  | [d1, d2, d3] => { results := [.lit (.bool true)], args := [d1, d2, d3] }
  | _ => none }
def knowSecretRow : OpenClaim := { program := "ytloheongiceliaa", sum := "a2c1051e45c9716f7da515eaa781678e557414b682d76e12cbaedef4ba7dd6e1", func := "gemot/gemotlaw3.KnowSecret", spec := "knowSecret", inPlace := ["slices.overlaps[gemot/term.Term]", "internal/abi.NoEscape", "internal/bytealg.MakeNoZero"], unfollowed := true, recurses := true, apart := false }
def KnowSecretSaid : Prop := knowSecretRow.holds Try.pinned (OpenSpec.ofChange knowSecretSpec)

/-- ITS FALSE NEIGHBOUR: 'it returns false'. Refute it at one input. -/
def knowSecretWrong : ChangeSpec := { name := "knowSecret", fn := fun _ => fun
  | [d1, d2, d3] => { results := [.lit (.bool false)], args := [d1, d2, d3] }
  | _ => none }
def KnowSecretWrongFalsely : Prop := knowSecretRow.holds Try.pinned (OpenSpec.ofChange knowSecretWrong)

/-- 'gemotlaw4.ListPacks': WHATEVER THE INPUT: true; the input reads as it did. -/
def listPacksSpec : ChangeSpec := { name := "listPacks", fn := fun _ => fun
  | [d1, d2] => { results := [.lit (.bool true)], args := [d1, d2] }
  | _ => none }
def listPacksRow : OpenClaim := { program := "ytloheongiceliaa", sum := "a2c1051e45c9716f7da515eaa781678e557414b682d76e12cbaedef4ba7dd6e1", func := "gemot/gemotlaw4.ListPacks", spec := "listPacks", unfollowed := true, recurses := true, apart := false }
def ListPacksSaid : Prop := listPacksRow.holds Try.pinned (OpenSpec.ofChange listPacksSpec)

/-- ITS FALSE NEIGHBOUR: 'it returns false'. Refute it at one input. -/
def listPacksWrong : ChangeSpec := { name := "listPacks", fn := fun _ => fun
  | [d1, d2] => { results := [.lit (.bool false)], args := [d1, d2] }
  | _ => none }
def ListPacksWrongFalsely : Prop := listPacksRow.holds Try.pinned (OpenSpec.ofChange listPacksWrong)

/- THE SECOND FORM. 'bulk': how many values and letters a reading holds, each counted each time it is reached (what is shared counts as often as it is met; a slice's spare places count too). A statement '..UptoSaid' is the law's where the arguments, and the package variables that the reading takes, are together of bulk at most 1048576: NARROWER than '..Said'. Prove '..Said' where nothing that the law and all that it calls make is longer than what came in: it says more and counts as full. Else prove '..UptoSaid'. A law counts once. -/
mutual
def uptoBulk {H : Type} : DataW H → Nat
  | .lit (.string bytes) => bytes.length + 1
  | .lit _ => 1
  | .nil => 1
  | .ptr d => uptoBulk d + 1
  | .slice elems spare => uptoBulkAll elems + uptoBulkAll spare + 1
  | .agg parts => uptoBulkAll parts + 1
  | .iface _ d => uptoBulk d + 1
  | .map entries => uptoBulkEntries entries + 1
  | .held _ => 1
def uptoBulkAll {H : Type} : List (DataW H) → Nat
  | [] => 0
  | d :: r => uptoBulk d + uptoBulkAll r
def uptoBulkEntries {H : Type} : List (Lit × DataW H) → Nat
  | [] => 0
  | x :: r => uptoBulkEntry x + uptoBulkEntries r
def uptoBulkEntry {H : Type} : Lit × DataW H → Nat
  | (.string bytes, d) => bytes.length + uptoBulk d + 1
  | (_, d) => uptoBulk d + 1
 end
def uptoSmall : (H : Type) → List (DataW H) → Bool := fun _ ds => decide (uptoBulkAll ds ≤ 1048576)
def OpenSpec.upto (s : _root_.Go.ChangeSpec) : _root_.Go.OpenSpec := { _root_.Go.OpenSpec.ofChange s with cond := some uptoSmall }

/-- 'gemotlaw1.TermLeaves', WHERE WHAT IT READS IS OF BULK AT MOST 1048576: true; the input reads as it did. -/
def termLeavesUptoRow : OpenClaim := { program := "ytloheongiceliaa", sum := "a2c1051e45c9716f7da515eaa781678e557414b682d76e12cbaedef4ba7dd6e1", func := "gemot/gemotlaw1.TermLeaves", spec := "termLeaves", inPlace := ["slices.overlaps[gemot/term.Term]", "internal/abi.NoEscape", "internal/bytealg.MakeNoZero"], apart := false, narrowed := true }
def TermLeavesUptoSaid : Prop := termLeavesUptoRow.holds Try.pinned (OpenSpec.upto termLeavesSpec)

/-- 'gemotlaw3.KnowSecret', WHERE WHAT IT READS IS OF BULK AT MOST 1048576: true; the input reads as it did. -/
def knowSecretUptoRow : OpenClaim := { program := "ytloheongiceliaa", sum := "a2c1051e45c9716f7da515eaa781678e557414b682d76e12cbaedef4ba7dd6e1", func := "gemot/gemotlaw3.KnowSecret", spec := "knowSecret", inPlace := ["slices.overlaps[gemot/term.Term]", "internal/abi.NoEscape", "internal/bytealg.MakeNoZero"], unfollowed := true, recurses := true, apart := false, narrowed := true }
def KnowSecretUptoSaid : Prop := knowSecretUptoRow.holds Try.pinned (OpenSpec.upto knowSecretSpec)

/-- 'gemotlaw4.ListPacks', WHERE WHAT IT READS IS OF BULK AT MOST 1048576: true; the input reads as it did. -/
def listPacksUptoRow : OpenClaim := { program := "ytloheongiceliaa", sum := "a2c1051e45c9716f7da515eaa781678e557414b682d76e12cbaedef4ba7dd6e1", func := "gemot/gemotlaw4.ListPacks", spec := "listPacks", unfollowed := true, recurses := true, apart := false, narrowed := true }
def ListPacksUptoSaid : Prop := listPacksUptoRow.holds Try.pinned (OpenSpec.upto listPacksSpec)

end Rows
end Go.Proofs.Ytloheongiceliaa
