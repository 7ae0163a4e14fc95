/-
  No cell of these rows narrows 'for every input' (looked for: loops, veiled, ifaces, maps, wideKeys, modest, calm, conditions, laid).
  DERIVED. THE GIVEN ROWS OF THIS SEAT. 6 by the template 'for every input the law returns true; each argument reads behind the call as it read before'; 0 by the template 'total and deterministic' (their statements: YtanfhnpnpdecnaaTotals.lean).
  GIVEN WITH THE SEED: the statements are not yours to turn. If you find one false, say at which input.
  Laid BY PROGRAM, IN A SANDBOX (cutbox-rows.mjs): the forced cells as the released guide's own fill.sh prints them over the translation be2c7cd1920f53d9… (all of the seat's roots in one cut). By AI agents, Wed Nov 11 2026. No macro, syntax, notation, axiom, sorry.
-/
import Derived.Test.YtanfhnpnpdecnaaChecked
import GoSem.Claim
import GoSem.ClaimJoined
import GoSem.ClaimMapViews
import Derived.JoinedTies
import Derived.KernelRfl
namespace Go.Proofs.Ytanfhnpnpdecnaa
/- THE CELL 'sum', in the pinned program and in every row, IS THE sha256 OF THE DUMP (.gsa) THAT YtanfhnpnpdecnaaProg.lean LOADS. Nothing in Lean hashes anything: it is a label: what it is worth is what the hold of that sum in a sandbox is worth. -/
noncomputable def Try.pinned : Pinned := { name := "ytanfhnpnpdecnaa", sum := "be2c7cd1920f53d985cd7396d6c057ff6a73c314d773157279c0e9c2ae0720e1", checked := Try.checked }
namespace Rows
def none {H : Type} : Left H := { results := [], args := [] }

/-- 'gemotlaw2.PartsTaken': WHATEVER THE INPUT: true; the input reads as it did. -/
def partsTakenSpec : ChangeSpec := { name := "partsTaken", fn := fun _ => fun
  | [d] => { results := [.lit (.bool true)], args := [d] }
  | _ => none }
def partsTakenRow : OpenClaim := { program := "ytanfhnpnpdecnaa", sum := "be2c7cd1920f53d985cd7396d6c057ff6a73c314d773157279c0e9c2ae0720e1", func := "gemot/gemotlaw2.PartsTaken", spec := "partsTaken", unfollowed := true, recurses := true, apart := false }
def PartsTakenSaid : Prop := partsTakenRow.holds Try.pinned (OpenSpec.ofChange partsTakenSpec)

/-- ITS FALSE NEIGHBOUR: 'it returns false'. Refute it at one input. -/
def partsTakenWrong : ChangeSpec := { name := "partsTaken", fn := fun _ => fun
  | [d] => { results := [.lit (.bool false)], args := [d] }
  | _ => none }
def PartsTakenWrongFalsely : Prop := partsTakenRow.holds Try.pinned (OpenSpec.ofChange partsTakenWrong)

/-- 'gemotlaw2.PartsAll': WHATEVER THE INPUT: true; the input reads as it did. -/
def partsAllSpec : ChangeSpec := { name := "partsAll", fn := fun _ => fun
  | [d1, d2] => { results := [.lit (.bool true)], args := [d1, d2] }
  | _ => none }
def partsAllRow : OpenClaim := { program := "ytanfhnpnpdecnaa", sum := "be2c7cd1920f53d985cd7396d6c057ff6a73c314d773157279c0e9c2ae0720e1", func := "gemot/gemotlaw2.PartsAll", spec := "partsAll", inPlace := ["slices.overlaps[gemot/term.Term]", "internal/abi.NoEscape", "internal/bytealg.MakeNoZero"], unfollowed := true, recurses := true, apart := false }
def PartsAllSaid : Prop := partsAllRow.holds Try.pinned (OpenSpec.ofChange partsAllSpec)

/-- ITS FALSE NEIGHBOUR: 'it returns false'. Refute it at one input. -/
def partsAllWrong : ChangeSpec := { name := "partsAll", fn := fun _ => fun
  | [d1, d2] => { results := [.lit (.bool false)], args := [d1, d2] }
  | _ => none }
def PartsAllWrongFalsely : Prop := partsAllRow.holds Try.pinned (OpenSpec.ofChange partsAllWrong)

/-- 'gemotlaw3.KnowSecret': WHATEVER THE INPUT: true; the input reads as it did. -/
def knowSecretSpec : ChangeSpec := { name := "knowSecret", fn := fun _ => fun
  | [d1, d2, d3] => { results := [.lit (.bool true)], args := [d1, d2, d3] }
  | _ => none }
def knowSecretRow : OpenClaim := { program := "ytanfhnpnpdecnaa", sum := "be2c7cd1920f53d985cd7396d6c057ff6a73c314d773157279c0e9c2ae0720e1", func := "gemot/gemotlaw3.KnowSecret", spec := "knowSecret", inPlace := ["slices.overlaps[gemot/term.Term]", "internal/abi.NoEscape", "internal/bytealg.MakeNoZero"], unfollowed := true, recurses := true, apart := false }
def KnowSecretSaid : Prop := knowSecretRow.holds Try.pinned (OpenSpec.ofChange knowSecretSpec)

/-- ITS FALSE NEIGHBOUR: 'it returns false'. Refute it at one input. -/
def knowSecretWrong : ChangeSpec := { name := "knowSecret", fn := fun _ => fun
  | [d1, d2, d3] => { results := [.lit (.bool false)], args := [d1, d2, d3] }
  | _ => none }
def KnowSecretWrongFalsely : Prop := knowSecretRow.holds Try.pinned (OpenSpec.ofChange knowSecretWrong)

/-- 'gemotlaw3.KnowPowers': WHATEVER THE INPUT: true; the input reads as it did. -/
def knowPowersSpec : ChangeSpec := { name := "knowPowers", fn := fun _ => fun
  | [d1, d2, d3] => { results := [.lit (.bool true)], args := [d1, d2, d3] }
  | _ => none }
def knowPowersRow : OpenClaim := { program := "ytanfhnpnpdecnaa", sum := "be2c7cd1920f53d985cd7396d6c057ff6a73c314d773157279c0e9c2ae0720e1", func := "gemot/gemotlaw3.KnowPowers", spec := "knowPowers", inPlace := ["slices.overlaps[gemot/term.Term]", "internal/abi.NoEscape", "internal/bytealg.MakeNoZero"], unfollowed := true, recurses := true, apart := false }
def KnowPowersSaid : Prop := knowPowersRow.holds Try.pinned (OpenSpec.ofChange knowPowersSpec)

/-- ITS FALSE NEIGHBOUR: 'it returns false'. Refute it at one input. -/
def knowPowersWrong : ChangeSpec := { name := "knowPowers", fn := fun _ => fun
  | [d1, d2, d3] => { results := [.lit (.bool false)], args := [d1, d2, d3] }
  | _ => none }
def KnowPowersWrongFalsely : Prop := knowPowersRow.holds Try.pinned (OpenSpec.ofChange knowPowersWrong)

/-- 'gemotlaw3.KnowSeals': WHATEVER THE INPUT: true; the input reads as it did. -/
def knowSealsSpec : ChangeSpec := { name := "knowSeals", fn := fun _ => fun
  | [d1, d2] => { results := [.lit (.bool true)], args := [d1, d2] }
  | _ => none }
def knowSealsRow : OpenClaim := { program := "ytanfhnpnpdecnaa", sum := "be2c7cd1920f53d985cd7396d6c057ff6a73c314d773157279c0e9c2ae0720e1", func := "gemot/gemotlaw3.KnowSeals", spec := "knowSeals", inPlace := ["slices.overlaps[gemot/term.Term]", "internal/abi.NoEscape", "internal/bytealg.MakeNoZero"], unfollowed := true, recurses := true, apart := false }
def KnowSealsSaid : Prop := knowSealsRow.holds Try.pinned (OpenSpec.ofChange knowSealsSpec)

/-- ITS FALSE NEIGHBOUR: 'it returns false'. Refute it at one input. -/
def knowSealsWrong : ChangeSpec := { name := "knowSeals", fn := fun _ => fun
  | [d1, d2] => { results := [.lit (.bool false)], args := [d1, d2] }
  | _ => none }
def KnowSealsWrongFalsely : Prop := knowSealsRow.holds Try.pinned (OpenSpec.ofChange knowSealsWrong)

/-- 'gemotlaw3.KnowPublic': WHATEVER THE INPUT: true; the input reads as it did. -/
def knowPublicSpec : ChangeSpec := { name := "knowPublic", fn := fun _ => fun
  | [d1, d2] => { results := [.lit (.bool true)], args := [d1, d2] }
  | _ => none }
def knowPublicRow : OpenClaim := { program := "ytanfhnpnpdecnaa", sum := "be2c7cd1920f53d985cd7396d6c057ff6a73c314d773157279c0e9c2ae0720e1", func := "gemot/gemotlaw3.KnowPublic", spec := "knowPublic", inPlace := ["slices.overlaps[gemot/term.Term]", "internal/abi.NoEscape", "internal/bytealg.MakeNoZero"], unfollowed := true, recurses := true, apart := false }
def KnowPublicSaid : Prop := knowPublicRow.holds Try.pinned (OpenSpec.ofChange knowPublicSpec)

/-- ITS FALSE NEIGHBOUR: 'it returns false'. Refute it at one input. -/
def knowPublicWrong : ChangeSpec := { name := "knowPublic", fn := fun _ => fun
  | [d1, d2] => { results := [.lit (.bool false)], args := [d1, d2] }
  | _ => none }
def KnowPublicWrongFalsely : Prop := knowPublicRow.holds Try.pinned (OpenSpec.ofChange knowPublicWrong)

/- THE SECOND FORM. 'bulk': how many values and letters a reading holds, each counted each time it is reached (what is shared counts as often as it is met; a slice's spare places count too). A statement '..UptoSaid' is the law's where the arguments, and the package variables that the reading takes, are together of bulk at most 1048576: NARROWER than '..Said'. Prove '..Said' where nothing that the law and all that it calls make is longer than what came in: it says more and counts as full. Else prove '..UptoSaid'. A law counts once. -/
mutual
def uptoBulk {H : Type} : DataW H → Nat
  | .lit (.string bytes) => bytes.length + 1
  | .lit _ => 1
  | .nil => 1
  | .ptr d => uptoBulk d + 1
  | .slice elems spare => uptoBulkAll elems + uptoBulkAll spare + 1
  | .agg parts => uptoBulkAll parts + 1
  | .iface _ d => uptoBulk d + 1
  | .map entries => uptoBulkEntries entries + 1
  | .held _ => 1
def uptoBulkAll {H : Type} : List (DataW H) → Nat
  | [] => 0
  | d :: r => uptoBulk d + uptoBulkAll r
def uptoBulkEntries {H : Type} : List (Lit × DataW H) → Nat
  | [] => 0
  | x :: r => uptoBulkEntry x + uptoBulkEntries r
def uptoBulkEntry {H : Type} : Lit × DataW H → Nat
  | (.string bytes, d) => bytes.length + uptoBulk d + 1
  | (_, d) => uptoBulk d + 1
 end
def uptoSmall : (H : Type) → List (DataW H) → Bool := fun _ ds => decide (uptoBulkAll ds ≤ 1048576)
def OpenSpec.upto (s : _root_.Go.ChangeSpec) : _root_.Go.OpenSpec := { _root_.Go.OpenSpec.ofChange s with cond := some uptoSmall }

/-- 'gemotlaw2.PartsTaken', WHERE WHAT IT READS IS OF BULK AT MOST 1048576: true; the input reads as it did. -/
def partsTakenUptoRow : OpenClaim := { program := "ytanfhnpnpdecnaa", sum := "be2c7cd1920f53d985cd7396d6c057ff6a73c314d773157279c0e9c2ae0720e1", func := "gemot/gemotlaw2.PartsTaken", spec := "partsTaken", unfollowed := true, recurses := true, apart := false, narrowed := true }
def PartsTakenUptoSaid : Prop := partsTakenUptoRow.holds Try.pinned (OpenSpec.upto partsTakenSpec)

/-- 'gemotlaw2.PartsAll', WHERE WHAT IT READS IS OF BULK AT MOST 1048576: true; the input reads as it did. -/
def partsAllUptoRow : OpenClaim := { program := "ytanfhnpnpdecnaa", sum := "be2c7cd1920f53d985cd7396d6c057ff6a73c314d773157279c0e9c2ae0720e1", func := "gemot/gemotlaw2.PartsAll", spec := "partsAll", inPlace := ["slices.overlaps[gemot/term.Term]", "internal/abi.NoEscape", "internal/bytealg.MakeNoZero"], unfollowed := true, recurses := true, apart := false, narrowed := true }
def PartsAllUptoSaid : Prop := partsAllUptoRow.holds Try.pinned (OpenSpec.upto partsAllSpec)

/-- 'gemotlaw3.KnowSecret', WHERE WHAT IT READS IS OF BULK AT MOST 1048576: true; the input reads as it did. -/
def knowSecretUptoRow : OpenClaim := { program := "ytanfhnpnpdecnaa", sum := "be2c7cd1920f53d985cd7396d6c057ff6a73c314d773157279c0e9c2ae0720e1", func := "gemot/gemotlaw3.KnowSecret", spec := "knowSecret", inPlace := ["slices.overlaps[gemot/term.Term]", "internal/abi.NoEscape", "internal/bytealg.MakeNoZero"], unfollowed := true, recurses := true, apart := false, narrowed := true }
def KnowSecretUptoSaid : Prop := knowSecretUptoRow.holds Try.pinned (OpenSpec.upto knowSecretSpec)

/-- 'gemotlaw3.KnowPowers', WHERE WHAT IT READS IS OF BULK AT MOST 1048576: true; the input reads as it did. -/
def knowPowersUptoRow : OpenClaim := { program := "ytanfhnpnpdecnaa", sum := "be2c7cd1920f53d985cd7396d6c057ff6a73c314d773157279c0e9c2ae0720e1", func := "gemot/gemotlaw3.KnowPowers", spec := "knowPowers", inPlace := ["slices.overlaps[gemot/term.Term]", "internal/abi.NoEscape", "internal/bytealg.MakeNoZero"], unfollowed := true, recurses := true, apart := false, narrowed := true }
def KnowPowersUptoSaid : Prop := knowPowersUptoRow.holds Try.pinned (OpenSpec.upto knowPowersSpec)

/-- 'gemotlaw3.KnowSeals', WHERE WHAT IT READS IS OF BULK AT MOST 1048576: true; the input reads as it did. -/
def knowSealsUptoRow : OpenClaim := { program := "ytanfhnpnpdecnaa", sum := "be2c7cd1920f53d985cd7396d6c057ff6a73c314d773157279c0e9c2ae0720e1", func := "gemot/gemotlaw3.KnowSeals", spec := "knowSeals", inPlace := ["slices.overlaps[gemot/term.Term]", "internal/abi.NoEscape", "internal/bytealg.MakeNoZero"], unfollowed := true, recurses := true, apart := false, narrowed := true }
def KnowSealsUptoSaid : Prop := knowSealsUptoRow.holds Try.pinned (OpenSpec.upto knowSealsSpec)

/-- 'gemotlaw3.KnowPublic', WHERE WHAT IT READS IS OF BULK AT MOST 1048576: true; the input reads as it did. -/
def knowPublicUptoRow : OpenClaim := { program := "ytanfhnpnpdecnaa", sum := "be2c7cd1920f53d985cd7396d6c057ff6a73c314d773157279c0e9c2ae0720e1", func := "gemot/gemotlaw3.KnowPublic", spec := "knowPublic", inPlace := ["slices.overlaps[gemot/term.Term]", "internal/abi.NoEscape", "internal/bytealg.MakeNoZero"], unfollowed := true, recurses := true, apart := false, narrowed := true }
def KnowPublicUptoSaid : Prop := knowPublicUptoRow.holds Try.pinned (OpenSpec.upto knowPublicSpec)

end Rows
end Go.Proofs.Ytanfhnpnpdecnaa
