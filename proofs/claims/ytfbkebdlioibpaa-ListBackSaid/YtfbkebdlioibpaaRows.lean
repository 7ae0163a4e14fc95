/-
  No cell of these rows narrows 'for every input' (looked for: loops, veiled, ifaces, maps, wideKeys, modest, calm, conditions, laid).
  DERIVED. THE GIVEN ROWS OF THIS SEAT. 9 by the template 'for every input the law returns true; each argument reads behind the call as it read before'; 0 by the template 'total and deterministic' (their statements: YtfbkebdlioibpaaTotals.lean).
  GIVEN WITH THE SEED: the statements are not yours to turn. If you find one false, say at which input.
  Laid BY PROGRAM, IN A SANDBOX (cutbox-rows.mjs): the forced cells as the released guide's own fill.sh prints them over the translation 2463eb4a6ff7c4bc… (all of the seat's roots in one cut). By AI agents, Wed Nov 11 2026. No macro, syntax, notation, axiom, sorry.
-/
import Derived.Test.YtfbkebdlioibpaaChecked
import GoSem.Claim
import GoSem.ClaimJoined
import GoSem.ClaimMapViews
import Derived.JoinedTies
import Derived.KernelRfl
namespace Go.Proofs.Ytfbkebdlioibpaa
/- THE CELL 'sum', in the pinned program and in every row, IS THE sha256 OF THE DUMP (.gsa) THAT YtfbkebdlioibpaaProg.lean LOADS. Nothing in Lean hashes anything: it is a label: what it is worth is what the hold of that sum in a sandbox is worth. -/
noncomputable def Try.pinned : Pinned := { name := "ytfbkebdlioibpaa", sum := "2463eb4a6ff7c4bcb1a9b06cb02171f98bd2bfda6bf701d5fc29cb4e8daf3ee6", checked := Try.checked }
namespace Rows
def none {H : Type} : Left H := { results := [], args := [] }

/-- 'gemotlaw3.KnowSecret': WHATEVER THE INPUT: true; the input reads as it did. -/
def knowSecretSpec : ChangeSpec := { name := "knowSecret", fn := fun _ => fun
  | [d1, d2, d3] => { results := [.lit (.bool true)], args := [d1, d2, d3] }
  | _ => none }
def knowSecretRow : OpenClaim := { program := "ytfbkebdlioibpaa", sum := "2463eb4a6ff7c4bcb1a9b06cb02171f98bd2bfda6bf701d5fc29cb4e8daf3ee6", func := "gemot/gemotlaw3.KnowSecret", spec := "knowSecret", inPlace := ["slices.overlaps[gemot/term.Term]", "internal/abi.NoEscape", "internal/bytealg.MakeNoZero"], unfollowed := true, recurses := true, apart := false }
def KnowSecretSaid : Prop := knowSecretRow.holds Try.pinned (OpenSpec.ofChange knowSecretSpec)

/-- ITS FALSE NEIGHBOUR: 'it returns false'. Refute it at one input. -/
def knowSecretWrong : ChangeSpec := { name := "knowSecret", fn := fun _ => fun
  | [d1, d2, d3] => { results := [.lit (.bool false)], args := [d1, d2, d3] }
  | _ => none }
def KnowSecretWrongFalsely : Prop := knowSecretRow.holds Try.pinned (OpenSpec.ofChange knowSecretWrong)

/-- 'gemotlaw4.ListPacks': WHATEVER THE INPUT: true; the input reads as it did. -/
def listPacksSpec : ChangeSpec := { name := "listPacks", fn := fun _ => fun
  | [d1, d2] => { results := [.lit (.bool true)], args := [d1, d2] }
  | _ => none }
def listPacksRow : OpenClaim := { program := "ytfbkebdlioibpaa", sum := "2463eb4a6ff7c4bcb1a9b06cb02171f98bd2bfda6bf701d5fc29cb4e8daf3ee6", func := "gemot/gemotlaw4.ListPacks", spec := "listPacks", unfollowed := true, recurses := true, apart := false }
def ListPacksSaid : Prop := listPacksRow.holds Try.pinned (OpenSpec.ofChange listPacksSpec)

/-- ITS FALSE NEIGHBOUR: 'it returns false'. Refute it at one input. -/
def listPacksWrong : ChangeSpec := { name := "listPacks", fn := fun _ => fun
  | [d1, d2] => { results := [.lit (.bool false)], args := [d1, d2] }
  | _ => none }
def ListPacksWrongFalsely : Prop := listPacksRow.holds Try.pinned (OpenSpec.ofChange listPacksWrong)

/-- 'gemotlaw4.ListBack': WHATEVER THE INPUT: true; the input reads as it did. -/
def listBackSpec : ChangeSpec := { name := "listBack", fn := fun _ => fun
  | [d1, d2, d3] => { results := [.lit (.bool true)], args := [d1, d2, d3] }
  | _ => none }
def listBackRow : OpenClaim := { program := "ytfbkebdlioibpaa", sum := "2463eb4a6ff7c4bcb1a9b06cb02171f98bd2bfda6bf701d5fc29cb4e8daf3ee6", func := "gemot/gemotlaw4.ListBack", spec := "listBack", inPlace := ["slices.overlaps[gemot/term.Term]", "internal/abi.NoEscape", "internal/bytealg.MakeNoZero"], unfollowed := true, recurses := true, apart := false }
def ListBackSaid : Prop := listBackRow.holds Try.pinned (OpenSpec.ofChange listBackSpec)

/-- ITS FALSE NEIGHBOUR: 'it returns false'. Refute it at one input. -/
def listBackWrong : ChangeSpec := { name := "listBack", fn := fun _ => fun
  | [d1, d2, d3] => { results := [.lit (.bool false)], args := [d1, d2, d3] }
  | _ => none }
def ListBackWrongFalsely : Prop := listBackRow.holds Try.pinned (OpenSpec.ofChange listBackWrong)

/-- 'gemotlaw5.WindowLets': WHATEVER THE INPUT: true; the input reads as it did. -/
def windowLetsSpec : ChangeSpec := { name := "windowLets", fn := fun _ => fun
  | [d1, d2] => { results := [.lit (.bool true)], args := [d1, d2] }
  | _ => none }
def windowLetsRow : OpenClaim := { program := "ytfbkebdlioibpaa", sum := "2463eb4a6ff7c4bcb1a9b06cb02171f98bd2bfda6bf701d5fc29cb4e8daf3ee6", func := "gemot/gemotlaw5.WindowLets", spec := "windowLets", apart := false }
def WindowLetsSaid : Prop := windowLetsRow.holds Try.pinned (OpenSpec.ofChange windowLetsSpec)

/-- ITS FALSE NEIGHBOUR: 'it returns false'. Refute it at one input. -/
def windowLetsWrong : ChangeSpec := { name := "windowLets", fn := fun _ => fun
  | [d1, d2] => { results := [.lit (.bool false)], args := [d1, d2] }
  | _ => none }
def WindowLetsWrongFalsely : Prop := windowLetsRow.holds Try.pinned (OpenSpec.ofChange windowLetsWrong)

/-- 'gemotlaw5.WindowOnce': WHATEVER THE INPUT: true; the input reads as it did. -/
def windowOnceSpec : ChangeSpec := { name := "windowOnce", fn := fun _ => fun
  | [d] => { results := [.lit (.bool true)], args := [d] }
  | _ => none }
def windowOnceRow : OpenClaim := { program := "ytfbkebdlioibpaa", sum := "2463eb4a6ff7c4bcb1a9b06cb02171f98bd2bfda6bf701d5fc29cb4e8daf3ee6", func := "gemot/gemotlaw5.WindowOnce", spec := "windowOnce", apart := false }
def WindowOnceSaid : Prop := windowOnceRow.holds Try.pinned (OpenSpec.ofChange windowOnceSpec)

/-- ITS FALSE NEIGHBOUR: 'it returns false'. Refute it at one input. -/
def windowOnceWrong : ChangeSpec := { name := "windowOnce", fn := fun _ => fun
  | [d] => { results := [.lit (.bool false)], args := [d] }
  | _ => none }
def WindowOnceWrongFalsely : Prop := windowOnceRow.holds Try.pinned (OpenSpec.ofChange windowOnceWrong)

/-- 'gemotlaw5.WindowShift': WHATEVER THE INPUT: true; the input reads as it did. -/
def windowShiftSpec : ChangeSpec := { name := "windowShift", fn := fun _ => fun
  | [d1, d2] => { results := [.lit (.bool true)], args := [d1, d2] }
  | _ => none }
def windowShiftRow : OpenClaim := { program := "ytfbkebdlioibpaa", sum := "2463eb4a6ff7c4bcb1a9b06cb02171f98bd2bfda6bf701d5fc29cb4e8daf3ee6", func := "gemot/gemotlaw5.WindowShift", spec := "windowShift", apart := false }
def WindowShiftSaid : Prop := windowShiftRow.holds Try.pinned (OpenSpec.ofChange windowShiftSpec)

/-- ITS FALSE NEIGHBOUR: 'it returns false'. Refute it at one input. -/
def windowShiftWrong : ChangeSpec := { name := "windowShift", fn := fun _ => fun
  | [d1, d2] => { results := [.lit (.bool false)], args := [d1, d2] }
  | _ => none }
def WindowShiftWrongFalsely : Prop := windowShiftRow.holds Try.pinned (OpenSpec.ofChange windowShiftWrong)

/-- 'gemotlaw5.WindowRise': WHATEVER THE INPUT: true; the input reads as it did. -/
def windowRiseSpec : ChangeSpec := { name := "windowRise", fn := fun _ => fun
  | [d1, d2, d3] => { results := [.lit (.bool true)], args := [d1, d2, d3] }
  | _ => none }
def windowRiseRow : OpenClaim := { program := "ytfbkebdlioibpaa", sum := "2463eb4a6ff7c4bcb1a9b06cb02171f98bd2bfda6bf701d5fc29cb4e8daf3ee6", func := "gemot/gemotlaw5.WindowRise", spec := "windowRise", apart := false }
def WindowRiseSaid : Prop := windowRiseRow.holds Try.pinned (OpenSpec.ofChange windowRiseSpec)

/-- ITS FALSE NEIGHBOUR: 'it returns false'. Refute it at one input. -/
def windowRiseWrong : ChangeSpec := { name := "windowRise", fn := fun _ => fun
  | [d1, d2, d3] => { results := [.lit (.bool false)], args := [d1, d2, d3] }
  | _ => none }
def WindowRiseWrongFalsely : Prop := windowRiseRow.holds Try.pinned (OpenSpec.ofChange windowRiseWrong)

/-- 'gemotlaw5.WindowAfter': WHATEVER THE INPUT: true; the input reads as it did. -/
def windowAfterSpec : ChangeSpec := { name := "windowAfter", fn := fun _ => fun
  | [d1, d2] => { results := [.lit (.bool true)], args := [d1, d2] }
  | _ => none }
def windowAfterRow : OpenClaim := { program := "ytfbkebdlioibpaa", sum := "2463eb4a6ff7c4bcb1a9b06cb02171f98bd2bfda6bf701d5fc29cb4e8daf3ee6", func := "gemot/gemotlaw5.WindowAfter", spec := "windowAfter", apart := false }
def WindowAfterSaid : Prop := windowAfterRow.holds Try.pinned (OpenSpec.ofChange windowAfterSpec)

/-- ITS FALSE NEIGHBOUR: 'it returns false'. Refute it at one input. -/
def windowAfterWrong : ChangeSpec := { name := "windowAfter", fn := fun _ => fun
  | [d1, d2] => { results := [.lit (.bool false)], args := [d1, d2] }
  | _ => none }
def WindowAfterWrongFalsely : Prop := windowAfterRow.holds Try.pinned (OpenSpec.ofChange windowAfterWrong)

/-- 'gemotlaw5.WindowTurned': WHATEVER THE INPUT: true; the input reads as it did. -/
def windowTurnedSpec : ChangeSpec := { name := "windowTurned", fn := fun _ => fun
  | [d1, d2, d3] => { results := [.lit (.bool true)], args := [d1, d2, d3] }
  | _ => none }
def windowTurnedRow : OpenClaim := { program := "ytfbkebdlioibpaa", sum := "2463eb4a6ff7c4bcb1a9b06cb02171f98bd2bfda6bf701d5fc29cb4e8daf3ee6", func := "gemot/gemotlaw5.WindowTurned", spec := "windowTurned", apart := false }
def WindowTurnedSaid : Prop := windowTurnedRow.holds Try.pinned (OpenSpec.ofChange windowTurnedSpec)

/-- ITS FALSE NEIGHBOUR: 'it returns false'. Refute it at one input. -/
def windowTurnedWrong : ChangeSpec := { name := "windowTurned", fn := fun _ => fun
  | [d1, d2, d3] => { results := [.lit (.bool false)], args := [d1, d2, d3] }
  | _ => none }
def WindowTurnedWrongFalsely : Prop := windowTurnedRow.holds Try.pinned (OpenSpec.ofChange windowTurnedWrong)

/- THE SECOND FORM. 'bulk': how many values and letters a reading holds, each counted each time it is reached (what is shared counts as often as it is met; a slice's spare places count too). A statement '..UptoSaid' is the law's where the arguments, and the package variables that the reading takes, are together of bulk at most 1048576: NARROWER than '..Said'. Prove '..Said' where nothing that the law and all that it calls make is longer than what came in: it says more and counts as full. Else prove '..UptoSaid'. A law counts once. -/
mutual
def uptoBulk {H : Type} : DataW H → Nat
  | .lit (.string bytes) => bytes.length + 1
  | .lit _ => 1
  | .nil => 1
  | .ptr d => uptoBulk d + 1
  | .slice elems spare => uptoBulkAll elems + uptoBulkAll spare + 1
  | .agg parts => uptoBulkAll parts + 1
  | .iface _ d => uptoBulk d + 1
  | .map entries => uptoBulkEntries entries + 1
  | .held _ => 1
def uptoBulkAll {H : Type} : List (DataW H) → Nat
  | [] => 0
  | d :: r => uptoBulk d + uptoBulkAll r
def uptoBulkEntries {H : Type} : List (Lit × DataW H) → Nat
  | [] => 0
  | x :: r => uptoBulkEntry x + uptoBulkEntries r
def uptoBulkEntry {H : Type} : Lit × DataW H → Nat
  | (.string bytes, d) => bytes.length + uptoBulk d + 1
  | (_, d) => uptoBulk d + 1
 end
def uptoSmall : (H : Type) → List (DataW H) → Bool := fun _ ds => decide (uptoBulkAll ds ≤ 1048576)
def OpenSpec.upto (s : _root_.Go.ChangeSpec) : _root_.Go.OpenSpec := { _root_.Go.OpenSpec.ofChange s with cond := some uptoSmall }

/-- 'gemotlaw3.KnowSecret', WHERE WHAT IT READS IS OF BULK AT MOST 1048576: true; the input reads as it did. -/
def knowSecretUptoRow : OpenClaim := { program := "ytfbkebdlioibpaa", sum := "2463eb4a6ff7c4bcb1a9b06cb02171f98bd2bfda6bf701d5fc29cb4e8daf3ee6", func := "gemot/gemotlaw3.KnowSecret", spec := "knowSecret", inPlace := ["slices.overlaps[gemot/term.Term]", "internal/abi.NoEscape", "internal/bytealg.MakeNoZero"], unfollowed := true, recurses := true, apart := false, narrowed := true }
def KnowSecretUptoSaid : Prop := knowSecretUptoRow.holds Try.pinned (OpenSpec.upto knowSecretSpec)

/-- 'gemotlaw4.ListPacks', WHERE WHAT IT READS IS OF BULK AT MOST 1048576: true; the input reads as it did. -/
def listPacksUptoRow : OpenClaim := { program := "ytfbkebdlioibpaa", sum := "2463eb4a6ff7c4bcb1a9b06cb02171f98bd2bfda6bf701d5fc29cb4e8daf3ee6", func := "gemot/gemotlaw4.ListPacks", spec := "listPacks", unfollowed := true, recurses := true, apart := false, narrowed := true }
def ListPacksUptoSaid : Prop := listPacksUptoRow.holds Try.pinned (OpenSpec.upto listPacksSpec)

/-- 'gemotlaw4.ListBack', WHERE WHAT IT READS IS OF BULK AT MOST 1048576: true; the input reads as it did. -/
def listBackUptoRow : OpenClaim := { program := "ytfbkebdlioibpaa", sum := "2463eb4a6ff7c4bcb1a9b06cb02171f98bd2bfda6bf701d5fc29cb4e8daf3ee6", func := "gemot/gemotlaw4.ListBack", spec := "listBack", inPlace := ["slices.overlaps[gemot/term.Term]", "internal/abi.NoEscape", "internal/bytealg.MakeNoZero"], unfollowed := true, recurses := true, apart := false, narrowed := true }
def ListBackUptoSaid : Prop := listBackUptoRow.holds Try.pinned (OpenSpec.upto listBackSpec)

/-- 'gemotlaw5.WindowLets', WHERE WHAT IT READS IS OF BULK AT MOST 1048576: true; the input reads as it did. -/
def windowLetsUptoRow : OpenClaim := { program := "ytfbkebdlioibpaa", sum := "2463eb4a6ff7c4bcb1a9b06cb02171f98bd2bfda6bf701d5fc29cb4e8daf3ee6", func := "gemot/gemotlaw5.WindowLets", spec := "windowLets", apart := false, narrowed := true }
def WindowLetsUptoSaid : Prop := windowLetsUptoRow.holds Try.pinned (OpenSpec.upto windowLetsSpec)

/-- 'gemotlaw5.WindowOnce', WHERE WHAT IT READS IS OF BULK AT MOST 1048576: true; the input reads as it did. -/
def windowOnceUptoRow : OpenClaim := { program := "ytfbkebdlioibpaa", sum := "2463eb4a6ff7c4bcb1a9b06cb02171f98bd2bfda6bf701d5fc29cb4e8daf3ee6", func := "gemot/gemotlaw5.WindowOnce", spec := "windowOnce", apart := false, narrowed := true }
def WindowOnceUptoSaid : Prop := windowOnceUptoRow.holds Try.pinned (OpenSpec.upto windowOnceSpec)

/-- 'gemotlaw5.WindowShift', WHERE WHAT IT READS IS OF BULK AT MOST 1048576: true; the input reads as it did. -/
def windowShiftUptoRow : OpenClaim := { program := "ytfbkebdlioibpaa", sum := "2463eb4a6ff7c4bcb1a9b06cb02171f98bd2bfda6bf701d5fc29cb4e8daf3ee6", func := "gemot/gemotlaw5.WindowShift", spec := "windowShift", apart := false, narrowed := true }
def WindowShiftUptoSaid : Prop := windowShiftUptoRow.holds Try.pinned (OpenSpec.upto windowShiftSpec)

/-- 'gemotlaw5.WindowRise', WHERE WHAT IT READS IS OF BULK AT MOST 1048576: true; the input reads as it did. -/
def windowRiseUptoRow : OpenClaim := { program := "ytfbkebdlioibpaa", sum := "2463eb4a6ff7c4bcb1a9b06cb02171f98bd2bfda6bf701d5fc29cb4e8daf3ee6", func := "gemot/gemotlaw5.WindowRise", spec := "windowRise", apart := false, narrowed := true }
def WindowRiseUptoSaid : Prop := windowRiseUptoRow.holds Try.pinned (OpenSpec.upto windowRiseSpec)

/-- 'gemotlaw5.WindowAfter', WHERE WHAT IT READS IS OF BULK AT MOST 1048576: true; the input reads as it did. -/
def windowAfterUptoRow : OpenClaim := { program := "ytfbkebdlioibpaa", sum := "2463eb4a6ff7c4bcb1a9b06cb02171f98bd2bfda6bf701d5fc29cb4e8daf3ee6", func := "gemot/gemotlaw5.WindowAfter", spec := "windowAfter", apart := false, narrowed := true }
def WindowAfterUptoSaid : Prop := windowAfterUptoRow.holds Try.pinned (OpenSpec.upto windowAfterSpec)

/-- 'gemotlaw5.WindowTurned', WHERE WHAT IT READS IS OF BULK AT MOST 1048576: true; the input reads as it did. -/
def windowTurnedUptoRow : OpenClaim := { program := "ytfbkebdlioibpaa", sum := "2463eb4a6ff7c4bcb1a9b06cb02171f98bd2bfda6bf701d5fc29cb4e8daf3ee6", func := "gemot/gemotlaw5.WindowTurned", spec := "windowTurned", apart := false, narrowed := true }
def WindowTurnedUptoSaid : Prop := windowTurnedUptoRow.holds Try.pinned (OpenSpec.upto windowTurnedSpec)

end Rows
end Go.Proofs.Ytfbkebdlioibpaa
