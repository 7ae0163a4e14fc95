/-
  No cell of these rows narrows 'for every input' (looked for: loops, veiled, ifaces, maps, wideKeys, modest, calm, conditions, laid).
  DERIVED. THE GIVEN ROWS OF THIS SEAT. 10 by the template 'for every input the law returns true; each argument reads behind the call as it read before'; 0 by the template 'total and deterministic' (their statements: YtekididpimgghaaTotals.lean).
  GIVEN WITH THE SEED: the statements are not yours to turn. If you find one false, say at which input.
  Laid BY PROGRAM, IN A SANDBOX (cutbox-rows.mjs): the forced cells as the released guide's own fill.sh prints them over the translation fb9f7d0693173898… (all of the seat's roots in one cut). By AI agents, Wed Nov 11 2026. No macro, syntax, notation, axiom, sorry.
-/
import Derived.Test.YtekididpimgghaaChecked
import GoSem.Claim
import GoSem.ClaimJoined
import GoSem.ClaimMapViews
import Derived.JoinedTies
import Derived.KernelRfl
namespace Go.Proofs.Ytekididpimgghaa
/- THE CELL 'sum', in the pinned program and in every row, IS THE sha256 OF THE DUMP (.gsa) THAT YtekididpimgghaaProg.lean LOADS. Nothing in Lean hashes anything: it is a label: what it is worth is what the hold of that sum in a sandbox is worth. -/
noncomputable def Try.pinned : Pinned := { name := "ytekididpimgghaa", sum := "fb9f7d06931738983a707511e83e57913c7207ac78d586733c7059511dee30ec", checked := Try.checked }
namespace Rows
def none {H : Type} : Left H := { results := [], args := [] }

/-- 'gemotlaw3.KnowSecret': WHATEVER THE INPUT: true; the input reads as it did. -/
def knowSecretSpec : ChangeSpec := { name := "knowSecret", fn := fun _ => fun
  | [d1, d2, d3] => { results := [.lit (.bool true)], args := [d1, d2, d3] }
  | _ => none }
def knowSecretRow : OpenClaim := { program := "ytekididpimgghaa", sum := "fb9f7d06931738983a707511e83e57913c7207ac78d586733c7059511dee30ec", func := "gemot/gemotlaw3.KnowSecret", spec := "knowSecret", inPlace := ["slices.overlaps[gemot/term.Term]", "internal/abi.NoEscape", "internal/bytealg.MakeNoZero"], unfollowed := true, recurses := true, apart := false }
def KnowSecretSaid : Prop := knowSecretRow.holds Try.pinned (OpenSpec.ofChange knowSecretSpec)

/-- ITS FALSE NEIGHBOUR: 'it returns false'. Refute it at one input. -/
def knowSecretWrong : ChangeSpec := { name := "knowSecret", fn := fun _ => fun
  | [d1, d2, d3] => { results := [.lit (.bool false)], args := [d1, d2, d3] }
  | _ => none }
def KnowSecretWrongFalsely : Prop := knowSecretRow.holds Try.pinned (OpenSpec.ofChange knowSecretWrong)

/-- 'gemotlaw3.KnowSeals': WHATEVER THE INPUT: true; the input reads as it did. -/
def knowSealsSpec : ChangeSpec := { name := "knowSeals", fn := fun _ => fun
  | [d1, d2] => { results := [.lit (.bool true)], args := [d1, d2] }
  | _ => none }
def knowSealsRow : OpenClaim := { program := "ytekididpimgghaa", sum := "fb9f7d06931738983a707511e83e57913c7207ac78d586733c7059511dee30ec", func := "gemot/gemotlaw3.KnowSeals", spec := "knowSeals", inPlace := ["slices.overlaps[gemot/term.Term]", "internal/abi.NoEscape", "internal/bytealg.MakeNoZero"], unfollowed := true, recurses := true, apart := false }
def KnowSealsSaid : Prop := knowSealsRow.holds Try.pinned (OpenSpec.ofChange knowSealsSpec)

/-- ITS FALSE NEIGHBOUR: 'it returns false'. Refute it at one input. -/
def knowSealsWrong : ChangeSpec := { name := "knowSeals", fn := fun _ => fun
  | [d1, d2] => { results := [.lit (.bool false)], args := [d1, d2] }
  | _ => none }
def KnowSealsWrongFalsely : Prop := knowSealsRow.holds Try.pinned (OpenSpec.ofChange knowSealsWrong)

/-- 'gemotlaw3.KnowPublic': WHATEVER THE INPUT: true; the input reads as it did. -/
def knowPublicSpec : ChangeSpec := { name := "knowPublic", fn := fun _ => fun
  | [d1, d2] => { results := [.lit (.bool true)], args := [d1, d2] }
  | _ => none }
def knowPublicRow : OpenClaim := { program := "ytekididpimgghaa", sum := "fb9f7d06931738983a707511e83e57913c7207ac78d586733c7059511dee30ec", func := "gemot/gemotlaw3.KnowPublic", spec := "knowPublic", inPlace := ["slices.overlaps[gemot/term.Term]", "internal/abi.NoEscape", "internal/bytealg.MakeNoZero"], unfollowed := true, recurses := true, apart := false }
def KnowPublicSaid : Prop := knowPublicRow.holds Try.pinned (OpenSpec.ofChange knowPublicSpec)

/-- ITS FALSE NEIGHBOUR: 'it returns false'. Refute it at one input. -/
def knowPublicWrong : ChangeSpec := { name := "knowPublic", fn := fun _ => fun
  | [d1, d2] => { results := [.lit (.bool false)], args := [d1, d2] }
  | _ => none }
def KnowPublicWrongFalsely : Prop := knowPublicRow.holds Try.pinned (OpenSpec.ofChange knowPublicWrong)

/-- 'gemotlaw4.ListRows': WHATEVER THE INPUT: true; the input reads as it did. -/
def listRowsSpec : ChangeSpec := { name := "listRows", fn := fun _ => fun
  | [d1, d2] => { results := [.lit (.bool true)], args := [d1, d2] }
  | _ => none }
def listRowsRow : OpenClaim := { program := "ytekididpimgghaa", sum := "fb9f7d06931738983a707511e83e57913c7207ac78d586733c7059511dee30ec", func := "gemot/gemotlaw4.ListRows", spec := "listRows", unfollowed := true, recurses := true, apart := false }
def ListRowsSaid : Prop := listRowsRow.holds Try.pinned (OpenSpec.ofChange listRowsSpec)

/-- ITS FALSE NEIGHBOUR: 'it returns false'. Refute it at one input. -/
def listRowsWrong : ChangeSpec := { name := "listRows", fn := fun _ => fun
  | [d1, d2] => { results := [.lit (.bool false)], args := [d1, d2] }
  | _ => none }
def ListRowsWrongFalsely : Prop := listRowsRow.holds Try.pinned (OpenSpec.ofChange listRowsWrong)

/-- 'gemotlaw4.ListPacks': WHATEVER THE INPUT: true; the input reads as it did. -/
def listPacksSpec : ChangeSpec := { name := "listPacks", fn := fun _ => fun
  | [d1, d2] => { results := [.lit (.bool true)], args := [d1, d2] }
  | _ => none }
def listPacksRow : OpenClaim := { program := "ytekididpimgghaa", sum := "fb9f7d06931738983a707511e83e57913c7207ac78d586733c7059511dee30ec", func := "gemot/gemotlaw4.ListPacks", spec := "listPacks", unfollowed := true, recurses := true, apart := false }
def ListPacksSaid : Prop := listPacksRow.holds Try.pinned (OpenSpec.ofChange listPacksSpec)

/-- ITS FALSE NEIGHBOUR: 'it returns false'. Refute it at one input. -/
def listPacksWrong : ChangeSpec := { name := "listPacks", fn := fun _ => fun
  | [d1, d2] => { results := [.lit (.bool false)], args := [d1, d2] }
  | _ => none }
def ListPacksWrongFalsely : Prop := listPacksRow.holds Try.pinned (OpenSpec.ofChange listPacksWrong)

/-- 'gemotlaw4.ListBack': WHATEVER THE INPUT: true; the input reads as it did. -/
def listBackSpec : ChangeSpec := { name := "listBack", fn := fun _ => fun
  | [d1, d2, d3] => { results := [.lit (.bool true)], args := [d1, d2, d3] }
  | _ => none }
def listBackRow : OpenClaim := { program := "ytekididpimgghaa", sum := "fb9f7d06931738983a707511e83e57913c7207ac78d586733c7059511dee30ec", func := "gemot/gemotlaw4.ListBack", spec := "listBack", inPlace := ["slices.overlaps[gemot/term.Term]", "internal/abi.NoEscape", "internal/bytealg.MakeNoZero"], unfollowed := true, recurses := true, apart := false }
def ListBackSaid : Prop := listBackRow.holds Try.pinned (OpenSpec.ofChange listBackSpec)

/-- ITS FALSE NEIGHBOUR: 'it returns false'. Refute it at one input. -/
def listBackWrong : ChangeSpec := { name := "listBack", fn := fun _ => fun
  | [d1, d2, d3] => { results := [.lit (.bool false)], args := [d1, d2, d3] }
  | _ => none }
def ListBackWrongFalsely : Prop := listBackRow.holds Try.pinned (OpenSpec.ofChange listBackWrong)

/-- 'gemotlaw4.ListApart': WHATEVER THE INPUT: true; the input reads as it did. -/
def listApartSpec : ChangeSpec := { name := "listApart", fn := fun _ => fun
  | [d1, d2] => { results := [.lit (.bool true)], args := [d1, d2] }
  | _ => none }
def listApartRow : OpenClaim := { program := "ytekididpimgghaa", sum := "fb9f7d06931738983a707511e83e57913c7207ac78d586733c7059511dee30ec", func := "gemot/gemotlaw4.ListApart", spec := "listApart", unfollowed := true, recurses := true, apart := false }
def ListApartSaid : Prop := listApartRow.holds Try.pinned (OpenSpec.ofChange listApartSpec)

/-- ITS FALSE NEIGHBOUR: 'it returns false'. Refute it at one input. -/
def listApartWrong : ChangeSpec := { name := "listApart", fn := fun _ => fun
  | [d1, d2] => { results := [.lit (.bool false)], args := [d1, d2] }
  | _ => none }
def ListApartWrongFalsely : Prop := listApartRow.holds Try.pinned (OpenSpec.ofChange listApartWrong)

/-- 'gemotlaw4.ListJoins': WHATEVER THE INPUT: true; the input reads as it did. -/
def listJoinsSpec : ChangeSpec := { name := "listJoins", fn := fun _ => fun
  | [d1, d2] => { results := [.lit (.bool true)], args := [d1, d2] }
  | _ => none }
def listJoinsRow : OpenClaim := { program := "ytekididpimgghaa", sum := "fb9f7d06931738983a707511e83e57913c7207ac78d586733c7059511dee30ec", func := "gemot/gemotlaw4.ListJoins", spec := "listJoins", inPlace := ["slices.overlaps[gemot/term.Term]", "internal/abi.NoEscape", "internal/bytealg.MakeNoZero"], unfollowed := true, recurses := true, apart := false }
def ListJoinsSaid : Prop := listJoinsRow.holds Try.pinned (OpenSpec.ofChange listJoinsSpec)

/-- ITS FALSE NEIGHBOUR: 'it returns false'. Refute it at one input. -/
def listJoinsWrong : ChangeSpec := { name := "listJoins", fn := fun _ => fun
  | [d1, d2] => { results := [.lit (.bool false)], args := [d1, d2] }
  | _ => none }
def ListJoinsWrongFalsely : Prop := listJoinsRow.holds Try.pinned (OpenSpec.ofChange listJoinsWrong)

/-- 'gemotlaw4.ListNumbers': WHATEVER THE INPUT: true; the input reads as it did. -/
def listNumbersSpec : ChangeSpec := { name := "listNumbers", fn := fun _ => fun
  | [d1, d2, d3, d4] => { results := [.lit (.bool true)], args := [d1, d2, d3, d4] }
  | _ => none }
def listNumbersRow : OpenClaim := { program := "ytekididpimgghaa", sum := "fb9f7d06931738983a707511e83e57913c7207ac78d586733c7059511dee30ec", func := "gemot/gemotlaw4.ListNumbers", spec := "listNumbers", unfollowed := true, recurses := true, apart := false }
def ListNumbersSaid : Prop := listNumbersRow.holds Try.pinned (OpenSpec.ofChange listNumbersSpec)

/-- ITS FALSE NEIGHBOUR: 'it returns false'. Refute it at one input. -/
def listNumbersWrong : ChangeSpec := { name := "listNumbers", fn := fun _ => fun
  | [d1, d2, d3, d4] => { results := [.lit (.bool false)], args := [d1, d2, d3, d4] }
  | _ => none }
def ListNumbersWrongFalsely : Prop := listNumbersRow.holds Try.pinned (OpenSpec.ofChange listNumbersWrong)

/-- 'gemotlaw4.ListCuts': WHATEVER THE INPUT: true; the input reads as it did. -/
def listCutsSpec : ChangeSpec := { name := "listCuts", fn := fun _ => fun
  | [d] => { results := [.lit (.bool true)], args := [d] }
  | _ => none }
def listCutsRow : OpenClaim := { program := "ytekididpimgghaa", sum := "fb9f7d06931738983a707511e83e57913c7207ac78d586733c7059511dee30ec", func := "gemot/gemotlaw4.ListCuts", spec := "listCuts", inPlace := ["slices.overlaps[gemot/term.Term]", "internal/abi.NoEscape", "internal/bytealg.MakeNoZero"], unfollowed := true, recurses := true, apart := false }
def ListCutsSaid : Prop := listCutsRow.holds Try.pinned (OpenSpec.ofChange listCutsSpec)

/-- ITS FALSE NEIGHBOUR: 'it returns false'. Refute it at one input. -/
def listCutsWrong : ChangeSpec := { name := "listCuts", fn := fun _ => fun
  | [d] => { results := [.lit (.bool false)], args := [d] }
  | _ => none }
def ListCutsWrongFalsely : Prop := listCutsRow.holds Try.pinned (OpenSpec.ofChange listCutsWrong)

/- THE SECOND FORM. 'bulk': how many values and letters a reading holds, each counted each time it is reached (what is shared counts as often as it is met; a slice's spare places count too). A statement '..UptoSaid' is the law's where the arguments, and the package variables that the reading takes, are together of bulk at most 1048576: NARROWER than '..Said'. Prove '..Said' where nothing that the law and all that it calls make is longer than what came in: it says more and counts as full. Else prove '..UptoSaid'. A law counts once. -/
mutual
def uptoBulk {H : Type} : DataW H → Nat
  | .lit (.string bytes) => bytes.length + 1
  | .lit _ => 1
  | .nil => 1
  | .ptr d => uptoBulk d + 1
  | .slice elems spare => uptoBulkAll elems + uptoBulkAll spare + 1
  | .agg parts => uptoBulkAll parts + 1
  | .iface _ d => uptoBulk d + 1
  | .map entries => uptoBulkEntries entries + 1
  | .held _ => 1
def uptoBulkAll {H : Type} : List (DataW H) → Nat
  | [] => 0
  | d :: r => uptoBulk d + uptoBulkAll r
def uptoBulkEntries {H : Type} : List (Lit × DataW H) → Nat
  | [] => 0
  | x :: r => uptoBulkEntry x + uptoBulkEntries r
def uptoBulkEntry {H : Type} : Lit × DataW H → Nat
  | (.string bytes, d) => bytes.length + uptoBulk d + 1
  | (_, d) => uptoBulk d + 1
 end
def uptoSmall : (H : Type) → List (DataW H) → Bool := fun _ ds => decide (uptoBulkAll ds ≤ 1048576)
def OpenSpec.upto (s : _root_.Go.ChangeSpec) : _root_.Go.OpenSpec := { _root_.Go.OpenSpec.ofChange s with cond := some uptoSmall }

/-- 'gemotlaw3.KnowSecret', WHERE WHAT IT READS IS OF BULK AT MOST 1048576: true; the input reads as it did. -/
def knowSecretUptoRow : OpenClaim := { program := "ytekididpimgghaa", sum := "fb9f7d06931738983a707511e83e57913c7207ac78d586733c7059511dee30ec", func := "gemot/gemotlaw3.KnowSecret", spec := "knowSecret", inPlace := ["slices.overlaps[gemot/term.Term]", "internal/abi.NoEscape", "internal/bytealg.MakeNoZero"], unfollowed := true, recurses := true, apart := false, narrowed := true }
def KnowSecretUptoSaid : Prop := knowSecretUptoRow.holds Try.pinned (OpenSpec.upto knowSecretSpec)

/-- 'gemotlaw3.KnowSeals', WHERE WHAT IT READS IS OF BULK AT MOST 1048576: true; the input reads as it did. -/
def knowSealsUptoRow : OpenClaim := { program := "ytekididpimgghaa", sum := "fb9f7d06931738983a707511e83e57913c7207ac78d586733c7059511dee30ec", func := "gemot/gemotlaw3.KnowSeals", spec := "knowSeals", inPlace := ["slices.overlaps[gemot/term.Term]", "internal/abi.NoEscape", "internal/bytealg.MakeNoZero"], unfollowed := true, recurses := true, apart := false, narrowed := true }
def KnowSealsUptoSaid : Prop := knowSealsUptoRow.holds Try.pinned (OpenSpec.upto knowSealsSpec)

/-- 'gemotlaw3.KnowPublic', WHERE WHAT IT READS IS OF BULK AT MOST 1048576: true; the input reads as it did. -/
def knowPublicUptoRow : OpenClaim := { program := "ytekididpimgghaa", sum := "fb9f7d06931738983a707511e83e57913c7207ac78d586733c7059511dee30ec", func := "gemot/gemotlaw3.KnowPublic", spec := "knowPublic", inPlace := ["slices.overlaps[gemot/term.Term]", "internal/abi.NoEscape", "internal/bytealg.MakeNoZero"], unfollowed := true, recurses := true, apart := false, narrowed := true }
def KnowPublicUptoSaid : Prop := knowPublicUptoRow.holds Try.pinned (OpenSpec.upto knowPublicSpec)

/-- 'gemotlaw4.ListRows', WHERE WHAT IT READS IS OF BULK AT MOST 1048576: true; the input reads as it did. -/
def listRowsUptoRow : OpenClaim := { program := "ytekididpimgghaa", sum := "fb9f7d06931738983a707511e83e57913c7207ac78d586733c7059511dee30ec", func := "gemot/gemotlaw4.ListRows", spec := "listRows", unfollowed := true, recurses := true, apart := false, narrowed := true }
def ListRowsUptoSaid : Prop := listRowsUptoRow.holds Try.pinned (OpenSpec.upto listRowsSpec)

/-- 'gemotlaw4.ListPacks', WHERE WHAT IT READS IS OF BULK AT MOST 1048576: true; the input reads as it did. -/
def listPacksUptoRow : OpenClaim := { program := "ytekididpimgghaa", sum := "fb9f7d06931738983a707511e83e57913c7207ac78d586733c7059511dee30ec", func := "gemot/gemotlaw4.ListPacks", spec := "listPacks", unfollowed := true, recurses := true, apart := false, narrowed := true }
def ListPacksUptoSaid : Prop := listPacksUptoRow.holds Try.pinned (OpenSpec.upto listPacksSpec)

/-- 'gemotlaw4.ListBack', WHERE WHAT IT READS IS OF BULK AT MOST 1048576: true; the input reads as it did. -/
def listBackUptoRow : OpenClaim := { program := "ytekididpimgghaa", sum := "fb9f7d06931738983a707511e83e57913c7207ac78d586733c7059511dee30ec", func := "gemot/gemotlaw4.ListBack", spec := "listBack", inPlace := ["slices.overlaps[gemot/term.Term]", "internal/abi.NoEscape", "internal/bytealg.MakeNoZero"], unfollowed := true, recurses := true, apart := false, narrowed := true }
def ListBackUptoSaid : Prop := listBackUptoRow.holds Try.pinned (OpenSpec.upto listBackSpec)

/-- 'gemotlaw4.ListApart', WHERE WHAT IT READS IS OF BULK AT MOST 1048576: true; the input reads as it did. -/
def listApartUptoRow : OpenClaim := { program := "ytekididpimgghaa", sum := "fb9f7d06931738983a707511e83e57913c7207ac78d586733c7059511dee30ec", func := "gemot/gemotlaw4.ListApart", spec := "listApart", unfollowed := true, recurses := true, apart := false, narrowed := true }
def ListApartUptoSaid : Prop := listApartUptoRow.holds Try.pinned (OpenSpec.upto listApartSpec)

/-- 'gemotlaw4.ListJoins', WHERE WHAT IT READS IS OF BULK AT MOST 1048576: true; the input reads as it did. -/
def listJoinsUptoRow : OpenClaim := { program := "ytekididpimgghaa", sum := "fb9f7d06931738983a707511e83e57913c7207ac78d586733c7059511dee30ec", func := "gemot/gemotlaw4.ListJoins", spec := "listJoins", inPlace := ["slices.overlaps[gemot/term.Term]", "internal/abi.NoEscape", "internal/bytealg.MakeNoZero"], unfollowed := true, recurses := true, apart := false, narrowed := true }
def ListJoinsUptoSaid : Prop := listJoinsUptoRow.holds Try.pinned (OpenSpec.upto listJoinsSpec)

/-- 'gemotlaw4.ListNumbers', WHERE WHAT IT READS IS OF BULK AT MOST 1048576: true; the input reads as it did. -/
def listNumbersUptoRow : OpenClaim := { program := "ytekididpimgghaa", sum := "fb9f7d06931738983a707511e83e57913c7207ac78d586733c7059511dee30ec", func := "gemot/gemotlaw4.ListNumbers", spec := "listNumbers", unfollowed := true, recurses := true, apart := false, narrowed := true }
def ListNumbersUptoSaid : Prop := listNumbersUptoRow.holds Try.pinned (OpenSpec.upto listNumbersSpec)

/-- 'gemotlaw4.ListCuts', WHERE WHAT IT READS IS OF BULK AT MOST 1048576: true; the input reads as it did. -/
def listCutsUptoRow : OpenClaim := { program := "ytekididpimgghaa", sum := "fb9f7d06931738983a707511e83e57913c7207ac78d586733c7059511dee30ec", func := "gemot/gemotlaw4.ListCuts", spec := "listCuts", inPlace := ["slices.overlaps[gemot/term.Term]", "internal/abi.NoEscape", "internal/bytealg.MakeNoZero"], unfollowed := true, recurses := true, apart := false, narrowed := true }
def ListCutsUptoSaid : Prop := listCutsUptoRow.holds Try.pinned (OpenSpec.upto listCutsSpec)

end Rows
end Go.Proofs.Ytekididpimgghaa
