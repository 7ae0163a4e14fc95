/-
  No cell of these rows narrows 'for every input' (looked for: loops, veiled, ifaces, maps, wideKeys, modest, calm, conditions, laid).
  DERIVED. THE GIVEN ROWS OF THIS SEAT. 7 by the template 'for every input the law returns true; each argument reads behind the call as it read before'; 0 by the template 'total and deterministic' (their statements: YtckmpbmlneionaaTotals.lean).
  GIVEN WITH THE SEED: the statements are not yours to turn. If you find one false, say at which input.
  Laid BY PROGRAM, IN A SANDBOX (cutbox-rows.mjs): the forced cells as the released guide's own fill.sh prints them over the translation dc4f24632063407b… (all of the seat's roots in one cut). By AI agents, Wed Nov 11 2026. No macro, syntax, notation, axiom, sorry.
-/
import Derived.Test.YtckmpbmlneionaaChecked
import GoSem.Claim
import GoSem.ClaimJoined
import GoSem.ClaimMapViews
import Derived.JoinedTies
import Derived.KernelRfl
namespace Go.Proofs.Ytckmpbmlneionaa
/- THE CELL 'sum', in the pinned program and in every row, IS THE sha256 OF THE DUMP (.gsa) THAT YtckmpbmlneionaaProg.lean LOADS. Nothing in Lean hashes anything: it is a label: what it is worth is what the hold of that sum in a sandbox is worth. -/
noncomputable def Try.pinned : Pinned := { name := "ytckmpbmlneionaa", sum := "dc4f24632063407bd85ef2964c0887df7aa3db1be7b04377dfab6467904a4b9a", checked := Try.checked }
namespace Rows
def none {H : Type} : Left H := { results := [], args := [] }

/-- 'gemotlaw11.CutPuts': WHATEVER THE INPUT: true; the input reads as it did. -/
def cutPutsSpec : ChangeSpec := { name := "cutPuts", fn := fun _ => fun
  | [d1, d2, d3] => { results := [.lit (.bool true)], args := [d1, d2, d3] }
  | _ => none }
def cutPutsRow : OpenClaim := { program := "ytckmpbmlneionaa", sum := "dc4f24632063407bd85ef2964c0887df7aa3db1be7b04377dfab6467904a4b9a", func := "gemot/gemotlaw11.CutPuts", spec := "cutPuts", unfollowed := true, recurses := true, plainKeys := false, apart := false }
def CutPutsSaid : Prop := cutPutsRow.holds Try.pinned (OpenSpec.ofChange cutPutsSpec)

/-- ITS FALSE NEIGHBOUR: 'it returns false'. Refute it at one input. -/
def cutPutsWrong : ChangeSpec := { name := "cutPuts", fn := fun _ => fun
  | [d1, d2, d3] => { results := [.lit (.bool false)], args := [d1, d2, d3] }
  | _ => none }
def CutPutsWrongFalsely : Prop := cutPutsRow.holds Try.pinned (OpenSpec.ofChange cutPutsWrong)

/-- 'gemotlaw11.CutCuts': WHATEVER THE INPUT: true; the input reads as it did. -/
def cutCutsSpec : ChangeSpec := { name := "cutCuts", fn := fun _ => fun
  | [d1, d2, d3, d4] => { results := [.lit (.bool true)], args := [d1, d2, d3, d4] }
  | _ => none }
def cutCutsRow : OpenClaim := { program := "ytckmpbmlneionaa", sum := "dc4f24632063407bd85ef2964c0887df7aa3db1be7b04377dfab6467904a4b9a", func := "gemot/gemotlaw11.CutCuts", spec := "cutCuts", unfollowed := true, recurses := true, plainKeys := false, apart := false }
def CutCutsSaid : Prop := cutCutsRow.holds Try.pinned (OpenSpec.ofChange cutCutsSpec)

/-- ITS FALSE NEIGHBOUR: 'it returns false'. Refute it at one input. -/
def cutCutsWrong : ChangeSpec := { name := "cutCuts", fn := fun _ => fun
  | [d1, d2, d3, d4] => { results := [.lit (.bool false)], args := [d1, d2, d3, d4] }
  | _ => none }
def CutCutsWrongFalsely : Prop := cutCutsRow.holds Try.pinned (OpenSpec.ofChange cutCutsWrong)

/-- 'gemotlaw11.CutBack': WHATEVER THE INPUT: true; the input reads as it did. -/
def cutBackSpec : ChangeSpec := { name := "cutBack", fn := fun _ => fun
  | [d1, d2, d3] => { results := [.lit (.bool true)], args := [d1, d2, d3] }
  | _ => none }
def cutBackRow : OpenClaim := { program := "ytckmpbmlneionaa", sum := "dc4f24632063407bd85ef2964c0887df7aa3db1be7b04377dfab6467904a4b9a", func := "gemot/gemotlaw11.CutBack", spec := "cutBack", unfollowed := true, recurses := true, plainKeys := false, apart := false }
def CutBackSaid : Prop := cutBackRow.holds Try.pinned (OpenSpec.ofChange cutBackSpec)

/-- ITS FALSE NEIGHBOUR: 'it returns false'. Refute it at one input. -/
def cutBackWrong : ChangeSpec := { name := "cutBack", fn := fun _ => fun
  | [d1, d2, d3] => { results := [.lit (.bool false)], args := [d1, d2, d3] }
  | _ => none }
def CutBackWrongFalsely : Prop := cutBackRow.holds Try.pinned (OpenSpec.ofChange cutBackWrong)

/-- 'gemotlaw11.CutAll': WHATEVER THE INPUT: true; the input reads as it did. -/
def cutAllSpec : ChangeSpec := { name := "cutAll", fn := fun _ => fun
  | [d1, d2] => { results := [.lit (.bool true)], args := [d1, d2] }
  | _ => none }
def cutAllRow : OpenClaim := { program := "ytckmpbmlneionaa", sum := "dc4f24632063407bd85ef2964c0887df7aa3db1be7b04377dfab6467904a4b9a", func := "gemot/gemotlaw11.CutAll", spec := "cutAll", unfollowed := true, recurses := true, plainKeys := false, apart := false }
def CutAllSaid : Prop := cutAllRow.holds Try.pinned (OpenSpec.ofChange cutAllSpec)

/-- ITS FALSE NEIGHBOUR: 'it returns false'. Refute it at one input. -/
def cutAllWrong : ChangeSpec := { name := "cutAll", fn := fun _ => fun
  | [d1, d2] => { results := [.lit (.bool false)], args := [d1, d2] }
  | _ => none }
def CutAllWrongFalsely : Prop := cutAllRow.holds Try.pinned (OpenSpec.ofChange cutAllWrong)

/-- 'gemotlaw11.CutOwn': WHATEVER THE INPUT: true; the input reads as it did. -/
def cutOwnSpec : ChangeSpec := { name := "cutOwn", fn := fun _ => fun
  | [d1, d2] => { results := [.lit (.bool true)], args := [d1, d2] }
  | _ => none }
def cutOwnRow : OpenClaim := { program := "ytckmpbmlneionaa", sum := "dc4f24632063407bd85ef2964c0887df7aa3db1be7b04377dfab6467904a4b9a", func := "gemot/gemotlaw11.CutOwn", spec := "cutOwn", unfollowed := true, recurses := true, plainKeys := false, apart := false }
def CutOwnSaid : Prop := cutOwnRow.holds Try.pinned (OpenSpec.ofChange cutOwnSpec)

/-- ITS FALSE NEIGHBOUR: 'it returns false'. Refute it at one input. -/
def cutOwnWrong : ChangeSpec := { name := "cutOwn", fn := fun _ => fun
  | [d1, d2] => { results := [.lit (.bool false)], args := [d1, d2] }
  | _ => none }
def CutOwnWrongFalsely : Prop := cutOwnRow.holds Try.pinned (OpenSpec.ofChange cutOwnWrong)

/-- 'gemotlaw11.CutOrder': WHATEVER THE INPUT: true; the input reads as it did. -/
def cutOrderSpec : ChangeSpec := { name := "cutOrder", fn := fun _ => fun
  | [d1, d2] => { results := [.lit (.bool true)], args := [d1, d2] }
  | _ => none }
def cutOrderRow : OpenClaim := { program := "ytckmpbmlneionaa", sum := "dc4f24632063407bd85ef2964c0887df7aa3db1be7b04377dfab6467904a4b9a", func := "gemot/gemotlaw11.CutOrder", spec := "cutOrder", unfollowed := true, recurses := true, plainKeys := false, apart := false }
def CutOrderSaid : Prop := cutOrderRow.holds Try.pinned (OpenSpec.ofChange cutOrderSpec)

/-- ITS FALSE NEIGHBOUR: 'it returns false'. Refute it at one input. -/
def cutOrderWrong : ChangeSpec := { name := "cutOrder", fn := fun _ => fun
  | [d1, d2] => { results := [.lit (.bool false)], args := [d1, d2] }
  | _ => none }
def CutOrderWrongFalsely : Prop := cutOrderRow.holds Try.pinned (OpenSpec.ofChange cutOrderWrong)

/-- 'gemotlaw11.CutForged': WHATEVER THE INPUT: true; the input reads as it did. -/
def cutForgedSpec : ChangeSpec := { name := "cutForged", fn := fun _ => fun
  | [d1, d2] => { results := [.lit (.bool true)], args := [d1, d2] }
  | _ => none }
def cutForgedRow : OpenClaim := { program := "ytckmpbmlneionaa", sum := "dc4f24632063407bd85ef2964c0887df7aa3db1be7b04377dfab6467904a4b9a", func := "gemot/gemotlaw11.CutForged", spec := "cutForged", unfollowed := true, recurses := true, plainKeys := false, apart := false }
def CutForgedSaid : Prop := cutForgedRow.holds Try.pinned (OpenSpec.ofChange cutForgedSpec)

/-- ITS FALSE NEIGHBOUR: 'it returns false'. Refute it at one input. -/
def cutForgedWrong : ChangeSpec := { name := "cutForged", fn := fun _ => fun
  | [d1, d2] => { results := [.lit (.bool false)], args := [d1, d2] }
  | _ => none }
def CutForgedWrongFalsely : Prop := cutForgedRow.holds Try.pinned (OpenSpec.ofChange cutForgedWrong)

/- THE SECOND FORM. 'bulk': how many values and letters a reading holds, each counted each time it is reached (what is shared counts as often as it is met; a slice's spare places count too). A statement '..UptoSaid' is the law's where the arguments, and the package variables that the reading takes, are together of bulk at most 1048576: NARROWER than '..Said'. Prove '..Said' where nothing that the law and all that it calls make is longer than what came in: it says more and counts as full. Else prove '..UptoSaid'. A law counts once. -/
mutual
def uptoBulk {H : Type} : DataW H → Nat
  | .lit (.string bytes) => bytes.length + 1
  | .lit _ => 1
  | .nil => 1
  | .ptr d => uptoBulk d + 1
  | .slice elems spare => uptoBulkAll elems + uptoBulkAll spare + 1
  | .agg parts => uptoBulkAll parts + 1
  | .iface _ d => uptoBulk d + 1
  | .map entries => uptoBulkEntries entries + 1
  | .held _ => 1
def uptoBulkAll {H : Type} : List (DataW H) → Nat
  | [] => 0
  | d :: r => uptoBulk d + uptoBulkAll r
def uptoBulkEntries {H : Type} : List (Lit × DataW H) → Nat
  | [] => 0
  | x :: r => uptoBulkEntry x + uptoBulkEntries r
def uptoBulkEntry {H : Type} : Lit × DataW H → Nat
  | (.string bytes, d) => bytes.length + uptoBulk d + 1
  | (_, d) => uptoBulk d + 1
 end
def uptoSmall : (H : Type) → List (DataW H) → Bool := fun _ ds => decide (uptoBulkAll ds ≤ 1048576)
def OpenSpec.upto (s : _root_.Go.ChangeSpec) : _root_.Go.OpenSpec := { _root_.Go.OpenSpec.ofChange s with cond := some uptoSmall }

/-- 'gemotlaw11.CutPuts', WHERE WHAT IT READS IS OF BULK AT MOST 1048576: true; the input reads as it did. -/
def cutPutsUptoRow : OpenClaim := { program := "ytckmpbmlneionaa", sum := "dc4f24632063407bd85ef2964c0887df7aa3db1be7b04377dfab6467904a4b9a", func := "gemot/gemotlaw11.CutPuts", spec := "cutPuts", unfollowed := true, recurses := true, plainKeys := false, apart := false, narrowed := true }
def CutPutsUptoSaid : Prop := cutPutsUptoRow.holds Try.pinned (OpenSpec.upto cutPutsSpec)

/-- 'gemotlaw11.CutCuts', WHERE WHAT IT READS IS OF BULK AT MOST 1048576: true; the input reads as it did. -/
def cutCutsUptoRow : OpenClaim := { program := "ytckmpbmlneionaa", sum := "dc4f24632063407bd85ef2964c0887df7aa3db1be7b04377dfab6467904a4b9a", func := "gemot/gemotlaw11.CutCuts", spec := "cutCuts", unfollowed := true, recurses := true, plainKeys := false, apart := false, narrowed := true }
def CutCutsUptoSaid : Prop := cutCutsUptoRow.holds Try.pinned (OpenSpec.upto cutCutsSpec)

/-- 'gemotlaw11.CutBack', WHERE WHAT IT READS IS OF BULK AT MOST 1048576: true; the input reads as it did. -/
def cutBackUptoRow : OpenClaim := { program := "ytckmpbmlneionaa", sum := "dc4f24632063407bd85ef2964c0887df7aa3db1be7b04377dfab6467904a4b9a", func := "gemot/gemotlaw11.CutBack", spec := "cutBack", unfollowed := true, recurses := true, plainKeys := false, apart := false, narrowed := true }
def CutBackUptoSaid : Prop := cutBackUptoRow.holds Try.pinned (OpenSpec.upto cutBackSpec)

/-- 'gemotlaw11.CutAll', WHERE WHAT IT READS IS OF BULK AT MOST 1048576: true; the input reads as it did. -/
def cutAllUptoRow : OpenClaim := { program := "ytckmpbmlneionaa", sum := "dc4f24632063407bd85ef2964c0887df7aa3db1be7b04377dfab6467904a4b9a", func := "gemot/gemotlaw11.CutAll", spec := "cutAll", unfollowed := true, recurses := true, plainKeys := false, apart := false, narrowed := true }
def CutAllUptoSaid : Prop := cutAllUptoRow.holds Try.pinned (OpenSpec.upto cutAllSpec)

/-- 'gemotlaw11.CutOwn', WHERE WHAT IT READS IS OF BULK AT MOST 1048576: true; the input reads as it did. -/
def cutOwnUptoRow : OpenClaim := { program := "ytckmpbmlneionaa", sum := "dc4f24632063407bd85ef2964c0887df7aa3db1be7b04377dfab6467904a4b9a", func := "gemot/gemotlaw11.CutOwn", spec := "cutOwn", unfollowed := true, recurses := true, plainKeys := false, apart := false, narrowed := true }
def CutOwnUptoSaid : Prop := cutOwnUptoRow.holds Try.pinned (OpenSpec.upto cutOwnSpec)

/-- 'gemotlaw11.CutOrder', WHERE WHAT IT READS IS OF BULK AT MOST 1048576: true; the input reads as it did. -/
def cutOrderUptoRow : OpenClaim := { program := "ytckmpbmlneionaa", sum := "dc4f24632063407bd85ef2964c0887df7aa3db1be7b04377dfab6467904a4b9a", func := "gemot/gemotlaw11.CutOrder", spec := "cutOrder", unfollowed := true, recurses := true, plainKeys := false, apart := false, narrowed := true }
def CutOrderUptoSaid : Prop := cutOrderUptoRow.holds Try.pinned (OpenSpec.upto cutOrderSpec)

/-- 'gemotlaw11.CutForged', WHERE WHAT IT READS IS OF BULK AT MOST 1048576: true; the input reads as it did. -/
def cutForgedUptoRow : OpenClaim := { program := "ytckmpbmlneionaa", sum := "dc4f24632063407bd85ef2964c0887df7aa3db1be7b04377dfab6467904a4b9a", func := "gemot/gemotlaw11.CutForged", spec := "cutForged", unfollowed := true, recurses := true, plainKeys := false, apart := false, narrowed := true }
def CutForgedUptoSaid : Prop := cutForgedUptoRow.holds Try.pinned (OpenSpec.upto cutForgedSpec)

end Rows
end Go.Proofs.Ytckmpbmlneionaa
