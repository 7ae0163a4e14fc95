/-
  DERIVED. GIVEN WITH THE SEED: THE CARDS: each row of YtembihlkildodaaDoorRows.lean that lists a variable, with what it lists TIED to the program's text (the seventh form; the later family's looks); each row that meets fmt, with fmt's text TOLD by the authors' own Lean function (tested against real Go, not proved from fmt's source: count such statements apart). THE CARD IS WHAT COUNTS. Prove the row's statement (the work); the ties are given (YtembihlkildodaaDoorTie.lean); close each card by the builder's one call (the guide's Derived/Test/ToyasCard.lean, 'card_holds'). Laid BY PROGRAM, IN A SANDBOX (cutbox-door.mjs). By AI agents, Wed Nov 11 2026. No macro, syntax, notation, axiom, sorry.
-/
import Derived.Test.YtembihlkildodaaDoorRows
import GoSem.ClaimSeven
namespace Go.Proofs.YtembihlkildodaaDoor
namespace Rows

/-- THE TIED CARD OF 'gemotlaw13.TreeReads'. -/
def treeReadsCard : Claim7 := { stood := { row := treeReadsRow, standIns := [], harness := (true, "3342a13b826a19efd39bd87929daed3197fc2e9c0ce6844e8145877a473c8566"), looks := false }, kinds := [], alts := [], laidByText := true, laidKinds := [.data, .data, .data], laidTests := true, laidLooks := .later }
def TreeReadsCardSaid : Prop := Claim7.holds Tryd.pinned (.plain (OpenSpec.ofChange treeReadsSpec)) treeReadsCard

/-- THE TIED CARD OF 'gemotlaw13.TreeMerges'. -/
def treeMergesCard : Claim7 := { stood := { row := treeMergesRow, standIns := [], harness := (true, "3342a13b826a19efd39bd87929daed3197fc2e9c0ce6844e8145877a473c8566"), looks := false }, kinds := [], alts := [], laidByText := true, laidKinds := [.data, .data, .data], laidTests := true, laidLooks := .later }
def TreeMergesCardSaid : Prop := Claim7.holds Tryd.pinned (.plain (OpenSpec.ofChange treeMergesSpec)) treeMergesCard

/-- THE TIED CARD OF 'gemotlaw13.TreeBack'. -/
def treeBackCard : Claim7 := { stood := { row := treeBackRow, standIns := [], harness := (true, "3342a13b826a19efd39bd87929daed3197fc2e9c0ce6844e8145877a473c8566"), looks := false }, kinds := [], alts := [], laidByText := true, laidKinds := [.data, .data, .data], laidTests := true, laidLooks := .later }
def TreeBackCardSaid : Prop := Claim7.holds Tryd.pinned (.plain (OpenSpec.ofChange treeBackSpec)) treeBackCard

/-- THE TIED CARD OF 'gemotlaw13.TreeLow'. -/
def treeLowCard : Claim7 := { stood := { row := treeLowRow, standIns := [], harness := (true, "3342a13b826a19efd39bd87929daed3197fc2e9c0ce6844e8145877a473c8566"), looks := false }, kinds := [], alts := [], laidByText := true, laidKinds := [.data, .data, .data], laidTests := true, laidLooks := .later }
def TreeLowCardSaid : Prop := Claim7.holds Tryd.pinned (.plain (OpenSpec.ofChange treeLowSpec)) treeLowCard

/-- THE TIED CARD OF 'gemotlaw13.TreeMerged'. -/
def treeMergedCard : Claim7 := { stood := { row := treeMergedRow, standIns := [], harness := (true, "3342a13b826a19efd39bd87929daed3197fc2e9c0ce6844e8145877a473c8566"), looks := false }, kinds := [], alts := [], laidByText := true, laidKinds := [.data, .data, .data], laidTests := true, laidLooks := .later }
def TreeMergedCardSaid : Prop := Claim7.holds Tryd.pinned (.plain (OpenSpec.ofChange treeMergedSpec)) treeMergedCard

/-- THE TIED CARD OF 'gemotlaw13.TreeLeaves'. -/
def treeLeavesCard : Claim7 := { stood := { row := treeLeavesRow, standIns := [], harness := (true, "3342a13b826a19efd39bd87929daed3197fc2e9c0ce6844e8145877a473c8566"), looks := false }, kinds := [], alts := [], laidByText := true, laidKinds := [.data, .data, .data], laidTests := true, laidLooks := .later }
def TreeLeavesCardSaid : Prop := Claim7.holds Tryd.pinned (.plain (OpenSpec.ofChange treeLeavesSpec)) treeLeavesCard

/-- THE TIED CARD OF 'gemotlaw13.TreeReadBack'. -/
def treeReadBackCard : Claim7 := { stood := { row := treeReadBackRow, standIns := [], harness := (true, "3342a13b826a19efd39bd87929daed3197fc2e9c0ce6844e8145877a473c8566"), looks := false }, kinds := [], alts := [], laidByText := true, laidKinds := [.data, .data, .data], laidTests := true, laidLooks := .later }
def TreeReadBackCardSaid : Prop := Claim7.holds Tryd.pinned (.plain (OpenSpec.ofChange treeReadBackSpec)) treeReadBackCard

/-- THE SECOND FORM's CARD OF 'gemotlaw13.TreeReads'. -/
def treeReadsUptoCard : Claim7 := { stood := { row := treeReadsUptoRow, standIns := [], harness := (true, "3342a13b826a19efd39bd87929daed3197fc2e9c0ce6844e8145877a473c8566"), looks := false }, kinds := [], alts := [], laidByText := true, laidKinds := [.data, .data, .data], laidTests := true, laidLooks := .later }
def TreeReadsUptoCardSaid : Prop := Claim7.holds Tryd.pinned (.plain (OpenSpec.upto treeReadsSpec)) treeReadsUptoCard

/-- THE SECOND FORM's CARD OF 'gemotlaw13.TreeMerges'. -/
def treeMergesUptoCard : Claim7 := { stood := { row := treeMergesUptoRow, standIns := [], harness := (true, "3342a13b826a19efd39bd87929daed3197fc2e9c0ce6844e8145877a473c8566"), looks := false }, kinds := [], alts := [], laidByText := true, laidKinds := [.data, .data, .data], laidTests := true, laidLooks := .later }
def TreeMergesUptoCardSaid : Prop := Claim7.holds Tryd.pinned (.plain (OpenSpec.upto treeMergesSpec)) treeMergesUptoCard

/-- THE SECOND FORM's CARD OF 'gemotlaw13.TreeBack'. -/
def treeBackUptoCard : Claim7 := { stood := { row := treeBackUptoRow, standIns := [], harness := (true, "3342a13b826a19efd39bd87929daed3197fc2e9c0ce6844e8145877a473c8566"), looks := false }, kinds := [], alts := [], laidByText := true, laidKinds := [.data, .data, .data], laidTests := true, laidLooks := .later }
def TreeBackUptoCardSaid : Prop := Claim7.holds Tryd.pinned (.plain (OpenSpec.upto treeBackSpec)) treeBackUptoCard

/-- THE SECOND FORM's CARD OF 'gemotlaw13.TreeLow'. -/
def treeLowUptoCard : Claim7 := { stood := { row := treeLowUptoRow, standIns := [], harness := (true, "3342a13b826a19efd39bd87929daed3197fc2e9c0ce6844e8145877a473c8566"), looks := false }, kinds := [], alts := [], laidByText := true, laidKinds := [.data, .data, .data], laidTests := true, laidLooks := .later }
def TreeLowUptoCardSaid : Prop := Claim7.holds Tryd.pinned (.plain (OpenSpec.upto treeLowSpec)) treeLowUptoCard

/-- THE SECOND FORM's CARD OF 'gemotlaw13.TreeMerged'. -/
def treeMergedUptoCard : Claim7 := { stood := { row := treeMergedUptoRow, standIns := [], harness := (true, "3342a13b826a19efd39bd87929daed3197fc2e9c0ce6844e8145877a473c8566"), looks := false }, kinds := [], alts := [], laidByText := true, laidKinds := [.data, .data, .data], laidTests := true, laidLooks := .later }
def TreeMergedUptoCardSaid : Prop := Claim7.holds Tryd.pinned (.plain (OpenSpec.upto treeMergedSpec)) treeMergedUptoCard

/-- THE SECOND FORM's CARD OF 'gemotlaw13.TreeLeaves'. -/
def treeLeavesUptoCard : Claim7 := { stood := { row := treeLeavesUptoRow, standIns := [], harness := (true, "3342a13b826a19efd39bd87929daed3197fc2e9c0ce6844e8145877a473c8566"), looks := false }, kinds := [], alts := [], laidByText := true, laidKinds := [.data, .data, .data], laidTests := true, laidLooks := .later }
def TreeLeavesUptoCardSaid : Prop := Claim7.holds Tryd.pinned (.plain (OpenSpec.upto treeLeavesSpec)) treeLeavesUptoCard

/-- THE SECOND FORM's CARD OF 'gemotlaw13.TreeReadBack'. -/
def treeReadBackUptoCard : Claim7 := { stood := { row := treeReadBackUptoRow, standIns := [], harness := (true, "3342a13b826a19efd39bd87929daed3197fc2e9c0ce6844e8145877a473c8566"), looks := false }, kinds := [], alts := [], laidByText := true, laidKinds := [.data, .data, .data], laidTests := true, laidLooks := .later }
def TreeReadBackUptoCardSaid : Prop := Claim7.holds Tryd.pinned (.plain (OpenSpec.upto treeReadBackSpec)) treeReadBackUptoCard
end Rows
end Go.Proofs.YtembihlkildodaaDoor
