/-
  DERIVED. GIVEN WITH THE SEED: THE CARDS: each row of YtlpabhgfmkilnaaGreatDoorRows.lean that lists a variable, with what it lists TIED to the program's text (the seventh form; the later family's looks); each row that meets fmt, with fmt's text TOLD by the authors' own Lean function (tested against real Go, not proved from fmt's source: count such statements apart). THE CARD IS WHAT COUNTS. Prove the row's statement (the work); the ties are given (YtlpabhgfmkilnaaGreatDoorTie.lean); close each card by the builder's one call (the guide's Derived/Test/ToyasCard.lean, 'card_holds'). Laid BY PROGRAM, IN A SANDBOX (cutbox-door.mjs). By AI agents, Wed Nov 11 2026. No macro, syntax, notation, axiom, sorry.
-/
import Derived.Test.YtlpabhgfmkilnaaGreatDoorRows
import GoSem.ClaimSeven
namespace Go.Proofs.YtlpabhgfmkilnaaGreatDoor
namespace Rows

/-- THE TIED CARD OF 'gemotlaw14.PlacePaths'. -/
def placePathsCard : Claim7 := { stood := { row := placePathsRow, standIns := [], harness := (true, "279f54ac1a213551b22b53ab397520e49e539da4afab89e083e0641ee24f0a6d"), looks := false }, kinds := [], alts := [], laidByText := true, laidKinds := [.data, .data, .data], laidTests := true, laidLooks := .later }
def PlacePathsCardSaid : Prop := Claim7.holds Tryz.pinned (.plain (OpenSpec.ofChange placePathsSpec)) placePathsCard

/-- THE TIED CARD OF 'gemotlaw14.PlaceMeet'. -/
def placeMeetCard : Claim7 := { stood := { row := placeMeetRow, standIns := [], harness := (true, "279f54ac1a213551b22b53ab397520e49e539da4afab89e083e0641ee24f0a6d"), looks := false }, kinds := [], alts := [], laidByText := true, laidKinds := [.data, .data, .data], laidTests := true, laidLooks := .later }
def PlaceMeetCardSaid : Prop := Claim7.holds Tryz.pinned (.plain (OpenSpec.ofChange placeMeetSpec)) placeMeetCard

/-- THE SECOND FORM's CARD OF 'gemotlaw14.PlacePaths'. -/
def placePathsUptoCard : Claim7 := { stood := { row := placePathsUptoRow, standIns := [], harness := (true, "279f54ac1a213551b22b53ab397520e49e539da4afab89e083e0641ee24f0a6d"), looks := false }, kinds := [], alts := [], laidByText := true, laidKinds := [.data, .data, .data], laidTests := true, laidLooks := .later }
def PlacePathsUptoCardSaid : Prop := Claim7.holds Tryz.pinned (.plain (OpenSpec.upto placePathsSpec)) placePathsUptoCard

/-- THE SECOND FORM's CARD OF 'gemotlaw14.PlaceMeet'. -/
def placeMeetUptoCard : Claim7 := { stood := { row := placeMeetUptoRow, standIns := [], harness := (true, "279f54ac1a213551b22b53ab397520e49e539da4afab89e083e0641ee24f0a6d"), looks := false }, kinds := [], alts := [], laidByText := true, laidKinds := [.data, .data, .data], laidTests := true, laidLooks := .later }
def PlaceMeetUptoCardSaid : Prop := Claim7.holds Tryz.pinned (.plain (OpenSpec.upto placeMeetSpec)) placeMeetUptoCard
end Rows
end Go.Proofs.YtlpabhgfmkilnaaGreatDoor
