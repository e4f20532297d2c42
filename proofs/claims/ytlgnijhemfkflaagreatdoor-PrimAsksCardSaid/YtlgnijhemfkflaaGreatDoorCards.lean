/-
  DERIVED. GIVEN WITH THE SEED: THE CARDS: each row of YtlgnijhemfkflaaGreatDoorRows.lean that lists a variable, with what it lists TIED to the program's text (the seventh form; the later family's looks); each row that meets fmt, with fmt's text TOLD by the authors' own Lean function (tested against real Go, not proved from fmt's source: count such statements apart). THE CARD IS WHAT COUNTS. Prove the row's statement (the work); the ties are given (YtlgnijhemfkflaaGreatDoorTie.lean); close each card by the builder's one call (the guide's Derived/Test/ToyasCard.lean, 'card_holds'). Laid BY PROGRAM, IN A SANDBOX (cutbox-door.mjs). By AI agents, Wed Nov 11 2026. No macro, syntax, notation, axiom, sorry.
-/
import Derived.Test.YtlgnijhemfkflaaGreatDoorRows
import GoSem.ClaimSeven
namespace Go.Proofs.YtlgnijhemfkflaaGreatDoor
namespace Rows

/-- THE TIED CARD OF 'detentlaw11.PrimTells'. -/
def primTellsCard : Claim7 := { stood := { row := primTellsRow, standIns := [], harness := (true, "8f6600edf67d6c70a3a0df89ea9b2d6fd3d007ead3f98f2d98aa56cc2b8706ca"), looks := false }, kinds := [], alts := [], laidByText := true, laidKinds := [.listed, .data], laidTests := true, laidLooks := .later }
def PrimTellsCardSaid : Prop := Claim7.holds Tryz.pinned (.plain (OpenSpec.ofChange primTellsSpec)) primTellsCard

/-- THE TIED CARD OF 'detentlaw11.PrimEach'. -/
def primEachCard : Claim7 := { stood := { row := primEachRow, standIns := [], harness := (true, "8f6600edf67d6c70a3a0df89ea9b2d6fd3d007ead3f98f2d98aa56cc2b8706ca"), looks := false }, kinds := [], alts := [], laidByText := true, laidKinds := [.listed, .data], laidTests := true, laidLooks := .later }
def PrimEachCardSaid : Prop := Claim7.holds Tryz.pinned (.plain (OpenSpec.ofChange primEachSpec)) primEachCard

/-- THE TIED CARD OF 'detentlaw11.PrimStays'. -/
def primStaysCard : Claim7 := { stood := { row := primStaysRow, standIns := [], harness := (true, "8f6600edf67d6c70a3a0df89ea9b2d6fd3d007ead3f98f2d98aa56cc2b8706ca"), looks := false }, kinds := [], alts := [], laidByText := true, laidKinds := [.listed, .data], laidTests := true, laidLooks := .later }
def PrimStaysCardSaid : Prop := Claim7.holds Tryz.pinned (.plain (OpenSpec.ofChange primStaysSpec)) primStaysCard

/-- THE TIED CARD OF 'detentlaw11.PrimDivides'. -/
def primDividesCard : Claim7 := { stood := { row := primDividesRow, standIns := [], harness := (true, "8f6600edf67d6c70a3a0df89ea9b2d6fd3d007ead3f98f2d98aa56cc2b8706ca"), looks := false }, kinds := [], alts := [], laidByText := true, laidKinds := [.listed, .data], laidTests := true, laidLooks := .later }
def PrimDividesCardSaid : Prop := Claim7.holds Tryz.pinned (.plain (OpenSpec.ofChange primDividesSpec)) primDividesCard

/-- THE TIED CARD OF 'detentlaw11.PrimHolds'. -/
def primHoldsCard : Claim7 := { stood := { row := primHoldsRow, standIns := [], harness := (true, "8f6600edf67d6c70a3a0df89ea9b2d6fd3d007ead3f98f2d98aa56cc2b8706ca"), looks := false }, kinds := [], alts := [], laidByText := true, laidKinds := [.listed, .data], laidTests := true, laidLooks := .later }
def PrimHoldsCardSaid : Prop := Claim7.holds Tryz.pinned (.plain (OpenSpec.ofChange primHoldsSpec)) primHoldsCard

/-- THE TIED CARD OF 'detentlaw11.PrimPrints'. -/
def primPrintsCard : Claim7 := { stood := { row := primPrintsRow, standIns := [], harness := (true, "8f6600edf67d6c70a3a0df89ea9b2d6fd3d007ead3f98f2d98aa56cc2b8706ca"), looks := false }, kinds := [], alts := [], laidByText := true, laidKinds := [.listed, .data], laidTests := true, laidLooks := .later }
def PrimPrintsCardSaid : Prop := Claim7.holds Tryz.pinned (.plain (OpenSpec.ofChange primPrintsSpec)) primPrintsCard

/-- THE TIED CARD OF 'detentlaw11.PrimAsks'. -/
def primAsksCard : Claim7 := { stood := { row := primAsksRow, standIns := [], harness := (true, "8f6600edf67d6c70a3a0df89ea9b2d6fd3d007ead3f98f2d98aa56cc2b8706ca"), looks := false }, kinds := [], alts := [], laidByText := true, laidKinds := [.listed, .data], laidTests := true, laidLooks := .later }
def PrimAsksCardSaid : Prop := Claim7.holds Tryz.pinned (.plain (OpenSpec.ofChange primAsksSpec)) primAsksCard

/-- THE TIED CARD OF 'detentlaw11.PrimStates'. -/
def primStatesCard : Claim7 := { stood := { row := primStatesRow, standIns := [], harness := (true, "8f6600edf67d6c70a3a0df89ea9b2d6fd3d007ead3f98f2d98aa56cc2b8706ca"), looks := false }, kinds := [], alts := [], laidByText := true, laidKinds := [.listed, .data], laidTests := true, laidLooks := .later }
def PrimStatesCardSaid : Prop := Claim7.holds Tryz.pinned (.plain (OpenSpec.ofChange primStatesSpec)) primStatesCard

/-- THE TIED CARD OF 'detentlaw11.PrimPairs'. -/
def primPairsCard : Claim7 := { stood := { row := primPairsRow, standIns := [], harness := (true, "8f6600edf67d6c70a3a0df89ea9b2d6fd3d007ead3f98f2d98aa56cc2b8706ca"), looks := false }, kinds := [], alts := [], laidByText := true, laidKinds := [.listed, .data], laidTests := true, laidLooks := .later }
def PrimPairsCardSaid : Prop := Claim7.holds Tryz.pinned (.plain (OpenSpec.ofChange primPairsSpec)) primPairsCard

/-- THE SECOND FORM's CARD OF 'detentlaw11.PrimTells'. -/
def primTellsUptoCard : Claim7 := { stood := { row := primTellsUptoRow, standIns := [], harness := (true, "8f6600edf67d6c70a3a0df89ea9b2d6fd3d007ead3f98f2d98aa56cc2b8706ca"), looks := false }, kinds := [], alts := [], laidByText := true, laidKinds := [.listed, .data], laidTests := true, laidLooks := .later }
def PrimTellsUptoCardSaid : Prop := Claim7.holds Tryz.pinned (.plain (OpenSpec.upto primTellsSpec)) primTellsUptoCard

/-- THE SECOND FORM's CARD OF 'detentlaw11.PrimEach'. -/
def primEachUptoCard : Claim7 := { stood := { row := primEachUptoRow, standIns := [], harness := (true, "8f6600edf67d6c70a3a0df89ea9b2d6fd3d007ead3f98f2d98aa56cc2b8706ca"), looks := false }, kinds := [], alts := [], laidByText := true, laidKinds := [.listed, .data], laidTests := true, laidLooks := .later }
def PrimEachUptoCardSaid : Prop := Claim7.holds Tryz.pinned (.plain (OpenSpec.upto primEachSpec)) primEachUptoCard

/-- THE SECOND FORM's CARD OF 'detentlaw11.PrimStays'. -/
def primStaysUptoCard : Claim7 := { stood := { row := primStaysUptoRow, standIns := [], harness := (true, "8f6600edf67d6c70a3a0df89ea9b2d6fd3d007ead3f98f2d98aa56cc2b8706ca"), looks := false }, kinds := [], alts := [], laidByText := true, laidKinds := [.listed, .data], laidTests := true, laidLooks := .later }
def PrimStaysUptoCardSaid : Prop := Claim7.holds Tryz.pinned (.plain (OpenSpec.upto primStaysSpec)) primStaysUptoCard

/-- THE SECOND FORM's CARD OF 'detentlaw11.PrimDivides'. -/
def primDividesUptoCard : Claim7 := { stood := { row := primDividesUptoRow, standIns := [], harness := (true, "8f6600edf67d6c70a3a0df89ea9b2d6fd3d007ead3f98f2d98aa56cc2b8706ca"), looks := false }, kinds := [], alts := [], laidByText := true, laidKinds := [.listed, .data], laidTests := true, laidLooks := .later }
def PrimDividesUptoCardSaid : Prop := Claim7.holds Tryz.pinned (.plain (OpenSpec.upto primDividesSpec)) primDividesUptoCard

/-- THE SECOND FORM's CARD OF 'detentlaw11.PrimHolds'. -/
def primHoldsUptoCard : Claim7 := { stood := { row := primHoldsUptoRow, standIns := [], harness := (true, "8f6600edf67d6c70a3a0df89ea9b2d6fd3d007ead3f98f2d98aa56cc2b8706ca"), looks := false }, kinds := [], alts := [], laidByText := true, laidKinds := [.listed, .data], laidTests := true, laidLooks := .later }
def PrimHoldsUptoCardSaid : Prop := Claim7.holds Tryz.pinned (.plain (OpenSpec.upto primHoldsSpec)) primHoldsUptoCard

/-- THE SECOND FORM's CARD OF 'detentlaw11.PrimPrints'. -/
def primPrintsUptoCard : Claim7 := { stood := { row := primPrintsUptoRow, standIns := [], harness := (true, "8f6600edf67d6c70a3a0df89ea9b2d6fd3d007ead3f98f2d98aa56cc2b8706ca"), looks := false }, kinds := [], alts := [], laidByText := true, laidKinds := [.listed, .data], laidTests := true, laidLooks := .later }
def PrimPrintsUptoCardSaid : Prop := Claim7.holds Tryz.pinned (.plain (OpenSpec.upto primPrintsSpec)) primPrintsUptoCard

/-- THE SECOND FORM's CARD OF 'detentlaw11.PrimAsks'. -/
def primAsksUptoCard : Claim7 := { stood := { row := primAsksUptoRow, standIns := [], harness := (true, "8f6600edf67d6c70a3a0df89ea9b2d6fd3d007ead3f98f2d98aa56cc2b8706ca"), looks := false }, kinds := [], alts := [], laidByText := true, laidKinds := [.listed, .data], laidTests := true, laidLooks := .later }
def PrimAsksUptoCardSaid : Prop := Claim7.holds Tryz.pinned (.plain (OpenSpec.upto primAsksSpec)) primAsksUptoCard

/-- THE SECOND FORM's CARD OF 'detentlaw11.PrimStates'. -/
def primStatesUptoCard : Claim7 := { stood := { row := primStatesUptoRow, standIns := [], harness := (true, "8f6600edf67d6c70a3a0df89ea9b2d6fd3d007ead3f98f2d98aa56cc2b8706ca"), looks := false }, kinds := [], alts := [], laidByText := true, laidKinds := [.listed, .data], laidTests := true, laidLooks := .later }
def PrimStatesUptoCardSaid : Prop := Claim7.holds Tryz.pinned (.plain (OpenSpec.upto primStatesSpec)) primStatesUptoCard

/-- THE SECOND FORM's CARD OF 'detentlaw11.PrimPairs'. -/
def primPairsUptoCard : Claim7 := { stood := { row := primPairsUptoRow, standIns := [], harness := (true, "8f6600edf67d6c70a3a0df89ea9b2d6fd3d007ead3f98f2d98aa56cc2b8706ca"), looks := false }, kinds := [], alts := [], laidByText := true, laidKinds := [.listed, .data], laidTests := true, laidLooks := .later }
def PrimPairsUptoCardSaid : Prop := Claim7.holds Tryz.pinned (.plain (OpenSpec.upto primPairsSpec)) primPairsUptoCard
end Rows
end Go.Proofs.YtlgnijhemfkflaaGreatDoor
