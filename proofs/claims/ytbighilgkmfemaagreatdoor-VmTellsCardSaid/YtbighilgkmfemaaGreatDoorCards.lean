/-
  DERIVED. GIVEN WITH THE SEED: THE CARDS: each row of YtbighilgkmfemaaGreatDoorRows.lean that lists a variable, with what it lists TIED to the program's text (the seventh form; the later family's looks); each row that meets fmt, with fmt's text TOLD by the authors' own Lean function (tested against real Go, not proved from fmt's source: count such statements apart). THE CARD IS WHAT COUNTS. Prove the row's statement (the work); the ties are given (YtbighilgkmfemaaGreatDoorTie.lean); close each card by the builder's one call (the guide's Derived/Test/ToyasCard.lean, 'card_holds'). Laid BY PROGRAM, IN A SANDBOX (cutbox-door.mjs). By AI agents, Wed Nov 11 2026. No macro, syntax, notation, axiom, sorry.
-/
import Derived.Test.YtbighilgkmfemaaGreatDoorRows
import GoSem.ClaimSeven
namespace Go.Proofs.YtbighilgkmfemaaGreatDoor
namespace Rows

/-- THE TIED CARD OF 'detentlaw10.VmTells'. -/
def vmTellsCard : Claim7 := { stood := { row := vmTellsRow, standIns := [], harness := (true, "77fc25dee94dbf1fd7776c1224798159c5937efcad5a8aae34a5ae4bb6ffacfd"), looks := false }, kinds := [], alts := [], laidByText := true, laidKinds := [.listed, .data], laidTests := true, laidLooks := .later }
def VmTellsCardSaid : Prop := Claim7.holds Tryz.pinned (.plain (OpenSpec.ofChange vmTellsSpec)) vmTellsCard

/-- THE TIED CARD OF 'detentlaw10.VmDoes'. -/
def vmDoesCard : Claim7 := { stood := { row := vmDoesRow, standIns := [], harness := (true, "77fc25dee94dbf1fd7776c1224798159c5937efcad5a8aae34a5ae4bb6ffacfd"), looks := false }, kinds := [], alts := [], laidByText := true, laidKinds := [.listed, .data], laidTests := true, laidLooks := .later }
def VmDoesCardSaid : Prop := Claim7.holds Tryz.pinned (.plain (OpenSpec.ofChange vmDoesSpec)) vmDoesCard

/-- THE TIED CARD OF 'detentlaw10.VmStacks'. -/
def vmStacksCard : Claim7 := { stood := { row := vmStacksRow, standIns := [], harness := (true, "77fc25dee94dbf1fd7776c1224798159c5937efcad5a8aae34a5ae4bb6ffacfd"), looks := false }, kinds := [], alts := [], laidByText := true, laidKinds := [.listed, .data], laidTests := true, laidLooks := .later }
def VmStacksCardSaid : Prop := Claim7.holds Tryz.pinned (.plain (OpenSpec.ofChange vmStacksSpec)) vmStacksCard

/-- THE SECOND FORM's CARD OF 'detentlaw10.VmTells'. -/
def vmTellsUptoCard : Claim7 := { stood := { row := vmTellsUptoRow, standIns := [], harness := (true, "77fc25dee94dbf1fd7776c1224798159c5937efcad5a8aae34a5ae4bb6ffacfd"), looks := false }, kinds := [], alts := [], laidByText := true, laidKinds := [.listed, .data], laidTests := true, laidLooks := .later }
def VmTellsUptoCardSaid : Prop := Claim7.holds Tryz.pinned (.plain (OpenSpec.upto vmTellsSpec)) vmTellsUptoCard

/-- THE SECOND FORM's CARD OF 'detentlaw10.VmDoes'. -/
def vmDoesUptoCard : Claim7 := { stood := { row := vmDoesUptoRow, standIns := [], harness := (true, "77fc25dee94dbf1fd7776c1224798159c5937efcad5a8aae34a5ae4bb6ffacfd"), looks := false }, kinds := [], alts := [], laidByText := true, laidKinds := [.listed, .data], laidTests := true, laidLooks := .later }
def VmDoesUptoCardSaid : Prop := Claim7.holds Tryz.pinned (.plain (OpenSpec.upto vmDoesSpec)) vmDoesUptoCard

/-- THE SECOND FORM's CARD OF 'detentlaw10.VmStacks'. -/
def vmStacksUptoCard : Claim7 := { stood := { row := vmStacksUptoRow, standIns := [], harness := (true, "77fc25dee94dbf1fd7776c1224798159c5937efcad5a8aae34a5ae4bb6ffacfd"), looks := false }, kinds := [], alts := [], laidByText := true, laidKinds := [.listed, .data], laidTests := true, laidLooks := .later }
def VmStacksUptoCardSaid : Prop := Claim7.holds Tryz.pinned (.plain (OpenSpec.upto vmStacksSpec)) vmStacksUptoCard
end Rows
end Go.Proofs.YtbighilgkmfemaaGreatDoor
