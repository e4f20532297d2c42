/-
  DERIVED. GIVEN WITH THE SEED: THE CARDS: each row of YtcmldhjicjmmgaaGreatDoorRows.lean that lists a variable, with what it lists TIED to the program's text (the seventh form; the later family's looks); each row that meets fmt, with fmt's text TOLD by the authors' own Lean function (tested against real Go, not proved from fmt's source: count such statements apart). THE CARD IS WHAT COUNTS. Prove the row's statement (the work); the ties are given (YtcmldhjicjmmgaaGreatDoorTie.lean); close each card by the builder's one call (the guide's Derived/Test/ToyasCard.lean, 'card_holds'). Laid BY PROGRAM, IN A SANDBOX (cutbox-door.mjs). By AI agents, Wed Nov 11 2026. No macro, syntax, notation, axiom, sorry.
-/
import Derived.Test.YtcmldhjicjmmgaaGreatDoorRows
import GoSem.ClaimSeven
namespace Go.Proofs.YtcmldhjicjmmgaaGreatDoor
namespace Rows

/-- THE TIED CARD OF 'detentlaw12.InnerCatches'. -/
def innerCatchesCard : Claim7 := { stood := { row := innerCatchesRow, standIns := [], harness := (true, "51edaf97358e26f8175e347f1708f8a5d308a2ef7e3b16ae1924de9ed40c0db2"), looks := true }, kinds := [], alts := [], laidByText := true, laidKinds := [.handle, .listed, .data, .sentinel], laidTests := true, laidLooks := .later }
def InnerCatchesCardSaid : Prop := Claim7.holds Tryz.pinned (.plain (OpenSpec.ofChange innerCatchesSpec)) innerCatchesCard

/-- THE TIED CARD OF 'detentlaw12.InnerLoops'. -/
def innerLoopsCard : Claim7 := { stood := { row := innerLoopsRow, standIns := [], harness := (true, "51edaf97358e26f8175e347f1708f8a5d308a2ef7e3b16ae1924de9ed40c0db2"), looks := true }, kinds := [], alts := [], laidByText := true, laidKinds := [.handle, .listed, .data, .sentinel], laidTests := true, laidLooks := .later }
def InnerLoopsCardSaid : Prop := Claim7.holds Tryz.pinned (.plain (OpenSpec.ofChange innerLoopsSpec)) innerLoopsCard

/-- THE TIED CARD OF 'detentlaw12.InnerDoes'. -/
def innerDoesCard : Claim7 := { stood := { row := innerDoesRow, standIns := [], harness := (true, "51edaf97358e26f8175e347f1708f8a5d308a2ef7e3b16ae1924de9ed40c0db2"), looks := true }, kinds := [], alts := [], laidByText := true, laidKinds := [.handle, .listed, .data, .sentinel], laidTests := true, laidLooks := .later }
def InnerDoesCardSaid : Prop := Claim7.holds Tryz.pinned (.plain (OpenSpec.ofChange innerDoesSpec)) innerDoesCard

/-- THE TIED CARD OF 'detentlaw12.InnerStates'. -/
def innerStatesCard : Claim7 := { stood := { row := innerStatesRow, standIns := [], harness := (true, "51edaf97358e26f8175e347f1708f8a5d308a2ef7e3b16ae1924de9ed40c0db2"), looks := true }, kinds := [], alts := [], laidByText := true, laidKinds := [.handle, .listed, .data, .sentinel], laidTests := true, laidLooks := .later }
def InnerStatesCardSaid : Prop := Claim7.holds Tryz.pinned (.plain (OpenSpec.ofChange innerStatesSpec)) innerStatesCard

/-- THE SECOND FORM's CARD OF 'detentlaw12.InnerCatches'. -/
def innerCatchesUptoCard : Claim7 := { stood := { row := innerCatchesUptoRow, standIns := [], harness := (true, "51edaf97358e26f8175e347f1708f8a5d308a2ef7e3b16ae1924de9ed40c0db2"), looks := true }, kinds := [], alts := [], laidByText := true, laidKinds := [.handle, .listed, .data, .sentinel], laidTests := true, laidLooks := .later }
def InnerCatchesUptoCardSaid : Prop := Claim7.holds Tryz.pinned (.plain (OpenSpec.upto innerCatchesSpec)) innerCatchesUptoCard

/-- THE SECOND FORM's CARD OF 'detentlaw12.InnerLoops'. -/
def innerLoopsUptoCard : Claim7 := { stood := { row := innerLoopsUptoRow, standIns := [], harness := (true, "51edaf97358e26f8175e347f1708f8a5d308a2ef7e3b16ae1924de9ed40c0db2"), looks := true }, kinds := [], alts := [], laidByText := true, laidKinds := [.handle, .listed, .data, .sentinel], laidTests := true, laidLooks := .later }
def InnerLoopsUptoCardSaid : Prop := Claim7.holds Tryz.pinned (.plain (OpenSpec.upto innerLoopsSpec)) innerLoopsUptoCard

/-- THE SECOND FORM's CARD OF 'detentlaw12.InnerDoes'. -/
def innerDoesUptoCard : Claim7 := { stood := { row := innerDoesUptoRow, standIns := [], harness := (true, "51edaf97358e26f8175e347f1708f8a5d308a2ef7e3b16ae1924de9ed40c0db2"), looks := true }, kinds := [], alts := [], laidByText := true, laidKinds := [.handle, .listed, .data, .sentinel], laidTests := true, laidLooks := .later }
def InnerDoesUptoCardSaid : Prop := Claim7.holds Tryz.pinned (.plain (OpenSpec.upto innerDoesSpec)) innerDoesUptoCard

/-- THE SECOND FORM's CARD OF 'detentlaw12.InnerStates'. -/
def innerStatesUptoCard : Claim7 := { stood := { row := innerStatesUptoRow, standIns := [], harness := (true, "51edaf97358e26f8175e347f1708f8a5d308a2ef7e3b16ae1924de9ed40c0db2"), looks := true }, kinds := [], alts := [], laidByText := true, laidKinds := [.handle, .listed, .data, .sentinel], laidTests := true, laidLooks := .later }
def InnerStatesUptoCardSaid : Prop := Claim7.holds Tryz.pinned (.plain (OpenSpec.upto innerStatesSpec)) innerStatesUptoCard
end Rows
end Go.Proofs.YtcmldhjicjmmgaaGreatDoor
