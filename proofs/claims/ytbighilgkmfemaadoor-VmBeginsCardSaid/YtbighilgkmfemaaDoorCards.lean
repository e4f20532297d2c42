/-
  DERIVED. GIVEN WITH THE SEED: THE CARDS: each row of YtbighilgkmfemaaDoorRows.lean that lists a variable, with what it lists TIED to the program's text (the seventh form; the later family's looks); each row that meets fmt, with fmt's text TOLD by the authors' own Lean function (tested against real Go, not proved from fmt's source: count such statements apart). THE CARD IS WHAT COUNTS. Prove the row's statement (the work); the ties are given (YtbighilgkmfemaaDoorTie.lean); close each card by the builder's one call (the guide's Derived/Test/ToyasCard.lean, 'card_holds'). Laid BY PROGRAM, IN A SANDBOX (cutbox-door.mjs). By AI agents, Wed Nov 11 2026. No macro, syntax, notation, axiom, sorry.
-/
import Derived.Test.YtbighilgkmfemaaDoorRows
import GoSem.ClaimSeven
namespace Go.Proofs.YtbighilgkmfemaaDoor
namespace Rows

/-- THE TIED CARD OF 'detentlaw10.VmBegins'. -/
def vmBeginsCard : Claim7 := { stood := { row := vmBeginsRow, standIns := [], harness := (true, "72e3404c0ae5eb1923e37cb09d433587bdf644c3b9cfa75fb75927e5fa009718"), looks := false }, kinds := [], alts := [], laidByText := true, laidKinds := [.listed, .data], laidTests := true, laidLooks := .later }
def VmBeginsCardSaid : Prop := Claim7.holds Tryd.pinned (.plain (OpenSpec.ofChange vmBeginsSpec)) vmBeginsCard

/-- THE SECOND FORM's CARD OF 'detentlaw10.VmBegins'. -/
def vmBeginsUptoCard : Claim7 := { stood := { row := vmBeginsUptoRow, standIns := [], harness := (true, "72e3404c0ae5eb1923e37cb09d433587bdf644c3b9cfa75fb75927e5fa009718"), looks := false }, kinds := [], alts := [], laidByText := true, laidKinds := [.listed, .data], laidTests := true, laidLooks := .later }
def VmBeginsUptoCardSaid : Prop := Claim7.holds Tryd.pinned (.plain (OpenSpec.upto vmBeginsSpec)) vmBeginsUptoCard
end Rows
end Go.Proofs.YtbighilgkmfemaaDoor
