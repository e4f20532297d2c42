/- The contract of the document's Kind. -/
import Derived.Test.YtbighilgkmfemaaDoorVmNames
import Derived.Test.YtbighilgkmfemaaDoorVmRefC
namespace Go.Proofs.YtbighilgkmfemaaDoor
open Go.RowKit
set_option linter.unusedVariables false
set_option linter.unusedSimpArgs false

/-- A code field's number. -/
def codeB (n : Int) : Bool := decide ((0 ≤ n ∧ n < 130) ∨ (256 ≤ n ∧ n ≤ 260) ∨ (300 ≤ n ∧ n < 337))
def kindV (m : PM) (L : Nat) (p : Int) : Int := if cellC L p = 0 ∧ codeB (fetchF m p) = true then fetchF m p else 0
def kindC (m : PM) (L : Nat) (p : Int) : Int := if cellC L p = 0 then (if codeB (fetchF m p) = true then 0 else -9) else cellC L p
end Go.Proofs.YtbighilgkmfemaaDoor
