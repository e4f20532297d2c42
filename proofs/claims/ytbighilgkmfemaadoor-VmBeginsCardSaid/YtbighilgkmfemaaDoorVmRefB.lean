/- Contracts of the document's RPush, RPop, Print. -/
import Derived.Test.YtbighilgkmfemaaDoorVmBase
namespace Go.Proofs.YtbighilgkmfemaaDoor
open Go.RowKit
set_option linter.unusedVariables false
set_option linter.unusedSimpArgs false

def rpopC (l : List Int) : Int := if l.length = 0 then -6 else 0
end Go.Proofs.YtbighilgkmfemaaDoor
