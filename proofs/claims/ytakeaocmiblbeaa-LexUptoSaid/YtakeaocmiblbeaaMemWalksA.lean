/- Contracts of there, lay, own (of bytes) of package mem, and of the document's There. -/
import Derived.Test.YtakeaocmiblbeaaMemLies
import Derived.Laws.OwnMore
import Derived.OwnWalk
namespace Go.Proofs.Ytakeaocmiblbeaa
open Go.RowKit
set_option linter.unusedVariables false

theorem info_u8 : (Try.prog.info? 5).map (fun i => (i.zero, i.size, i.bytes)) = some (some (.int .u8 0), 1, 1) := by kernel_rfl

end Go.Proofs.Ytakeaocmiblbeaa
