/- The contract of the document's New, at any configuration. -/
import Derived.Test.YtbighilgkmfemaaDoorVmNewA
namespace Go.Proofs.YtbighilgkmfemaaDoor
open Go.RowKit
set_option linter.unusedVariables false
set_option linter.unusedSimpArgs false

def noneL : VmL := { m := ([], []), d := [], r := [], f := [], dict := [], o := [], q := [], e := [], h := [] }
theorem isvm_zero (w : World) : IsVm w vm0 noneL := ⟨mem_mk (byt_nil _) (pats_nil _), row_nil _, row_nil _, rws_nil _ _, ⟨none, 0, rfl, Nat.le_refl _, Nat.zero_le _, .inl rfl⟩, byt_nil _, byt_nil _, rws_nil _ _, rws_nil _ _⟩
end Go.Proofs.YtbighilgkmfemaaDoor
