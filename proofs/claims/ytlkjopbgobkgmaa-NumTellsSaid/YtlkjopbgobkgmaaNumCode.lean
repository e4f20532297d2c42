/- The contracts of the landed num, together. -/
import Derived.Test.YtlkjopbgobkgmaaNumCodeE
namespace Go.Proofs.Ytlkjopbgobkgmaa
theorem num_code : True := trivial
end Go.Proofs.Ytlkjopbgobkgmaa
