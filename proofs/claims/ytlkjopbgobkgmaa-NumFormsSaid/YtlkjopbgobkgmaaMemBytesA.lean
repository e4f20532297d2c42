/- Contracts of gather and spread of package cell: a number out of its bytes, and its bytes. -/
import Derived.Test.YtlkjopbgobkgmaaMemBase
import Derived.LoopN
namespace Go.Proofs.Ytlkjopbgobkgmaa
open Go.RowKit

/-- A number's byte, the lowest first. -/
def byteOf (n i : Nat) : Nat := n / 256 ^ i % 256
end Go.Proofs.Ytlkjopbgobkgmaa
