/- Contracts of gather and spread of package cell: a number out of its bytes, and its bytes. -/
import Derived.Test.YtakeaocmiblbeaaMemBase
import Derived.LoopN
namespace Go.Proofs.Ytakeaocmiblbeaa
open Go.RowKit

/-- A number's byte, the lowest first. -/
def byteOf (n i : Nat) : Nat := n / 256 ^ i % 256
/-- The number of eight bytes, the lowest first. -/
def eight (x0 x1 x2 x3 x4 x5 x6 x7 : Nat) : Nat := x0 + x1 * 256 + x2 * 65536 + x3 * 16777216 + x4 * 4294967296 + x5 * 1099511627776 + x6 * 281474976710656 + x7 * 72057594037927936
end Go.Proofs.Ytakeaocmiblbeaa
