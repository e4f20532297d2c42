/- What the calls of package cell answer, as plain functions of numbers, by the document's own words. -/
import Derived.RowKit
import Derived.IntWalk
import Derived.Laws.Bits64
namespace Go.Proofs.Ytakeaocmiblbeaa
open Go.RowKit

/-- A cell, read without a sign. -/
def un (n : Int) : Nat := (IntKind.u64.wrap n).toNat
end Go.Proofs.Ytakeaocmiblbeaa
