/- Contracts of New, cellCode, Fetch, FetchByte, Mark and Free of package mem, and of the document's own. -/
import Derived.Test.YtakeaocmiblbeaaMemWalksD
namespace Go.Proofs.Ytakeaocmiblbeaa
open Go.RowKit

/-- The byte at a place. -/
def byteF (m : PM) (p : Int) : Int := if okB m.1.length p 1 = true then ((m.1.getD p.toNat 0).toNat : Int) else 0
end Go.Proofs.Ytakeaocmiblbeaa
