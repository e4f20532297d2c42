/- Contracts of the document's own Put and Get for layer 1; cells as bytes. -/
import Derived.Test.YtakeaocmiblbeaaMemRefA
import Derived.Deep.AppendLies
import Derived.LoopN
namespace Go.Proofs.Ytakeaocmiblbeaa
open Go.RowKit

/-- A cell's bytes. -/
def cellBytes (n : Int) : List UInt8 := [UInt8.ofNat (byteOf (un n) 0), UInt8.ofNat (byteOf (un n) 1), UInt8.ofNat (byteOf (un n) 2), UInt8.ofNat (byteOf (un n) 3), UInt8.ofNat (byteOf (un n) 4), UInt8.ofNat (byteOf (un n) 5), UInt8.ofNat (byteOf (un n) 6), UInt8.ofNat (byteOf (un n) 7)]
/-- The byte at a place, as a number; the cell at a place. -/
def bn (m : PM) (k : Nat) : Nat := (m.1.getD k 0).toNat
def fetchF (m : PM) (p : Int) : Int := if cellC m.1.length p = 0 then wrap64 (eight (bn m p.toNat) (bn m (p.toNat + 1)) (bn m (p.toNat + 2)) (bn m (p.toNat + 3)) (bn m (p.toNat + 4)) (bn m (p.toNat + 5)) (bn m (p.toNat + 6)) (bn m (p.toNat + 7)) : Int) else 0

end Go.Proofs.Ytakeaocmiblbeaa
