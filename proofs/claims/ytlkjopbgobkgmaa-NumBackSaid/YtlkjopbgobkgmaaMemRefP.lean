/- Contracts of the document's own Put and Get for layer 1; cells as bytes. -/
import Derived.Test.YtlkjopbgobkgmaaMemRefA
import Derived.Deep.AppendLies
import Derived.LoopN
namespace Go.Proofs.Ytlkjopbgobkgmaa
open Go.RowKit

/-- A cell's bytes. -/
def cellBytes (n : Int) : List UInt8 := [UInt8.ofNat (byteOf (un n) 0), UInt8.ofNat (byteOf (un n) 1), UInt8.ofNat (byteOf (un n) 2), UInt8.ofNat (byteOf (un n) 3), UInt8.ofNat (byteOf (un n) 4), UInt8.ofNat (byteOf (un n) 5), UInt8.ofNat (byteOf (un n) 6), UInt8.ofNat (byteOf (un n) 7)]
end Go.Proofs.Ytlkjopbgobkgmaa
