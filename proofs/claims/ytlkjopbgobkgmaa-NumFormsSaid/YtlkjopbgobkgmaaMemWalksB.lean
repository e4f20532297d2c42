/- Contracts of Text of package mem, and of the document's There. -/
import Derived.Test.YtlkjopbgobkgmaaMemWalksA
namespace Go.Proofs.Ytlkjopbgobkgmaa
open Go.RowKit

theorem box_below {w w1 : World} {o : Obj} (b : Below (w.alloc o).heap.size (w.alloc o) w1) : Below w.heap.size w w1 := ((Below.refl _ w).alloc (Nat.le_refl _) o).trans (b.mono (by simp))

end Go.Proofs.Ytlkjopbgobkgmaa
