/- The contract of Get of package cell. -/
import Derived.Test.YtlkjopbgobkgmaaMemBytesA
import Derived.Laws.CopyOwn
namespace Go.Proofs.Ytlkjopbgobkgmaa
open Go.RowKit

theorem one_new (w : World) (c : Array Value) (t : TypeId) : (w.alloc (.cells c t)).heap[w.heap.size]? = some (.cells c t (0, 0)) := (MapKept.heap_alloc w _).1

end Go.Proofs.Ytlkjopbgobkgmaa
