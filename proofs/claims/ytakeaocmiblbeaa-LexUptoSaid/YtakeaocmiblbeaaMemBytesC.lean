/- The contract of Get of package cell. -/
import Derived.Test.YtakeaocmiblbeaaMemBytesA
import Derived.Laws.CopyOwn
namespace Go.Proofs.Ytakeaocmiblbeaa
open Go.RowKit

theorem one_new (w : World) (c : Array Value) (t : TypeId) : (w.alloc (.cells c t)).heap[w.heap.size]? = some (.cells c t (0, 0)) := (MapKept.heap_alloc w _).1

end Go.Proofs.Ytakeaocmiblbeaa
