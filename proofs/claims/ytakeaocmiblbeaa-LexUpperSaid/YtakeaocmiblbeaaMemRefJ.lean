/- The document's own Same. -/
import Derived.Test.YtakeaocmiblbeaaMemSame
namespace Go.Proofs.Ytakeaocmiblbeaa
open Go.RowKit

theorem str_neq {a b : ByteArray} (h : a ≠ b) : (a.toList != b.toList) = true := by rw [bne, str_ne h]; rfl
theorem Byt.drewN {w : World} {v : Value} {l : List UInt8} (h : Byt w v l) (i : Nat) : Byt (w.drewN i) v l := h

end Go.Proofs.Ytakeaocmiblbeaa
