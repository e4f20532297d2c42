/- The head of all statements of layer 3: the document's examples come out. -/
import Derived.Test.YtakeaocmiblbeaaMemRefJ
namespace Go.Proofs.Ytakeaocmiblbeaa
open Go.RowKit

def sm : PM := newF 16
def sx : PM := storeF sm 8 258
theorem s1 : newC 16 = 0 := by decide +kernel
theorem s3 : cellC 16 8 = 0 ∧ cellC 16 9 = -9 ∧ cellC 16 4 = -23 := by decide +kernel
theorem s4 : fetchF sx 8 = 258 := by decide +kernel
theorem s5 : backC sx 0 = 0 ∧ backF sx 0 = sm := by decide +kernel
theorem s6 : codeF (okB 16 8 2) = 0 ∧ textF sx 8 2 = [2, 1] ∧ codeF (okB 16 8 1) = 0 ∧ byteF sx 8 = 2 := by decide +kernel
theorem s7 : rightB sx = true ∧ rightB ([1], []) = false ∧ decide (sm = sm) = true ∧ decide (sx = sm) = false := by decide +kernel

theorem al_one (w : World) (o : Obj) : Below w.heap.size w (w.alloc o) := (Below.refl _ _).alloc (Nat.le_refl _) o
theorem al_then {w1 w2 : World} {o : Obj} (b : Below (w1.alloc o).heap.size (w1.alloc o) w2) : Below w1.heap.size w1 w2 := (al_one w1 o).trans (b.mono (by simp))

end Go.Proofs.Ytakeaocmiblbeaa
