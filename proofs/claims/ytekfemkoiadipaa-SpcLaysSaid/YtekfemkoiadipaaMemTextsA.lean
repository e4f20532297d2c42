/- The walk of MemTexts. -/
import Derived.Test.YtekfemkoiadipaaMemUndoesA
namespace Go.Proofs.Ytekfemkoiadipaa
open Go.RowKit
set_option linter.unusedVariables false
set_option linter.unusedSimpArgs false

theorem start6 {w : World} {A P : Option Addr} {L c K d : Nat} {m : PM} (h : IsMem w (.agg #[.slice A L c, .slice P K d]) m) (o : Obj) : At (w.heap.size + 1) A P L c K d m ((w.alloc o).alloc (.cells #[.slice A L c, .slice P K d] 25)) := by
  have h1 : IsMem (w.alloc o) (.agg #[.slice A L c, .slice P K d]) m := h.keep (al_one _ _)
  have h2 := at_new h1
  rw [World.size_alloc] at h2
  exact h2

end Go.Proofs.Ytekfemkoiadipaa
