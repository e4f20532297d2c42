/- Contracts of Same, of package mem and of the document. -/
import Derived.Test.YtekfemkoiadipaaMemSame
namespace Go.Proofs.Ytekfemkoiadipaa
open Go.RowKit

/-- A frame with two memories in two blocks. -/
def R2 (w : World) (A P A' P' : Option Addr) (L c K d L' c' K' d' : Nat) (w' : World) : Prop := Below w.heap.size w w' ∧ Box w' w.heap.size (.slice A L c) (.slice P K d) 25 ∧ Box w' (w.heap.size + 1) (.slice A' L' c') (.slice P' K' d') 25
theorem R2.bel {w w1 : World} {A P A' P' : Option Addr} {L c K d L' c' K' d' : Nat} (h : R2 w A P A' P' L c K d L' c' K' d' w1) : Below w.heap.size w w1 := h.1
theorem R2.one {w w1 : World} {A P A' P' : Option Addr} {L c K d L' c' K' d' : Nat} (h : R2 w A P A' P' L c K d L' c' K' d' w1) : Box w1 w.heap.size (.slice A L c) (.slice P K d) 25 := h.2.1
theorem R2.two {w w1 : World} {A P A' P' : Option Addr} {L c K d L' c' K' d' : Nat} (h : R2 w A P A' P' L c K d L' c' K' d' w1) : Box w1 (w.heap.size + 1) (.slice A' L' c') (.slice P' K' d') 25 := h.2.2
theorem R2.keep {w w1 w2 : World} {A P A' P' : Option Addr} {L c K d L' c' K' d' : Nat} (h : R2 w A P A' P' L c K d L' c' K' d' w1) (b : Below w1.heap.size w1 w2) : R2 w A P A' P' L c K d L' c' K' d' w2 := ⟨below_then h.1 b, h.2.1.keep b, h.2.2.keep b⟩
theorem r2_new (w : World) (A P A' P' : Option Addr) (L c K d L' c' K' d' : Nat) : R2 w A P A' P' L c K d L' c' K' d' ((w.alloc (.cells #[.slice A L c, .slice P K d] 25)).alloc (.cells #[.slice A' L' c', .slice P' K' d'] 25)) :=
  ⟨((Below.refl _ _).alloc (Nat.le_refl _) _).alloc (by simp) _, (box_two w _ _ _ _ _ _).1, (box_two w _ _ _ _ _ _).2⟩

theorem pm_eq (m o : PM) : decide (m = o) = (decide (m.1 = o.1) && decide (m.2 = o.2)) := by
  obtain ⟨a, b⟩ := m
  obtain ⟨c, d⟩ := o
  rw [← Bool.decide_and]
  simp

end Go.Proofs.Ytekfemkoiadipaa
