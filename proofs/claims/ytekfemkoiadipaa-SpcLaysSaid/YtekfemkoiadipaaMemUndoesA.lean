/- The walk of MemUndoes. -/
import Derived.Test.YtekfemkoiadipaaMemOpen
namespace Go.Proofs.Ytekfemkoiadipaa
open Go.RowKit

theorem rsame_eq (A P A' P' : Option Addr) (L c K d L' c' K' d' : Nat) (m : PM) (w : World) (HM : IsMem w (.agg #[.slice A L c, .slice P K d]) m) (HO : IsMem w (.agg #[.slice A' L' c', .slice P' K' d']) m) :
    Calls Try.prog 19 #[.agg #[.slice A L c, .slice P K d], .agg #[.slice A' L' c', .slice P' K' d']] w fun e w' => e = .returned (.bool true) ∧ Below w.heap.size w w' := by
  have h := rsame_at A P A' P' L c K d L' c' K' d' m m w HM HO
  rw [decide_eq_true rfl] at h
  exact h

/-- Three memories in three blocks. -/
def Z3 (w : World) (b1 b2 b3 : Nat) (A P A2 P2 A3 P3 : Option Addr) (L c K d L2 c2 K2 d2 L3 c3 K3 d3 : Nat) (m x y : PM) (w' : World) : Prop := Below w.heap.size w w' ∧ At b1 A P L c K d m w' ∧ At b2 A2 P2 L2 c2 K2 d2 x w' ∧ At b3 A3 P3 L3 c3 K3 d3 y w'
section
variable {w w1 w2 : World} {b1 b2 b3 : Nat} {A P A2 P2 A3 P3 : Option Addr} {L c K d L2 c2 K2 d2 L3 c3 K3 d3 : Nat} {m x y : PM}
theorem Z3.keep (h : Z3 w b1 b2 b3 A P A2 P2 A3 P3 L c K d L2 c2 K2 d2 L3 c3 K3 d3 m x y w1) (b : Below w1.heap.size w1 w2) : Z3 w b1 b2 b3 A P A2 P2 A3 P3 L c K d L2 c2 K2 d2 L3 c3 K3 d3 m x y w2 := ⟨below_then h.1 b, h.2.1.keep b, h.2.2.1.keep b, h.2.2.2.keep b⟩
theorem Z3.drew (h : Z3 w b1 b2 b3 A P A2 P2 A3 P3 L c K d L2 c2 K2 d2 L3 c3 K3 d3 m x y w1) : Z3 w b1 b2 b3 A P A2 P2 A3 P3 L c K d L2 c2 K2 d2 L3 c3 K3 d3 m x y w1.drew := ⟨h.1.drew, h.2.1, h.2.2.1, h.2.2.2⟩
theorem Z3.bel (h : Z3 w b1 b2 b3 A P A2 P2 A3 P3 L c K d L2 c2 K2 d2 L3 c3 K3 d3 m x y w1) : Below w.heap.size w w1 := h.1
theorem Z3.one (h : Z3 w b1 b2 b3 A P A2 P2 A3 P3 L c K d L2 c2 K2 d2 L3 c3 K3 d3 m x y w1) : IsMem w1 (.agg #[.slice A L c, .slice P K d]) m := h.2.1.mem
theorem Z3.two (h : Z3 w b1 b2 b3 A P A2 P2 A3 P3 L c K d L2 c2 K2 d2 L3 c3 K3 d3 m x y w1) : IsMem w1 (.agg #[.slice A2 L2 c2, .slice P2 K2 d2]) x := h.2.2.1.mem
theorem Z3.three (h : Z3 w b1 b2 b3 A P A2 P2 A3 P3 L c K d L2 c2 K2 d2 L3 c3 K3 d3 m x y w1) : IsMem w1 (.agg #[.slice A3 L3 c3, .slice P3 K3 d3]) y := h.2.2.2.mem
end

theorem may_parts {m : PM} (h : (fewB m 600 && rightB m) = true) : m.1.length ≤ 600 ∧ m.2.length ≤ 60 ∧ rightB m = true := by
  rw [Bool.and_eq_true] at h
  have := h.1
  unfold fewB at this
  simp only [Bool.and_eq_true, decide_eq_true_eq] at this
  exact ⟨this.1.1, this.1.2, h.2⟩

end Go.Proofs.Ytekfemkoiadipaa
