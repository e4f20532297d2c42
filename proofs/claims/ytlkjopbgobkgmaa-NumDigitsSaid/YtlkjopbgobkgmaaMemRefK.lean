/- The document's own Back. -/
import Derived.Test.YtlkjopbgobkgmaaMemRefJ
namespace Go.Proofs.Ytlkjopbgobkgmaa
open Go.RowKit

theorem back_no {m : PM} {k : Int} (h : backOk m k = false) : backF m k = m ∧ backC m k = -24 := by unfold backF backC; rw [h]; exact ⟨rfl, rfl⟩
end Go.Proofs.Ytlkjopbgobkgmaa
