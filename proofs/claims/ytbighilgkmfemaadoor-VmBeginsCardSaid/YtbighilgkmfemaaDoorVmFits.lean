/- Which configurations may be: the document's Fits. -/
import Derived.Test.YtbighilgkmfemaaDoorVmBase
namespace Go.Proofs.YtbighilgkmfemaaDoor
open Go.RowKit
set_option linter.unusedVariables false
set_option linter.unusedSimpArgs false

/-- A configuration that may be. -/
def fitsB (m d r w o : Int) : Bool := decide (2048 ≤ m ∧ m ≤ 65536 ∧ m % 8 = 0 ∧ 1 ≤ d ∧ d ≤ 256 ∧ 1 ≤ r ∧ r ≤ 256 ∧ 200 ≤ w ∧ w ≤ 1024 ∧ 0 ≤ o ∧ o ≤ 65536)
theorem fits_iff (m d r w o : Int) : fitsB m d r w o = true ↔ (2048 ≤ m ∧ m ≤ 65536 ∧ m % 8 = 0 ∧ 1 ≤ d ∧ d ≤ 256 ∧ 1 ≤ r ∧ r ≤ 256 ∧ 200 ≤ w ∧ w ≤ 1024 ∧ 0 ≤ o ∧ o ≤ 65536) := by unfold fitsB; rw [decide_eq_true_eq]
theorem fits_no (m d r w o : Int) : fitsB m d r w o = false ↔ ¬ (2048 ≤ m ∧ m ≤ 65536 ∧ m % 8 = 0 ∧ 1 ≤ d ∧ d ≤ 256 ∧ 1 ≤ r ∧ r ≤ 256 ∧ 200 ≤ w ∧ w ≤ 1024 ∧ 0 ≤ o ∧ o ≤ 65536) := by unfold fitsB; rw [decide_eq_false_iff_not]

set_option maxRecDepth 100000 in
set_option maxHeartbeats 4000000 in
theorem rfits_any (m d r v o : Int) (w : World) : Calls Tryd.prog 29 #[.agg #[.int .i64 m, .int .i64 d, .int .i64 r, .int .i64 v, .int .i64 o]] w fun e w' => e = .returned (.bool (fitsB m d r v o)) ∧ Below w.heap.size w w' := by
  obtain ⟨F, hF⟩ : ∃ F, fitsB m d r v o = F := ⟨_, rfl⟩
  have HF := Lib.hid hF
  rw [hF]
  clear hF
  go_enter Tryd.func29, Tryd.ntmps29
  go_wp2
  all_goals go_ret
  all_goals refine ⟨ret_bool ?_, al_one _ _⟩
  all_goals rw [← HF.out]
  all_goals unfold fitsB
  all_goals first
    | (show _ = decide _; rw [eq_comm, decide_eq_false_iff_not]; omega)
    | (show decide _ = decide _; rw [decide_eq_decide]; omega)
end Go.Proofs.YtbighilgkmfemaaDoor
