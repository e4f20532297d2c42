/- Plain arithmetic of cells: quotients rounded to 0, products of cells read with a sign and without one, pairs. No model's run is named here. -/
import Derived.Test.YtlkjopbgobkgmaaSpec
namespace Go.Proofs.Ytlkjopbgobkgmaa
open Go.RowKit

theorem un_zero {a : Int} (h : cellR a) : un a = 0 ↔ a = 0 := by unfold cellR at h; have := un_mod a; omega

end Go.Proofs.Ytlkjopbgobkgmaa
