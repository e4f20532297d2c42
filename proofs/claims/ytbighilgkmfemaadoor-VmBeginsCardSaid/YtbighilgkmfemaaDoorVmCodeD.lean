/- The contract of the program's Same. -/
import Derived.Test.YtbighilgkmfemaaDoorVmSame
import Derived.Test.YtbighilgkmfemaaDoorVmEq
import Derived.Test.YtbighilgkmfemaaDoorVmMay
import Derived.Test.YtbighilgkmfemaaDoorVmCodeB
import Derived.Test.YtbighilgkmfemaaDoorSetF
import Derived.Test.YtbighilgkmfemaaDoorSetC
import Derived.ChangeKeysEq
namespace Go.Proofs.YtbighilgkmfemaaDoor
open Go.RowKit
set_option linter.unusedVariables false
set_option linter.unusedSimpArgs false

set_option maxRecDepth 100000 in
set_option maxHeartbeats 4000000 in
theorem conf_eql (k j : VmK) (w : World) : (binOp .eql 23 (.agg #[.int .i64 k.cm, .int .i64 k.cd, .int .i64 k.cr, .int .i64 k.cw, .int .i64 k.co]) (.agg #[.int .i64 j.cm, .int .i64 j.cd, .int .i64 j.cr, .int .i64 j.cw, .int .i64 j.co])).run Tryd.prog w = .ok (.bool (confSame k j)) w := by
  have u3 := Tryd.underlying3
  have a3 := Tryd.isAgg3
  have z3 := Tryd.sizeOf3
  have hS : Tryd.prog.underlying 23 = some (.struct (Tryd.prog.fieldsOf 23)) := by kernel_rfl
  have hp : Tryd.prog.stoodInHeld 23 = false := by kernel_rfl
  rw [run_eql_struct, show (10000 : Nat) = 9999 + 1 from rfl, run_equalIn_agg w 9999 23 _ _ hS hp]
  simp only [Program.fieldsOf, Tryd.underlying23]
  unfold confSame
  by_cases h0 : k.cm = j.cm
  · skip
    by_cases h1 : k.cd = j.cd
    · skip
      by_cases h2 : k.cr = j.cr
      · skip
        by_cases h3 : k.cw = j.cw
        · skip
          by_cases h4 : k.co = j.co
          · skip
            go_simp
          · go_simp
        · go_simp
      · go_simp
    · go_simp
  · go_simp
set_option maxRecDepth 100000 in
set_option maxHeartbeats 4000000 in
theorem nums_eql (k j : VmK) (w : World) : (binOp .eql 83 (.agg #[.int .i64 k.here, .int .i64 k.last, .int .i64 k.free, .int .i64 k.next, .int .i64 k.arg, .int .i64 k.self, .int .i64 k.now]) (.agg #[.int .i64 j.here, .int .i64 j.last, .int .i64 j.free, .int .i64 j.next, .int .i64 j.arg, .int .i64 j.self, .int .i64 j.now])).run Tryd.prog w = .ok (.bool (numsSame k j)) w := by
  have u3 := Tryd.underlying3
  have a3 := Tryd.isAgg3
  have z3 := Tryd.sizeOf3
  obtain ⟨i, hi⟩ : ∃ i, Tryd.prog.info? 3 = some i := ⟨_, by rfl⟩
  have hc : Tryd.prog.cellsOf 3 = 1 := by kernel_rfl
  rw [run_eql_struct, show (10000 : Nat) = 9999 + 1 from rfl, run_equalIn_array w 9999 _ _ Tryd.underlying83 hi, hc]
  rw [show List.range 7 = [0, 1, 2, 3, 4, 5, 6] from rfl]
  simp only [Op.eqItems]
  unfold numsSame
  by_cases h0 : k.here = j.here
  · skip
    by_cases h1 : k.last = j.last
    · skip
      by_cases h2 : k.free = j.free
      · skip
        by_cases h3 : k.next = j.next
        · skip
          by_cases h4 : k.arg = j.arg
          · skip
            by_cases h5 : k.self = j.self
            · skip
              by_cases h6 : k.now = j.now
              · skip
                go_simp
              · go_simp
            · go_simp
          · go_simp
        · go_simp
      · go_simp
    · go_simp
  · go_simp
set_option maxRecDepth 100000 in
set_option maxHeartbeats 4000000 in
theorem vnums_any (k : VmK) (w : World) : Calls Tryd.prog 38 #[vmV k] w fun e w' => e = .returned (.agg #[.int .i64 k.here, .int .i64 k.last, .int .i64 k.free, .int .i64 k.next, .int .i64 k.arg, .int .i64 k.self, .int .i64 k.now]) ∧ Below w.heap.size w w' := by
  go_enter Tryd.func38, Tryd.ntmps38
  go_wp2
  refine bodyPost_ret (v := .agg #[.int .i64 k.here, .int .i64 k.last, .int .i64 k.free, .int .i64 k.next, .int .i64 k.arg, .int .i64 k.self, .int .i64 k.now]) ?_ rfl ?_
  · simp [results, Tryd.results38, go_sem]
  · exact ⟨rfl, al_two w _ _⟩
end Go.Proofs.YtbighilgkmfemaaDoor
