/- The walk of StkDeep, its ways joined. -/
import Derived.Test.YtjeapcpicagobaaStkDeepA0
import Derived.Test.YtjeapcpicagobaaStkDeepA1
import Derived.Test.YtjeapcpicagobaaStkDeepA2
import Derived.Test.YtjeapcpicagobaaStkDeepA9
import Derived.Deep.RegionHeld3
namespace Go.Proofs.Ytjeapcpicagobaa
open Go.RowKit
set_option linter.unusedVariables false
set_option linter.unusedSimpArgs false

set_option maxRecDepth 100000 in
set_option maxHeartbeats 4000000 in
theorem deep_long (A : Option Addr) (n c : Nat) (k : Int) (w0 : World) (hn : (60 : Int) < (n : Int)) :
    Calls Try.prog 6 #[.slice A n c, .int .u8 k] w0 fun e w' => e = .returned (.bool true) ∧ Below w0.heap.size w0 w' := by
  go_enter Try.func6, Try.ntmps6
  go_wp2_with fail
  refine (shown_any _).mono ?_
  rintro e w1 ⟨rfl, bb⟩
  go_wp2
  go_ret
  exact ⟨rfl, bb⟩
set_option maxRecDepth 100000 in
set_option maxHeartbeats 4000000 in
theorem deep_short (A : Option Addr) (n c : Nat) (k : Int) (w0 : World) (hn : n < 3) :
    Calls Try.prog 6 #[.slice A n c, .int .u8 k] w0 fun e w' => e = .returned (.bool true) ∧ Below w0.heap.size w0 w' := by
  have q1 : decide ((60 : Int) < (n : Int)) = false := by simp; omega
  have q2 : decide (60 < n) = false := by simp; omega
  have q3 : (n : Int) < 3 := by omega
  go_enter Try.func6, Try.ntmps6
  go_wp2_with fail
  refine (shown_any _).mono ?_
  rintro e w1 ⟨rfl, bb⟩
  go_wp2
  go_ret
  exact ⟨rfl, bb⟩
theorem deep_walk (A : Option Addr) (n c : Nat) (l : List Int) (k : Int) (w0 : World) (hk : 0 ≤ k ∧ k ≤ 255) (HR : Hid (Row w0 A n c l)) :
    Calls Try.prog 6 #[.slice A n c, .int .u8 k] w0 fun e w' => e = .returned (.bool true) ∧ Below w0.heap.size w0 w' := by
  by_cases h1 : 60 < n
  · exact deep_long A n c k w0 (by omega)
  by_cases h2 : n < 3
  · exact deep_short A n c k w0 h2
  obtain ⟨N, rfl⟩ : ∃ N, n = N + 1 := ⟨n - 1, by omega⟩
  obtain ⟨q, rfl⟩ := Int.eq_ofNat_of_zero_le hk.1
  have hl := HR.out.len
  obtain ⟨j, hj⟩ : ∃ j, q % (N + 1) = j := ⟨_, rfl⟩
  have hjl : j < N + 1 := by rw [← hj]; exact Nat.mod_lt _ (by omega)
  have he : (q : Int) % ((N : Int) + 1) = (j : Int) := by
    rw [← hj]
    simp
  rcases (by omega : j = 0 ∨ j = 1 ∨ j = 2 ∨ 3 ≤ j) with rfl | rfl | rfl | h3
  · obtain ⟨r, a, b, d, rfl, hr⟩ := three_top l (by omega)
    have z := getD_app r [a, b, d] 2
    exact deep_0 A N c q r a b d w0 (by omega) (by omega) (by omega) (by simpa using he) (by omega) hl (by rw [show r.length + 2 = N by omega] at z; exact z) HR
  · obtain ⟨r, a, b, d, rfl, hr⟩ := three_top l (by omega)
    have z := getD_app r [a, b, d] 1
    exact deep_1 A N c q (r.length + 1) r a b d w0 (by omega) (by omega) (by omega) (by simpa using he) (by omega) (by rw [hl]; show _ = _; omega) z HR
  · obtain ⟨r, a, b, d, rfl, hr⟩ := three_top l (by omega)
    have z := getD_app r [a, b, d] 0
    exact deep_2 A N c q r.length r a b d w0 (by omega) (by omega) (by omega) (by simpa using he) (by omega) (by rw [hl]; show _ = _; omega) z HR
  · exact deep_more A N c q (N - j) l j _ w0 (by omega) (by omega) (by omega) he h3 (by omega) (by rw [hl]; show _ = _; omega) rfl HR
end Go.Proofs.Ytjeapcpicagobaa
