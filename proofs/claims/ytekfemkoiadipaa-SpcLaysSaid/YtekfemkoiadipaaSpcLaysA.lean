/- The walk of SpcLays: the early ways. -/
import Derived.Test.YtekfemkoiadipaaSpcRows
namespace Go.Proofs.Ytekfemkoiadipaa
open Go.RowKit
set_option linter.unusedVariables false
set_option linter.unusedSimpArgs false

set_option maxRecDepth 100000 in
set_option maxHeartbeats 16000000 in
theorem lays_early (A P Al : Option Addr) (L c K d nl cl : Nat) (m : PM) (l : List (List UInt8)) (p : Int) (w : World) (HM : Hid (IsMem w (.agg #[.slice A L c, .slice P K d]) m)) (HR : Hid (Bts w Al nl cl l)) (hcl : cl ≤ 9223372036854775807) (hlc : nl ≤ cl) (H0 : (fewB m 600 && rightB m) = false ∨ (fewB m 600 && rightB m) = true ∧ (endB L p = false ∨ endB L p = true ∧ 10 < nl)) :
    Calls Try.prog 4 #[.agg #[.slice A L c, .slice P K d], .int .i64 p, .slice Al nl cl] w fun e w' => e = .returned (.bool true) ∧ Below w.heap.size w w' := by
  rcases H0 with hmay | ⟨hmay, hp | ⟨hp, h1⟩⟩
  · skip
    go_enter Try.func4, Try.ntmps4
    go_wp2_with fail
    refine (shown_any _).mono ?_
    rintro e w1 ⟨rfl, bb⟩
    have M1 := Lib.hid ((at_new HM.out).keep bb)
    have B1 := Lib.hid (al_then bb)
    clear bb
    obtain ⟨cM0, cM1⟩ := M1.out.use
    go_wp2_with fail
    refine (may_at _ _ _ _ _ _ m _ M1.out.mem).mono ?_
    rw [hmay]
    rintro e w2 ⟨rfl, bb⟩
    have M2 := Lib.hid (M1.out.keep bb)
    have B2 := Lib.hid (below_then B1.out bb)
    clear bb cM0 cM1 M1 B1
    go_wp2_with fail
    go_ret
    exact ⟨rfl, B2.out⟩
  · skip
    go_enter Try.func4, Try.ntmps4
    go_wp2_with fail
    refine (shown_any _).mono ?_
    rintro e w1 ⟨rfl, bb⟩
    have M1 := Lib.hid ((at_new HM.out).keep bb)
    have B1 := Lib.hid (al_then bb)
    clear bb
    obtain ⟨cM0, cM1⟩ := M1.out.use
    go_wp2_with fail
    refine (may_at _ _ _ _ _ _ m _ M1.out.mem).mono ?_
    rw [hmay]
    rintro e w2 ⟨rfl, bb⟩
    have M2 := Lib.hid (M1.out.keep bb)
    have B2 := Lib.hid (below_then B1.out bb)
    clear bb cM0 cM1 M1 B1
    obtain ⟨cM0, cM1⟩ := M2.out.use
    go_wp2_with fail
    refine (is_at _ _ _ _ _ _ p _).mono ?_
    rw [hp]
    rintro e w3 ⟨rfl, bb⟩
    have M3 := Lib.hid (M2.out.keep bb)
    have B3 := Lib.hid (below_then B2.out bb)
    clear bb cM0 cM1 M2 B2
    go_wp2_with fail
    go_ret
    exact ⟨rfl, B3.out⟩
  · have h1' : (10 : Int) < (nl : Int) := by omega
    go_enter Try.func4, Try.ntmps4
    go_wp2_with fail
    refine (shown_any _).mono ?_
    rintro e w1 ⟨rfl, bb⟩
    have M1 := Lib.hid ((at_new HM.out).keep bb)
    have B1 := Lib.hid (al_then bb)
    clear bb
    obtain ⟨cM0, cM1⟩ := M1.out.use
    go_wp2_with fail
    refine (may_at _ _ _ _ _ _ m _ M1.out.mem).mono ?_
    rw [hmay]
    rintro e w2 ⟨rfl, bb⟩
    have M2 := Lib.hid (M1.out.keep bb)
    have B2 := Lib.hid (below_then B1.out bb)
    clear bb cM0 cM1 M1 B1
    obtain ⟨cM0, cM1⟩ := M2.out.use
    go_wp2_with fail
    refine (is_at _ _ _ _ _ _ p _).mono ?_
    rw [hp]
    rintro e w3 ⟨rfl, bb⟩
    have M3 := Lib.hid (M2.out.keep bb)
    have B3 := Lib.hid (below_then B2.out bb)
    clear bb cM0 cM1 M2 B2
    go_wp2_with fail
    go_ret
    exact ⟨rfl, B3.out⟩
end Go.Proofs.Ytekfemkoiadipaa
