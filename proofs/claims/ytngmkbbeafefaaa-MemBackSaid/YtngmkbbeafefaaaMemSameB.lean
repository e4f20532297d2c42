/- Contracts of Same, of package mem and of the document. -/
import Derived.Test.YtngmkbbeafefaaaMemSame
namespace Go.Proofs.Ytngmkbbeafefaaa
open Go.RowKit

/-- A frame with two memories in two blocks. -/
def R2 (w : World) (A P A' P' : Option Addr) (L c K d L' c' K' d' : Nat) (w' : World) : Prop := Below w.heap.size w w' ∧ Box w' w.heap.size (.slice A L c) (.slice P K d) 25 ∧ Box w' (w.heap.size + 1) (.slice A' L' c') (.slice P' K' d') 25
theorem R2.bel {w w1 : World} {A P A' P' : Option Addr} {L c K d L' c' K' d' : Nat} (h : R2 w A P A' P' L c K d L' c' K' d' w1) : Below w.heap.size w w1 := h.1
theorem R2.one {w w1 : World} {A P A' P' : Option Addr} {L c K d L' c' K' d' : Nat} (h : R2 w A P A' P' L c K d L' c' K' d' w1) : Box w1 w.heap.size (.slice A L c) (.slice P K d) 25 := h.2.1
theorem R2.two {w w1 : World} {A P A' P' : Option Addr} {L c K d L' c' K' d' : Nat} (h : R2 w A P A' P' L c K d L' c' K' d' w1) : Box w1 (w.heap.size + 1) (.slice A' L' c') (.slice P' K' d') 25 := h.2.2
theorem R2.keep {w w1 w2 : World} {A P A' P' : Option Addr} {L c K d L' c' K' d' : Nat} (h : R2 w A P A' P' L c K d L' c' K' d' w1) (b : Below w1.heap.size w1 w2) : R2 w A P A' P' L c K d L' c' K' d' w2 := ⟨below_then h.1 b, h.2.1.keep b, h.2.2.keep b⟩
theorem r2_new (w : World) (A P A' P' : Option Addr) (L c K d L' c' K' d' : Nat) : R2 w A P A' P' L c K d L' c' K' d' ((w.alloc (.cells #[.slice A L c, .slice P K d] 25)).alloc (.cells #[.slice A' L' c', .slice P' K' d'] 25)) :=
  ⟨((Below.refl _ _).alloc (Nat.le_refl _) _).alloc (by simp) _, (box_two w _ _ _ _ _ _).1, (box_two w _ _ _ _ _ _).2⟩

theorem pm_eq (m o : PM) : decide (m = o) = (decide (m.1 = o.1) && decide (m.2 = o.2)) := by
  obtain ⟨a, b⟩ := m
  obtain ⟨c, d⟩ := o
  rw [← Bool.decide_and]
  simp

set_option maxRecDepth 100000 in
set_option maxHeartbeats 2000000 in
theorem same_at (A P A' P' : Option Addr) (L c K d L' c' K' d' : Nat) (m o : PM) (w : World) (HM : Hid (IsMem w (.agg #[.slice A L c, .slice P K d]) m)) (HO : Hid (IsMem w (.agg #[.slice A' L' c', .slice P' K' d']) o)) :
    Calls Try.prog 18 #[.agg #[.slice A L c, .slice P K d], .agg #[.slice A' L' c', .slice P' K' d']] w fun e w' => e = .returned (.bool (decide (m = o))) ∧ Below w.heap.size w w' := by
  have R0 := Lib.hid (r2_new w A P A' P' L c K d L' c' K' d')
  cases h1 : decide (m.1 = o.1) with
  | false =>
    have HD : Hid (decide (m = o) = false) := by rw [pm_eq, h1]; rfl
    go_enter Try.func18, Try.ntmps18
    go_wp2_with fail
    refine (equal_any _ _ _ _ _ _ m.1 o.1 _ (HM.out.keep R0.out.bel).byt (HO.out.keep R0.out.bel).byt).mono ?_
    rw [h1]
    rintro e w1 ⟨rfl, rfl⟩
    go_wp2_with fail
    go_ret
    exact ⟨ret_bool HD.out.symm, R0.out.bel⟩
  | true =>
    obtain ⟨R, hR⟩ : ∃ R, decide (m.2 = o.2) = R := ⟨_, rfl⟩
    have HD : Hid (decide (m = o) = R) := by rw [pm_eq, h1, hR]; rfl
    have HR := Lib.hid hR
    clear hR
    go_enter Try.func18, Try.ntmps18
    go_wp2_with fail
    refine (equal_any _ _ _ _ _ _ m.1 o.1 _ (HM.out.keep R0.out.bel).byt (HO.out.keep R0.out.bel).byt).mono ?_
    rw [h1]
    rintro e w1 ⟨rfl, rfl⟩
    go_wp2_with fail
    refine (equalFunc_any _ _ _ _ _ _ m.2 o.2 _ (HM.out.keep R0.out.bel).pats (HO.out.keep R0.out.bel).pats).mono ?_
    rw [HR.out]
    rintro e w2 ⟨rfl, b2⟩
    have R1 := Lib.hid (R0.out.keep b2)
    clear b2
    go_wp2_with fail
    go_ret
    exact ⟨ret_bool HD.out.symm, R1.out.bel⟩
end Go.Proofs.Ytngmkbbeafefaaa
