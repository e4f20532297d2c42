/- CellProducts: the product of two cells, divided by one of them, is the other one, and no rest is left; so without signs, and with a rest added, that is left then; for every three cells, with no condition. -/
import Derived.Test.YtadnajoefhajgaaShown
import Derived.Test.YtadnajoefhajgaaMathC
import Derived.ProofKit
import Derived.OpenShut
import Derived.ShutString
import Derived.ChangeOld
import Derived.Below
namespace Go.Proofs.Ytadnajoefhajgaa.cellProducts
open Go.ChangeShapes Go.WideShapes Go.ChangeAt Go.RowKit
set_option linter.unusedVariables false

theorem own : ownKnob Try.prog.godebug = none := by kernel_rfl

set_option maxRecDepth 100000 in
set_option maxHeartbeats 4000000 in
theorem core (a b r X Y Z L Y1 r1 : Int) (w : World) (z0 : (b == 0) = false)
    (CM : Hid (∀ w, Calls Try.prog 23 #[.int .i64 a, .int .i64 b] w fun e w' => e = .returned (.tuple #[.int .i64 X, .int .i64 Z]) ∧ w = w'))
    (CU : Hid (∀ w, Calls Try.prog 21 #[.int .i64 a, .int .i64 b] w fun e w' => e = .returned (.tuple #[.int .i64 X, .int .i64 Y]) ∧ w = w'))
    (CS : Hid (∀ w, Calls Try.prog 27 #[.int .i64 X, .int .i64 Z, .int .i64 b] w fun e w' => e = .returned (.tuple #[.int .i64 a, .int .i64 0, .int .i64 0]) ∧ Below w.heap.size w w'))
    (CF : Hid (∀ w, Calls Try.prog 29 #[.int .i64 X, .int .i64 Z, .int .i64 b] w fun e w' => e = .returned (.tuple #[.int .i64 a, .int .i64 0, .int .i64 0]) ∧ Below w.heap.size w w'))
    (hr : (decide (un r < un b) = true ∧ r1 = r ∧ Hid (wrap64 (X + r) = L) ∧ ((decide (un L < un X) = true ∧ Hid (wrap64 (Y + 1) = Y1)) ∨ (decide (un L < un X) = false ∧ Y1 = Y))) ∨
      (decide (un r < un b) = false ∧ r1 = 0 ∧ Hid (wrap64 X = X) ∧ L = X ∧ Y1 = Y))
    (CD : Hid (∀ w, Calls Try.prog 25 #[.int .i64 L, .int .i64 Y1, .int .i64 b] w fun e w' => e = .returned (.tuple #[.int .i64 a, .int .i64 r1, .int .i64 0]) ∧ Below w.heap.size w w')) :
    Calls Try.prog 8 #[.int .i64 a, .int .i64 b, .int .i64 r] w fun e w' => e = .returned (.bool true) ∧ Below w.heap.size w w' := by
  rcases hr with ⟨hr, rfl, eL, ⟨hy, he⟩ | ⟨hy, rfl⟩⟩ | ⟨hr, rfl, eL, rfl, rfl⟩
  · have e1 := eL.out
    have e2 := he.out
    go_enter Try.func8, Try.ntmps8
    go_wp2_with (first | (go_at_call 12; refine (shown_any _).mono ?_; rintro e w1 ⟨rfl, b1⟩) | (go_at_call 23; refine (CM.out _).mono ?_; rintro e w2 ⟨rfl, rfl⟩) | (go_at_call 21; refine (CU.out _).mono ?_; rintro e w2 ⟨rfl, rfl⟩) | (go_at_call 27; refine (CS.out _).mono ?_; rintro e w2 ⟨rfl, b2⟩) | (go_at_call 29; refine (CF.out _).mono ?_; rintro e w3 ⟨rfl, b3⟩) | (go_at_call 17; refine (uless_any _ _ _).mono ?_; rintro e w4 ⟨rfl, rfl⟩) | (go_at_call 25; refine (CD.out _).mono ?_; rintro e w5 ⟨rfl, b5⟩))
    go_ret
    exact ⟨rfl, below_then (below_then (below_then b1 b2) b3) b5⟩
  · have e1 := eL.out
    go_enter Try.func8, Try.ntmps8
    go_wp2_with (first | (go_at_call 12; refine (shown_any _).mono ?_; rintro e w1 ⟨rfl, b1⟩) | (go_at_call 23; refine (CM.out _).mono ?_; rintro e w2 ⟨rfl, rfl⟩) | (go_at_call 21; refine (CU.out _).mono ?_; rintro e w2 ⟨rfl, rfl⟩) | (go_at_call 27; refine (CS.out _).mono ?_; rintro e w2 ⟨rfl, b2⟩) | (go_at_call 29; refine (CF.out _).mono ?_; rintro e w3 ⟨rfl, b3⟩) | (go_at_call 17; refine (uless_any _ _ _).mono ?_; rintro e w4 ⟨rfl, rfl⟩) | (go_at_call 25; refine (CD.out _).mono ?_; rintro e w5 ⟨rfl, b5⟩))
    go_ret
    exact ⟨rfl, below_then (below_then (below_then b1 b2) b3) b5⟩
  · have e1 := eL.out
    go_enter Try.func8, Try.ntmps8
    go_wp2_with (first | (go_at_call 12; refine (shown_any _).mono ?_; rintro e w1 ⟨rfl, b1⟩) | (go_at_call 23; refine (CM.out _).mono ?_; rintro e w2 ⟨rfl, rfl⟩) | (go_at_call 21; refine (CU.out _).mono ?_; rintro e w2 ⟨rfl, rfl⟩) | (go_at_call 27; refine (CS.out _).mono ?_; rintro e w2 ⟨rfl, b2⟩) | (go_at_call 29; refine (CF.out _).mono ?_; rintro e w3 ⟨rfl, b3⟩) | (go_at_call 17; refine (uless_any _ _ _).mono ?_; rintro e w4 ⟨rfl, rfl⟩) | (go_at_call 25; refine (CD.out _).mono ?_; rintro e w5 ⟨rfl, b5⟩))
    go_ret
    exact ⟨rfl, below_then (below_then (below_then b1 b2) b3) b5⟩

theorem ud_of (lo hi b a r : Int) (hb : cellR b) (h0 : b ≠ 0) (h : uq lo hi b = a ∧ ur lo hi b = r ∧ uok hi b = true) :
    Hid (∀ w, Calls Try.prog 25 #[.int .i64 lo, .int .i64 hi, .int .i64 b] w fun e w' => e = .returned (.tuple #[.int .i64 a, .int .i64 r, .int .i64 0]) ∧ Below w.heap.size w w') :=
  Lib.hid fun w => by
    have c := udiv_any lo hi b w hb
    rw [h.1, h.2.1, show uc hi b = 0 by simp [uc, h0, h.2.2]] at c
    exact c

set_option maxRecDepth 100000 in
set_option maxHeartbeats 4000000 in
theorem walk (a b r : Int) (w : World) (ha : cellR a) (hb : cellR b) (hr : cellR r) :
    Calls Try.prog 8 #[.int .i64 a, .int .i64 b, .int .i64 r] w fun e w' => e = .returned (.bool true) ∧ Below w.heap.size w w' := by
  by_cases h0 : b = 0
  · subst h0
    obtain ⟨e1, e2, e3⟩ := prod_zero a
    have hc : cellR 0 := by unfold cellR; omega
    go_enter Try.func8, Try.ntmps8
    go_wp2_with (first | (go_at_call 12; refine (shown_any _).mono ?_; rintro e w1 ⟨rfl, b1⟩) | (go_at_call 23; refine (mul_any _ _ _ ha hc).mono ?_; rintro e w2 ⟨rfl, rfl⟩) | (go_at_call 21; refine (umul_any _ _ _).mono ?_; rintro e w2 ⟨rfl, rfl⟩))
    go_ret
    exact ⟨rfl, b1⟩
  · obtain ⟨p1, p2, p3, p4, p5, p6⟩ := prod_back a b ha hb h0
    have cs : ∀ w, Calls Try.prog 27 #[.int .i64 (umLo a b), .int .i64 (smHi a b), .int .i64 b] w fun e w' => e = .returned (.tuple #[.int .i64 a, .int .i64 0, .int .i64 0]) ∧ Below w.heap.size w w' := by
      intro w
      have c := sdiv_any (umLo a b) (smHi a b) b w (smHi_cell a b ha hb) hb
      rw [p1, p2, p3] at c
      exact c
    have cf : ∀ w, Calls Try.prog 29 #[.int .i64 (umLo a b), .int .i64 (smHi a b), .int .i64 b] w fun e w' => e = .returned (.tuple #[.int .i64 a, .int .i64 0, .int .i64 0]) ∧ Below w.heap.size w w' := by
      intro w
      have c := fdiv_any (umLo a b) (smHi a b) b w (smHi_cell a b ha hb) hb
      rw [p4, p5, p6] at c
      exact c
    have hb0 : 0 < un b := by have := (un_zero hb).1; omega
    have z0 : (b == 0) = false := by simpa using h0
    have CM := Lib.hid fun w => mul_any a b w ha hb
    have CU := Lib.hid fun w => umul_any a b w
    by_cases hlt : un r < un b
    · have k := carry_back a b r ha hr hlt
      by_cases hc : un (wrap64 (umLo a b + r)) < un (umLo a b)
      · exact core a b r _ _ _ _ (wrap64 (umHi a b + 1)) r w z0 CM CU (Lib.hid cs) (Lib.hid cf) (Or.inl ⟨decide_eq_true hlt, rfl, Lib.hid rfl, Or.inl ⟨decide_eq_true hc, Lib.hid rfl⟩⟩) (ud_of _ _ _ _ _ hb h0 (k.1 hc))
      · exact core a b r _ _ _ _ (umHi a b) r w z0 CM CU (Lib.hid cs) (Lib.hid cf) (Or.inl ⟨decide_eq_true hlt, rfl, Lib.hid rfl, Or.inr ⟨decide_eq_false hc, rfl⟩⟩) (ud_of _ _ _ _ _ hb h0 (k.2 hc))
    · have hx : wrap64 (umLo a b) = umLo a b := wrap_in (cellR_wrap _)
      have hz : un 0 = 0 := by decide +kernel
      have k := carry_back a b 0 ha (by unfold cellR; omega) (by rw [hz]; exact hb0)
      rw [Int.add_zero, hx] at k
      exact core a b r _ _ _ (umLo a b) (umHi a b) 0 w z0 CM CU (Lib.hid cs) (Lib.hid cf) (Or.inr ⟨decide_eq_false hlt, rfl, Lib.hid hx, rfl, rfl⟩) (ud_of _ _ _ _ _ hb h0 (k.2 (Nat.lt_irrefl _)))

set_option maxRecDepth 100000 in
theorem lifted (os : Os) (started : os.Started) (H : Type) (enc : TypeId × Value → H) :
    ReturnsInHanded {} Try.checked os 8 .any (Rows.cellProductsSpec.pre6 enc Try.prog Try.f8 Rows.cellProductsRow.domain false) (Rows.cellProductsSpec.post enc Try.prog Try.f8 false true false false) := by
  refine returnsInHanded_of_change (C := Try.checked) own started (by kernel_rfl) Try.func8
    (ChangeSpec.witness6 (enc := enc) (C := Try.checked) false ⟨#[], #[.int .i64 0, .int .i64 0, .int .i64 0], []⟩ 8 (by kernel_rfl) (by kernel_rfl) (by kernel_rfl) (by kernel_rfl)) ?_
  intro W base args ds gs before hval0 hW hcnd _
  have hval : ∀ (j : Nat) t v, Try.f8.params[j]? = some t → args[j]? = some v → Value.okWide Try.prog W .any base t v := hval0
  have hW' := hW
  obtain ⟨p, q, hA0, hV, rfl, hfz, hnd⟩ := hW
  have hA : DataW.TrodAll enc Try.prog W 0 (fun _ => true) true Try.f8.params.toList args.toList ds p := hA0
  rw [Try.params8] at hA hval
  obtain ⟨v0, vs0, d0, ds0, p0, q0, hargs, rfl, rfl, h0, r0⟩ := trodAll_cons hA
  obtain ⟨v1, vs1, d1, ds1, p1, q1, rfl, rfl, rfl, h1, r1⟩ := trodAll_cons r0
  obtain ⟨v2, vs2, d2, ds2, p2, q2, rfl, rfl, rfl, h2, r2⟩ := trodAll_cons r1
  obtain ⟨rfl, rfl, rfl⟩ := trodAll_nil r2
  obtain rfl : args = #[v0, v1, v2] := by cases args; simp_all
  obtain ⟨rfl, rfl⟩ := trodVars_none hV
  obtain ⟨a0, rfl, rfl, rfl, w0⟩ := open_int Try.underlying3 (hval 0 3 v0 rfl rfl) h0
  obtain ⟨a1, rfl, rfl, rfl, w1⟩ := open_int Try.underlying3 (hval 1 3 v1 rfl rfl) h1
  obtain ⟨a2, rfl, rfl, rfl, w2⟩ := open_int Try.underlying3 (hval 2 3 v2 rfl rfl) h2
  clear hA0 hval0
  refine (walk a0 a1 a2 W (cellR_of w0) (cellR_of w1) (cellR_of w2)).mono fun e W' ⟨he, bel⟩ => ?_
  subst he
  exact ⟨_, rfl, _, _, _, [], _, [], hW', trodAll_mk1 (shut_bool Try.underlying4 _), (trodAll_cons_mk (shut_int Try.underlying3 w0) (trodAll_cons_mk (shut_int Try.underlying3 w1) (trodAll_cons_mk (shut_int Try.underlying3 w2) trodAll_mk0))), rfl, bel.frame _, fun h => by cases h⟩

theorem over : Rows.cellProductsRow.holds Try.pinned (OpenSpec.ofChange Rows.cellProductsSpec) :=
  OpenClaim.holds_of_wide 8 Try.f8 rfl rfl rfl rfl rfl rfl rfl ⟨rfl, rfl, rfl, rfl, rfl⟩ rfl rfl rfl rfl rfl (by kernel_rfl) Try.func8 (by kernel_rfl)
    (of_decide_eq_true (by kernel_rfl)) (by unfold Func.isWrapper; first | (rw [if_pos (by decide +kernel)]; kernel_rfl) | (rw [if_neg (by decide +kernel)]; exact ⟨rfl, rfl⟩))
    (fun os started H enc _ => lifted os started H enc)

theorem proved : Rows.CellProductsSaid := over
#print axioms proved
end Go.Proofs.Ytadnajoefhajgaa.cellProducts
