/- CellSigns: products with a sign and without one have the same low cell, the factors' places don't matter, and by 1 the pair is the cell and its sign; for every two cells, with no condition. -/
import Derived.Test.YtadnajoefhajgaaShown
import Derived.ProofKit
import Derived.OpenShut
import Derived.ShutString
import Derived.ChangeOld
import Derived.Below
namespace Go.Proofs.Ytadnajoefhajgaa.cellSigns
open Go.ChangeShapes Go.WideShapes Go.ChangeAt Go.RowKit
set_option linter.unusedVariables false

theorem own : ownKnob Try.prog.godebug = none := by kernel_rfl

theorem swap_lo (a b : Int) : umLo b a = umLo a b := by unfold umLo; rw [Nat.mul_comm]
theorem swap_hi (a b : Int) : umHi b a = umHi a b := by unfold umHi; rw [Nat.mul_comm]
theorem swap_shi (a b : Int) : smHi b a = smHi a b := by unfold smHi; rw [Int.mul_comm]
theorem one_lo (a : Int) (ha : cellR a) : umLo a 1 = a := by
  rw [umLo_eq a 1 ha (by unfold cellR; omega), Int.mul_one, wrap_in ha]
theorem one_hi (a : Int) (ha : cellR a) : smHi a 1 = if a < 0 then -1 else 0 := by
  unfold smHi cellR at *; split <;> omega
theorem hi_pos (a b : Int) (ha : cellR a) (hb : cellR b) (h1 : ¬ a < 0) (h2 : ¬ b < 0) : umHi a b = smHi a b := (smHi_eq a b ha hb).2.2.2 h1 h2

set_option maxRecDepth 100000 in
set_option maxHeartbeats 4000000 in
theorem walk (a b : Int) (w : World) (ha : cellR a) (hb : cellR b) :
    Calls Try.prog 11 #[.int .i64 a, .int .i64 b] w fun e w' => e = .returned (.bool true) ∧ Below w.heap.size w w' := by
  have h1 : cellR 1 := by unfold cellR; omega
  have e1 := swap_lo a b
  have e2 := swap_hi a b
  have e3 := swap_shi a b
  have e4 := umLo_eq a b ha hb
  have e5 := one_lo a ha
  by_cases ca : a < 0 <;> by_cases cb : b < 0
  · have e6 : smHi a 1 = -1 := by rw [one_hi a ha, if_pos ca]
    go_enter Try.func11, Try.ntmps11
    go_wp2_with fail
    refine (shown_any _).mono ?_
    rintro e w1 ⟨rfl, b1⟩
    go_wp2_with (first | (go_at_call 23; ((with_reducible refine (mul_any _ _ _ (by assumption) (by assumption)).mono ?_); rintro e w2 ⟨rfl, rfl⟩)) | (go_at_call 21; ((with_reducible refine (umul_any _ _ _).mono ?_); rintro e w2 ⟨rfl, rfl⟩)))
    go_ret
    exact ⟨rfl, b1⟩
  · have e6 : smHi a 1 = -1 := by rw [one_hi a ha, if_pos ca]
    go_enter Try.func11, Try.ntmps11
    go_wp2_with fail
    refine (shown_any _).mono ?_
    rintro e w1 ⟨rfl, b1⟩
    go_wp2_with (first | (go_at_call 23; ((with_reducible refine (mul_any _ _ _ (by assumption) (by assumption)).mono ?_); rintro e w2 ⟨rfl, rfl⟩)) | (go_at_call 21; ((with_reducible refine (umul_any _ _ _).mono ?_); rintro e w2 ⟨rfl, rfl⟩)))
    go_ret
    exact ⟨rfl, b1⟩
  · have e6 : smHi a 1 = 0 := by rw [one_hi a ha, if_neg ca]
    go_enter Try.func11, Try.ntmps11
    go_wp2_with fail
    refine (shown_any _).mono ?_
    rintro e w1 ⟨rfl, b1⟩
    go_wp2_with (first | (go_at_call 23; ((with_reducible refine (mul_any _ _ _ (by assumption) (by assumption)).mono ?_); rintro e w2 ⟨rfl, rfl⟩)) | (go_at_call 21; ((with_reducible refine (umul_any _ _ _).mono ?_); rintro e w2 ⟨rfl, rfl⟩)))
    go_ret
    exact ⟨rfl, b1⟩
  · have e6 : smHi a 1 = 0 := by rw [one_hi a ha, if_neg ca]
    have e7 := hi_pos a b ha hb ca cb
    go_enter Try.func11, Try.ntmps11
    go_wp2_with fail
    refine (shown_any _).mono ?_
    rintro e w1 ⟨rfl, b1⟩
    go_wp2_with (first | (go_at_call 23; ((with_reducible refine (mul_any _ _ _ (by assumption) (by assumption)).mono ?_); rintro e w2 ⟨rfl, rfl⟩)) | (go_at_call 21; ((with_reducible refine (umul_any _ _ _).mono ?_); rintro e w2 ⟨rfl, rfl⟩)))
    go_ret
    exact ⟨rfl, b1⟩

set_option maxRecDepth 100000 in
theorem lifted (os : Os) (started : os.Started) (H : Type) (enc : TypeId × Value → H) :
    ReturnsInHanded {} Try.checked os 11 .any (Rows.cellSignsSpec.pre6 enc Try.prog Try.f11 Rows.cellSignsRow.domain false) (Rows.cellSignsSpec.post enc Try.prog Try.f11 false true false false) := by
  refine returnsInHanded_of_change (C := Try.checked) own started (by kernel_rfl) Try.func11
    (ChangeSpec.witness6 (enc := enc) (C := Try.checked) false ⟨#[], #[.int .i64 0, .int .i64 0], []⟩ 8 (by kernel_rfl) (by kernel_rfl) (by kernel_rfl) (by kernel_rfl)) ?_
  intro W base args ds gs before hval0 hW hcnd _
  have hval : ∀ (j : Nat) t v, Try.f11.params[j]? = some t → args[j]? = some v → Value.okWide Try.prog W .any base t v := hval0
  have hW' := hW
  obtain ⟨p, q, hA0, hV, rfl, hfz, hnd⟩ := hW
  have hA : DataW.TrodAll enc Try.prog W 0 (fun _ => true) true Try.f11.params.toList args.toList ds p := hA0
  rw [Try.params11] at hA hval
  obtain ⟨v0, vs0, d0, ds0, p0, q0, hargs, rfl, rfl, h0, r0⟩ := trodAll_cons hA
  obtain ⟨v1, vs1, d1, ds1, p1, q1, rfl, rfl, rfl, h1, r1⟩ := trodAll_cons r0
  obtain ⟨rfl, rfl, rfl⟩ := trodAll_nil r1
  obtain rfl : args = #[v0, v1] := by cases args; simp_all
  obtain ⟨rfl, rfl⟩ := trodVars_none hV
  obtain ⟨a0, rfl, rfl, rfl, w0⟩ := open_int Try.underlying3 (hval 0 3 v0 rfl rfl) h0
  obtain ⟨a1, rfl, rfl, rfl, w1⟩ := open_int Try.underlying3 (hval 1 3 v1 rfl rfl) h1
  clear hA0 hval0
  refine (walk a0 a1 W (cellR_of w0) (cellR_of w1)).mono fun e W' ⟨he, bel⟩ => ?_
  subst he
  exact ⟨_, rfl, _, _, _, [], _, [], hW', trodAll_mk1 (shut_bool Try.underlying4 _), (trodAll_cons_mk (shut_int Try.underlying3 w0) (trodAll_cons_mk (shut_int Try.underlying3 w1) trodAll_mk0)), rfl, bel.frame _, fun h => by cases h⟩

theorem over : Rows.cellSignsRow.holds Try.pinned (OpenSpec.ofChange Rows.cellSignsSpec) :=
  OpenClaim.holds_of_wide 11 Try.f11 rfl rfl rfl rfl rfl rfl rfl ⟨rfl, rfl, rfl, rfl, rfl⟩ rfl rfl rfl rfl rfl (by kernel_rfl) Try.func11 (by kernel_rfl)
    (of_decide_eq_true (by kernel_rfl)) (by unfold Func.isWrapper; first | (rw [if_pos (by decide +kernel)]; kernel_rfl) | (rw [if_neg (by decide +kernel)]; exact ⟨rfl, rfl⟩))
    (fun os started H enc _ => lifted os started H enc)

theorem proved : Rows.CellSignsSaid := over
#print axioms proved
end Go.Proofs.Ytadnajoefhajgaa.cellSigns
