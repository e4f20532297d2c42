/- PicSteps: all digits of a pair are one digit, and all digits of what is left, for every text under way, every pair of cells and every number as base; no condition. -/
import Derived.Test.YtphbeghflbkpgaaChecked
import Derived.Test.YtphbeghflbkpgaaRows
import Derived.Test.YtphbeghflbkpgaaPicStepsA
import Derived.WalkKit
namespace Go.Proofs.Ytphbeghflbkpgaa.picSteps
open Go.ChangeShapes Go.WideShapes Go.ChangeAt Go.RowKit Go.Joins Go.Deep
set_option linter.unusedVariables false
set_option linter.unusedSimpArgs false

theorem own : ownKnob Try.prog.godebug = none := by kernel_rfl
theorem laidOut : laidOutB Try.prog = true := by kernel_rfl

set_option maxRecDepth 100000 in
theorem lifted (os : Os) (started : os.Started) (H : Type) (enc : TypeId × Value → H) :
    ReturnsInHanded {} Try.checked os 8 .any (Rows.picStepsSpec.pre6 enc Try.prog Try.f8 Rows.picStepsRow.domain false) (Rows.picStepsSpec.post enc Try.prog Try.f8 false true false false) := by
  refine returnsInHanded_of_change (C := Try.checked) own started (by kernel_rfl) Try.func8
    (ChangeSpec.witness6 (enc := enc) (C := Try.checked) false ⟨#[], #[.agg #[.slice none 0 0, .bool false, .int .i64 0, .int .i64 0, .int .i64 0]], []⟩ 8 (by kernel_rfl) (by kernel_rfl) (by kernel_rfl) (by kernel_rfl)) ?_
  intro W base args ds gs before hval0 hW hcnd _
  have hval : ∀ (j : Nat) t v, Try.f8.params[j]? = some t → args[j]? = some v → Value.okWide Try.prog W .any base t v := hval0
  have hW' := hW
  obtain ⟨p, q, hA0, hV, rfl, hfz, hnd⟩ := hW
  have hA : DataW.TrodAll enc Try.prog W 0 (fun _ => true) true Try.f8.params.toList args.toList ds p := hA0
  rw [Try.params8] at hA hval
  obtain ⟨v0, vs0, d0, ds0, p0, q0, hargs, rfl, rfl, h0, r0⟩ := trodAll_cons hA
  obtain ⟨rfl, rfl, rfl⟩ := trodAll_nil r0
  obtain rfl : args = #[v0] := by cases args; simp_all
  obtain ⟨rfl, rfl⟩ := trodVars_none hV
  obtain ⟨cs0, rfl, _⟩ := okWide_struct Try.underlying57 (hval 0 57 v0 rfl rfl)
  have k0 := h0
  have lt0 : ∀ x ∈ p0, x.block < W.heap.size := by obtain ⟨m, hm⟩ := k0; exact DataW.trod_lt m _ _ _ hm
  obtain ⟨A_p, L_p, c_p, o_p, l_p, j_lo, j_hi, j_base, hcs0, k0_1, k0_2, k0_3, k0_4⟩ : ∃ A_p L_p c_p o_p l_p j_lo j_hi j_base, cs0 = #[.slice A_p L_p c_p, .bool o_p, .int .i64 j_lo, .int .i64 j_hi, .int .i64 j_base] ∧ Byt W (.slice A_p L_p c_p) l_p ∧ (Lit.int .i64 j_lo).wf = true ∧ (Lit.int .i64 j_hi).wf = true ∧ (Lit.int .i64 j_base).wf = true := by
    obtain ⟨fuel, hf⟩ := h0
    obtain ⟨A_p, L_p, c_p, o_p, l_p, j_lo, j_hi, j_base, hcs, k0_1, k0_2, k0_3, k0_4⟩ := open_picStepsIn hf
    exact ⟨A_p, L_p, c_p, o_p, l_p, j_lo, j_hi, j_base, by cases cs0; simpa [Value.cells] using hcs, k0_1, k0_2, k0_3, k0_4⟩
  subst hcs0
  clear hA0 hval0
  refine (steps_any A_p L_p c_p o_p l_p j_lo j_hi j_base W k0_1 (wf_i64 k0_2) (wf_i64 k0_3) (wf_i64 k0_4)).mono fun e W' ⟨he, bel⟩ => ?_
  subst he
  exact ⟨_, rfl, _, _, _, [], _, [], hW', trodAll_mk1 (shut_bool Try.underlying4 _), (trodAll_cons_mk (Below.trod laidOut (by kernel_rfl) (of_decide_eq_true (by kernel_rfl)) k0 bel lt0) trodAll_mk0), rfl, bel.frame _, fun h => by cases h⟩

theorem over : Rows.picStepsRow.holds Try.pinned (OpenSpec.ofChange Rows.picStepsSpec) :=
  OpenClaim.holds_of_wide 8 Try.f8 rfl rfl rfl rfl rfl rfl rfl ⟨rfl, rfl, rfl, rfl, rfl⟩ rfl rfl rfl rfl rfl (by kernel_rfl) Try.func8 (by kernel_rfl)
    (of_decide_eq_true (by kernel_rfl)) (by unfold Func.isWrapper; first | (rw [if_pos (by decide +kernel)]; kernel_rfl) | (rw [if_neg (by decide +kernel)]; exact ⟨rfl, rfl⟩))
    (fun os started H enc _ => lifted os started H enc)

theorem proved : Rows.PicStepsSaid := over
#print axioms proved
end Go.Proofs.Ytphbeghflbkpgaa.picSteps
