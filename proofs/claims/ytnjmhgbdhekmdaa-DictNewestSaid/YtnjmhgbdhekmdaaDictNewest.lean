/- DictNewest: what is added is found, whatever its letters are, unless it is hidden; other names are found as ahead; cut back, all is as ahead; for every dictionary, every two names and every numbers; no condition. -/
import Derived.Test.YtnjmhgbdhekmdaaChecked
import Derived.Test.YtnjmhgbdhekmdaaRows
import Derived.Test.YtnjmhgbdhekmdaaDictNewestB
import Derived.WalkKit
namespace Go.Proofs.Ytnjmhgbdhekmdaa.dictNewest
open Go.ChangeShapes Go.WideShapes Go.ChangeAt Go.RowKit Go.Joins Go.Deep
set_option linter.unusedVariables false
set_option linter.unusedSimpArgs false

theorem own : ownKnob Try.prog.godebug = none := by kernel_rfl
theorem laidOut : laidOutB Try.prog = true := by kernel_rfl

set_option maxRecDepth 100000 in
theorem lifted (os : Os) (started : os.Started) (H : Type) (enc : TypeId × Value → H) :
    ReturnsInHanded {} Try.checked os 5 .any (Rows.dictNewestSpec.pre6 enc Try.prog Try.f5 Rows.dictNewestRow.domain false) (Rows.dictNewestSpec.post enc Try.prog Try.f5 false true false false) := by
  refine returnsInHanded_of_change (C := Try.checked) own started (by kernel_rfl) Try.func5
    (ChangeSpec.witness6 (enc := enc) (C := Try.checked) false ⟨#[], #[.agg #[.slice none 0 0, .string ⟨#[]⟩, .int .i64 0, .int .i64 0, .string ⟨#[]⟩]], []⟩ 8 (by kernel_rfl) (by kernel_rfl) (by kernel_rfl) (by kernel_rfl)) ?_
  intro W base args ds gs before hval0 hW hcnd _
  have hval : ∀ (j : Nat) t v, Try.f5.params[j]? = some t → args[j]? = some v → Value.okWide Try.prog W .any base t v := hval0
  have hW' := hW
  obtain ⟨p, q, hA0, hV, rfl, hfz, hnd⟩ := hW
  have hA : DataW.TrodAll enc Try.prog W 0 (fun _ => true) true Try.f5.params.toList args.toList ds p := hA0
  rw [Try.params5] at hA hval
  obtain ⟨v0, vs0, d0, ds0, p0, q0, hargs, rfl, rfl, h0, r0⟩ := trodAll_cons hA
  obtain ⟨rfl, rfl, rfl⟩ := trodAll_nil r0
  obtain rfl : args = #[v0] := by cases args; simp_all
  obtain ⟨rfl, rfl⟩ := trodVars_none hV
  obtain ⟨cs0, rfl, _⟩ := okWide_struct Try.underlying48 (hval 0 48 v0 rfl rfl)
  have k0 := h0
  have lt0 : ∀ x ∈ p0, x.block < W.heap.size := by obtain ⟨m, hm⟩ := k0; exact DataW.trod_lt m _ _ _ hm
  obtain ⟨A_l, L_l, c_l, l_l, s_name, j_xt, j_flags, s_other, hcs0, k0_1, k0_2, k0_3, k0_4, k0_5⟩ : ∃ A_l L_l c_l l_l s_name j_xt j_flags s_other, cs0 = #[.slice A_l L_l c_l, .string (strB s_name), .int .i64 j_xt, .int .i64 j_flags, .string (strB s_other)] ∧ Wds W (.slice A_l L_l c_l) l_l ∧ s_name.length ≤ 9223372036854775807 ∧ (Lit.int .i64 j_xt).wf = true ∧ (Lit.int .i64 j_flags).wf = true ∧ s_other.length ≤ 9223372036854775807 := by
    obtain ⟨fuel, hf⟩ := h0
    obtain ⟨A_l, L_l, c_l, l_l, s_name, j_xt, j_flags, s_other, hcs, k0_1, k0_2, k0_3, k0_4, k0_5⟩ := open_dictNewestIn hf
    exact ⟨A_l, L_l, c_l, l_l, s_name, j_xt, j_flags, s_other, by cases cs0; simpa [Value.cells] using hcs, k0_1, k0_2, k0_3, k0_4, k0_5⟩
  subst hcs0
  clear hA0 hval0
  refine (dnewest_any A_l L_l c_l l_l s_name j_xt j_flags s_other W k0_1).mono fun e W' ⟨he, bel⟩ => ?_
  subst he
  exact ⟨_, rfl, _, _, _, [], _, [], hW', trodAll_mk1 (shut_bool Try.underlying4 _), (trodAll_cons_mk (Below.trod laidOut (by kernel_rfl) (of_decide_eq_true (by kernel_rfl)) k0 bel lt0) trodAll_mk0), rfl, bel.frame _, fun h => by cases h⟩

theorem over : Rows.dictNewestRow.holds Try.pinned (OpenSpec.ofChange Rows.dictNewestSpec) :=
  OpenClaim.holds_of_wide 5 Try.f5 rfl rfl rfl rfl rfl rfl rfl ⟨rfl, rfl, rfl, rfl, rfl⟩ rfl rfl rfl rfl rfl (by kernel_rfl) Try.func5 (by kernel_rfl)
    (of_decide_eq_true (by kernel_rfl)) (by unfold Func.isWrapper; first | (rw [if_pos (by decide +kernel)]; kernel_rfl) | (rw [if_neg (by decide +kernel)]; exact ⟨rfl, rfl⟩))
    (fun os started H enc _ => lifted os started H enc)

theorem proved : Rows.DictNewestSaid := over
#print axioms proved
end Go.Proofs.Ytnjmhgbdhekmdaa.dictNewest
