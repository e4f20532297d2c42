/- DictTells: which dictionaries are right, which the same, and words that are found, are as the document says, for every two dictionaries, every name and every number; no condition. -/
import Derived.Test.YtnjmhgbdhekmdaaChecked
import Derived.Test.YtnjmhgbdhekmdaaRows
import Derived.Test.YtnjmhgbdhekmdaaDictTellsA
import Derived.WalkKit
namespace Go.Proofs.Ytnjmhgbdhekmdaa.dictTells
open Go.ChangeShapes Go.WideShapes Go.ChangeAt Go.RowKit Go.Joins Go.Deep
set_option linter.unusedVariables false
set_option linter.unusedSimpArgs false

theorem own : ownKnob Try.prog.godebug = none := by kernel_rfl
theorem laidOut : laidOutB Try.prog = true := by kernel_rfl

set_option maxRecDepth 100000 in
theorem lifted (os : Os) (started : os.Started) (H : Type) (enc : TypeId × Value → H) :
    ReturnsInHanded {} Try.checked os 3 .any (Rows.dictTellsSpec.pre6 enc Try.prog Try.f3 Rows.dictTellsRow.domain false) (Rows.dictTellsSpec.post enc Try.prog Try.f3 false true false false) := by
  refine returnsInHanded_of_change (C := Try.checked) own started (by kernel_rfl) Try.func3
    (ChangeSpec.witness6 (enc := enc) (C := Try.checked) false ⟨#[], #[.agg #[.slice none 0 0, .slice none 0 0, .string ⟨#[]⟩, .int .i64 0]], []⟩ 8 (by kernel_rfl) (by kernel_rfl) (by kernel_rfl) (by kernel_rfl)) ?_
  intro W base args ds gs before hval0 hW hcnd _
  have hval : ∀ (j : Nat) t v, Try.f3.params[j]? = some t → args[j]? = some v → Value.okWide Try.prog W .any base t v := hval0
  have hW' := hW
  obtain ⟨p, q, hA0, hV, rfl, hfz, hnd⟩ := hW
  have hA : DataW.TrodAll enc Try.prog W 0 (fun _ => true) true Try.f3.params.toList args.toList ds p := hA0
  rw [Try.params3] at hA hval
  obtain ⟨v0, vs0, d0, ds0, p0, q0, hargs, rfl, rfl, h0, r0⟩ := trodAll_cons hA
  obtain ⟨rfl, rfl, rfl⟩ := trodAll_nil r0
  obtain rfl : args = #[v0] := by cases args; simp_all
  obtain ⟨rfl, rfl⟩ := trodVars_none hV
  obtain ⟨cs0, rfl, _⟩ := okWide_struct Try.underlying24 (hval 0 24 v0 rfl rfl)
  have k0 := h0
  have lt0 : ∀ x ∈ p0, x.block < W.heap.size := by obtain ⟨m, hm⟩ := k0; exact DataW.trod_lt m _ _ _ hm
  obtain ⟨A_l, L_l, c_l, l_l, A_o, L_o, c_o, l_o, s_name, j_xt, hcs0, k0_1, k0_2, k0_3, k0_4⟩ : ∃ A_l L_l c_l l_l A_o L_o c_o l_o s_name j_xt, cs0 = #[.slice A_l L_l c_l, .slice A_o L_o c_o, .string (strB s_name), .int .i64 j_xt] ∧ Wds W (.slice A_l L_l c_l) l_l ∧ Wds W (.slice A_o L_o c_o) l_o ∧ s_name.length ≤ 9223372036854775807 ∧ (Lit.int .i64 j_xt).wf = true := by
    obtain ⟨fuel, hf⟩ := h0
    obtain ⟨A_l, L_l, c_l, l_l, A_o, L_o, c_o, l_o, s_name, j_xt, hcs, k0_1, k0_2, k0_3, k0_4⟩ := open_dictTellsIn hf
    exact ⟨A_l, L_l, c_l, l_l, A_o, L_o, c_o, l_o, s_name, j_xt, by cases cs0; simpa [Value.cells] using hcs, k0_1, k0_2, k0_3, k0_4⟩
  subst hcs0
  clear hA0 hval0
  refine (dtells_any A_l A_o L_l c_l L_o c_o l_l l_o s_name j_xt W k0_1 k0_2).mono fun e W' ⟨he, bel⟩ => ?_
  subst he
  exact ⟨_, rfl, _, _, _, [], _, [], hW', trodAll_mk1 (shut_bool Try.underlying4 _), (trodAll_cons_mk (Below.trod laidOut (by kernel_rfl) (of_decide_eq_true (by kernel_rfl)) k0 bel lt0) trodAll_mk0), rfl, bel.frame _, fun h => by cases h⟩

theorem over : Rows.dictTellsRow.holds Try.pinned (OpenSpec.ofChange Rows.dictTellsSpec) :=
  OpenClaim.holds_of_wide 3 Try.f3 rfl rfl rfl rfl rfl rfl rfl ⟨rfl, rfl, rfl, rfl, rfl⟩ rfl rfl rfl rfl rfl (by kernel_rfl) Try.func3 (by kernel_rfl)
    (of_decide_eq_true (by kernel_rfl)) (by unfold Func.isWrapper; first | (rw [if_pos (by decide +kernel)]; kernel_rfl) | (rw [if_neg (by decide +kernel)]; exact ⟨rfl, rfl⟩))
    (fun os started H enc _ => lifted os started H enc)

theorem proved : Rows.DictTellsSaid := over
#print axioms proved
end Go.Proofs.Ytnjmhgbdhekmdaa.dictTells
