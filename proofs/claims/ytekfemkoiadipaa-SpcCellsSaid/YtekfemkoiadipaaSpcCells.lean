/- SpcCells: cells that are laid are fetched; an end is aligned by fewer than 8 noughts, once for all; for every right memory of 600 bytes and every cells, with no other condition. -/
import Derived.Test.YtekfemkoiadipaaSpcCellsB
import Derived.WalkKit
namespace Go.Proofs.Ytekfemkoiadipaa.spcCells
open Go.ChangeShapes Go.WideShapes Go.ChangeAt Go.RowKit Go.Joins Go.Deep
set_option linter.unusedVariables false
set_option linter.unusedSimpArgs false

theorem own : ownKnob Try.prog.godebug = none := by kernel_rfl
theorem laidOut : laidOutB Try.prog = true := by kernel_rfl

set_option maxRecDepth 100000 in
theorem lifted (os : Os) (started : os.Started) (H : Type) (enc : TypeId × Value → H) :
    ReturnsInHanded {} Try.checked os 6 .any (Rows.spcCellsSpec.pre6 enc Try.prog Try.f6 Rows.spcCellsRow.domain false) (Rows.spcCellsSpec.post enc Try.prog Try.f6 false true false false) := by
  refine returnsInHanded_of_change (C := Try.checked) own started (by kernel_rfl) Try.func6
    (ChangeSpec.witness6 (enc := enc) (C := Try.checked) false ⟨#[], #[.agg #[.slice none 0 0, .slice none 0 0, .int .i64 0, .int .i64 0, .int .i64 0]], []⟩ 8 (by kernel_rfl) (by kernel_rfl) (by kernel_rfl) (by kernel_rfl)) ?_
  intro W base args ds gs before hval0 hW hcnd _
  have hval : ∀ (j : Nat) t v, Try.f6.params[j]? = some t → args[j]? = some v → Value.okWide Try.prog W .any base t v := hval0
  have hW' := hW
  obtain ⟨p, q, hA0, hV, rfl, hfz, hnd⟩ := hW
  have hA : DataW.TrodAll enc Try.prog W 0 (fun _ => true) true Try.f6.params.toList args.toList ds p := hA0
  rw [Try.params6] at hA hval
  obtain ⟨v0, vs0, d0, ds0, p0, q0, hargs, rfl, rfl, h0, r0⟩ := trodAll_cons hA
  obtain ⟨rfl, rfl, rfl⟩ := trodAll_nil r0
  obtain rfl : args = #[v0] := by cases args; simp_all
  obtain ⟨rfl, rfl⟩ := trodVars_none hV
  obtain ⟨cs0, rfl, _⟩ := okWide_struct Try.underlying52 (hval 0 52 v0 rfl rfl)
  have k0 := h0
  have lt0 : ∀ x ∈ p0, x.block < W.heap.size := by obtain ⟨m, hm⟩ := k0; exact DataW.trod_lt m _ _ _ hm
  obtain ⟨A_m, L_m, c_m, P_m, K_m, d_m, m_m, j_here, j_a, j_b, hcs0, k0_1, k0_2, k0_3, k0_4⟩ : ∃ A_m L_m c_m P_m K_m d_m m_m j_here j_a j_b, cs0 = #[.slice A_m L_m c_m, .slice P_m K_m d_m, .int .i64 j_here, .int .i64 j_a, .int .i64 j_b] ∧ IsMem W (.agg #[.slice A_m L_m c_m, .slice P_m K_m d_m]) m_m ∧ (Lit.int .i64 j_here).wf = true ∧ (Lit.int .i64 j_a).wf = true ∧ (Lit.int .i64 j_b).wf = true := by
    obtain ⟨fuel, hf⟩ := h0
    obtain ⟨A_m, L_m, c_m, P_m, K_m, d_m, m_m, j_here, j_a, j_b, hcs, k0_1, k0_2, k0_3, k0_4⟩ := open_spcCellsIn hf
    exact ⟨A_m, L_m, c_m, P_m, K_m, d_m, m_m, j_here, j_a, j_b, by cases cs0; simpa [Value.cells] using hcs, k0_1, k0_2, k0_3, k0_4⟩
  subst hcs0
  clear hA0 hval0
  refine (cells_walk A_m P_m L_m c_m K_m d_m m_m j_here j_a j_b W (Lib.hid k0_1) (wf_i64 k0_3).1 (wf_i64 k0_3).2 (wf_i64 k0_4).1 (wf_i64 k0_4).2).mono fun e W' ⟨he, bel⟩ => ?_
  subst he
  exact ⟨_, rfl, _, _, _, [], _, [], hW', trodAll_mk1 (shut_bool Try.underlying4 _), (trodAll_cons_mk (Below.trod laidOut (by kernel_rfl) (of_decide_eq_true (by kernel_rfl)) k0 bel lt0) trodAll_mk0), rfl, bel.frame _, fun h => by cases h⟩

theorem over : Rows.spcCellsRow.holds Try.pinned (OpenSpec.ofChange Rows.spcCellsSpec) :=
  OpenClaim.holds_of_wide 6 Try.f6 rfl rfl rfl rfl rfl rfl rfl ⟨rfl, rfl, rfl, rfl, rfl⟩ rfl rfl rfl rfl rfl (by kernel_rfl) Try.func6 (by kernel_rfl)
    (of_decide_eq_true (by kernel_rfl)) (by unfold Func.isWrapper; first | (rw [if_pos (by decide +kernel)]; kernel_rfl) | (rw [if_neg (by decide +kernel)]; exact ⟨rfl, rfl⟩))
    (fun os started H enc _ => lifted os started H enc)

theorem proved : Rows.SpcCellsSaid := over
#print axioms proved
end Go.Proofs.Ytekfemkoiadipaa.spcCells
