/- MemHolds: what is stored is fetched; what is written is read; bytes beside it stay; for every right memory of 600 bytes, every numbers and every 200 bytes, with no other condition. -/
import Derived.Test.YtngmkbbeafefaaaMemHoldsD
import Derived.Test.YtngmkbbeafefaaaMemIn
import Derived.WalkKit
namespace Go.Proofs.Ytngmkbbeafefaaa.memHolds
open Go.ChangeShapes Go.WideShapes Go.ChangeAt Go.RowKit Go.Joins Go.Deep
set_option linter.unusedVariables false
set_option linter.unusedSimpArgs false

theorem own : ownKnob Try.prog.godebug = none := by kernel_rfl
theorem laidOut : laidOutB Try.prog = true := by kernel_rfl

set_option maxRecDepth 100000 in
theorem lifted (os : Os) (started : os.Started) (H : Type) (enc : TypeId × Value → H) :
    ReturnsInHanded {} Try.checked os 7 .any (Rows.memHoldsSpec.pre6 enc Try.prog Try.f7 Rows.memHoldsRow.domain false) (Rows.memHoldsSpec.post enc Try.prog Try.f7 false true false false) := by
  refine returnsInHanded_of_change (C := Try.checked) own started (by kernel_rfl) Try.func7
    (ChangeSpec.witness6 (enc := enc) (C := Try.checked) false ⟨#[], #[.agg #[.slice none 0 0, .slice none 0 0, .int .i64 0, .int .i64 0, .slice none 0 0, .int .i64 0]], []⟩ 8 (by kernel_rfl) (by kernel_rfl) (by kernel_rfl) (by kernel_rfl)) ?_
  intro W base args ds gs before hval0 hW hcnd _
  have hval : ∀ (j : Nat) t v, Try.f7.params[j]? = some t → args[j]? = some v → Value.okWide Try.prog W .any base t v := hval0
  have hW' := hW
  obtain ⟨p, q, hA0, hV, rfl, hfz, hnd⟩ := hW
  have hA : DataW.TrodAll enc Try.prog W 0 (fun _ => true) true Try.f7.params.toList args.toList ds p := hA0
  rw [Try.params7] at hA hval
  obtain ⟨v0, vs0, d0, ds0, p0, q0, hargs, rfl, rfl, h0, r0⟩ := trodAll_cons hA
  obtain ⟨rfl, rfl, rfl⟩ := trodAll_nil r0
  obtain rfl : args = #[v0] := by cases args; simp_all
  obtain ⟨rfl, rfl⟩ := trodVars_none hV
  obtain ⟨cs0, rfl, _⟩ := okWide_struct Try.underlying65 (hval 0 65 v0 rfl rfl)
  have k0 := h0
  have lt0 : ∀ x ∈ p0, x.block < W.heap.size := by obtain ⟨m, hm⟩ := k0; exact DataW.trod_lt m _ _ _ hm
  obtain ⟨A_m, L_m, c_m, P_m, K_m, d_m, m_m, j_p, j_n, B_b, l_b, e_b, b_b, j_o, hcs, k1, k2, k3, k4, k5⟩ : ∃ A_m L_m c_m P_m K_m d_m m_m j_p j_n B_b l_b e_b b_b j_o, cs0 = #[.slice A_m L_m c_m, .slice P_m K_m d_m, .int .i64 j_p, .int .i64 j_n, .slice B_b l_b e_b, .int .i64 j_o] ∧ IsMem W (.agg #[.slice A_m L_m c_m, .slice P_m K_m d_m]) m_m ∧ (Lit.int .i64 j_p).wf = true ∧ (Lit.int .i64 j_n).wf = true ∧ Byt W (.slice B_b l_b e_b) b_b ∧ (Lit.int .i64 j_o).wf = true := by
    obtain ⟨fuel, hf⟩ := h0
    obtain ⟨A_m, L_m, c_m, P_m, K_m, d_m, m_m, j_p, j_n, B_b, l_b, e_b, b_b, j_o, hcs, k1, k2, k3, k4, k5⟩ := open_memHoldsIn hf
    exact ⟨A_m, L_m, c_m, P_m, K_m, d_m, m_m, j_p, j_n, B_b, l_b, e_b, b_b, j_o, by cases cs0; simpa [Value.cells] using hcs, k1, k2, k3, k4, k5⟩
  subst hcs
  clear hA0 hval0
  refine (holds_walk A_m P_m B_b L_m c_m K_m d_m l_b e_b m_m b_b j_p j_n j_o W (Lib.hid k1) (Lib.hid k4) k4.cap (wf_i64 k3).1 (wf_i64 k3).2).mono fun e W' ⟨he, bel⟩ => ?_
  subst he
  exact ⟨_, rfl, _, _, _, [], _, [], hW', trodAll_mk1 (shut_bool Try.underlying4 _), (trodAll_cons_mk (Below.trod laidOut (by kernel_rfl) (of_decide_eq_true (by kernel_rfl)) k0 bel lt0) trodAll_mk0), rfl, bel.frame _, fun h => by cases h⟩

theorem over : Rows.memHoldsRow.holds Try.pinned (OpenSpec.ofChange Rows.memHoldsSpec) :=
  OpenClaim.holds_of_wide 7 Try.f7 rfl rfl rfl rfl rfl rfl rfl ⟨rfl, rfl, rfl, rfl, rfl⟩ rfl rfl rfl rfl rfl (by kernel_rfl) Try.func7 (by kernel_rfl)
    (of_decide_eq_true (by kernel_rfl)) (by unfold Func.isWrapper; first | (rw [if_pos (by decide +kernel)]; kernel_rfl) | (rw [if_neg (by decide +kernel)]; exact ⟨rfl, rfl⟩))
    (fun os started H enc _ => lifted os started H enc)

theorem proved : Rows.MemHoldsSaid := over
#print axioms proved
end Go.Proofs.Ytngmkbbeafefaaa.memHolds
