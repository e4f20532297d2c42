/- MemTwo: two writes that don't overlap may be done in either order; done twice, the second one turns nothing but that it can be undone; what is freed reads the same; for every right memory of 600 bytes and every 100 bytes each, with no other condition. -/
import Derived.Test.YtngmkbbeafefaaaMemTwoB
import Derived.Test.YtngmkbbeafefaaaMemIn
import Derived.WalkKit
namespace Go.Proofs.Ytngmkbbeafefaaa.memTwo
open Go.ChangeShapes Go.WideShapes Go.ChangeAt Go.RowKit Go.Joins Go.Deep
set_option linter.unusedVariables false
set_option linter.unusedSimpArgs false

theorem own : ownKnob Try.prog.godebug = none := by kernel_rfl
theorem laidOut : laidOutB Try.prog = true := by kernel_rfl

set_option maxRecDepth 100000 in
theorem lifted (os : Os) (started : os.Started) (H : Type) (enc : TypeId × Value → H) :
    ReturnsInHanded {} Try.checked os 10 .any (Rows.memTwoSpec.pre6 enc Try.prog Try.f10 Rows.memTwoRow.domain false) (Rows.memTwoSpec.post enc Try.prog Try.f10 false true false false) := by
  refine returnsInHanded_of_change (C := Try.checked) own started (by kernel_rfl) Try.func10
    (ChangeSpec.witness6 (enc := enc) (C := Try.checked) false ⟨#[], #[.agg #[.slice none 0 0, .slice none 0 0, .int .i64 0, .int .i64 0, .slice none 0 0, .slice none 0 0]], []⟩ 8 (by kernel_rfl) (by kernel_rfl) (by kernel_rfl) (by kernel_rfl)) ?_
  intro W base args ds gs before hval0 hW hcnd _
  have hval : ∀ (j : Nat) t v, Try.f10.params[j]? = some t → args[j]? = some v → Value.okWide Try.prog W .any base t v := hval0
  have hW' := hW
  obtain ⟨p, q, hA0, hV, rfl, hfz, hnd⟩ := hW
  have hA : DataW.TrodAll enc Try.prog W 0 (fun _ => true) true Try.f10.params.toList args.toList ds p := hA0
  rw [Try.params10] at hA hval
  obtain ⟨v0, vs0, d0, ds0, p0, q0, hargs, rfl, rfl, h0, r0⟩ := trodAll_cons hA
  obtain ⟨rfl, rfl, rfl⟩ := trodAll_nil r0
  obtain rfl : args = #[v0] := by cases args; simp_all
  obtain ⟨rfl, rfl⟩ := trodVars_none hV
  obtain ⟨cs0, rfl, _⟩ := okWide_struct Try.underlying73 (hval 0 73 v0 rfl rfl)
  have k0 := h0
  have lt0 : ∀ x ∈ p0, x.block < W.heap.size := by obtain ⟨m, hm⟩ := k0; exact DataW.trod_lt m _ _ _ hm
  obtain ⟨A_m, L_m, c_m, P_m, K_m, d_m, m_m, j_p, j_t, B_b, l_b, e_b, b_b, B_c, l_c, e_c, b_c, hcs, k1, k2, k3, k4, k5⟩ : ∃ A_m L_m c_m P_m K_m d_m m_m j_p j_t B_b l_b e_b b_b B_c l_c e_c b_c, cs0 = #[.slice A_m L_m c_m, .slice P_m K_m d_m, .int .i64 j_p, .int .i64 j_t, .slice B_b l_b e_b, .slice B_c l_c e_c] ∧ IsMem W (.agg #[.slice A_m L_m c_m, .slice P_m K_m d_m]) m_m ∧ (Lit.int .i64 j_p).wf = true ∧ (Lit.int .i64 j_t).wf = true ∧ Byt W (.slice B_b l_b e_b) b_b ∧ Byt W (.slice B_c l_c e_c) b_c := by
    obtain ⟨fuel, hf⟩ := h0
    obtain ⟨A_m, L_m, c_m, P_m, K_m, d_m, m_m, j_p, j_t, B_b, l_b, e_b, b_b, B_c, l_c, e_c, b_c, hcs, k1, k2, k3, k4, k5⟩ := open_memTwoIn hf
    exact ⟨A_m, L_m, c_m, P_m, K_m, d_m, m_m, j_p, j_t, B_b, l_b, e_b, b_b, B_c, l_c, e_c, b_c, by cases cs0; simpa [Value.cells] using hcs, k1, k2, k3, k4, k5⟩
  subst hcs
  clear hA0 hval0
  refine (two_walk A_m P_m B_b B_c L_m c_m K_m d_m l_b e_b l_c e_c m_m b_b b_c j_p j_t W (Lib.hid k1) (Lib.hid k4) (Lib.hid k5) k4.cap k5.cap (wf_i64 k2).1 (wf_i64 k2).2 (wf_i64 k3).1 (wf_i64 k3).2).mono fun e W' ⟨he, bel⟩ => ?_
  subst he
  exact ⟨_, rfl, _, _, _, [], _, [], hW', trodAll_mk1 (shut_bool Try.underlying4 _), (trodAll_cons_mk (Below.trod laidOut (by kernel_rfl) (of_decide_eq_true (by kernel_rfl)) k0 bel lt0) trodAll_mk0), rfl, bel.frame _, fun h => by cases h⟩

theorem over : Rows.memTwoRow.holds Try.pinned (OpenSpec.ofChange Rows.memTwoSpec) :=
  OpenClaim.holds_of_wide 10 Try.f10 rfl rfl rfl rfl rfl rfl rfl ⟨rfl, rfl, rfl, rfl, rfl⟩ rfl rfl rfl rfl rfl (by kernel_rfl) Try.func10 (by kernel_rfl)
    (of_decide_eq_true (by kernel_rfl)) (by unfold Func.isWrapper; first | (rw [if_pos (by decide +kernel)]; kernel_rfl) | (rw [if_neg (by decide +kernel)]; exact ⟨rfl, rfl⟩))
    (fun os started H enc _ => lifted os started H enc)

theorem proved : Rows.MemTwoSaid := over
#print axioms proved
end Go.Proofs.Ytngmkbbeafefaaa.memTwo
