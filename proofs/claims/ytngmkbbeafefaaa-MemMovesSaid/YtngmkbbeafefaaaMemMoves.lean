/- MemMoves: what is moved is what stood there, even where both places overlap; moved back it is there again; filled in, each byte is that one; for every right memory of 600 bytes and every places, with no other condition. -/
import Derived.Test.YtngmkbbeafefaaaMemMovesA
import Derived.Test.YtngmkbbeafefaaaMemIn
import Derived.WalkKit
namespace Go.Proofs.Ytngmkbbeafefaaa.memMoves
open Go.ChangeShapes Go.WideShapes Go.ChangeAt Go.RowKit Go.Joins Go.Deep
set_option linter.unusedVariables false
set_option linter.unusedSimpArgs false

theorem own : ownKnob Try.prog.godebug = none := by kernel_rfl
theorem laidOut : laidOutB Try.prog = true := by kernel_rfl

set_option maxRecDepth 100000 in
theorem lifted (os : Os) (started : os.Started) (H : Type) (enc : TypeId × Value → H) :
    ReturnsInHanded {} Try.checked os 8 .any (Rows.memMovesSpec.pre6 enc Try.prog Try.f8 Rows.memMovesRow.domain false) (Rows.memMovesSpec.post enc Try.prog Try.f8 false true false false) := by
  refine returnsInHanded_of_change (C := Try.checked) own started (by kernel_rfl) Try.func8
    (ChangeSpec.witness6 (enc := enc) (C := Try.checked) false ⟨#[], #[.agg #[.slice none 0 0, .slice none 0 0, .int .u16 0, .int .u16 0, .int .u8 0, .int .i64 0]], []⟩ 8 (by kernel_rfl) (by kernel_rfl) (by kernel_rfl) (by kernel_rfl)) ?_
  intro W base args ds gs before hval0 hW hcnd _
  have hval : ∀ (j : Nat) t v, Try.f8.params[j]? = some t → args[j]? = some v → Value.okWide Try.prog W .any base t v := hval0
  have hW' := hW
  obtain ⟨p, q, hA0, hV, rfl, hfz, hnd⟩ := hW
  have hA : DataW.TrodAll enc Try.prog W 0 (fun _ => true) true Try.f8.params.toList args.toList ds p := hA0
  rw [Try.params8] at hA hval
  obtain ⟨v0, vs0, d0, ds0, p0, q0, hargs, rfl, rfl, h0, r0⟩ := trodAll_cons hA
  obtain ⟨rfl, rfl, rfl⟩ := trodAll_nil r0
  obtain rfl : args = #[v0] := by cases args; simp_all
  obtain ⟨rfl, rfl⟩ := trodVars_none hV
  obtain ⟨cs0, rfl, _⟩ := okWide_struct Try.underlying69 (hval 0 69 v0 rfl rfl)
  have k0 := h0
  have lt0 : ∀ x ∈ p0, x.block < W.heap.size := by obtain ⟨m, hm⟩ := k0; exact DataW.trod_lt m _ _ _ hm
  obtain ⟨A_m, L_m, c_m, P_m, K_m, d_m, m_m, j_f, j_t, j_n, j_c, hcs, k1, k2, k3, k4, k5⟩ : ∃ A_m L_m c_m P_m K_m d_m m_m j_f j_t j_n j_c, cs0 = #[.slice A_m L_m c_m, .slice P_m K_m d_m, .int .u16 j_f, .int .u16 j_t, .int .u8 j_n, .int .i64 j_c] ∧ IsMem W (.agg #[.slice A_m L_m c_m, .slice P_m K_m d_m]) m_m ∧ (Lit.int .u16 j_f).wf = true ∧ (Lit.int .u16 j_t).wf = true ∧ (Lit.int .u8 j_n).wf = true ∧ (Lit.int .i64 j_c).wf = true := by
    obtain ⟨fuel, hf⟩ := h0
    obtain ⟨A_m, L_m, c_m, P_m, K_m, d_m, m_m, j_f, j_t, j_n, j_c, hcs, k1, k2, k3, k4, k5⟩ := open_memMovesIn hf
    exact ⟨A_m, L_m, c_m, P_m, K_m, d_m, m_m, j_f, j_t, j_n, j_c, by cases cs0; simpa [Value.cells] using hcs, k1, k2, k3, k4, k5⟩
  subst hcs
  clear hA0 hval0
  refine (moves_int A_m P_m L_m c_m K_m d_m m_m j_f j_t j_n j_c W (Lib.hid k1) (wf_u16 k2) (wf_u16 k3) (wf_u8 k4)).mono fun e W' ⟨he, bel⟩ => ?_
  subst he
  exact ⟨_, rfl, _, _, _, [], _, [], hW', trodAll_mk1 (shut_bool Try.underlying4 _), (trodAll_cons_mk (Below.trod laidOut (by kernel_rfl) (of_decide_eq_true (by kernel_rfl)) k0 bel lt0) trodAll_mk0), rfl, bel.frame _, fun h => by cases h⟩

theorem over : Rows.memMovesRow.holds Try.pinned (OpenSpec.ofChange Rows.memMovesSpec) :=
  OpenClaim.holds_of_wide 8 Try.f8 rfl rfl rfl rfl rfl rfl rfl ⟨rfl, rfl, rfl, rfl, rfl⟩ rfl rfl rfl rfl rfl (by kernel_rfl) Try.func8 (by kernel_rfl)
    (of_decide_eq_true (by kernel_rfl)) (by unfold Func.isWrapper; first | (rw [if_pos (by decide +kernel)]; kernel_rfl) | (rw [if_neg (by decide +kernel)]; exact ⟨rfl, rfl⟩))
    (fun os started H enc _ => lifted os started H enc)

theorem proved : Rows.MemMovesSaid := over
#print axioms proved
end Go.Proofs.Ytngmkbbeafefaaa.memMoves
