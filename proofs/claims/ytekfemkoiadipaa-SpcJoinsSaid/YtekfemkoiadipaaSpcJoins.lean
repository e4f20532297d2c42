/- SpcJoins: two rows that are laid one behind the other are as one row of both; what has no room in one piece has none in two; for every right memory of 600 bytes and every 100 bytes each, with no other condition. -/
import Derived.Test.YtekfemkoiadipaaSpcJoinsC
import Derived.WalkKit
namespace Go.Proofs.Ytekfemkoiadipaa.spcJoins
open Go.ChangeShapes Go.WideShapes Go.ChangeAt Go.RowKit Go.Joins Go.Deep
set_option linter.unusedVariables false
set_option linter.unusedSimpArgs false

theorem own : ownKnob Try.prog.godebug = none := by kernel_rfl
theorem laidOut : laidOutB Try.prog = true := by kernel_rfl

set_option maxRecDepth 100000 in
theorem lifted (os : Os) (started : os.Started) (H : Type) (enc : TypeId × Value → H) :
    ReturnsInHanded {} Try.checked os 7 .any (Rows.spcJoinsSpec.pre6 enc Try.prog Try.f7 Rows.spcJoinsRow.domain false) (Rows.spcJoinsSpec.post enc Try.prog Try.f7 false true false false) := by
  refine returnsInHanded_of_change (C := Try.checked) own started (by kernel_rfl) Try.func7
    (ChangeSpec.witness6 (enc := enc) (C := Try.checked) false ⟨#[], #[.agg #[.slice none 0 0, .slice none 0 0, .int .i64 0, .slice none 0 0, .slice none 0 0]], []⟩ 8 (by kernel_rfl) (by kernel_rfl) (by kernel_rfl) (by kernel_rfl)) ?_
  intro W base args ds gs before hval0 hW hcnd _
  have hval : ∀ (j : Nat) t v, Try.f7.params[j]? = some t → args[j]? = some v → Value.okWide Try.prog W .any base t v := hval0
  have hW' := hW
  obtain ⟨p, q, hA0, hV, rfl, hfz, hnd⟩ := hW
  have hA : DataW.TrodAll enc Try.prog W 0 (fun _ => true) true Try.f7.params.toList args.toList ds p := hA0
  rw [Try.params7] at hA hval
  obtain ⟨v0, vs0, d0, ds0, p0, q0, hargs, rfl, rfl, h0, r0⟩ := trodAll_cons hA
  obtain ⟨rfl, rfl, rfl⟩ := trodAll_nil r0
  obtain rfl : args = #[v0] := by cases args; simp_all
  obtain ⟨rfl, rfl⟩ := trodVars_none hV
  obtain ⟨cs0, rfl, _⟩ := okWide_struct Try.underlying56 (hval 0 56 v0 rfl rfl)
  have k0 := h0
  have lt0 : ∀ x ∈ p0, x.block < W.heap.size := by obtain ⟨m, hm⟩ := k0; exact DataW.trod_lt m _ _ _ hm
  obtain ⟨A_m, L_m, c_m, P_m, K_m, d_m, m_m, j_here, B_a, l_a, e_a, b_a, B_b, l_b, e_b, b_b, hcs0, k0_1, k0_2, k0_3, k0_4⟩ : ∃ A_m L_m c_m P_m K_m d_m m_m j_here B_a l_a e_a b_a B_b l_b e_b b_b, cs0 = #[.slice A_m L_m c_m, .slice P_m K_m d_m, .int .i64 j_here, .slice B_a l_a e_a, .slice B_b l_b e_b] ∧ IsMem W (.agg #[.slice A_m L_m c_m, .slice P_m K_m d_m]) m_m ∧ (Lit.int .i64 j_here).wf = true ∧ Byt W (.slice B_a l_a e_a) b_a ∧ Byt W (.slice B_b l_b e_b) b_b := by
    obtain ⟨fuel, hf⟩ := h0
    obtain ⟨A_m, L_m, c_m, P_m, K_m, d_m, m_m, j_here, B_a, l_a, e_a, b_a, B_b, l_b, e_b, b_b, hcs, k0_1, k0_2, k0_3, k0_4⟩ := open_spcJoinsIn hf
    exact ⟨A_m, L_m, c_m, P_m, K_m, d_m, m_m, j_here, B_a, l_a, e_a, b_a, B_b, l_b, e_b, b_b, by cases cs0; simpa [Value.cells] using hcs, k0_1, k0_2, k0_3, k0_4⟩
  subst hcs0
  clear hA0 hval0
  refine (joins_walk A_m P_m B_a B_b L_m c_m K_m d_m l_a e_a l_b e_b m_m b_a b_b j_here W (Lib.hid k0_1) (Lib.hid k0_3) (Lib.hid k0_4) k0_3.cap k0_4.cap).mono fun e W' ⟨he, bel⟩ => ?_
  subst he
  exact ⟨_, rfl, _, _, _, [], _, [], hW', trodAll_mk1 (shut_bool Try.underlying4 _), (trodAll_cons_mk (Below.trod laidOut (by kernel_rfl) (of_decide_eq_true (by kernel_rfl)) k0 bel lt0) trodAll_mk0), rfl, bel.frame _, fun h => by cases h⟩

theorem over : Rows.spcJoinsRow.holds Try.pinned (OpenSpec.ofChange Rows.spcJoinsSpec) :=
  OpenClaim.holds_of_wide 7 Try.f7 rfl rfl rfl rfl rfl rfl rfl ⟨rfl, rfl, rfl, rfl, rfl⟩ rfl rfl rfl rfl rfl (by kernel_rfl) Try.func7 (by kernel_rfl)
    (of_decide_eq_true (by kernel_rfl)) (by unfold Func.isWrapper; first | (rw [if_pos (by decide +kernel)]; kernel_rfl) | (rw [if_neg (by decide +kernel)]; exact ⟨rfl, rfl⟩))
    (fun os started H enc _ => lifted os started H enc)

theorem proved : Rows.SpcJoinsSaid := over
#print axioms proved
end Go.Proofs.Ytekfemkoiadipaa.spcJoins
