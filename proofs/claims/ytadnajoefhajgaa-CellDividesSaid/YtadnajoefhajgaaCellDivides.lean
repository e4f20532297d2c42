/- CellDivides: quotients of pairs are as the document says; for every three cells, with no condition. -/
import Derived.Test.YtadnajoefhajgaaShown
import Derived.Test.YtadnajoefhajgaaRefD
import Derived.ProofKit
import Derived.OpenShut
import Derived.ShutString
import Derived.ChangeOld
import Derived.Below
namespace Go.Proofs.Ytadnajoefhajgaa.cellDivides
open Go.ChangeShapes Go.WideShapes Go.ChangeAt Go.RowKit
set_option linter.unusedVariables false

theorem own : ownKnob Try.prog.godebug = none := by kernel_rfl

theorem uc_in (hi d : Int) : wrap64 (uc hi d) = uc hi d := wrap_in (by unfold cellR uc; split <;> (try split) <;> omega)
theorem sc_in (lo hi d : Int) : wrap64 (sc lo hi d) = sc lo hi d := wrap_in (by unfold cellR sc; split <;> (try split) <;> omega)
theorem fc_in (lo hi d : Int) : wrap64 (fc lo hi d) = fc lo hi d := wrap_in (by unfold cellR fc; split <;> (try split) <;> omega)
set_option maxRecDepth 100000 in
set_option maxHeartbeats 4000000 in
theorem walk (lo hi d : Int) (w : World) (_ : cellR lo) (hh : cellR hi) (hd : cellR d) :
    Calls Try.prog 5 #[.int .i64 lo, .int .i64 hi, .int .i64 d] w fun e w' => e = .returned (.bool true) ∧ Below w.heap.size w w' := by
  have e1 := uc_in hi d
  have e2 := sc_in lo hi d
  have e3 := fc_in lo hi d
  go_enter Try.func5, Try.ntmps5
  go_wp2_with (first | (go_at_call 12; refine (shown_any _).mono ?_; rintro e w1 ⟨rfl, b1⟩) | (go_at_call 25; refine (udiv_any _ _ _ _ hd).mono ?_; rintro e w2 ⟨rfl, b2⟩) | (go_at_call 26; refine (rudiv_any _ _ _ _ hd).mono ?_; rintro e w3 ⟨rfl, rfl⟩) | (go_at_call 27; refine (sdiv_any _ _ _ _ hh hd).mono ?_; rintro e w4 ⟨rfl, b4⟩) | (go_at_call 28; refine (rsdiv_any _ _ _ _ hh hd).mono ?_; rintro e w3 ⟨rfl, rfl⟩) | (go_at_call 29; refine (fdiv_any _ _ _ _ hh hd).mono ?_; rintro e w5 ⟨rfl, b5⟩) | (go_at_call 30; refine (rfdiv_any _ _ _ _ hh hd).mono ?_; rintro e w3 ⟨rfl, rfl⟩))
  go_ret
  exact ⟨rfl, below_then (below_then (below_then b1 b2) b4) b5⟩

set_option maxRecDepth 100000 in
theorem lifted (os : Os) (started : os.Started) (H : Type) (enc : TypeId × Value → H) :
    ReturnsInHanded {} Try.checked os 5 .any (Rows.cellDividesSpec.pre6 enc Try.prog Try.f5 Rows.cellDividesRow.domain false) (Rows.cellDividesSpec.post enc Try.prog Try.f5 false true false false) := by
  refine returnsInHanded_of_change (C := Try.checked) own started (by kernel_rfl) Try.func5
    (ChangeSpec.witness6 (enc := enc) (C := Try.checked) false ⟨#[], #[.int .i64 0, .int .i64 0, .int .i64 0], []⟩ 8 (by kernel_rfl) (by kernel_rfl) (by kernel_rfl) (by kernel_rfl)) ?_
  intro W base args ds gs before hval0 hW hcnd _
  have hval : ∀ (j : Nat) t v, Try.f5.params[j]? = some t → args[j]? = some v → Value.okWide Try.prog W .any base t v := hval0
  have hW' := hW
  obtain ⟨p, q, hA0, hV, rfl, hfz, hnd⟩ := hW
  have hA : DataW.TrodAll enc Try.prog W 0 (fun _ => true) true Try.f5.params.toList args.toList ds p := hA0
  rw [Try.params5] at hA hval
  obtain ⟨v0, vs0, d0, ds0, p0, q0, hargs, rfl, rfl, h0, r0⟩ := trodAll_cons hA
  obtain ⟨v1, vs1, d1, ds1, p1, q1, rfl, rfl, rfl, h1, r1⟩ := trodAll_cons r0
  obtain ⟨v2, vs2, d2, ds2, p2, q2, rfl, rfl, rfl, h2, r2⟩ := trodAll_cons r1
  obtain ⟨rfl, rfl, rfl⟩ := trodAll_nil r2
  obtain rfl : args = #[v0, v1, v2] := by cases args; simp_all
  obtain ⟨rfl, rfl⟩ := trodVars_none hV
  obtain ⟨a0, rfl, rfl, rfl, w0⟩ := open_int Try.underlying3 (hval 0 3 v0 rfl rfl) h0
  obtain ⟨a1, rfl, rfl, rfl, w1⟩ := open_int Try.underlying3 (hval 1 3 v1 rfl rfl) h1
  obtain ⟨a2, rfl, rfl, rfl, w2⟩ := open_int Try.underlying3 (hval 2 3 v2 rfl rfl) h2
  clear hA0 hval0
  refine (walk a0 a1 a2 W (cellR_of w0) (cellR_of w1) (cellR_of w2)).mono fun e W' ⟨he, bel⟩ => ?_
  subst he
  exact ⟨_, rfl, _, _, _, [], _, [], hW', trodAll_mk1 (shut_bool Try.underlying4 _), (trodAll_cons_mk (shut_int Try.underlying3 w0) (trodAll_cons_mk (shut_int Try.underlying3 w1) (trodAll_cons_mk (shut_int Try.underlying3 w2) trodAll_mk0))), rfl, bel.frame _, fun h => by cases h⟩

theorem over : Rows.cellDividesRow.holds Try.pinned (OpenSpec.ofChange Rows.cellDividesSpec) :=
  OpenClaim.holds_of_wide 5 Try.f5 rfl rfl rfl rfl rfl rfl rfl ⟨rfl, rfl, rfl, rfl, rfl⟩ rfl rfl rfl rfl rfl (by kernel_rfl) Try.func5 (by kernel_rfl)
    (of_decide_eq_true (by kernel_rfl)) (by unfold Func.isWrapper; first | (rw [if_pos (by decide +kernel)]; kernel_rfl) | (rw [if_neg (by decide +kernel)]; exact ⟨rfl, rfl⟩))
    (fun os started H enc _ => lifted os started H enc)

theorem proved : Rows.CellDividesSaid := over
#print axioms proved
end Go.Proofs.Ytadnajoefhajgaa.cellDivides
