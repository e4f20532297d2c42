/- AluWithin: a cell is within from one up to another one just if steps from the first one lead to it ahead of the second one; whatever the three are moved by. No condition. -/
import Derived.Test.YtncljldoioplaaaAluUse
import Derived.ProofKit
import Derived.Deep.Light
import Derived.OpenShut
import Derived.ShutString
import Derived.ChangeOld
import Derived.Below
import Derived.Lib.SmallJoins
namespace Go.Proofs.Ytncljldoioplaaa.aluWithin
open Go.ChangeShapes Go.WideShapes Go.ChangeAt Go.RowKit Go.Joins
set_option linter.unusedVariables false

theorem own : ownKnob Try.prog.godebug = none := by kernel_rfl

theorem in_eq (lo n m by' : Int) (hn : 0 ≤ n ∧ n ≤ 65535) (hm : 0 ≤ m ∧ m ≤ 65535) :
    withinB (wrap64 (wrap64 (lo + n) + by')) (wrap64 (lo + by')) (wrap64 (wrap64 (lo + m) + by')) = decide (n < m) := by
  have h1 := un_mod (wrap64 (wrap64 (wrap64 (lo + n) + by') - wrap64 (lo + by')))
  have h2 := un_mod (wrap64 (wrap64 (wrap64 (lo + m) + by') - wrap64 (lo + by')))
  unfold withinB
  generalize un (wrap64 (wrap64 (wrap64 (lo + n) + by') - wrap64 (lo + by'))) = u at *
  generalize un (wrap64 (wrap64 (wrap64 (lo + m) + by') - wrap64 (lo + by'))) = v at *
  have e1 : (u : Int) = n := by rw [h1]; unfold wrap64; omega
  have e2 : (v : Int) = m := by rw [h2]; unfold wrap64; omega
  by_cases h : n < m
  · rw [decide_eq_true h, decide_eq_true (by omega)]
  · rw [decide_eq_false h, decide_eq_false (by omega)]
theorem in_eq0 (lo n m : Int) (hn : 0 ≤ n ∧ n ≤ 65535) (hm : 0 ≤ m ∧ m ≤ 65535) (hl : cellR lo) :
    withinB (wrap64 (lo + n)) lo (wrap64 (lo + m)) = decide (n < m) := by
  have h := in_eq lo n m 0 hn hm
  rw [Int.add_zero, Int.add_zero, Int.add_zero, wrap_in hl, wrap_in (cellR_wrap _), wrap_in (cellR_wrap _)] at h
  exact h
theorem in_no (x lo : Int) : withinB x lo lo = false := by
  have h2 := un_mod (wrap64 (lo - lo))
  unfold withinB
  rw [decide_eq_false]
  unfold wrap64 at *
  omega
theorem u16R_of {n : Int} (h : (Lit.int .u16 n).wf = true) : 0 ≤ n ∧ n ≤ 65535 := by
  simp only [Lit.wf, IntKind.min, IntKind.max, IntKind.signed, IntKind.bits, Bool.and_eq_true, decide_eq_true_eq] at h
  simp at h
  omega

set_option maxRecDepth 100000 in
set_option maxHeartbeats 4000000 in
theorem core (lo n m by' x hi xb lb hb : Int) (w : World) (hn0 : 0 ≤ n) (hn : n ≤ 65535) (hm0 : 0 ≤ m) (hm : m ≤ 65535) (ex : wrap64 (lo + n) = x) (eh : wrap64 (lo + m) = hi) (exb : wrap64 (x + by') = xb) (elb : wrap64 (lo + by') = lb) (ehb : wrap64 (hi + by') = hb)
    (C1 : Hid (∀ w, Calls Try.prog 20 #[.int .i64 x, .int .i64 lo, .int .i64 hi] w fun e w' => e = .returned (.bool (decide (n < m))) ∧ w = w'))
    (C2 : Hid (∀ w, Calls Try.prog 20 #[.int .i64 xb, .int .i64 lb, .int .i64 hb] w fun e w' => e = .returned (.bool (decide (n < m))) ∧ w = w'))
    (C3 : Hid (∀ w, Calls Try.prog 20 #[.int .i64 x, .int .i64 lo, .int .i64 lo] w fun e w' => e = .returned (.bool false) ∧ w = w')) :
    Calls Try.prog 9 #[.agg #[.int .i64 lo, .int .u16 n, .int .u16 m, .int .i64 by']] w fun e w' => e = .returned (.bool true) ∧ Below w.heap.size w w' := by
  by_cases h : n < m
  all_goals
    go_enter Try.func9, Try.ntmps9
    go_wp2_with fail
    refine (shown_any _).mono ?_
    rintro e w1 ⟨rfl, b1⟩
    replace b1 := below_then ((Below.refl w.heap.size w).alloc (Nat.le_refl _) _) b1
    go_wp2_with (go_at_call 20; ((with_reducible first | refine (C1.out _).mono ?_ | refine (C2.out _).mono ?_ | refine (C3.out _).mono ?_); rintro e w2 ⟨rfl, rfl⟩))
    go_ret
    exact ⟨rfl, b1⟩

theorem walk (lo n m by' : Int) (w : World) (hl : cellR lo) (hn : 0 ≤ n ∧ n ≤ 65535) (hm : 0 ≤ m ∧ m ≤ 65535) :
    Calls Try.prog 9 #[.agg #[.int .i64 lo, .int .u16 n, .int .u16 m, .int .i64 by']] w fun e w' => e = .returned (.bool true) ∧ Below w.heap.size w w' := by
  refine core lo n m by' _ _ _ _ _ w hn.1 hn.2 hm.1 hm.2 rfl rfl rfl rfl rfl (Lib.hid fun w => ?_) (Lib.hid fun w => ?_) (Lib.hid fun w => ?_)
  · have c := within_any (wrap64 (lo + n)) lo (wrap64 (lo + m)) w
    rw [in_eq0 lo n m hn hm hl] at c
    exact c
  · have c := within_any (wrap64 (wrap64 (lo + n) + by')) (wrap64 (lo + by')) (wrap64 (wrap64 (lo + m) + by')) w
    rw [in_eq lo n m by' hn hm] at c
    exact c
  · have c := within_any (wrap64 (lo + n)) lo lo w
    rw [in_no] at c
    exact c

set_option maxRecDepth 100000 in
theorem lifted (os : Os) (started : os.Started) (H : Type) (enc : TypeId × Value → H) :
    ReturnsInHanded {} Try.checked os 9 .any (Rows.aluWithinSpec.pre6 enc Try.prog Try.f9 Rows.aluWithinRow.domain false) (Rows.aluWithinSpec.post enc Try.prog Try.f9 false true false false) := by
  refine returnsInHanded_of_change (C := Try.checked) own started (by kernel_rfl) Try.func9
    (ChangeSpec.witness6 (enc := enc) (C := Try.checked) false ⟨#[], #[.agg #[.int .i64 0, .int .u16 0, .int .u16 0, .int .i64 0]], []⟩ 8 (by kernel_rfl) (by kernel_rfl) (by kernel_rfl) (by kernel_rfl)) ?_
  intro W base args ds gs before hval0 hW hcnd _
  have hval : ∀ (j : Nat) t v, Try.f9.params[j]? = some t → args[j]? = some v → Value.okWide Try.prog W .any base t v := hval0
  have hW' := hW
  obtain ⟨p, q, hA0, hV, rfl, hfz, hnd⟩ := hW
  have hA : DataW.TrodAll enc Try.prog W 0 (fun _ => true) true Try.f9.params.toList args.toList ds p := hA0
  rw [Try.params9] at hA hval
  obtain ⟨v0, vs0, d0, ds0, p0, q0, hargs, rfl, rfl, h0, r0⟩ := trodAll_cons hA
  obtain ⟨rfl, rfl, rfl⟩ := trodAll_nil r0
  obtain rfl : args = #[v0] := by cases args; simp_all
  obtain ⟨rfl, rfl⟩ := trodVars_none hV
  obtain ⟨c0, c1, c2, c3, y0, y1, y2, y3, k, rfl, rfl, rfl, hy0, hy1, hy2, hy3⟩ := open_agg4 Try.underlying43 (by kernel_rfl) (by kernel_rfl) (hval 0 43 v0 rfl rfl) h0
  obtain ⟨lo, e0, rfl, wl⟩ := DataW.trod_int Try.underlying3 hy0
  obtain ⟨n, e1, rfl, wn⟩ := DataW.trod_int Try.underlying41 hy1
  obtain ⟨m, e2, rfl, wm⟩ := DataW.trod_int Try.underlying41 hy2
  obtain ⟨b, e3, rfl, wb⟩ := DataW.trod_int Try.underlying3 hy3
  simp at e0 e1 e2 e3
  subst e0 e1 e2 e3
  clear hA0 hval0
  simp only [List.append_nil] at hW'
  have reads : ∀ (W' : World) (sp : Nat → Bool), DataW.Trod enc Try.prog W' 0 sp true 43 (.agg #[.int .i64 lo, .int .u16 n, .int .u16 m, .int .i64 b]) (.agg [.lit (.int .i64 lo), .lit (.int .u16 n), .lit (.int .u16 m), .lit (.int .i64 b)]) [] := fun W' sp =>
    shut_agg4 (y0 := (.lit (.int .i64 lo), [])) (y1 := (.lit (.int .u16 n), [])) (y2 := (.lit (.int .u16 m), [])) (y3 := (.lit (.int .i64 b), [])) Try.underlying43 (by kernel_rfl) (by kernel_rfl)
      ⟨1, by simp [DataW.trod, Try.underlying3, wl]⟩ ⟨1, by simp [DataW.trod, Try.underlying41, wn]⟩ ⟨1, by simp [DataW.trod, Try.underlying41, wm]⟩ ⟨1, by simp [DataW.trod, Try.underlying3, wb]⟩
  refine (walk lo n m b W (cellR_of wl) (u16R_of wn) (u16R_of wm)).mono fun e W' ⟨he, bel⟩ => ?_
  subst he
  exact ⟨_, rfl, _, _, _, [], _, [], hW', trodAll_mk1 (shut_bool Try.underlying4 _), trodAll_cons_mk (reads _ _) trodAll_mk0, rfl, bel.frame _, fun h => by cases h⟩

theorem over : Rows.aluWithinRow.holds Try.pinned (OpenSpec.ofChange Rows.aluWithinSpec) :=
  OpenClaim.holds_of_wide 9 Try.f9 rfl rfl rfl rfl rfl rfl rfl ⟨rfl, rfl, rfl, rfl, rfl⟩ rfl rfl rfl rfl rfl (by kernel_rfl) Try.func9 (by kernel_rfl)
    (of_decide_eq_true (by kernel_rfl)) (by unfold Func.isWrapper; first | (rw [if_pos (by decide +kernel)]; kernel_rfl) | (rw [if_neg (by decide +kernel)]; exact ⟨rfl, rfl⟩))
    (fun os started H enc _ => lifted os started H enc)

theorem proved : Rows.AluWithinSaid := over
#print axioms proved
end Go.Proofs.Ytncljldoioplaaa.aluWithin
