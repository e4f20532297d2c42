/- AluHolds: of two cells just one of below, the same, above is so, with a sign and without; the lesser and the greater one are both; a is b times the quotient, and the rest. No condition. -/
import Derived.Test.YtncljldoioplaaaAluMathB
import Derived.ProofKit
import Derived.Deep.Light
import Derived.OpenShut
import Derived.ShutString
import Derived.ChangeOld
import Derived.Below
namespace Go.Proofs.Ytncljldoioplaaa.aluHolds
open Go.ChangeShapes Go.WideShapes Go.ChangeAt Go.RowKit
set_option linter.unusedVariables false

theorem own : ownKnob Try.prog.godebug = none := by kernel_rfl

theorem yes_cell (c : Bool) : cellR (yes c) := by cases c <;> (unfold cellR; decide)
theorem inv_yes (c d : Bool) (h : c = !d) : -1 - yes d = yes c := by subst h; cases d <;> decide
theorem three (a b : Int) : wrap64 (wrap64 (yes (decide (a < b)) + yes (a == b)) + yes (decide (b < a))) = -1 := by
  rcases Int.lt_trichotomy a b with h | h | h
  · rw [decide_eq_true h, show (a == b) = false by simp; omega, decide_eq_false (by omega)]; decide +kernel
  · subst h
    rw [decide_eq_false (by omega), show (a == a) = true by simp]; decide +kernel
  · rw [decide_eq_false (by omega), show (a == b) = false by simp; omega, decide_eq_true h]; decide +kernel
theorem un_inj {a b : Int} (ha : cellR a) (hb : cellR b) (h : un a = un b) : a = b := by
  have := un_mod a
  have := un_mod b
  unfold cellR at *
  omega
theorem three_u (a b : Int) (ha : cellR a) (hb : cellR b) : wrap64 (wrap64 (yes (decide (un a < un b)) + yes (a == b)) + yes (decide (un b < un a))) = -1 := by
  rcases Nat.lt_trichotomy (un a) (un b) with h | h | h
  · rw [decide_eq_true h, show (a == b) = false by simp; intro e; subst e; omega, decide_eq_false (by omega)]; decide +kernel
  · have := un_inj ha hb h
    subst this
    rw [decide_eq_false (by omega), show (a == a) = true by simp]; decide +kernel
  · rw [decide_eq_false (by omega), show (a == b) = false by simp; intro e; subst e; omega, decide_eq_true h]; decide +kernel
theorem min_max (a b : Int) : (if b < a then b else a) + (if a < b then b else a) = a + b := by split <;> split <;> omega
theorem min_le (a b : Int) : (if b < a then b else a) ≤ (if a < b then b else a) := by split <;> split <;> omega

set_option maxRecDepth 100000 in
set_option maxHeartbeats 4000000 in
theorem core (a b L E G U V X Y Z m M q r c P : Int) (w : World) (hs : wrap64 (wrap64 (L + E) + G) = -1) (hu : wrap64 (wrap64 (U + E) + V) = -1) (hc : (c == -10) = (b == 0))
    (C1 : Hid (∀ w, Calls Try.prog 23 #[.string ⟨#[60]⟩, .int .i64 a, .int .i64 b] w fun e w' => e = .returned (.int .i64 L) ∧ Below w.heap.size w w'))
    (C2 : Hid (∀ w, Calls Try.prog 23 #[.string ⟨#[61]⟩, .int .i64 a, .int .i64 b] w fun e w' => e = .returned (.int .i64 E) ∧ Below w.heap.size w w'))
    (C3 : Hid (∀ w, Calls Try.prog 23 #[.string ⟨#[62]⟩, .int .i64 a, .int .i64 b] w fun e w' => e = .returned (.int .i64 G) ∧ Below w.heap.size w w'))
    (C4 : Hid (∀ w, Calls Try.prog 23 #[.string ⟨#[85, 60]⟩, .int .i64 a, .int .i64 b] w fun e w' => e = .returned (.int .i64 U) ∧ Below w.heap.size w w'))
    (C5 : Hid (∀ w, Calls Try.prog 23 #[.string ⟨#[85, 62]⟩, .int .i64 a, .int .i64 b] w fun e w' => e = .returned (.int .i64 V) ∧ Below w.heap.size w w'))
    (C6 : Hid (∀ w, Calls Try.prog 23 #[.string ⟨#[60, 61]⟩, .int .i64 a, .int .i64 b] w fun e w' => e = .returned (.int .i64 X) ∧ Below w.heap.size w w'))
    (C7 : Hid (∀ w, Calls Try.prog 22 #[.string ⟨#[73, 78, 86, 69, 82, 84]⟩, .int .i64 G] w fun e w' => e = .returned (.int .i64 X) ∧ Below w.heap.size w w'))
    (C8 : Hid (∀ w, Calls Try.prog 23 #[.string ⟨#[62, 61]⟩, .int .i64 a, .int .i64 b] w fun e w' => e = .returned (.int .i64 Y) ∧ Below w.heap.size w w'))
    (C9 : Hid (∀ w, Calls Try.prog 22 #[.string ⟨#[73, 78, 86, 69, 82, 84]⟩, .int .i64 L] w fun e w' => e = .returned (.int .i64 Y) ∧ Below w.heap.size w w'))
    (C10 : Hid (∀ w, Calls Try.prog 23 #[.string ⟨#[60, 62]⟩, .int .i64 a, .int .i64 b] w fun e w' => e = .returned (.int .i64 Z) ∧ Below w.heap.size w w'))
    (C11 : Hid (∀ w, Calls Try.prog 22 #[.string ⟨#[73, 78, 86, 69, 82, 84]⟩, .int .i64 E] w fun e w' => e = .returned (.int .i64 Z) ∧ Below w.heap.size w w'))
    (C12 : Hid (∀ w, Calls Try.prog 23 #[.string ⟨#[77, 73, 78]⟩, .int .i64 a, .int .i64 b] w fun e w' => e = .returned (.int .i64 m) ∧ Below w.heap.size w w'))
    (C13 : Hid (∀ w, Calls Try.prog 23 #[.string ⟨#[77, 65, 88]⟩, .int .i64 a, .int .i64 b] w fun e w' => e = .returned (.int .i64 M) ∧ Below w.heap.size w w'))
    (C14 : Hid (∀ w, Calls Try.prog 23 #[.string ⟨#[43]⟩, .int .i64 m, .int .i64 M] w fun e w' => e = .returned (.int .i64 (wrap64 (a + b))) ∧ Below w.heap.size w w'))
    (C15 : Hid (∀ w, Calls Try.prog 23 #[.string ⟨#[60, 61]⟩, .int .i64 m, .int .i64 M] w fun e w' => e = .returned (.int .i64 (-1)) ∧ Below w.heap.size w w'))
    (C16 : Hid (∀ w, Calls Try.prog 16 #[.string ⟨#[47]⟩, .int .i64 a, .int .i64 b] w fun e w' => e = .returned (.tuple #[.int .i64 q, .bool true, .int .i64 c]) ∧ Below w.heap.size w w'))
    (C17 : Hid (∀ w, Calls Try.prog 16 #[.string ⟨#[77, 79, 68]⟩, .int .i64 a, .int .i64 b] w fun e w' => e = .returned (.tuple #[.int .i64 r, .bool true, .int .i64 c]) ∧ Below w.heap.size w w'))
    (C18 : b = 0 ∨ Hid (∀ w, Calls Try.prog 23 #[.string ⟨#[42]⟩, .int .i64 q, .int .i64 b] w fun e w' => e = .returned (.int .i64 P) ∧ Below w.heap.size w w'))
    (C19 : b = 0 ∨ Hid (∀ w, Calls Try.prog 23 #[.string ⟨#[43]⟩, .int .i64 P, .int .i64 r] w fun e w' => e = .returned (.int .i64 a) ∧ Below w.heap.size w w')) :
    Calls Try.prog 6 #[.int .i64 a, .int .i64 b] w fun e w' => e = .returned (.bool true) ∧ Below w.heap.size w w' := by
  by_cases h0 : b = 0
  · clear C18 C19
    subst h0
    have hc' : (c == -10) = true := by rw [hc]; rfl
    clear hc
    go_enter Try.func6, Try.ntmps6
    go_wp2_with fail
    refine (shown_any _).mono ?_
    rintro e w1 ⟨rfl, b1⟩
    go_wp2_with ((first | go_at_call 22 | go_at_call 23 | go_at_call 16); ((with_reducible first | refine (C1.out _).mono ?_ | refine (C2.out _).mono ?_ | refine (C3.out _).mono ?_ | refine (C4.out _).mono ?_ | refine (C5.out _).mono ?_ | refine (C6.out _).mono ?_ | refine (C7.out _).mono ?_ | refine (C8.out _).mono ?_ | refine (C9.out _).mono ?_ | refine (C10.out _).mono ?_ | refine (C11.out _).mono ?_ | refine (C12.out _).mono ?_ | refine (C13.out _).mono ?_ | refine (C14.out _).mono ?_ | refine (C15.out _).mono ?_ | refine (C16.out _).mono ?_ | refine (C17.out _).mono ?_); rintro e w2 ⟨rfl, b2⟩; replace b1 := below_then b1 b2; clear b2))
    go_ret
    exact ⟨rfl, b1⟩
  · replace C18 := C18.resolve_left h0
    replace C19 := C19.resolve_left h0
    have z0 : (b == 0) = false := by simpa using h0
    have hc' : (c == -10) = false := by rw [hc, z0]
    clear hc h0
    go_enter Try.func6, Try.ntmps6
    go_wp2_with fail
    refine (shown_any _).mono ?_
    rintro e w1 ⟨rfl, b1⟩
    go_wp2_with ((first | go_at_call 22 | go_at_call 23 | go_at_call 16); ((with_reducible first | refine (C1.out _).mono ?_ | refine (C2.out _).mono ?_ | refine (C3.out _).mono ?_ | refine (C4.out _).mono ?_ | refine (C5.out _).mono ?_ | refine (C6.out _).mono ?_ | refine (C7.out _).mono ?_ | refine (C8.out _).mono ?_ | refine (C9.out _).mono ?_ | refine (C10.out _).mono ?_ | refine (C11.out _).mono ?_ | refine (C12.out _).mono ?_ | refine (C13.out _).mono ?_ | refine (C14.out _).mono ?_ | refine (C15.out _).mono ?_ | refine (C16.out _).mono ?_ | refine (C17.out _).mono ?_ | refine (C18.out _).mono ?_ | refine (C19.out _).mono ?_); rintro e w2 ⟨rfl, b2⟩; replace b1 := below_then b1 b2; clear b2))
    go_ret
    exact ⟨rfl, b1⟩

theorem walk (a b : Int) (w : World) (ha : cellR a) (hb : cellR b) :
    Calls Try.prog 6 #[.int .i64 a, .int .i64 b] w fun e w' => e = .returned (.bool true) ∧ Below w.heap.size w w' := by
  have hm : cellR (if b < a then b else a) := by split <;> assumption
  have hM : cellR (if a < b then b else a) := by split <;> assumption
  refine core a b (yes (decide (a < b))) (yes (a == b)) (yes (decide (b < a))) (yes (decide (un a < un b))) (yes (decide (un b < un a))) (yes (decide (a ≤ b))) (yes (decide (b ≤ a))) (yes (a != b)) (if b < a then b else a) (if a < b then b else a) (dq a b) (dr a b) (dc b) (wrap64 (dq a b * b)) w (three a b) (three_u a b ha hb) ?_
    (Lib.hid fun w => t_Lt a b w ha hb) (Lib.hid fun w => t_Eq a b w ha hb) (Lib.hid fun w => t_Gt a b w ha hb) (Lib.hid fun w => t_ULt a b w ha hb) (Lib.hid fun w => t_UGt a b w ha hb)
    (Lib.hid fun w => t_LtEq a b w ha hb) (Lib.hid fun w => ?_) (Lib.hid fun w => t_GtEq a b w ha hb) (Lib.hid fun w => ?_) (Lib.hid fun w => t_LtGt a b w ha hb) (Lib.hid fun w => ?_)
    (Lib.hid fun w => t_MIN a b w ha hb) (Lib.hid fun w => t_MAX a b w ha hb) (Lib.hid fun w => ?_) (Lib.hid fun w => ?_) (Lib.hid fun w => two_any ⟨#[47]⟩ a b w ha hb) (Lib.hid fun w => two_any ⟨#[77, 79, 68]⟩ a b w ha hb) ?_ ?_
  · unfold dc; split <;> simp_all
  · have c := o_INVERT (yes (decide (b < a))) w (yes_cell _)
    rw [inv_yes (decide (a ≤ b)) _ (by by_cases h : b < a <;> simp [h] <;> omega)] at c
    exact c
  · have c := o_INVERT (yes (decide (a < b))) w (yes_cell _)
    rw [inv_yes (decide (b ≤ a)) _ (by by_cases h : a < b <;> simp [h] <;> omega)] at c
    exact c
  · have c := o_INVERT (yes (a == b)) w (yes_cell _)
    rw [inv_yes (a != b) _ rfl] at c
    exact c
  · have c := t_Plus _ _ w hm hM
    rw [min_max] at c
    exact c
  · have c := t_LtEq _ _ w hm hM
    rw [decide_eq_true (min_le a b)] at c
    exact c
  · refine Or.inr (Lib.hid fun w => t_Star _ _ w (dq_cell a b) hb)
  · by_cases h : b = 0
    · exact Or.inl h
    · refine Or.inr (Lib.hid fun w => ?_)
      have c := t_Plus _ _ w (cellR_wrap (dq a b * b)) (dr_cell a b hb)
      rw [parts_sum a b ha h] at c
      exact c

set_option maxRecDepth 100000 in
theorem lifted (os : Os) (started : os.Started) (H : Type) (enc : TypeId × Value → H) :
    ReturnsInHanded {} Try.checked os 6 .any (Rows.aluHoldsSpec.pre6 enc Try.prog Try.f6 Rows.aluHoldsRow.domain false) (Rows.aluHoldsSpec.post enc Try.prog Try.f6 false true false false) := by
  refine returnsInHanded_of_change (C := Try.checked) own started (by kernel_rfl) Try.func6
    (ChangeSpec.witness6 (enc := enc) (C := Try.checked) false ⟨#[], #[.int .i64 0, .int .i64 0], []⟩ 8 (by kernel_rfl) (by kernel_rfl) (by kernel_rfl) (by kernel_rfl)) ?_
  intro W base args ds gs before hval0 hW hcnd _
  have hval : ∀ (j : Nat) t v, Try.f6.params[j]? = some t → args[j]? = some v → Value.okWide Try.prog W .any base t v := hval0
  have hW' := hW
  obtain ⟨p, q, hA0, hV, rfl, hfz, hnd⟩ := hW
  have hA : DataW.TrodAll enc Try.prog W 0 (fun _ => true) true Try.f6.params.toList args.toList ds p := hA0
  rw [Try.params6] at hA hval
  obtain ⟨v0, vs0, d0, ds0, p0, q0, hargs, rfl, rfl, h0, r0⟩ := trodAll_cons hA
  obtain ⟨v1, vs1, d1, ds1, p1, q1, rfl, rfl, rfl, h1, r1⟩ := trodAll_cons r0
  obtain ⟨rfl, rfl, rfl⟩ := trodAll_nil r1
  obtain rfl : args = #[v0, v1] := by cases args; simp_all
  obtain ⟨rfl, rfl⟩ := trodVars_none hV
  obtain ⟨a0, rfl, rfl, rfl, w0⟩ := open_int Try.underlying3 (hval 0 3 v0 rfl rfl) h0
  obtain ⟨a1, rfl, rfl, rfl, w1⟩ := open_int Try.underlying3 (hval 1 3 v1 rfl rfl) h1
  clear hA0 hval0
  refine (walk a0 a1 W (cellR_of w0) (cellR_of w1)).mono fun e W' ⟨he, bel⟩ => ?_
  subst he
  exact ⟨_, rfl, _, _, _, [], _, [], hW', trodAll_mk1 (shut_bool Try.underlying4 _), (trodAll_cons_mk (shut_int Try.underlying3 w0) (trodAll_cons_mk (shut_int Try.underlying3 w1) trodAll_mk0)), rfl, bel.frame _, fun h => by cases h⟩

theorem over : Rows.aluHoldsRow.holds Try.pinned (OpenSpec.ofChange Rows.aluHoldsSpec) :=
  OpenClaim.holds_of_wide 6 Try.f6 rfl rfl rfl rfl rfl rfl rfl ⟨rfl, rfl, rfl, rfl, rfl⟩ rfl rfl rfl rfl rfl (by kernel_rfl) Try.func6 (by kernel_rfl)
    (of_decide_eq_true (by kernel_rfl)) (by unfold Func.isWrapper; first | (rw [if_pos (by decide +kernel)]; kernel_rfl) | (rw [if_neg (by decide +kernel)]; exact ⟨rfl, rfl⟩))
    (fun os started H enc _ => lifted os started H enc)

theorem proved : Rows.AluHoldsSaid := over
#print axioms proved
end Go.Proofs.Ytncljldoioplaaa.aluHolds
