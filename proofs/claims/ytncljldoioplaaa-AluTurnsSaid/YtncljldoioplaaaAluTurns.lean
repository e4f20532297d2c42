/- AluTurns: for every cell, what is negated or inverted twice is itself, a number and its other one are 0, half of twice is it, an aligned cell is a multiple of 8 and near. No condition. -/
import Derived.Test.YtncljldoioplaaaAluUse
import Derived.ProofKit
import Derived.OpenShut
import Derived.ShutString
import Derived.ChangeOld
import Derived.Below
namespace Go.Proofs.Ytncljldoioplaaa.aluTurns
open Go.ChangeShapes Go.WideShapes Go.ChangeAt Go.RowKit
set_option linter.unusedVariables false

theorem own : ownKnob Try.prog.godebug = none := by kernel_rfl

theorem neg2 (a : Int) (ha : cellR a) : wrap64 (-wrap64 (-a)) = a := by unfold cellR at ha; unfold wrap64; omega
theorem neg_sum (a : Int) : wrap64 (a + wrap64 (-a)) = 0 := by unfold wrap64; omega
theorem half2 (a : Int) (h : -4611686018427387904 ≤ a ∧ a < 4611686018427387904) : wrap64 (a + a) / 2 = a := by unfold wrap64; omega
theorem al_near (a : Int) (ha : cellR a) : 0 ≤ wrap64 (wrap64 ((a + 7) / 8 * 8) - a) ∧ wrap64 (wrap64 ((a + 7) / 8 * 8) - a) < 8 := by unfold cellR at ha; unfold wrap64; omega
theorem al_low (a : Int) : bits .and .i64 (wrap64 ((a + 7) / 8 * 8)) 7 = 0 := by
  rw [bits_and, show bv 7 = 7#64 by decide, ← wrap_toNat, and7, bv_un]
  have := un_mod (wrap64 ((a + 7) / 8 * 8))
  unfold wrap64 at *
  omega
theorem up_down (a : Int) (ha : cellR a) : wrap64 (wrap64 (a + 1) - 1) = a := by unfold cellR at ha; unfold wrap64; omega

set_option maxRecDepth 100000 in
set_option maxHeartbeats 4000000 in
theorem core (a x d n i t p : Int) (w : World) (hd : 0 ≤ d) (hd' : d < 8)
    (C1 : Hid (∀ w, Calls Try.prog 22 #[.string ⟨#[65, 76, 73, 71, 78, 69, 68]⟩, .int .i64 a] w fun e w' => e = .returned (.int .i64 x) ∧ Below w.heap.size w w'))
    (C2 : Hid (∀ w, Calls Try.prog 23 #[.string ⟨#[45]⟩, .int .i64 x, .int .i64 a] w fun e w' => e = .returned (.int .i64 d) ∧ Below w.heap.size w w'))
    (C3 : Hid (∀ w, Calls Try.prog 22 #[.string ⟨#[78, 69, 71, 65, 84, 69]⟩, .int .i64 a] w fun e w' => e = .returned (.int .i64 n) ∧ Below w.heap.size w w'))
    (C4 : Hid (∀ w, Calls Try.prog 22 #[.string ⟨#[78, 69, 71, 65, 84, 69]⟩, .int .i64 n] w fun e w' => e = .returned (.int .i64 a) ∧ Below w.heap.size w w'))
    (C5 : Hid (∀ w, Calls Try.prog 22 #[.string ⟨#[73, 78, 86, 69, 82, 84]⟩, .int .i64 a] w fun e w' => e = .returned (.int .i64 i) ∧ Below w.heap.size w w'))
    (C6 : Hid (∀ w, Calls Try.prog 22 #[.string ⟨#[73, 78, 86, 69, 82, 84]⟩, .int .i64 i] w fun e w' => e = .returned (.int .i64 a) ∧ Below w.heap.size w w'))
    (C7 : Hid (∀ w, Calls Try.prog 23 #[.string ⟨#[43]⟩, .int .i64 a, .int .i64 n] w fun e w' => e = .returned (.int .i64 0) ∧ Below w.heap.size w w'))
    (C8 : Hid (∀ w, Calls Try.prog 22 #[.string ⟨#[50, 42]⟩, .int .i64 a] w fun e w' => e = .returned (.int .i64 t) ∧ Below w.heap.size w w'))
    (C9 : 4611686018427387904 ≤ a ∨ a < -4611686018427387904 ∨ Hid (∀ w, Calls Try.prog 22 #[.string ⟨#[50, 47]⟩, .int .i64 t] w fun e w' => e = .returned (.int .i64 a) ∧ Below w.heap.size w w'))
    (C10 : Hid (∀ w, Calls Try.prog 23 #[.string ⟨#[65, 78, 68]⟩, .int .i64 x, .int .i64 7] w fun e w' => e = .returned (.int .i64 0) ∧ Below w.heap.size w w'))
    (C11 : Hid (∀ w, Calls Try.prog 22 #[.string ⟨#[49, 43]⟩, .int .i64 a] w fun e w' => e = .returned (.int .i64 p) ∧ Below w.heap.size w w'))
    (C12 : Hid (∀ w, Calls Try.prog 22 #[.string ⟨#[49, 45]⟩, .int .i64 p] w fun e w' => e = .returned (.int .i64 a) ∧ Below w.heap.size w w')) :
    Calls Try.prog 5 #[.int .i64 a] w fun e w' => e = .returned (.bool true) ∧ Below w.heap.size w w' := by
  by_cases h1 : 4611686018427387904 ≤ a
  · clear C9
    go_enter Try.func5, Try.ntmps5
    go_wp2_with fail
    refine (shown_any _).mono ?_
    rintro e w1 ⟨rfl, b1⟩
    go_wp2_with ((first | go_at_call 22 | go_at_call 23); ((with_reducible first | refine (C1.out _).mono ?_ | refine (C2.out _).mono ?_ | refine (C3.out _).mono ?_ | refine (C4.out _).mono ?_ | refine (C5.out _).mono ?_ | refine (C6.out _).mono ?_ | refine (C7.out _).mono ?_ | refine (C8.out _).mono ?_ | refine (C10.out _).mono ?_ | refine (C11.out _).mono ?_ | refine (C12.out _).mono ?_); rintro e w2 ⟨rfl, b2⟩; replace b1 := below_then b1 b2; clear b2))
    go_ret
    exact ⟨rfl, b1⟩
  · by_cases h2 : a < -4611686018427387904
    · clear C9
      go_enter Try.func5, Try.ntmps5
      go_wp2_with fail
      refine (shown_any _).mono ?_
      rintro e w1 ⟨rfl, b1⟩
      go_wp2_with ((first | go_at_call 22 | go_at_call 23); ((with_reducible first | refine (C1.out _).mono ?_ | refine (C2.out _).mono ?_ | refine (C3.out _).mono ?_ | refine (C4.out _).mono ?_ | refine (C5.out _).mono ?_ | refine (C6.out _).mono ?_ | refine (C7.out _).mono ?_ | refine (C8.out _).mono ?_ | refine (C10.out _).mono ?_ | refine (C11.out _).mono ?_ | refine (C12.out _).mono ?_); rintro e w2 ⟨rfl, b2⟩; replace b1 := below_then b1 b2; clear b2))
      go_ret
      exact ⟨rfl, b1⟩
    · replace C9 := (C9.resolve_left h1).resolve_left h2
      go_enter Try.func5, Try.ntmps5
      go_wp2_with fail
      refine (shown_any _).mono ?_
      rintro e w1 ⟨rfl, b1⟩
      go_wp2_with ((first | go_at_call 22 | go_at_call 23); ((with_reducible first | refine (C1.out _).mono ?_ | refine (C2.out _).mono ?_ | refine (C3.out _).mono ?_ | refine (C4.out _).mono ?_ | refine (C5.out _).mono ?_ | refine (C6.out _).mono ?_ | refine (C7.out _).mono ?_ | refine (C8.out _).mono ?_ | refine (C9.out _).mono ?_ | refine (C10.out _).mono ?_ | refine (C11.out _).mono ?_ | refine (C12.out _).mono ?_); rintro e w2 ⟨rfl, b2⟩; replace b1 := below_then b1 b2; clear b2))
      go_ret
      exact ⟨rfl, b1⟩

theorem walk (a : Int) (w : World) (ha : cellR a) :
    Calls Try.prog 5 #[.int .i64 a] w fun e w' => e = .returned (.bool true) ∧ Below w.heap.size w w' := by
  have hi : cellR (-1 - a) := by unfold cellR at *; omega
  refine core a (wrap64 ((a + 7) / 8 * 8)) (wrap64 (wrap64 ((a + 7) / 8 * 8) - a)) (wrap64 (-a)) (-1 - a) (wrap64 (a + a)) (wrap64 (a + 1)) w (al_near a ha).1 (al_near a ha).2
    (Lib.hid fun w => o_ALIGNED a w ha) (Lib.hid fun w => t_Minus _ _ w (cellR_wrap _) ha) (Lib.hid fun w => o_NEGATE a w ha) (Lib.hid fun w => ?_) (Lib.hid fun w => o_INVERT a w ha) (Lib.hid fun w => ?_) (Lib.hid fun w => ?_) (Lib.hid fun w => o_2Star a w ha) ?_ (Lib.hid fun w => ?_) (Lib.hid fun w => o_1Plus a w ha) (Lib.hid fun w => ?_)
  · have c := o_NEGATE (wrap64 (-a)) w (cellR_wrap _)
    rw [neg2 a ha] at c
    exact c
  · have c := o_INVERT (-1 - a) w hi
    rw [show -1 - (-1 - a) = a by omega] at c
    exact c
  · have c := t_Plus a (wrap64 (-a)) w ha (cellR_wrap _)
    rw [neg_sum] at c
    exact c
  · by_cases h1 : 4611686018427387904 ≤ a
    · exact Or.inl h1
    · by_cases h2 : a < -4611686018427387904
      · exact Or.inr (Or.inl h2)
      · refine Or.inr (Or.inr (Lib.hid fun w => ?_))
        have c := o_2Slash (wrap64 (a + a)) w (cellR_wrap _)
        rw [half2 a (by omega)] at c
        exact c
  · have c := t_AND (wrap64 ((a + 7) / 8 * 8)) 7 w (cellR_wrap _) (by unfold cellR; omega)
    rw [al_low] at c
    exact c
  · have c := o_1Minus (wrap64 (a + 1)) w (cellR_wrap _)
    rw [up_down a ha] at c
    exact c

set_option maxRecDepth 100000 in
theorem lifted (os : Os) (started : os.Started) (H : Type) (enc : TypeId × Value → H) :
    ReturnsInHanded {} Try.checked os 5 .any (Rows.aluTurnsSpec.pre6 enc Try.prog Try.f5 Rows.aluTurnsRow.domain false) (Rows.aluTurnsSpec.post enc Try.prog Try.f5 false true false false) := by
  refine returnsInHanded_of_change (C := Try.checked) own started (by kernel_rfl) Try.func5
    (ChangeSpec.witness6 (enc := enc) (C := Try.checked) false ⟨#[], #[.int .i64 0], []⟩ 8 (by kernel_rfl) (by kernel_rfl) (by kernel_rfl) (by kernel_rfl)) ?_
  intro W base args ds gs before hval0 hW hcnd _
  have hval : ∀ (j : Nat) t v, Try.f5.params[j]? = some t → args[j]? = some v → Value.okWide Try.prog W .any base t v := hval0
  have hW' := hW
  obtain ⟨p, q, hA0, hV, rfl, hfz, hnd⟩ := hW
  have hA : DataW.TrodAll enc Try.prog W 0 (fun _ => true) true Try.f5.params.toList args.toList ds p := hA0
  rw [Try.params5] at hA hval
  obtain ⟨v0, vs0, d0, ds0, p0, q0, hargs, rfl, rfl, h0, r0⟩ := trodAll_cons hA
  obtain ⟨rfl, rfl, rfl⟩ := trodAll_nil r0
  obtain rfl : args = #[v0] := by cases args; simp_all
  obtain ⟨rfl, rfl⟩ := trodVars_none hV
  obtain ⟨a0, rfl, rfl, rfl, w0⟩ := open_int Try.underlying3 (hval 0 3 v0 rfl rfl) h0
  clear hA0 hval0
  refine (walk a0 W (cellR_of w0)).mono fun e W' ⟨he, bel⟩ => ?_
  subst he
  exact ⟨_, rfl, _, _, _, [], _, [], hW', trodAll_mk1 (shut_bool Try.underlying4 _), (trodAll_cons_mk (shut_int Try.underlying3 w0) trodAll_mk0), rfl, bel.frame _, fun h => by cases h⟩

theorem over : Rows.aluTurnsRow.holds Try.pinned (OpenSpec.ofChange Rows.aluTurnsSpec) :=
  OpenClaim.holds_of_wide 5 Try.f5 rfl rfl rfl rfl rfl rfl rfl ⟨rfl, rfl, rfl, rfl, rfl⟩ rfl rfl rfl rfl rfl (by kernel_rfl) Try.func5 (by kernel_rfl)
    (of_decide_eq_true (by kernel_rfl)) (by unfold Func.isWrapper; first | (rw [if_pos (by decide +kernel)]; kernel_rfl) | (rw [if_neg (by decide +kernel)]; exact ⟨rfl, rfl⟩))
    (fun os started H enc _ => lifted os started H enc)

theorem proved : Rows.AluTurnsSaid := over
#print axioms proved
end Go.Proofs.Ytncljldoioplaaa.aluTurns
