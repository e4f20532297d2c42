/- AluCounts: a loop by 1 from i to a greater limit goes limit - i times; by -1 from a greater index to a limit, index - limit and one more. No condition. -/
import Derived.Test.YtncljldoioplaaaAluUse
import Derived.ProofKit
import Derived.Deep.Light
import Derived.OpenShut
import Derived.ShutString
import Derived.ChangeOld
import Derived.Below
namespace Go.Proofs.Ytncljldoioplaaa.aluCounts
open Go.ChangeShapes Go.WideShapes Go.ChangeAt Go.RowKit
set_option linter.unusedVariables false

theorem own : ownKnob Try.prog.godebug = none := by kernel_rfl

theorem byteR_of {n : Int} (h : (Lit.int .u8 n).wf = true) : 0 ≤ n ∧ n ≤ 255 := by
  simp only [Lit.wf, IntKind.min, IntKind.max, IntKind.signed, IntKind.bits, Bool.and_eq_true, decide_eq_true_eq] at h
  simp at h
  omega

theorem up_step (i B t : Int) (w : World) (hi : -9000000000000000000 ≤ i ∧ i ≤ 9000000000000000000) (hB : 0 ≤ B ∧ B ≤ 255) (ht : 0 ≤ t ∧ t < 1 + B) :
    Calls Try.prog 18 #[.int .i64 (i + t), .int .i64 (i + (1 + B)), .int .i64 1] w fun e w' => e = .returned (.tuple #[.int .i64 (i + (t + 1)), .bool (decide (t + 1 = 1 + B))]) ∧ w = w' := by
  have c := step_any (i + t) (i + (1 + B)) 1 w (by unfold cellR; omega)
  have e1 : wrap64 (i + t + 1) = i + (t + 1) := by unfold wrap64; omega
  have e2 : stepB (i + t) (i + (1 + B)) 1 = decide (t + 1 = 1 + B) := by
    have e3 : wrap64 (i + t - (i + (1 + B))) = t - (1 + B) := by unfold wrap64; omega
    unfold stepB
    rw [e3, if_pos (by omega), decide_eq_true (by omega : t - (1 + B) < 0), Bool.true_and]
    by_cases h : t + 1 = 1 + B
    · rw [decide_eq_true h, decide_eq_true (by omega)]
    · rw [decide_eq_false h, decide_eq_false (by omega)]
  rw [e1, e2] at c
  exact c
theorem down_step (i B t : Int) (w : World) (hi : -9000000000000000000 ≤ i ∧ i ≤ 9000000000000000000) (hB : 0 ≤ B ∧ B ≤ 255) (ht : 0 ≤ t ∧ t < 2 + B) :
    Calls Try.prog 18 #[.int .i64 (i + (1 + B) - t), .int .i64 i, .int .i64 (-1)] w fun e w' => e = .returned (.tuple #[.int .i64 (i + (1 + B) - (t + 1)), .bool (decide (t + 1 = 2 + B))]) ∧ w = w' := by
  have c := step_any (i + (1 + B) - t) i (-1) w (by unfold cellR; omega)
  have e1 : wrap64 (i + (1 + B) - t + -1) = i + (1 + B) - (t + 1) := by unfold wrap64; omega
  have e2 : stepB (i + (1 + B) - t) i (-1) = decide (t + 1 = 2 + B) := by
    have e3 : wrap64 (i + (1 + B) - t - i) = 1 + B - t := by unfold wrap64; omega
    unfold stepB
    rw [e3, if_neg (by omega), decide_eq_true (by omega : 0 ≤ 1 + B - t), Bool.true_and]
    by_cases h : t + 1 = 2 + B
    · rw [decide_eq_true h, decide_eq_true (by omega)]
    · rw [decide_eq_false h, decide_eq_false (by omega)]
  rw [e1, e2] at c
  exact c

set_option maxRecDepth 100000 in
set_option maxHeartbeats 4000000 in
theorem near (i B : Int) (w : World) (h1 : i ≤ 9000000000000000000) (h2 : -9000000000000000000 ≤ i) (hB0 : 0 ≤ B) (hB : B ≤ 255) :
    Calls Try.prog 8 #[.int .i64 i, .int .u8 B] w fun e w' => e = .returned (.bool true) ∧ Below w.heap.size w w' := by
  go_enter Try.func8, Try.ntmps8
  go_wp2_with fail
  refine (shown_any _).mono ?_
  rintro e w1 ⟨rfl, b1⟩
  go_wp2
  go_loop [7, 8, 9] (fun x o t => ∃ (n : Int) (b : Bool), 0 ≤ n ∧ n ≤ 1 + B ∧ x = .int .i64 (i + n) ∧ o = .bool b ∧ t = .int .i64 n ∧ Hid (b = decide (n = 1 + B))) (fun _ _ t => 300 - (intOf t).toNat)
  case atStart => exact ⟨0, false, by omega, by omega, by simp, rfl, rfl, Lib.hid (by symm; rw [decide_eq_false_iff_not]; omega)⟩
  case round =>
    obtain ⟨n, b, hn0, hn1, rfl, rfl, rfl, HD⟩ := hrel
    cases b
    · have hlt : n < 1 + B := by have := HD.out; simp at this; omega
      have C := Lib.hid (fun w => up_step i B n w ⟨h2, h1⟩ ⟨hB0, hB⟩ ⟨hn0, hlt⟩)
      clear HD
      go_wp2_with (go_at_call 18; ((refine (C.out _).mono ?_); rintro e w2 ⟨rfl, rfl⟩))
      go_round
      case rel => exact ⟨n + 1, decide (n + 1 = 1 + B), by omega, by omega, rfl, rfl, rfl, Lib.hid rfl⟩
      case measure => simp [intOf]; omega
    · have he : n = 1 + B := by have := HD.out; simp at this; omega
      clear HD
      subst he
      go_wp2
      go_loop [10, 11, 12] (fun x o t => ∃ (n : Int) (b : Bool), 0 ≤ n ∧ n ≤ 2 + B ∧ x = .int .i64 (i + (1 + B) - n) ∧ o = .bool b ∧ t = .int .i64 n ∧ Hid (b = decide (n = 2 + B))) (fun _ _ t => 300 - (intOf t).toNat)
      case atStart => exact ⟨0, false, by omega, by omega, by simp, rfl, rfl, Lib.hid (by symm; rw [decide_eq_false_iff_not]; omega)⟩
      case round =>
        obtain ⟨n, b, hn0, hn1, rfl, rfl, rfl, HD⟩ := hrel
        cases b
        · have hlt : n < 2 + B := by have := HD.out; simp at this; omega
          have C := Lib.hid (fun w => down_step i B n w ⟨h2, h1⟩ ⟨hB0, hB⟩ ⟨hn0, hlt⟩)
          clear HD
          go_wp2_with (go_at_call 18; ((refine (C.out _).mono ?_); rintro e w2 ⟨rfl, rfl⟩))
          go_round
          case rel => exact ⟨n + 1, decide (n + 1 = 2 + B), by omega, by omega, rfl, rfl, rfl, Lib.hid rfl⟩
          case measure => simp [intOf]; omega
        · have he : n = 2 + B := by have := HD.out; simp at this; omega
          clear HD
          subst he
          go_wp2
          go_ret
          exact ⟨ret_bool (by simp; omega), b1⟩

set_option maxRecDepth 100000 in
set_option maxHeartbeats 4000000 in
theorem far (i B : Int) (w : World) (h : 9000000000000000000 < i ∨ i < -9000000000000000000) :
    Calls Try.prog 8 #[.int .i64 i, .int .u8 B] w fun e w' => e = .returned (.bool true) ∧ Below w.heap.size w w' := by
  by_cases h1 : 9000000000000000000 < i
  · clear h
    go_enter Try.func8, Try.ntmps8
    go_wp2_with fail
    refine (shown_any _).mono ?_
    rintro e w1 ⟨rfl, b1⟩
    go_wp2
    go_ret
    exact ⟨rfl, b1⟩
  · have h2 : i < -9000000000000000000 := by omega
    clear h
    go_enter Try.func8, Try.ntmps8
    go_wp2_with fail
    refine (shown_any _).mono ?_
    rintro e w1 ⟨rfl, b1⟩
    go_wp2
    go_ret
    exact ⟨rfl, b1⟩

theorem walk (i B : Int) (w : World) (_hi : cellR i) (hB : 0 ≤ B ∧ B ≤ 255) :
    Calls Try.prog 8 #[.int .i64 i, .int .u8 B] w fun e w' => e = .returned (.bool true) ∧ Below w.heap.size w w' := by
  by_cases h : 9000000000000000000 < i ∨ i < -9000000000000000000
  · exact far i B w h
  · exact near i B w (by omega) (by omega) hB.1 hB.2

set_option maxRecDepth 100000 in
theorem lifted (os : Os) (started : os.Started) (H : Type) (enc : TypeId × Value → H) :
    ReturnsInHanded {} Try.checked os 8 .any (Rows.aluCountsSpec.pre6 enc Try.prog Try.f8 Rows.aluCountsRow.domain false) (Rows.aluCountsSpec.post enc Try.prog Try.f8 false true false false) := by
  refine returnsInHanded_of_change (C := Try.checked) own started (by kernel_rfl) Try.func8
    (ChangeSpec.witness6 (enc := enc) (C := Try.checked) false ⟨#[], #[.int .i64 0, .int .u8 0], []⟩ 8 (by kernel_rfl) (by kernel_rfl) (by kernel_rfl) (by kernel_rfl)) ?_
  intro W base args ds gs before hval0 hW hcnd _
  have hval : ∀ (j : Nat) t v, Try.f8.params[j]? = some t → args[j]? = some v → Value.okWide Try.prog W .any base t v := hval0
  have hW' := hW
  obtain ⟨p, q, hA0, hV, rfl, hfz, hnd⟩ := hW
  have hA : DataW.TrodAll enc Try.prog W 0 (fun _ => true) true Try.f8.params.toList args.toList ds p := hA0
  rw [Try.params8] at hA hval
  obtain ⟨v0, vs0, d0, ds0, p0, q0, hargs, rfl, rfl, h0, r0⟩ := trodAll_cons hA
  obtain ⟨v1, vs1, d1, ds1, p1, q1, rfl, rfl, rfl, h1, r1⟩ := trodAll_cons r0
  obtain ⟨rfl, rfl, rfl⟩ := trodAll_nil r1
  obtain rfl : args = #[v0, v1] := by cases args; simp_all
  obtain ⟨rfl, rfl⟩ := trodVars_none hV
  obtain ⟨a0, rfl, rfl, rfl, w0⟩ := open_int Try.underlying3 (hval 0 3 v0 rfl rfl) h0
  obtain ⟨a1, rfl, rfl, rfl, w1⟩ := open_int Try.underlying5 (hval 1 5 v1 rfl rfl) h1
  clear hA0 hval0
  refine (walk a0 a1 W (cellR_of w0) (byteR_of w1)).mono fun e W' ⟨he, bel⟩ => ?_
  subst he
  exact ⟨_, rfl, _, _, _, [], _, [], hW', trodAll_mk1 (shut_bool Try.underlying4 _), (trodAll_cons_mk (shut_int Try.underlying3 w0) (trodAll_cons_mk (shut_int Try.underlying5 w1) trodAll_mk0)), rfl, bel.frame _, fun h => by cases h⟩

theorem over : Rows.aluCountsRow.holds Try.pinned (OpenSpec.ofChange Rows.aluCountsSpec) :=
  OpenClaim.holds_of_wide 8 Try.f8 rfl rfl rfl rfl rfl rfl rfl ⟨rfl, rfl, rfl, rfl, rfl⟩ rfl rfl rfl rfl rfl (by kernel_rfl) Try.func8 (by kernel_rfl)
    (of_decide_eq_true (by kernel_rfl)) (by unfold Func.isWrapper; first | (rw [if_pos (by decide +kernel)]; kernel_rfl) | (rw [if_neg (by decide +kernel)]; exact ⟨rfl, rfl⟩))
    (fun os started H enc _ => lifted os started H enc)

theorem proved : Rows.AluCountsSaid := over
#print axioms proved
end Go.Proofs.Ytncljldoioplaaa.aluCounts
