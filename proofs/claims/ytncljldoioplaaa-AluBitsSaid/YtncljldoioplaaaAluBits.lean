/- AluBits: and, or, and xor of two cells are a sum together; shifted up and down again the low bits are left. No condition. -/
import Derived.Test.YtncljldoioplaaaAluMathB
import Derived.ProofKit
import Derived.Deep.Light
import Derived.OpenShut
import Derived.ShutString
import Derived.ChangeOld
import Derived.Below
namespace Go.Proofs.Ytncljldoioplaaa.aluBits
open Go.ChangeShapes Go.WideShapes Go.ChangeAt Go.RowKit
set_option linter.unusedVariables false

theorem own : ownKnob Try.prog.godebug = none := by kernel_rfl

theorem byteR_of {n : Int} (h : (Lit.int .u8 n).wf = true) : 0 ≤ n ∧ n ≤ 255 := by
  simp only [Lit.wf, IntKind.min, IntKind.max, IntKind.signed, IntKind.bits, Bool.and_eq_true, decide_eq_true_eq] at h
  simp at h
  omega

set_option maxRecDepth 100000 in
set_option maxHeartbeats 4000000 in
theorem core (a b B k s low mask A O X : Int) (w : World) (hB0 : 0 ≤ B) (hB : B ≤ 255) (hk : B.tmod 64 = k) 
    (C1 : Hid (∀ w, Calls Try.prog 23 #[.string ⟨#[76, 83, 72, 73, 70, 84]⟩, .int .i64 a, .int .i64 k] w fun e w' => e = .returned (.int .i64 s) ∧ Below w.heap.size w w'))
    (C2 : Hid (∀ w, Calls Try.prog 23 #[.string ⟨#[82, 83, 72, 73, 70, 84]⟩, .int .i64 s, .int .i64 k] w fun e w' => e = .returned (.int .i64 low) ∧ Below w.heap.size w w'))
    (C3 : Hid (∀ w, Calls Try.prog 23 #[.string ⟨#[82, 83, 72, 73, 70, 84]⟩, .int .i64 (-1), .int .i64 k] w fun e w' => e = .returned (.int .i64 mask) ∧ Below w.heap.size w w'))
    (C4 : Hid (∀ w, Calls Try.prog 23 #[.string ⟨#[65, 78, 68]⟩, .int .i64 a, .int .i64 b] w fun e w' => e = .returned (.int .i64 A) ∧ Below w.heap.size w w'))
    (C5 : Hid (∀ w, Calls Try.prog 23 #[.string ⟨#[79, 82]⟩, .int .i64 a, .int .i64 b] w fun e w' => e = .returned (.int .i64 O) ∧ Below w.heap.size w w'))
    (C6 : Hid (∀ w, Calls Try.prog 23 #[.string ⟨#[43]⟩, .int .i64 A, .int .i64 O] w fun e w' => e = .returned (.int .i64 (wrap64 (a + b))) ∧ Below w.heap.size w w'))
    (C7 : Hid (∀ w, Calls Try.prog 23 #[.string ⟨#[45]⟩, .int .i64 O, .int .i64 A] w fun e w' => e = .returned (.int .i64 X) ∧ Below w.heap.size w w'))
    (C8 : Hid (∀ w, Calls Try.prog 23 #[.string ⟨#[88, 79, 82]⟩, .int .i64 a, .int .i64 b] w fun e w' => e = .returned (.int .i64 X) ∧ Below w.heap.size w w'))
    (C9 : Hid (∀ w, Calls Try.prog 23 #[.string ⟨#[65, 78, 68]⟩, .int .i64 a, .int .i64 mask] w fun e w' => e = .returned (.int .i64 low) ∧ Below w.heap.size w w'))
    (C10 : Hid (∀ w, Calls Try.prog 23 #[.string ⟨#[76, 83, 72, 73, 70, 84]⟩, .int .i64 a, .int .i64 (64 + B)] w fun e w' => e = .returned (.int .i64 0) ∧ Below w.heap.size w w'))
    (C11 : Hid (∀ w, Calls Try.prog 23 #[.string ⟨#[82, 83, 72, 73, 70, 84]⟩, .int .i64 a, .int .i64 (-1 - B)] w fun e w' => e = .returned (.int .i64 0) ∧ Below w.heap.size w w')) :
    Calls Try.prog 7 #[.int .i64 a, .int .i64 b, .int .u8 B] w fun e w' => e = .returned (.bool true) ∧ Below w.heap.size w w' := by
  go_enter Try.func7, Try.ntmps7
  go_wp2_with fail
  refine (shown_any _).mono ?_
  rintro e w1 ⟨rfl, b1⟩
  go_wp2_with ((first | go_at_call 22 | go_at_call 23); ((with_reducible first | refine (C1.out _).mono ?_ | refine (C2.out _).mono ?_ | refine (C3.out _).mono ?_ | refine (C4.out _).mono ?_ | refine (C5.out _).mono ?_ | refine (C6.out _).mono ?_ | refine (C7.out _).mono ?_ | refine (C8.out _).mono ?_ | refine (C9.out _).mono ?_ | refine (C10.out _).mono ?_ | refine (C11.out _).mono ?_); rintro e w2 ⟨rfl, b2⟩; replace b1 := below_then b1 b2; clear b2))
  go_ret
  exact ⟨rfl, b1⟩

theorem walk (a b B : Int) (w : World) (ha : cellR a) (hb : cellR b) (hB : 0 ≤ B ∧ B ≤ 255) :
    Calls Try.prog 7 #[.int .i64 a, .int .i64 b, .int .u8 B] w fun e w' => e = .returned (.bool true) ∧ Below w.heap.size w w' := by
  obtain ⟨n, rfl⟩ : ∃ n : Nat, B = n := ⟨B.toNat, by omega⟩
  have hk : ((n : Int)).tmod 64 = ((n % 64 : Nat) : Int) := rfl
  have hk63 : n % 64 ≤ 63 := by omega
  have kc : cellR ((n % 64 : Nat) : Int) := by unfold cellR; omega
  have mc : cellR (-1) := by unfold cellR; omega
  have hu := un_mod (64 + (n : Int))
  have hv := un_mod (-1 - (n : Int))
  refine core a b n ((n % 64 : Nat) : Int) (shl a ((n % 64 : Nat) : Int)) (shr (shl a ((n % 64 : Nat) : Int)) ((n % 64 : Nat) : Int)) (shr (-1) ((n % 64 : Nat) : Int)) (bits .and .i64 a b) (bits .or .i64 a b) (bits .xor .i64 a b) w hB.1 hB.2 hk
    (Lib.hid fun w => t_LSHIFT a _ w ha kc) (Lib.hid fun w => t_RSHIFT _ _ w (shl_cell _ _) kc) (Lib.hid fun w => t_RSHIFT _ _ w mc kc) (Lib.hid fun w => t_AND a b w ha hb) (Lib.hid fun w => t_OR a b w ha hb) (Lib.hid fun w => ?_) (Lib.hid fun w => ?_) (Lib.hid fun w => t_XOR a b w ha hb) (Lib.hid fun w => ?_) (Lib.hid fun w => ?_) (Lib.hid fun w => ?_)
  · have c := t_Plus _ _ w (bits_cell_and a b) (bits_cell_or a b)
    rw [sum_bits] at c
    exact c
  · have c := t_Minus _ _ w (bits_cell_or a b) (bits_cell_and a b)
    rw [diff_bits] at c
    exact c
  · have c := t_AND a _ w ha (shr_cell (-1) ((n % 64 : Nat) : Int))
    rw [← low_bits a _ hk63] at c
    exact c
  · have c := t_LSHIFT a (64 + (n : Int)) w ha (by unfold cellR; omega)
    rw [shl_far a _ (by omega)] at c
    exact c
  · have c := t_RSHIFT a (-1 - (n : Int)) w ha (by unfold cellR; omega)
    rw [shr_far a _ (by omega)] at c
    exact c

set_option maxRecDepth 100000 in
theorem lifted (os : Os) (started : os.Started) (H : Type) (enc : TypeId × Value → H) :
    ReturnsInHanded {} Try.checked os 7 .any (Rows.aluBitsSpec.pre6 enc Try.prog Try.f7 Rows.aluBitsRow.domain false) (Rows.aluBitsSpec.post enc Try.prog Try.f7 false true false false) := by
  refine returnsInHanded_of_change (C := Try.checked) own started (by kernel_rfl) Try.func7
    (ChangeSpec.witness6 (enc := enc) (C := Try.checked) false ⟨#[], #[.int .i64 0, .int .i64 0, .int .u8 0], []⟩ 8 (by kernel_rfl) (by kernel_rfl) (by kernel_rfl) (by kernel_rfl)) ?_
  intro W base args ds gs before hval0 hW hcnd _
  have hval : ∀ (j : Nat) t v, Try.f7.params[j]? = some t → args[j]? = some v → Value.okWide Try.prog W .any base t v := hval0
  have hW' := hW
  obtain ⟨p, q, hA0, hV, rfl, hfz, hnd⟩ := hW
  have hA : DataW.TrodAll enc Try.prog W 0 (fun _ => true) true Try.f7.params.toList args.toList ds p := hA0
  rw [Try.params7] at hA hval
  obtain ⟨v0, vs0, d0, ds0, p0, q0, hargs, rfl, rfl, h0, r0⟩ := trodAll_cons hA
  obtain ⟨v1, vs1, d1, ds1, p1, q1, rfl, rfl, rfl, h1, r1⟩ := trodAll_cons r0
  obtain ⟨v2, vs2, d2, ds2, p2, q2, rfl, rfl, rfl, h2, r2⟩ := trodAll_cons r1
  obtain ⟨rfl, rfl, rfl⟩ := trodAll_nil r2
  obtain rfl : args = #[v0, v1, v2] := by cases args; simp_all
  obtain ⟨rfl, rfl⟩ := trodVars_none hV
  obtain ⟨a0, rfl, rfl, rfl, w0⟩ := open_int Try.underlying3 (hval 0 3 v0 rfl rfl) h0
  obtain ⟨a1, rfl, rfl, rfl, w1⟩ := open_int Try.underlying3 (hval 1 3 v1 rfl rfl) h1
  obtain ⟨a2, rfl, rfl, rfl, w2⟩ := open_int Try.underlying5 (hval 2 5 v2 rfl rfl) h2
  clear hA0 hval0
  refine (walk a0 a1 a2 W (cellR_of w0) (cellR_of w1) (byteR_of w2)).mono fun e W' ⟨he, bel⟩ => ?_
  subst he
  exact ⟨_, rfl, _, _, _, [], _, [], hW', trodAll_mk1 (shut_bool Try.underlying4 _), (trodAll_cons_mk (shut_int Try.underlying3 w0) (trodAll_cons_mk (shut_int Try.underlying3 w1) (trodAll_cons_mk (shut_int Try.underlying5 w2) trodAll_mk0))), rfl, bel.frame _, fun h => by cases h⟩

theorem over : Rows.aluBitsRow.holds Try.pinned (OpenSpec.ofChange Rows.aluBitsSpec) :=
  OpenClaim.holds_of_wide 7 Try.f7 rfl rfl rfl rfl rfl rfl rfl ⟨rfl, rfl, rfl, rfl, rfl⟩ rfl rfl rfl rfl rfl (by kernel_rfl) Try.func7 (by kernel_rfl)
    (of_decide_eq_true (by kernel_rfl)) (by unfold Func.isWrapper; first | (rw [if_pos (by decide +kernel)]; kernel_rfl) | (rw [if_neg (by decide +kernel)]; exact ⟨rfl, rfl⟩))
    (fun os started H enc _ => lifted os started H enc)

theorem proved : Rows.AluBitsSaid := over
#print axioms proved
end Go.Proofs.Ytncljldoioplaaa.aluBits
