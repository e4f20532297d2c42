/- Contracts of UMul, Mul, pairSize and signed of package cell. -/
import Derived.Test.YtadnajoefhajgaaWalksA
import Derived.Test.YtadnajoefhajgaaShelf
import Derived.Shelf.Spec.BitsCarry
namespace Go.Proofs.Ytadnajoefhajgaa
open Go.RowKit

theorem mul64_any (x y : Nat) (hx : x < 18446744073709551616) (hy : y < 18446744073709551616) (w : World) :
    Calls Try.prog 34 #[.int .u64 x, .int .u64 y] w fun e w' => e = .returned (.tuple #[.int .u64 ((x * y / 18446744073709551616 : Nat) : Int), .int .u64 ((x * y % 18446744073709551616 : Nat) : Int)]) ∧ w = w' :=
  (Try.bits_Mul64 x y hx hy w).mono fun _ _ ⟨a, b⟩ => ⟨a, b.symm⟩

set_option maxHeartbeats 400000 in
theorem umul_any (a b : Int) (w : World) :
    Calls Try.prog 21 #[.int .i64 a, .int .i64 b] w fun e w' => e = .returned (.tuple #[.int .i64 (umLo a b), .int .i64 (umHi a b)]) ∧ w = w' := by
  have ea := un_cast a
  have eb := un_cast b
  go_enter Try.func21, Try.ntmps21
  go_wp2_with (go_at_call 34; refine (mul64_any _ _ (un_lt _) (un_lt _) _).mono ?_; rintro e w' ⟨rfl, rfl⟩)
  go_ret2
  exact ⟨ret_two rfl rfl, rfl⟩

set_option maxHeartbeats 400000 in
theorem mul_any (a b : Int) (w : World) (ha : cellR a) (hb : cellR b) :
    Calls Try.prog 23 #[.int .i64 a, .int .i64 b] w fun e w' => e = .returned (.tuple #[.int .i64 (umLo a b), .int .i64 (smHi a b)]) ∧ w = w' := by
  have H := Lib.hid (smHi_eq a b ha hb)
  by_cases h1 : a < 0 <;> by_cases h2 : b < 0
  all_goals
    go_enter Try.func23, Try.ntmps23
    go_wp2_with (go_at_call 21; refine (umul_any _ _ _).mono ?_; rintro e w' ⟨rfl, rfl⟩)
    go_ret2
  · exact ⟨ret_two rfl (H.out.1 (by omega) (by omega)), rfl⟩
  · exact ⟨ret_two rfl (H.out.2.1 (by omega) (by omega)), rfl⟩
  · exact ⟨ret_two rfl (H.out.2.2.1 (by omega) (by omega)), rfl⟩
  · exact ⟨ret_two rfl (H.out.2.2.2 (by omega) (by omega)), rfl⟩

theorem sub64_run (x y b : Nat) (hb : b ≤ 1) (w : World) :
    (callFunc 45 #[.int .u64 (x : Int), .int .u64 (y : Int), .int .u64 (b : Int)]).run Try.prog w =
      .ok (.value (.tuple #[.int .u64 (((x + 18446744073709551616 - y - b) % 18446744073709551616 : Nat) : Int), .int .u64 ((if x < y + b then 1 else 0 : Nat) : Int)])) w := by
  rw [run_callFunc_extern Try.func45 (by kernel_rfl) (by kernel_rfl) (by kernel_rfl) (e := sub64Entry) (by kernel_rfl), run_sub64 x y b hb]
  rfl
theorem sub64_first (y : Nat) (w : World) :
    (callFunc 45 #[.int .u64 0, .int .u64 (y : Int), .int .u64 0]).run Try.prog w = .ok (.value (.tuple #[.int .u64 ((negU y 0 : Nat) : Int), .int .u64 ((bor y 0 : Nat) : Int)])) w := by
  have h := sub64_run 0 y 0 (by omega) w
  unfold negU bor
  simpa using h
theorem sub64_next (y b : Nat) (hb : b ≤ 1) (w : World) :
    (callFunc 45 #[.int .u64 0, .int .u64 (y : Int), .int .u64 (b : Int)]).run Try.prog w = .ok (.value (.tuple #[.int .u64 ((negU y b : Nat) : Int), .int .u64 ((bor y b : Nat) : Int)])) w := by
  have h := sub64_run 0 y b hb w
  unfold negU bor
  simpa using h

set_option maxHeartbeats 400000 in
theorem pairSize_any (lo hi : Int) (w : World) (hh : cellR hi) :
    Calls Try.prog 40 #[.int .i64 lo, .int .i64 hi] w fun e w' => e = .returned (.tuple #[.int .u64 (((pr lo hi).natAbs % 18446744073709551616 : Nat) : Int), .int .u64 (((pr lo hi).natAbs / 18446744073709551616 : Nat) : Int)]) ∧ w = w' := by
  have e1 := un_cast lo
  have e2 := un_cast hi
  by_cases h1 : hi < 0
  · have H := Lib.hid (pair_neg lo hi hh h1)
    have s1 := sub64_first (un lo)
    have s2 := sub64_next (un hi) (bor (un lo) 0) (bor_le _ _)
    clear hh
    go_enter Try.func40, Try.ntmps40
    go_wp2
    go_ret2
    exact ⟨ret_two (congrArg Nat.cast H.out.1) (congrArg Nat.cast H.out.2), rfl⟩
  · have H := Lib.hid (pair_pos lo hi hh (by omega))
    clear hh
    go_enter Try.func40, Try.ntmps40
    go_wp2
    go_ret2
    exact ⟨ret_two (congrArg Nat.cast H.out.1) (congrArg Nat.cast H.out.2), rfl⟩

theorem neg_cell (k : Nat) (hk : k ≤ 9223372036854775808) : wrap64 (IntKind.u64.wrap (-(k : Int))) = -(k : Int) := by
  rw [IntKind.wrap_u64]; unfold wrap64; omega

set_option maxHeartbeats 400000 in
theorem signed_below (k : Nat) (hk : k ≤ 9223372036854775808) (w : World) :
    Calls Try.prog 42 #[.int .u64 k, .bool true] w fun e w' => e = .returned (.tuple #[.int .i64 (-(k : Int)), .bool true]) ∧ w = w' := by
  have H := Lib.hid (neg_cell k hk)
  go_enter Try.func42, Try.ntmps42
  go_wp2
  go_ret2
  exact ⟨ret_ib H.out rfl, rfl⟩
set_option maxHeartbeats 400000 in
theorem signed_above (k : Nat) (hk : k ≤ 9223372036854775807) (w : World) :
    Calls Try.prog 42 #[.int .u64 k, .bool false] w fun e w' => e = .returned (.tuple #[.int .i64 (k : Int), .bool true]) ∧ w = w' := by
  go_enter Try.func42, Try.ntmps42
  go_wp2
  go_ret2
  exact ⟨ret_ib rfl rfl, rfl⟩
set_option maxHeartbeats 400000 in
theorem signed_below_no (k : Nat) (hk : 9223372036854775808 < k) (w : World) :
    Calls Try.prog 42 #[.int .u64 k, .bool true] w fun e w' => e = .returned (.tuple #[.int .i64 0, .bool false]) ∧ w = w' := by
  go_enter Try.func42, Try.ntmps42
  go_wp2
  go_ret2
  exact ⟨ret_ib rfl rfl, rfl⟩
set_option maxHeartbeats 400000 in
theorem signed_above_no (k : Nat) (hk : 9223372036854775807 < k) (w : World) :
    Calls Try.prog 42 #[.int .u64 k, .bool false] w fun e w' => e = .returned (.tuple #[.int .i64 0, .bool false]) ∧ w = w' := by
  go_enter Try.func42, Try.ntmps42
  go_wp2
  go_ret2
  exact ⟨ret_ib rfl rfl, rfl⟩
end Go.Proofs.Ytadnajoefhajgaa
