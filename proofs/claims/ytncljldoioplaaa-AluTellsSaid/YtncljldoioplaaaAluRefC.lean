/- The contracts of the document's own answers for layer 2: shifted, Two. -/
import Derived.Test.YtncljldoioplaaaAluRefB
import Derived.Test.YtncljldoioplaaaAluMathB
namespace Go.Proofs.Ytncljldoioplaaa
open Go.RowKit

theorem up_one (x p : Nat) : (2 * (x * p % 18446744073709551616)) % 18446744073709551616 = x * (p * 2) % 18446744073709551616 := by
  rw [← Nat.mul_assoc]
  omega
theorem down_one (x t : Nat) : x / 2 ^ t / 2 = x / 2 ^ (t + 1) := by rw [Nat.div_div_eq_div_mul, Nat.pow_succ]

set_option maxRecDepth 100000 in
set_option maxHeartbeats 2000000 in
theorem rshifted_up (a : Int) (b : Nat) (w : World) (hb : b ≤ 63) :
    Calls Try.prog 31 #[.int .i64 a, .int .i64 (b : Int), .bool true] w fun e w' => e = .returned (.int .i64 (wrap64 ((un a * 2 ^ b % 18446744073709551616 : Nat) : Int))) ∧ w = w' := by
  obtain ⟨R, hR⟩ : ∃ R, Hid (wrap64 ((un a * 2 ^ b % 18446744073709551616 : Nat) : Int) = R) := ⟨_, Lib.hid rfl⟩
  rw [hR.out]
  have e0 := un_cast a
  go_enter Try.func31, Try.ntmps31
  go_wp2
  go_loop [7, 8] (fun u i => ∃ t z : Nat, t ≤ b ∧ z < 18446744073709551616 ∧ u = .int .u64 (z : Int) ∧ i = .int .i64 (t : Int) ∧ Hid (z = un a * 2 ^ t % 18446744073709551616)) (fun _ i => b - (intOf i).toNat)
  case atStart => exact ⟨0, un a, by omega, un_lt a, rfl, rfl, Lib.hid (by have := un_lt a; simp; omega)⟩
  case round =>
    obtain ⟨t, z, ht, hz, rfl, rfl, HZ⟩ := hrel
    by_cases hlt : t < b
    · have hr : IntKind.u64.wrap (2 * (z : Int)) = ((2 * z % 18446744073709551616 : Nat) : Int) := by rw [IntKind.wrap_u64]; omega
      go_wp2
      go_round
      case rel => exact ⟨t + 1, 2 * z % 18446744073709551616, by omega, by omega, by first | rfl | go_num, by go_num, Lib.hid (by have := HZ.out; subst this; rw [Nat.pow_succ]; exact up_one _ _)⟩
      case measure => simp [intOf]; omega
    · have he : t = b := by omega
      subst he
      go_wp2
      go_ret
      exact ⟨ret_int (by rw [← hR.out, ← HZ.out]), rfl⟩

set_option maxRecDepth 100000 in
set_option maxHeartbeats 2000000 in
theorem rshifted_down (a : Int) (b : Nat) (w : World) (hb : b ≤ 63) :
    Calls Try.prog 31 #[.int .i64 a, .int .i64 (b : Int), .bool false] w fun e w' => e = .returned (.int .i64 (wrap64 ((un a / 2 ^ b : Nat) : Int))) ∧ w = w' := by
  obtain ⟨R, hR⟩ : ∃ R, Hid (wrap64 ((un a / 2 ^ b : Nat) : Int) = R) := ⟨_, Lib.hid rfl⟩
  rw [hR.out]
  have e0 := un_cast a
  go_enter Try.func31, Try.ntmps31
  go_wp2
  go_loop [7, 8] (fun u i => ∃ t z : Nat, t ≤ b ∧ z < 18446744073709551616 ∧ u = .int .u64 (z : Int) ∧ i = .int .i64 (t : Int) ∧ Hid (z = un a / 2 ^ t)) (fun _ i => b - (intOf i).toNat)
  case atStart => exact ⟨0, un a, by omega, un_lt a, rfl, rfl, Lib.hid (by simp)⟩
  case round =>
    obtain ⟨t, z, ht, hz, rfl, rfl, HZ⟩ := hrel
    by_cases hlt : t < b
    · have hr : (z : Int).tdiv 2 = ((z / 2 : Nat) : Int) := rfl
      go_wp2
      go_round
      case rel => exact ⟨t + 1, z / 2, by omega, by omega, by first | rfl | go_num, by go_num, Lib.hid (by have := HZ.out; subst this; exact down_one _ _)⟩
      case measure => simp [intOf]; omega
    · have he : t = b := by omega
      subst he
      go_wp2
      go_ret
      exact ⟨ret_int (by rw [← hR.out, ← HZ.out]), rfl⟩

set_option maxHeartbeats 1000000 in
theorem rshifted_far (a b : Int) (up : Bool) (w : World) (hb : b < 0 ∨ 63 < b) :
    Calls Try.prog 31 #[.int .i64 a, .int .i64 b, .bool up] w fun e w' => e = .returned (.int .i64 0) ∧ w = w' := by
  by_cases h : b < 0
  · clear hb
    go_enter Try.func31, Try.ntmps31
    go_wp2
    go_ret
    exact ⟨rfl, rfl⟩
  · have h2 : 63 < b := by omega
    clear hb
    go_enter Try.func31, Try.ntmps31
    go_wp2
    go_ret
    exact ⟨rfl, rfl⟩

theorem far_un (b : Int) (hb : cellR b) (h : ¬ (0 ≤ b ∧ b ≤ 63)) : ¬ un b ≤ 63 := by have := un_mod b; unfold cellR at hb; omega
theorem rshl_any (a b : Int) (w : World) (hb : cellR b) :
    Calls Try.prog 31 #[.int .i64 a, .int .i64 b, .bool true] w fun e w' => e = .returned (.int .i64 (shl a b)) ∧ w = w' := by
  by_cases h : 0 ≤ b ∧ b ≤ 63
  · obtain ⟨n, rfl⟩ : ∃ n : Nat, b = n := ⟨b.toNat, by omega⟩
    have c := rshifted_up a n w (by omega)
    have e2 : (2 : Int) ^ n = ((2 ^ n : Nat) : Int) := by rw [Int.natCast_pow]; rfl
    have e : wrap64 ((un a * 2 ^ n % 18446744073709551616 : Nat) : Int) = shl a n := by
      unfold shl
      rw [un_small n (by omega), if_pos (by omega), e2, ← un_wrap_mul]
      have h1 := un_mod (wrap64 (a * ((2 ^ n : Nat) : Int)))
      generalize a * ((2 ^ n : Nat) : Int) = z at *
      rw [h1]
      unfold wrap64
      omega
    rw [e] at c
    exact c
  · have c := rshifted_far a b true w (by omega)
    have e : shl a b = 0 := by unfold shl; rw [if_neg (far_un b hb h)]
    rw [e]
    exact c
theorem rshr_any (a b : Int) (w : World) (hb : cellR b) :
    Calls Try.prog 31 #[.int .i64 a, .int .i64 b, .bool false] w fun e w' => e = .returned (.int .i64 (shr a b)) ∧ w = w' := by
  by_cases h : 0 ≤ b ∧ b ≤ 63
  · obtain ⟨n, rfl⟩ : ∃ n : Nat, b = n := ⟨b.toNat, by omega⟩
    have c := rshifted_down a n w (by omega)
    have e : wrap64 ((un a / 2 ^ n : Nat) : Int) = shr a n := by
      unfold shr
      rw [un_small n (by omega), if_pos (by omega)]
    rw [e] at c
    exact c
  · have c := rshifted_far a b false w (by omega)
    have e : shr a b = 0 := by unfold shr; rw [if_neg (far_un b hb h)]
    rw [e]
    exact c
end Go.Proofs.Ytncljldoioplaaa
