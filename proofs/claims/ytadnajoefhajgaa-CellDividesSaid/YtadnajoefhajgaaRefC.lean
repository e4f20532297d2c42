/- The contract of the document's own quotient, bit by bit (udiv), and of UDiv. -/
import Derived.Test.YtadnajoefhajgaaRefA
namespace Go.Proofs.Ytadnajoefhajgaa
open Go.RowKit

/-- How far the quotient is, bit by bit: j bits are left. -/
structure DInv (lo hi d j q r : Nat) : Prop where
  le : j ≤ 64
  eq : hi * 2 ^ (64 - j) + lo / 2 ^ j = d * q + r
  r_lt : r < d
  q_lt : q < 2 ^ (64 - j)

theorem DInv.step {lo hi d i q r : Nat} (I : DInv lo hi d (i + 1) q r) (R : Nat) (hR : 2 * r + lo / 2 ^ i % 2 = R) :
    (d ≤ R → DInv lo hi d i (2 * q + 1) (R - d)) ∧ (R < d → DInv lo hi d i (2 * q) R) := by
  have h1 := I.le
  have h2 := I.eq
  have h3 := I.r_lt
  have h4 := I.q_lt
  have e1 : 2 ^ (64 - i) = 2 * 2 ^ (64 - (i + 1)) := by
    rw [show 64 - i = (64 - (i + 1)) + 1 by omega, Nat.pow_succ, Nat.mul_comm]
  have e2 : lo / 2 ^ i = 2 * (lo / 2 ^ (i + 1)) + lo / 2 ^ i % 2 := by
    rw [Nat.pow_succ, ← Nat.div_div_eq_div_mul]; omega
  have e3 : hi * 2 ^ (64 - i) + lo / 2 ^ i = d * (2 * q) + R := by
    rw [e1, e2, Nat.mul_left_comm d 2 q, Nat.mul_left_comm hi 2]
    generalize lo / 2 ^ i % 2 = b at *
    omega
  have hb : lo / 2 ^ i % 2 < 2 := Nat.mod_lt _ (by omega)
  constructor
  · intro hd
    refine ⟨by omega, ?_, by omega, by omega⟩
    rw [e3, Nat.mul_add, Nat.mul_one]
    omega
  · intro hd
    exact ⟨by omega, e3, hd, by omega⟩

theorem DInv.first (lo hi d : Nat) (hl : lo < 18446744073709551616) (h : hi < d) : DInv lo hi d 64 0 hi := by
  refine ⟨by omega, ?_, h, by simp⟩
  have : lo / 2 ^ 64 = 0 := Nat.div_eq_of_lt (by simpa using hl)
  rw [this]
  simp

theorem DInv.last {lo hi d q r : Nat} (I : DInv lo hi d 0 q r) : (hi * 18446744073709551616 + lo) / d = q ∧ (hi * 18446744073709551616 + lo) % d = r := by
  have h2 := I.eq
  have h3 := I.r_lt
  simp only [Nat.sub_zero, Nat.pow_zero, Nat.div_one, Nat.reducePow] at h2
  rw [h2]
  exact ⟨by rw [Nat.mul_add_div (by omega), Nat.div_eq_of_lt h3, Nat.add_zero], by rw [Nat.mul_add_mod, Nat.mod_eq_of_lt h3]⟩

theorem DInv.q_small {lo hi d i q r : Nat} (I : DInv lo hi d (i + 1) q r) : q < 9223372036854775808 := by
  have h1 := I.q_lt
  have h2 : 2 ^ (64 - (i + 1)) ≤ 2 ^ 63 := Nat.pow_le_pow_right (by omega) (by omega)
  have h3 : (2 : Nat) ^ 63 = 9223372036854775808 := by decide
  omega

theorem over_wrap (r b d : Nat) (h : 9223372036854775808 ≤ r) (hd : r < d) (hd2 : d ≤ 18446744073709551615) (hb : b < 2) :
    IntKind.u64.wrap (IntKind.u64.wrap (2 * (r : Int)) + (b : Int)) = ((2 * r + b - 18446744073709551616 : Nat) : Int) ∧ IntKind.u64.wrap (((2 * r + b - 18446744073709551616 : Nat) : Int) - (d : Int)) = ((2 * r + b - d : Nat) : Int) := by
  simp only [IntKind.wrap_u64]
  omega

set_option maxRecDepth 100000 in
set_option maxHeartbeats 2000000 in
theorem rudivN_any (lo hi d : Nat) (w : World) (hl : lo ≤ 18446744073709551615) (hd : d ≤ 18446744073709551615) (h : hi < d) :
    Calls Try.prog 39 #[.int .u64 (lo : Int), .int .u64 (hi : Int), .int .u64 (d : Int)] w fun e w' => (∃ Q R : Nat, Hid ((hi * 18446744073709551616 + lo) / d = Q ∧ (hi * 18446744073709551616 + lo) % d = R) ∧ e = .returned (.tuple #[.int .u64 (Q : Int), .int .u64 (R : Int)])) ∧ w = w' := by
  have hd' : (d : Int) ≤ 18446744073709551615 := by omega
  have hl' : (lo : Int) ≤ 18446744073709551615 := by omega
  go_enter Try.func39, Try.ntmps39
  go_wp2
  go_loop [8, 9, 10, 11] (fun s t u _ => ∃ q r : Nat, s = .int .u64 (q : Int) ∧ t = .int .u64 (r : Int) ∧ ((∃ i : Nat, i ≤ 63 ∧ u = .int .i64 (i : Int) ∧ Hid (DInv lo hi d (i + 1) q r)) ∨ (u = .int .i64 (-1) ∧ Hid (DInv lo hi d 0 q r)))) (fun _ _ u _ => (intOf u + 1).toNat)
  case atStart => exact ⟨0, hi, rfl, rfl, Or.inl ⟨63, by omega, rfl, Lib.hid (DInv.first lo hi d (by omega) h)⟩⟩
  case round =>
    obtain ⟨q, r, rfl, rfl, ⟨i, hi63, rfl, I⟩ | ⟨rfl, I⟩⟩ := hrel
    · have hq : (q : Int) < 9223372036854775808 := by have := I.out.q_small; omega
      have hr : (r : Int) < (d : Int) := by have := I.out.r_lt; omega
      obtain ⟨b, hb⟩ : ∃ b : Nat, lo / 2 ^ i % 2 = b := ⟨_, rfl⟩
      have hb2 : (b : Int) < 2 := by omega
      obtain ⟨t, ht⟩ : ∃ t : Nat, lo / 2 ^ i = t := ⟨_, rfl⟩
      have et : (lo : Int) / 2 ^ i = (t : Int) := by rw [← ht]; simp
      have eb : (t : Int) % 2 = (b : Int) := by rw [ht] at hb; omega
      clear ht
      have S := I.out.step (2 * r + b) (by rw [hb])
      have HS := Lib.hid S
      have HB := Lib.hid hb
      clear S hb
      by_cases ho : 9223372036854775808 ≤ (r : Int)
      · obtain ⟨o1, o2⟩ := over_wrap r b d (by omega) (by omega) (by omega) (by omega)
        obtain ⟨r2, hr2⟩ : ∃ k : Nat, 2 * r + b - 18446744073709551616 = k := ⟨_, rfl⟩
        obtain ⟨r3, hr3⟩ : ∃ k : Nat, 2 * r + b - d = k := ⟨_, rfl⟩
        rw [hr2] at o1 o2
        rw [hr3] at o2
        have N := HS.out.1 (by omega)
        rw [hr3] at N
        have HN := Lib.hid N
        clear hr2 hr3 N
        go_wp2
        go_round
        case rel =>
          refine ⟨2 * q + 1, r3, by go_num, by go_num, ?_⟩
          by_cases hi0 : i = 0
          · subst hi0; exact Or.inr ⟨rfl, HN⟩
          · exact Or.inl ⟨i - 1, by omega, by go_num, Lib.hid (by rw [show i - 1 + 1 = i by omega]; exact HN.out)⟩
        case measure => simp [intOf]
      · by_cases hc : (d : Int) ≤ 2 * (r : Int) + (b : Int)
        · obtain ⟨r3, hr3⟩ : ∃ k : Nat, 2 * r + b - d = k := ⟨_, rfl⟩
          have N := HS.out.1 (by omega)
          rw [hr3] at N
          have HN := Lib.hid N
          have er : 2 * (r : Int) + (b : Int) - (d : Int) = (r3 : Int) := by omega
          clear hr3 N
          go_wp2
          go_round
          case rel =>
            refine ⟨2 * q + 1, r3, by go_num, by go_num, ?_⟩
            by_cases hi0 : i = 0
            · subst hi0; exact Or.inr ⟨rfl, HN⟩
            · exact Or.inl ⟨i - 1, by omega, by go_num, Lib.hid (by rw [show i - 1 + 1 = i by omega]; exact HN.out)⟩
          case measure => simp [intOf]
        · have HN := Lib.hid (HS.out.2 (by omega))
          go_wp2
          go_round
          case rel =>
            refine ⟨2 * q, 2 * r + b, by go_num, by go_num, ?_⟩
            by_cases hi0 : i = 0
            · subst hi0; exact Or.inr ⟨rfl, HN⟩
            · exact Or.inl ⟨i - 1, by omega, by go_num, Lib.hid (by rw [show i - 1 + 1 = i by omega]; exact HN.out)⟩
          case measure => simp [intOf]
    · obtain ⟨l1, l2⟩ := I.out.last
      have HL := Lib.hid (And.intro l1 l2)
      clear l1 l2
      go_wp2
      go_ret2
      exact ⟨⟨q, r, HL, rfl⟩, rfl⟩
end Go.Proofs.Ytadnajoefhajgaa
