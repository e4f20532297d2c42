/- Plain arithmetic under the statements of layer 2: bits as sums, shifts up and down, quotient and rest. -/
import Derived.Test.YtncljldoioplaaaAluUse
namespace Go.Proofs.Ytncljldoioplaaa
open Go.RowKit

theorem bv_add (a b : Int) : bv (a + b) = bv a + bv b := BitVec.ofInt_add a b
theorem or_split (x y : BitVec 64) : x ||| y = x + (y &&& ~~~ x) := by
  rw [BitVec.add_eq_or_of_and_eq_zero]
  · ext i; simp; cases x[i] <;> cases y[i] <;> rfl
  · ext i; simp; cases x[i] <;> cases y[i] <;> simp
theorem or_xor (x y : BitVec 64) : (x ^^^ y) + (x &&& y) = x ||| y := by
  rw [BitVec.add_eq_or_of_and_eq_zero]
  · ext i; simp; cases x[i] <;> cases y[i] <;> rfl
  · ext i; simp; cases x[i] <;> cases y[i] <;> simp
theorem and_or (x y : BitVec 64) : (x &&& y) + (x ||| y) = x + y := by
  have h := split_and y x
  rw [or_split, BitVec.and_comm x y, BitVec.add_comm x, ← BitVec.add_assoc, h, BitVec.add_comm]
theorem sum_bits (a b : Int) : wrap64 (bits .and .i64 a b + bits .or .i64 a b) = wrap64 (a + b) := by
  rw [bits_and, bits_or, wrap_bv, bv_add, bv_toInt, bv_toInt, and_or, ← bv_add, ← wrap_bv]
theorem diff_bits (a b : Int) : wrap64 (bits .or .i64 a b - bits .and .i64 a b) = bits .xor .i64 a b := by
  have h : wrap64 (bits .xor .i64 a b + bits .and .i64 a b) = bits .or .i64 a b := by
    rw [bits_and, bits_or, bits_xor, wrap_bv, bv_add, bv_toInt, bv_toInt, or_xor]
  have hx : cellR (bits .xor .i64 a b) := by rw [bits_xor, ← wrap_toNat]; exact cellR_wrap _
  generalize bits .xor .i64 a b = x at *
  generalize bits .and .i64 a b = y at *
  generalize bits .or .i64 a b = z at *
  unfold cellR at hx
  unfold wrap64 at *
  omega
theorem bits_cell_and (a b : Int) : cellR (bits .and .i64 a b) := by rw [bits_and, ← wrap_toNat]; exact cellR_wrap _
theorem bits_cell_or (a b : Int) : cellR (bits .or .i64 a b) := by rw [bits_or, ← wrap_toNat]; exact cellR_wrap _
theorem bits_cell_xor (a b : Int) : cellR (bits .xor .i64 a b) := by rw [bits_xor, ← wrap_toNat]; exact cellR_wrap _
theorem shl_cell (a b : Int) : cellR (shl a b) := by
  unfold shl
  split
  · exact cellR_wrap _
  · unfold cellR; omega
theorem shr_cell (a b : Int) : cellR (shr a b) := by
  unfold shr
  split
  · exact cellR_wrap _
  · unfold cellR; omega
theorem un_wrap_mul (a : Int) (p : Nat) : un (wrap64 (a * p)) = un a * p % 18446744073709551616 := by
  have h1 := un_mod (wrap64 (a * p))
  have h2 := un_mod a
  have h3 : (un a : Int) * p = a * p - 18446744073709551616 * (a / 18446744073709551616 * p) := by
    rw [h2, Int.emod_def, Int.sub_mul, Int.mul_assoc]
  have h4 : ((un a * p % 18446744073709551616 : Nat) : Int) = (un a : Int) * p % 18446744073709551616 := by
    rw [Int.natCast_emod, Int.natCast_mul]; rfl
  have h5 : (un (wrap64 (a * p)) : Int) = ((un a * p % 18446744073709551616 : Nat) : Int) := by
    rw [h4, h3, h1]
    unfold wrap64
    omega
  exact Int.ofNat_inj.1 h5
theorem un_small (k : Nat) (h : k ≤ 63) : un (k : Int) = k := by have := un_mod (k : Int); omega
theorem pow_parts (k : Nat) (h : k ≤ 63) : 18446744073709551616 = 2 ^ (64 - k) * 2 ^ k := by
  rw [← Nat.pow_add, Nat.sub_add_cancel (by omega)]
theorem ones_down (k : Nat) (h : k ≤ 63) : 18446744073709551615 / 2 ^ k = 2 ^ (64 - k) - 1 := by
  have hp := pow_parts k h
  have h1 : 0 < 2 ^ k := Nat.two_pow_pos k
  have h2 : 0 < 2 ^ (64 - k) := Nat.two_pow_pos _
  refine Nat.div_eq_of_lt_le ?_ ?_
  · rw [Nat.sub_mul, ← hp]; omega
  · rw [Nat.sub_add_cancel h2, ← hp]; omega
theorem un_wrap_nat (n : Nat) (h : n < 18446744073709551616) : un (wrap64 (n : Int)) = n := by
  have := un_mod (wrap64 (n : Int))
  unfold wrap64 at *
  omega
theorem low_bits (a : Int) (k : Nat) (h : k ≤ 63) : shr (shl a k) k = bits .and .i64 a (shr (-1) k) := by
  have hp := pow_parts k h
  have h1 : 0 < 2 ^ k := Nat.two_pow_pos k
  have h2 : 0 < 2 ^ (64 - k) := Nat.two_pow_pos _
  have e1 : un (-1) = 18446744073709551615 := by decide +kernel
  have e2 : (2 : Int) ^ k = ((2 ^ k : Nat) : Int) := by rw [Int.natCast_pow]; rfl
  have hm : 2 ^ (64 - k) - 1 < 18446744073709551616 := by
    have : 2 ^ (64 - k) ≤ 2 ^ 64 := Nat.pow_le_pow_right (by omega) (by omega)
    omega
  rw [bits_and, ← wrap_toNat, BitVec.toNat_and, bv_un, bv_un]
  unfold shr shl
  rw [un_small k h, if_pos h, if_pos h, if_pos h, e2, un_wrap_mul, e1, ones_down k h, un_wrap_nat _ hm, Nat.and_two_pow_sub_one_eq_mod]
  congr 2
  have e3 : un a * 2 ^ k % 18446744073709551616 = un a % 2 ^ (64 - k) * 2 ^ k := by
    rw [hp, Nat.mul_mod_mul_right]
  rw [e3, Nat.mul_div_cancel _ h1]
theorem shl_far (a u : Int) (h : 64 ≤ un u) : shl a u = 0 := by unfold shl; rw [if_neg (by omega)]
theorem shr_far (a u : Int) (h : 64 ≤ un u) : shr a u = 0 := by unfold shr; rw [if_neg (by omega)]

theorem dq_cell (a b : Int) : cellR (dq a b) := by
  unfold dq
  split
  · unfold cellR; omega
  · split <;> exact cellR_wrap _
theorem dr_cell (a b : Int) (hb : cellR b) : cellR (dr a b) := by
  unfold dr
  split
  · unfold cellR; omega
  · rename_i h
    split
    · rename_i hl
      exact leans_sum a b h hb hl
    · exact tmod_cell a b h hb
theorem parts_sum (a b : Int) (ha : cellR a) (h : b ≠ 0) : wrap64 (wrap64 (dq a b * b) + dr a b) = a := by
  obtain ⟨t1, _, _, _⟩ := tfacts a b h
  unfold dq dr
  rw [if_neg h, if_neg h]
  have key : ∀ x y : Int, (x - y) % 18446744073709551616 = 0 → (x * b - y * b) % 18446744073709551616 = 0 := by
    intro x y hxy
    rw [← Int.sub_mul, Int.mul_emod, hxy]
    simp
  have w1 : ∀ x : Int, (wrap64 x - x) % 18446744073709551616 = 0 := by intro x; unfold wrap64; omega
  have fin : ∀ q r : Int, (q - a.tdiv b) % 18446744073709551616 = 0 ∧ r = a.tmod b ∨ (q - (a.tdiv b - 1)) % 18446744073709551616 = 0 ∧ r = a.tmod b + b → wrap64 (wrap64 (q * b) + r) = a := by
    intro q r hqr
    refine Eq.trans (wrap_mod64 (y := a) ?_) (wrap_in ha)
    have h1 := w1 (q * b)
    rcases hqr with ⟨h2, h3⟩ | ⟨h2, h3⟩
    · have := key _ _ h2
      rw [Int.mul_comm] at t1
      omega
    · have := key _ _ h2
      rw [Int.sub_mul, Int.one_mul] at this
      rw [Int.mul_comm] at t1
      omega
  have h1 := w1 (a.tdiv b)
  have h2 := w1 (wrap64 (a.tdiv b) - 1)
  cases hl : leans (a.tmod b) b
  · rw [if_neg (by simp), if_neg (by simp)]
    exact fin _ _ (Or.inl ⟨h1, rfl⟩)
  · rw [if_pos rfl, if_pos rfl]
    exact fin _ _ (Or.inr ⟨by omega, rfl⟩)
end Go.Proofs.Ytncljldoioplaaa
