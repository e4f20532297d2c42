/- Plain arithmetic under package alu: bits that are turned, joined and shifted, a cell aligned. -/
import Derived.Test.YtncljldoioplaaaAluSpec
import Derived.Test.YtncljldoioplaaaMathB
import Derived.WalkKit
namespace Go.Proofs.Ytncljldoioplaaa
open Go.RowKit

/-- A cell's bits. -/
def bv (a : Int) : BitVec 64 := BitVec.ofInt 64 a
theorem bv_un (a : Int) : (bv a).toNat = un a := by
  have h := un_mod a
  unfold bv
  rw [BitVec.toNat_ofInt]
  omega
theorem wrap_toNat (x : BitVec 64) : wrap64 (x.toNat : Int) = x.toInt := by
  have := x.isLt
  rw [BitVec.toInt_eq_toNat_cond]
  unfold wrap64
  split <;> omega
theorem wrap_bv (a : Int) : wrap64 a = (bv a).toInt := by
  rw [← wrap_toNat, bv_un]
  have := un_mod a
  unfold wrap64
  omega
theorem bv_toInt (x : BitVec 64) : bv x.toInt = x := BitVec.ofInt_toInt
theorem bv_cell {a : Int} (ha : cellR a) : (bv a).toInt = a := by rw [← wrap_bv, wrap_in ha]
theorem i64_wrap (n : Int) : IntKind.i64.wrap n = wrap64 n := IntWalk.i64_left n
theorem bits_and (a b : Int) : bits .and .i64 a b = (bv a &&& bv b).toInt := by rw [← wrap_toNat, ← i64_wrap]; rfl
theorem bits_or (a b : Int) : bits .or .i64 a b = (bv a ||| bv b).toInt := by rw [← wrap_toNat, ← i64_wrap]; rfl
theorem bits_xor (a b : Int) : bits .xor .i64 a b = (bv a ^^^ bv b).toInt := by rw [← wrap_toNat, ← i64_wrap]; rfl
theorem bits_andNot (a b : Int) : bits .andNot .i64 a b = (bv a &&& ~~~ bv b).toInt := by rw [← wrap_toNat, ← i64_wrap]; rfl

theorem inv_eq (a : Int) (ha : cellR a) : bits .xor .i64 (-1) a = -1 - a := by
  have e : bv (-1) = BitVec.allOnes 64 := by decide
  rw [bits_xor, e, BitVec.allOnes_xor, ← wrap_toNat, BitVec.toNat_not, bv_un]
  have := un_mod a
  have := un_lt a
  unfold wrap64
  unfold cellR at ha
  omega
theorem split_and (x m : BitVec 64) : (x &&& m) + (x &&& ~~~ m) = x := by
  rw [BitVec.add_eq_or_of_and_eq_zero]
  · ext i; simp; cases x[i] <;> cases m[i] <;> rfl
  · ext i; simp; cases x[i] <;> cases m[i] <;> simp
theorem and7 (x : BitVec 64) : (x &&& 7#64).toNat = x.toNat % 8 := by
  rw [BitVec.toNat_and]
  exact Nat.and_two_pow_sub_one_eq_mod x.toNat 3
theorem aligned_eq (a : Int) (_ha : cellR a) : bits .andNot .i64 (wrap64 (wrap64 (a + 8) - 1)) 7 = wrap64 ((a + 7) / 8 * 8) := by
  rw [bits_andNot, ← wrap_toNat]
  have e : bv 7 = 7#64 := by decide
  rw [e]
  have h := split_and (bv (wrap64 (wrap64 (a + 8) - 1))) 7#64
  have h7 := and7 (bv (wrap64 (wrap64 (a + 8) - 1)))
  have h2 := congrArg BitVec.toNat h
  rw [BitVec.toNat_add, h7, bv_un] at h2
  have h3 := un_mod (wrap64 (wrap64 (a + 8) - 1))
  have h4 := (bv (wrap64 (wrap64 (a + 8) - 1)) &&& ~~~ 7#64).isLt
  generalize (bv (wrap64 (wrap64 (a + 8) - 1)) &&& ~~~ 7#64).toNat = z at *
  generalize un (wrap64 (wrap64 (a + 8) - 1)) = u at *
  unfold wrap64 at *
  omega
theorem sub_eq (a b : Int) : wrap64 (a + wrap64 (-b)) = wrap64 (a - b) := by unfold wrap64; omega
theorem wrap_mod64 {x y : Int} (h : (x - y) % 18446744073709551616 = 0) : wrap64 x = wrap64 y := by unfold wrap64; omega
theorem shl_eq (a b : Int) : wrap64 (IntKind.u64.wrap (IntKind.u64.wrap a * 2 ^ min (IntKind.u64.wrap b).toNat 64)) = shl a b := by
  have e : (IntKind.u64.wrap b).toNat = un b := rfl
  rw [e, IntKind.wrap_u64, IntKind.wrap_u64]
  unfold shl
  split
  · rename_i h
    rw [Nat.min_eq_left (by omega)]
    refine wrap_mod64 ?_
    have h1 : a % 18446744073709551616 * 2 ^ un b = a * 2 ^ un b - 18446744073709551616 * (a / 18446744073709551616 * 2 ^ un b) := by
      rw [Int.emod_def, Int.sub_mul, Int.mul_assoc]
    rw [h1]
    omega
  · rw [Nat.min_eq_right (by omega), show (2 : Int) ^ 64 = 18446744073709551616 by decide]
    unfold wrap64
    omega
theorem shr_eq (a b : Int) : wrap64 (IntKind.u64.wrap a / 2 ^ min (IntKind.u64.wrap b).toNat 64) = shr a b := by
  have e : (IntKind.u64.wrap b).toNat = un b := rfl
  rw [e, un_cast]
  unfold shr
  split
  · rename_i h
    rw [Nat.min_eq_left (by omega), Int.natCast_ediv, Int.natCast_pow]
    rfl
  · have := un_lt a
    rw [Nat.min_eq_right (by omega), show (2 : Int) ^ 64 = 18446744073709551616 by decide]
    unfold wrap64
    omega
end Go.Proofs.Ytncljldoioplaaa
