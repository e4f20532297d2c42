/- Contracts of gather and spread of package cell: a number out of its bytes, and its bytes. -/
import Derived.Test.YtngmkbbeafefaaaMemBase
import Derived.LoopN
namespace Go.Proofs.Ytngmkbbeafefaaa
open Go.RowKit

/-- A number's byte, the lowest first. -/
def byteOf (n i : Nat) : Nat := n / 256 ^ i % 256
theorem byteOf_lt (n i : Nat) : byteOf n i < 256 := Nat.mod_lt _ (by omega)

/-- The number of eight bytes, the lowest first. -/
def eight (x0 x1 x2 x3 x4 x5 x6 x7 : Nat) : Nat := x0 + x1 * 256 + x2 * 65536 + x3 * 16777216 + x4 * 4294967296 + x5 * 1099511627776 + x6 * 281474976710656 + x7 * 72057594037927936
theorem eight_lt (x0 x1 x2 x3 x4 x5 x6 x7 : Nat) (h0 : x0 < 256) (h1 : x1 < 256) (h2 : x2 < 256) (h3 : x3 < 256) (h4 : x4 < 256) (h5 : x5 < 256) (h6 : x6 < 256) (h7 : x7 < 256) : eight x0 x1 x2 x3 x4 x5 x6 x7 < 18446744073709551616 := by unfold eight; omega
theorem eight_bytes (n : Nat) (h : n < 18446744073709551616) : eight (byteOf n 0) (byteOf n 1) (byteOf n 2) (byteOf n 3) (byteOf n 4) (byteOf n 5) (byteOf n 6) (byteOf n 7) = n := by
  unfold eight byteOf
  simp only [Nat.reducePow]
  omega
theorem bytes_eight (x0 x1 x2 x3 x4 x5 x6 x7 : Nat) (h0 : x0 < 256) (h1 : x1 < 256) (h2 : x2 < 256) (h3 : x3 < 256) (h4 : x4 < 256) (h5 : x5 < 256) (h6 : x6 < 256) (h7 : x7 < 256) : byteOf (eight x0 x1 x2 x3 x4 x5 x6 x7) 0 = x0 ∧ byteOf (eight x0 x1 x2 x3 x4 x5 x6 x7) 1 = x1 ∧ byteOf (eight x0 x1 x2 x3 x4 x5 x6 x7) 2 = x2 ∧ byteOf (eight x0 x1 x2 x3 x4 x5 x6 x7) 3 = x3 ∧ byteOf (eight x0 x1 x2 x3 x4 x5 x6 x7) 4 = x4 ∧ byteOf (eight x0 x1 x2 x3 x4 x5 x6 x7) 5 = x5 ∧ byteOf (eight x0 x1 x2 x3 x4 x5 x6 x7) 6 = x6 ∧ byteOf (eight x0 x1 x2 x3 x4 x5 x6 x7) 7 = x7 := by
  unfold eight byteOf
  simp only [Nat.reducePow]
  omega

theorem or_step (a b k : Nat) (ha : a < 2 ^ k) (hs : b * 2 ^ k + a < 18446744073709551616) : bits BinOp.or IntKind.u64 (a : Int) ((b : Int) * ((2 ^ k : Nat) : Int)) = ((a + b * 2 ^ k : Nat) : Int) := by
  rw [← Int.natCast_mul, bits_or_u64_nat _ _ (by omega) (by omega)]
  have := Nat.two_pow_add_eq_or_of_lt ha b
  rw [Nat.or_comm, Nat.mul_comm, ← this, Nat.mul_comm, Nat.add_comm]

set_option maxRecDepth 100000 in
set_option maxHeartbeats 1000000 in
theorem gather_core (x0 x1 x2 x3 x4 x5 x6 x7 N1 N2 N3 N4 N5 N6 N7 : Nat) (w : World) (h0 : x0 < 256) (h1 : x1 < 256) (h2 : x2 < 256) (h3 : x3 < 256) (h4 : x4 < 256) (h5 : x5 < 256) (h6 : x6 < 256) (h7 : x7 < 256)
    (e0 : bits BinOp.or IntKind.u64 0 (x0 : Int) = (x0 : Int)) (e1 : bits BinOp.or IntKind.u64 (x0 : Int) ((x1 : Int) * 256) = (N1 : Int)) (e2 : bits BinOp.or IntKind.u64 (N1 : Int) ((x2 : Int) * 65536) = (N2 : Int)) (e3 : bits BinOp.or IntKind.u64 (N2 : Int) ((x3 : Int) * 16777216) = (N3 : Int)) (e4 : bits BinOp.or IntKind.u64 (N3 : Int) ((x4 : Int) * 4294967296) = (N4 : Int)) (e5 : bits BinOp.or IntKind.u64 (N4 : Int) ((x5 : Int) * 1099511627776) = (N5 : Int)) (e6 : bits BinOp.or IntKind.u64 (N5 : Int) ((x6 : Int) * 281474976710656) = (N6 : Int)) (e7 : bits BinOp.or IntKind.u64 (N6 : Int) ((x7 : Int) * 72057594037927936) = (N7 : Int)) :
    Calls Try.prog 60 #[.agg #[.int .u8 (x0 : Int), .int .u8 (x1 : Int), .int .u8 (x2 : Int), .int .u8 (x3 : Int), .int .u8 (x4 : Int), .int .u8 (x5 : Int), .int .u8 (x6 : Int), .int .u8 (x7 : Int)]] w fun e w' => e = .returned (.int .u64 (N7 : Int)) ∧ Below w.heap.size w w' := by
  go_enter Try.func60, Try.ntmps60
  go_wp2
  refine wp_loop_rounds 9 ?_
  iterate 9 (rw [rounds_succ]; go_wp2)
  go_ret
  exact ⟨rfl, (Below.refl _ _).alloc (Nat.le_refl _) _⟩

theorem gather_any (x0 x1 x2 x3 x4 x5 x6 x7 : Nat) (w : World) (h0 : x0 < 256) (h1 : x1 < 256) (h2 : x2 < 256) (h3 : x3 < 256) (h4 : x4 < 256) (h5 : x5 < 256) (h6 : x6 < 256) (h7 : x7 < 256) :
    Calls Try.prog 60 #[.agg #[.int .u8 (x0 : Int), .int .u8 (x1 : Int), .int .u8 (x2 : Int), .int .u8 (x3 : Int), .int .u8 (x4 : Int), .int .u8 (x5 : Int), .int .u8 (x6 : Int), .int .u8 (x7 : Int)]] w fun e w' => e = .returned (.int .u64 (eight x0 x1 x2 x3 x4 x5 x6 x7 : Int)) ∧ Below w.heap.size w w' := by
  refine gather_core x0 x1 x2 x3 x4 x5 x6 x7 (x0 + x1 * 256) (x0 + x1 * 256 + x2 * 65536) (x0 + x1 * 256 + x2 * 65536 + x3 * 16777216) (x0 + x1 * 256 + x2 * 65536 + x3 * 16777216 + x4 * 4294967296) (x0 + x1 * 256 + x2 * 65536 + x3 * 16777216 + x4 * 4294967296 + x5 * 1099511627776) (x0 + x1 * 256 + x2 * 65536 + x3 * 16777216 + x4 * 4294967296 + x5 * 1099511627776 + x6 * 281474976710656) (eight x0 x1 x2 x3 x4 x5 x6 x7) w h0 h1 h2 h3 h4 h5 h6 h7 ?_ ?_ ?_ ?_ ?_ ?_ ?_ ?_
  · exact (bits_or_u64_nat 0 x0 (by omega) (by omega)).trans (by simp)
  · exact or_step (x0) x1 8 (by simp only [Nat.reducePow]; omega) (by simp only [Nat.reducePow]; omega)
  · exact or_step (x0 + x1 * 256) x2 16 (by simp only [Nat.reducePow]; omega) (by simp only [Nat.reducePow]; omega)
  · exact or_step (x0 + x1 * 256 + x2 * 65536) x3 24 (by simp only [Nat.reducePow]; omega) (by simp only [Nat.reducePow]; omega)
  · exact or_step (x0 + x1 * 256 + x2 * 65536 + x3 * 16777216) x4 32 (by simp only [Nat.reducePow]; omega) (by simp only [Nat.reducePow]; omega)
  · exact or_step (x0 + x1 * 256 + x2 * 65536 + x3 * 16777216 + x4 * 4294967296) x5 40 (by simp only [Nat.reducePow]; omega) (by simp only [Nat.reducePow]; omega)
  · exact or_step (x0 + x1 * 256 + x2 * 65536 + x3 * 16777216 + x4 * 4294967296 + x5 * 1099511627776) x6 48 (by simp only [Nat.reducePow]; omega) (by simp only [Nat.reducePow]; omega)
  · exact or_step (x0 + x1 * 256 + x2 * 65536 + x3 * 16777216 + x4 * 4294967296 + x5 * 1099511627776 + x6 * 281474976710656) x7 56 (by simp only [Nat.reducePow]; omega) (by simp only [Nat.reducePow]; omega)

set_option maxRecDepth 100000 in
set_option maxHeartbeats 1000000 in
theorem spread_any (n : Nat) (w : World) :
    Calls Try.prog 61 #[.int .u64 (n : Int)] w fun e w' => e = .returned (.agg #[.int .u8 (byteOf n 0 : Int), .int .u8 (byteOf n 1 : Int), .int .u8 (byteOf n 2 : Int), .int .u8 (byteOf n 3 : Int), .int .u8 (byteOf n 4 : Int), .int .u8 (byteOf n 5 : Int), .int .u8 (byteOf n 6 : Int), .int .u8 (byteOf n 7 : Int)]) ∧ Below w.heap.size w w' := by
  go_enter Try.func61, Try.ntmps61
  go_wp2
  refine wp_loop_rounds 9 ?_
  iterate 9 (rw [rounds_succ]; go_wp2)
  refine bodyPost_ret (v := .agg #[.int .u8 (byteOf n 0 : Int), .int .u8 (byteOf n 1 : Int), .int .u8 (byteOf n 2 : Int), .int .u8 (byteOf n 3 : Int), .int .u8 (byteOf n 4 : Int), .int .u8 (byteOf n 5 : Int), .int .u8 (byteOf n 6 : Int), .int .u8 (byteOf n 7 : Int)]) (by simp [results, Try.results61, go_sem, byteOf]) rfl ⟨rfl, ?_⟩
  exact ((Below.refl _ _).alloc (Nat.le_refl _) _).alloc (by simp) _
end Go.Proofs.Ytngmkbbeafefaaa
