/- Contracts of gather and spread of package cell: a number out of its bytes, and its bytes. -/
import Derived.Test.YtekfemkoiadipaaMemBase
import Derived.LoopN
namespace Go.Proofs.Ytekfemkoiadipaa
open Go.RowKit

/-- A number's byte, the lowest first. -/
def byteOf (n i : Nat) : Nat := n / 256 ^ i % 256
theorem byteOf_lt (n i : Nat) : byteOf n i < 256 := Nat.mod_lt _ (by omega)

/-- The number of eight bytes, the lowest first. -/
def eight (x0 x1 x2 x3 x4 x5 x6 x7 : Nat) : Nat := x0 + x1 * 256 + x2 * 65536 + x3 * 16777216 + x4 * 4294967296 + x5 * 1099511627776 + x6 * 281474976710656 + x7 * 72057594037927936
theorem eight_bytes (n : Nat) (h : n < 18446744073709551616) : eight (byteOf n 0) (byteOf n 1) (byteOf n 2) (byteOf n 3) (byteOf n 4) (byteOf n 5) (byteOf n 6) (byteOf n 7) = n := by
  unfold eight byteOf
  simp only [Nat.reducePow]
  omega
set_option maxRecDepth 100000 in
set_option maxHeartbeats 1000000 in
theorem spread_any (n : Nat) (w : World) :
    Calls Try.prog 37 #[.int .u64 (n : Int)] w fun e w' => e = .returned (.agg #[.int .u8 (byteOf n 0 : Int), .int .u8 (byteOf n 1 : Int), .int .u8 (byteOf n 2 : Int), .int .u8 (byteOf n 3 : Int), .int .u8 (byteOf n 4 : Int), .int .u8 (byteOf n 5 : Int), .int .u8 (byteOf n 6 : Int), .int .u8 (byteOf n 7 : Int)]) ∧ Below w.heap.size w w' := by
  go_enter Try.func37, Try.ntmps37
  go_wp2
  refine wp_loop_rounds 9 ?_
  iterate 9 (rw [rounds_succ]; go_wp2)
  refine bodyPost_ret (v := .agg #[.int .u8 (byteOf n 0 : Int), .int .u8 (byteOf n 1 : Int), .int .u8 (byteOf n 2 : Int), .int .u8 (byteOf n 3 : Int), .int .u8 (byteOf n 4 : Int), .int .u8 (byteOf n 5 : Int), .int .u8 (byteOf n 6 : Int), .int .u8 (byteOf n 7 : Int)]) (by simp [results, Try.results37, go_sem, byteOf]) rfl ⟨rfl, ?_⟩
  exact ((Below.refl _ _).alloc (Nat.le_refl _) _).alloc (by simp) _
end Go.Proofs.Ytekfemkoiadipaa
