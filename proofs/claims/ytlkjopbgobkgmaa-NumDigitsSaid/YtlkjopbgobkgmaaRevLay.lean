/- The library's contract of slices.Reverse, laid at this program's own numbers, at bytes. -/
import Derived.Shelf.SlicesE.Reverse
import Derived.Test.YtlkjopbgobkgmaaProg
namespace Go.Proofs
open Go.Shelf
def Try.rev_ren : Go.Shelf.Ren := ⟨fun | 35 => 21 | n => n, fun | 0 => 0 | 3 => 3 | 4 => 4 | 22 => 38 | 23 => 5 | n => n, fun | n => n⟩
theorem Try.rev_lays : Go.Proofs.SlLaysE.n35 Try.prog Try.rev_ren := {
  mixed := by kernel_rfl
  f35 := ⟨"slices.Reverse[[]byte,byte]", by decide, Try.func21.trans (congrArg some (by kernel_rfl))⟩
  t0 := Try.underlying0
  a0 := Try.isAgg0
  z0 := Try.sizeOf0
  v0 := Try.zeroValue0
  t3 := Try.underlying3
  a3 := Try.isAgg3
  z3 := Try.sizeOf3
  v3 := Try.zeroValue3
  t4 := Try.underlying4
  a4 := Try.isAgg4
  z4 := Try.sizeOf4
  v4 := Try.zeroValue4
  t22 := Try.underlying38
  a22 := Try.isAgg38
  z22 := Try.sizeOf38
  v22 := Try.zeroValue38
  a23 := Try.isAgg5
  z23 := Try.sizeOf5 }
theorem Try.slices_Reverse (blk off cap : Nat) (zs : List UInt8) (w : World) (hH : Go.Sort.Holds (fun b : UInt8 => Value.int .u8 (b.toNat : Int)) w blk off zs.toArray) (hsz : zs.length ≤ 9223372036854775807) :
    Calls Try.prog 21 #[.slice (some ⟨blk, off, none⟩) zs.length cap] w fun e w' => e = .returned (.tuple #[]) ∧ ∃ n, w' = Go.Sort.putRow (fun b : UInt8 => Value.int .u8 (b.toNat : Int)) (Go.Sort.ahead w n) blk off zs.reverse.toArray :=
  AnyE.slices_Reverse Try.rev_lays (fun b : UInt8 => Value.int .u8 (b.toNat : Int)) (fun _ => rfl) blk off cap zs w hH hsz
end Go.Proofs
