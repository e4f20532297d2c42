/- What the calls of package cell answer, as plain functions of numbers, by the document's own words. -/
import Derived.RowKit
import Derived.IntWalk
import Derived.Laws.Bits64
namespace Go.Proofs.Ytekfemkoiadipaa
open Go.RowKit

/-- A cell, read without a sign. -/
def un (n : Int) : Nat := (IntKind.u64.wrap n).toNat
theorem un_cast (n : Int) : IntKind.u64.wrap n = (un n : Int) := by unfold un; rw [IntKind.wrap_u64]; omega
theorem un_mod (n : Int) : (un n : Int) = n % 18446744073709551616 := by rw [← un_cast, IntKind.wrap_u64]
theorem un_lt (n : Int) : un n < 18446744073709551616 := by have := un_mod n; omega
end Go.Proofs.Ytekfemkoiadipaa
