/- What the calls of package cell answer, as plain functions of numbers, by the document's own words. -/
import Derived.RowKit
import Derived.IntWalk
import Derived.Laws.Bits64
namespace Go.Proofs.Ytlkjopbgobkgmaa
open Go.RowKit

/-- A cell, read without a sign. -/
def un (n : Int) : Nat := (IntKind.u64.wrap n).toNat
theorem un_cast (n : Int) : IntKind.u64.wrap n = (un n : Int) := by unfold un; rw [IntKind.wrap_u64]; omega
theorem un_mod (n : Int) : (un n : Int) = n % 18446744073709551616 := by rw [← un_cast, IntKind.wrap_u64]
theorem un_lt (n : Int) : un n < 18446744073709551616 := by have := un_mod n; omega
theorem un_nat (k : Nat) (h : k < 18446744073709551616) : IntKind.u64.wrap (k : Int) = (k : Int) := by rw [IntKind.wrap_u64]; omega

/-- Quotients of pairs without a sign. -/
def uok (hi d : Int) : Bool := decide (un hi < un d)
def uq (lo hi d : Int) : Int := if uok hi d then wrap64 (((un hi * 18446744073709551616 + un lo) / un d : Nat) : Int) else 0
def ur (lo hi d : Int) : Int := if uok hi d then wrap64 (((un hi * 18446744073709551616 + un lo) % un d : Nat) : Int) else 0
def uc (hi d : Int) : Int := if d = 0 then -10 else if uok hi d then 0 else -11

/-- A pair with a sign. -/
def pr (lo hi : Int) : Int := (un lo : Int) + 18446744073709551616 * hi
def sok (lo hi d : Int) : Bool := d != 0 && decide (-9223372036854775808 ≤ (pr lo hi).tdiv d) && decide ((pr lo hi).tdiv d ≤ 9223372036854775807)
def sc (lo hi d : Int) : Int := if d = 0 then -10 else if sok lo hi d then 0 else -11

/-- The range of a cell. -/
def cellR (n : Int) : Prop := -9223372036854775808 ≤ n ∧ n ≤ 9223372036854775807
end Go.Proofs.Ytlkjopbgobkgmaa
