/- What the calls of package cell answer, as plain functions of numbers, by the document's own words. -/
import Derived.RowKit
import Derived.IntWalk
import Derived.Laws.Bits64
namespace Go.Proofs.Ytngmkbbeafefaaa
open Go.RowKit

/-- A cell, read without a sign. -/
def un (n : Int) : Nat := (IntKind.u64.wrap n).toNat
theorem un_cast (n : Int) : IntKind.u64.wrap n = (un n : Int) := by unfold un; rw [IntKind.wrap_u64]; omega
theorem un_mod (n : Int) : (un n : Int) = n % 18446744073709551616 := by rw [← un_cast, IntKind.wrap_u64]
theorem un_lt (n : Int) : un n < 18446744073709551616 := by have := un_mod n; omega
theorem un_nat (k : Nat) (h : k < 18446744073709551616) : IntKind.u64.wrap (k : Int) = (k : Int) := by rw [IntKind.wrap_u64]; omega

/-- Is the quotient that left this rest, rounded to 0, rounded up? -/
def leans (r d : Int) : Bool := r != 0 && (decide (r < 0) != decide (d < 0))

def dq (a b : Int) : Int := if b = 0 then 0 else if leans (a.tmod b) b then wrap64 (wrap64 (a.tdiv b) - 1) else wrap64 (a.tdiv b)
def dr (a b : Int) : Int := if b = 0 then 0 else if leans (a.tmod b) b then a.tmod b + b else a.tmod b
def dc (b : Int) : Int := if b = 0 then -10 else 0

/-- Products: the low cell and the high one. -/
def umLo (a b : Int) : Int := wrap64 ((un a * un b % 18446744073709551616 : Nat) : Int)
def umHi (a b : Int) : Int := wrap64 ((un a * un b / 18446744073709551616 : Nat) : Int)
def smHi (a b : Int) : Int := a * b / 18446744073709551616

/-- Quotients of pairs without a sign. -/
def uok (hi d : Int) : Bool := decide (un hi < un d)
def uq (lo hi d : Int) : Int := if uok hi d then wrap64 (((un hi * 18446744073709551616 + un lo) / un d : Nat) : Int) else 0
def ur (lo hi d : Int) : Int := if uok hi d then wrap64 (((un hi * 18446744073709551616 + un lo) % un d : Nat) : Int) else 0
def uc (hi d : Int) : Int := if d = 0 then -10 else if uok hi d then 0 else -11

/-- A pair with a sign. -/
def pr (lo hi : Int) : Int := (un lo : Int) + 18446744073709551616 * hi
def sok (lo hi d : Int) : Bool := d != 0 && decide (-9223372036854775808 ≤ (pr lo hi).tdiv d) && decide ((pr lo hi).tdiv d ≤ 9223372036854775807)
def sq (lo hi d : Int) : Int := if sok lo hi d then (pr lo hi).tdiv d else 0
def sr (lo hi d : Int) : Int := if sok lo hi d then (pr lo hi).tmod d else 0
def sc (lo hi d : Int) : Int := if d = 0 then -10 else if sok lo hi d then 0 else -11

def fok (lo hi d : Int) : Bool := sok lo hi d && !(leans (sr lo hi d) d && sq lo hi d == -9223372036854775808)
def fq (lo hi d : Int) : Int := if fok lo hi d then (if leans (sr lo hi d) d then sq lo hi d - 1 else sq lo hi d) else 0
def fr (lo hi d : Int) : Int := if fok lo hi d then (if leans (sr lo hi d) d then sr lo hi d + d else sr lo hi d) else 0
def fc (lo hi d : Int) : Int := if d = 0 then -10 else if fok lo hi d then 0 else -11

/-- A number without a sign, times -1, and what is borrowed. -/
def negU (y b : Nat) : Nat := (18446744073709551616 - y - b) % 18446744073709551616
def bor (y b : Nat) : Nat := if 0 < y + b then 1 else 0

/-- The range of a cell. -/
def cellR (n : Int) : Prop := -9223372036854775808 ≤ n ∧ n ≤ 9223372036854775807
theorem cellR_of {n : Int} (h : (Lit.int .i64 n).wf = true) : cellR n := by
  simp only [Lit.wf, IntKind.min, IntKind.max, IntKind.signed, IntKind.bits, Bool.and_eq_true, decide_eq_true_eq, if_true] at h
  unfold cellR; omega
theorem cellR_wrap (n : Int) : cellR (wrap64 n) := by unfold cellR wrap64; omega
theorem wrap_in {n : Int} (h : cellR n) : wrap64 n = n := IntWalk.wrap64_in n h
end Go.Proofs.Ytngmkbbeafefaaa
