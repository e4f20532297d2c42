/- What the calls of package num answer, as plain functions, by the document's own words. -/
import Derived.Test.YtakeaocmiblbeaaSpec
namespace Go.Proofs.Ytakeaocmiblbeaa
open Go.RowKit
set_option linter.unusedVariables false
set_option linter.unusedSimpArgs false

/-- A digit's sign. -/
def digN (n : Nat) : Nat := if n ≤ 9 then 48 + n else if n ≤ 35 then 55 + n else 63
/-- A number in digits. -/
def usF (b u : Nat) : List UInt8 :=
  if h : 2 ≤ b ∧ b ≤ u then usF b (u / b) ++ [UInt8.ofNat (digN (u % b))] else [UInt8.ofNat (digN u)]
termination_by u
decreasing_by exact Nat.div_lt_self (by omega) (by omega)
theorem usF_big {b u : Nat} (h2 : 2 ≤ b) (h : b ≤ u) : usF b u = usF b (u / b) ++ [UInt8.ofNat (digN (u % b))] := by
  rw [usF, dif_pos ⟨h2, h⟩]
theorem usF_low {b u : Nat} (h : u < b) : usF b u = [UInt8.ofNat (digN u)] := by
  rw [usF, dif_neg (by omega)]
end Go.Proofs.Ytakeaocmiblbeaa
