/- Contracts of the document's UShow and Show. -/
import Derived.Test.YtakeaocmiblbeaaNumStr
namespace Go.Proofs.Ytakeaocmiblbeaa
open Go.RowKit
set_option linter.unusedVariables false
set_option linter.unusedSimpArgs false

/-- What is there yet of a number's text, and what comes ahead of it. -/
def Rest (b u0 u : Nat) (l : List UInt8) : Prop := (b ≤ u → usF b u0 = usF b (u / b) ++ l) ∧ (u < b → usF b u0 = l)
theorem us_le {b : Nat} (h2 : 2 ≤ b) : ∀ j u, u < 2 ^ (j + 1) → (usF b u).length ≤ j + 1 := by
  intro j
  induction j with
  | zero =>
    intro u hu
    rw [usF_low (by omega)]
    simp
  | succ j ih =>
    intro u hu
    by_cases h : b ≤ u
    · rw [usF_big h2 h, List.length_append]
      have hd : u / b < 2 ^ (j + 1) := by
        rw [Nat.div_lt_iff_lt_mul (by omega)]
        have e : 2 ^ (j + 1 + 1) = 2 ^ (j + 1) * 2 := Nat.pow_succ _ _
        have : 2 ^ (j + 1) * 2 ≤ 2 ^ (j + 1) * b := Nat.mul_le_mul_left _ h2
        omega
      have := ih _ hd
      simp
      omega
    · rw [usF_low (by omega)]
      simp
theorem Rest.len {b u0 u : Nat} {l : List UInt8} (h2 : 2 ≤ b) (h : Rest b u0 u l) (h0 : u0 < 18446744073709551616) : l.length ≤ 64 := by
  have hl := us_le h2 63 u0 (by omega)
  by_cases hu : b ≤ u
  · rw [h.1 hu, List.length_append] at hl
    omega
  · rw [h.2 (by omega)] at hl
    exact hl
theorem cat_ok {a b : List UInt8} (h : a.length + b.length ≤ 9223372036854775807) : ¬ (9223372036854775807 < (strB a).size + (strB b).size) := by
  rw [strB_size, strB_size]
  omega
theorem alloc_then {w w1 : World} {o : Obj} (b : Below w.heap.size w w1) : Below w.heap.size w (w1.alloc o) := b.alloc b.size o

end Go.Proofs.Ytakeaocmiblbeaa
