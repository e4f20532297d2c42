/- Plain arithmetic of natural numbers under a quotient of two digits by two (Knuth's way): no model's run is named here. -/
namespace Go.Proofs.Ytlkjopbgobkgmaa.Plain

/-- The loop's test is that the guess is too great. -/
theorem digit_test (B v1 v0 u n q r : Nat) (h : q * v1 + r = u) : B * r + n < q * v0 ↔ u * B + n < q * (v1 * B + v0) := by
  subst h
  have e1 : q * (v1 * B + v0) = q * v1 * B + q * v0 := by rw [Nat.mul_add, Nat.mul_assoc]
  have e2 : (q * v1 + r) * B = q * v1 * B + r * B := Nat.add_mul _ _ _
  have e3 : B * r = r * B := Nat.mul_comm _ _
  rw [e1, e2, e3]
  omega

theorem digit_lt (B v u n : Nat) (hu : u < v) (hn : n < B) : (u * B + n) / v < B := by
  refine Nat.div_lt_of_lt_mul ?_
  have : (u + 1) * B ≤ v * B := Nat.mul_le_mul_right _ hu
  rw [Nat.add_mul] at this
  omega

theorem guess_ge (B v1 v0 u n : Nat) (h1 : 0 < v1) (hn : n < B) : (u * B + n) / (v1 * B + v0) ≤ u / v1 := by
  rw [Nat.le_div_iff_mul_le h1]
  have hB : 0 < B := by omega
  have h : (u * B + n) / (v1 * B + v0) * (v1 * B + v0) ≤ u * B + n := Nat.div_mul_le_self _ _
  generalize (u * B + n) / (v1 * B + v0) = q at h ⊢
  rw [Nat.mul_add, ← Nat.mul_assoc] at h
  have h2 : q * v1 * B < (u + 1) * B := by rw [Nat.add_mul]; omega
  have := Nat.lt_of_mul_lt_mul_right h2
  omega

theorem guess_le (B v1 v0 u : Nat) (h1 : B ≤ 2 * v1) (h0 : v0 < B) (hu : u < v1 * B + v0) (_hv : 0 < v1) : u / v1 ≤ B + 1 := by
  have : u / v1 < B + 2 := by
    refine Nat.div_lt_of_lt_mul ?_
    rw [Nat.mul_add]
    omega
  omega

/-- Once the rest has grown to a digit and more, the guess is right. -/
theorem digit_break (B v1 v0 u n q r : Nat) (hq : q ≤ B) (h0 : v0 < B) (hr : B ≤ r) (h : q * v1 + r = u) : q * (v1 * B + v0) ≤ u * B + n := by
  have t := digit_test B v1 v0 u n q r h
  have a : q * v0 ≤ B * v0 := Nat.mul_le_mul_right _ hq
  have b : B * v0 ≤ B * r := Nat.mul_le_mul_left _ (by omega)
  have : ¬ (B * r + n < q * v0) := by omega
  have := mt t.2 this
  omega

/-- Two digits are one quotient. -/
theorem two_digits (B v u n1 n0 : Nat) (hv : 0 < v) (_hB : 0 < B) :
    (u * B + n1) / v * B + ((u * B + n1) % v * B + n0) / v = ((u * B + n1) * B + n0) / v ∧
    ((u * B + n1) % v * B + n0) % v = ((u * B + n1) * B + n0) % v := by
  have e := Nat.div_add_mod (u * B + n1) v
  generalize (u * B + n1) / v = q at *
  generalize (u * B + n1) % v = r at *
  have e2 : (u * B + n1) * B + n0 = v * (q * B) + (r * B + n0) := by
    rw [← e, Nat.add_mul, Nat.mul_assoc]; omega
  rw [e2]
  constructor
  · rw [Nat.mul_add_div hv]
  · rw [Nat.mul_add_mod]

/-- Dividend and divisor times a power: the quotient stays, the rest is times it. -/
theorem scaled (N y p : Nat) (hp : 0 < p) : (N * p) / (y * p) = N / y ∧ (N * p) % (y * p) / p = N % y := by
  constructor
  · exact Nat.mul_div_mul_right _ _ hp
  · rw [Nat.mul_mod_mul_right, Nat.mul_div_cancel _ hp]

end Go.Proofs.Ytlkjopbgobkgmaa.Plain
