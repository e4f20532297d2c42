/- Plain arithmetic of cells: quotients rounded to 0, products of cells read with a sign and without one, pairs. No model's run is named here. -/
import Derived.Test.YtngmkbbeafefaaaSpec
namespace Go.Proofs.Ytngmkbbeafefaaa
open Go.RowKit

theorem tfacts (a b : Int) (h : b ≠ 0) : b * a.tdiv b + a.tmod b = a ∧ (a.tmod b).natAbs < b.natAbs ∧ (0 ≤ a → 0 ≤ a.tmod b) ∧ (a ≤ 0 → a.tmod b ≤ 0) := by
  refine ⟨Int.mul_tdiv_add_tmod a b, ?_, fun h0 => Int.tmod_nonneg b h0, fun h0 => ?_⟩
  · rw [Int.natAbs_tmod]
    exact Nat.mod_lt _ (by omega)
  · have := Int.tmod_nonneg b (a := -a) (by omega)
    rw [Int.neg_tmod] at this
    omega

theorem tdiv_sign (a b : Int) : a.tdiv b = if decide (a < 0) != decide (b < 0) then -((a.natAbs / b.natAbs : Nat) : Int) else ((a.natAbs / b.natAbs : Nat) : Int) := by
  have e : ∀ m n : Nat, (m : Int).tdiv (n : Int) = ((m / n : Nat) : Int) := fun m n => rfl
  rcases Int.natAbs_eq a with ha | ha <;> rcases Int.natAbs_eq b with hb | hb
  · have h1 : ¬ a < 0 := by omega
    have h2 : ¬ b < 0 := by omega
    rw [if_neg (by simp [h1, h2])]
    conv => lhs; rw [ha, hb, e]
  · by_cases h0 : b = 0
    · subst h0; simp
    · have h1 : ¬ a < 0 := by omega
      have h2 : b < 0 := by omega
      rw [if_pos (by simp [h1, h2])]
      conv => lhs; rw [ha, hb, Int.tdiv_neg, e]
  · by_cases h0 : a = 0
    · subst h0; simp
    · have h1 : a < 0 := by omega
      have h2 : ¬ b < 0 := by omega
      rw [if_pos (by simp [h1, h2])]
      conv => lhs; rw [ha, hb, Int.neg_tdiv, e]
  · by_cases h0 : a = 0
    · subst h0; simp
    · by_cases h3 : b = 0
      · subst h3; simp
      · have h1 : a < 0 := by omega
        have h2 : b < 0 := by omega
        rw [if_neg (by simp [h1, h2])]
        conv => lhs; rw [ha, hb, Int.neg_tdiv, Int.tdiv_neg, e, Int.neg_neg]

theorem tmod_sign (a b : Int) : a.tmod b = if a < 0 then -((a.natAbs % b.natAbs : Nat) : Int) else ((a.natAbs % b.natAbs : Nat) : Int) := by
  have h := Int.natAbs_tmod a b
  by_cases ha : a < 0
  · rw [if_pos ha]
    have := Int.tmod_nonneg b (a := -a) (by omega)
    rw [Int.neg_tmod] at this
    omega
  · rw [if_neg ha]
    have := Int.tmod_nonneg b (a := a) (by omega)
    omega

theorem leans_true {r d : Int} (h : leans r d = true) : (r < 0 ∧ 0 ≤ d) ∨ (0 < r ∧ d < 0) := by
  unfold leans at h
  by_cases h1 : r < 0 <;> by_cases h2 : d < 0 <;> simp [h1, h2] at h <;> omega

theorem leans_false {r d : Int} (h : leans r d = false) : r = 0 ∨ (r < 0 ∧ d < 0) ∨ (0 < r ∧ 0 ≤ d) := by
  unfold leans at h
  by_cases h1 : r < 0 <;> by_cases h2 : d < 0 <;> simp [h1, h2] at h <;> omega

theorem tmod_cell (a b : Int) (h : b ≠ 0) (hb : cellR b) : cellR (a.tmod b) := by
  obtain ⟨_, h1, _, _⟩ := tfacts a b h
  unfold cellR at *; omega

theorem leans_sum (a b : Int) (h : b ≠ 0) (hb : cellR b) (hl : leans (a.tmod b) b = true) : cellR (a.tmod b + b) := by
  obtain ⟨_, h1, _, _⟩ := tfacts a b h
  have := leans_true hl
  unfold cellR at *; omega

/-- Products: the low cells are one; the high one with a sign out of that without. -/
theorem un_pos {a : Int} (h : cellR a) (h0 : 0 ≤ a) : (un a : Int) = a := by unfold cellR at h; have := un_mod a; omega
theorem un_neg {a : Int} (h : cellR a) (h0 : a < 0) : (un a : Int) = a + 18446744073709551616 := by unfold cellR at h; have := un_mod a; omega
theorem un_zero {a : Int} (h : cellR a) : un a = 0 ↔ a = 0 := by unfold cellR at h; have := un_mod a; omega

theorem prod_cases (a b : Int) (ha : cellR a) (hb : cellR b) : ((un a * un b : Nat) : Int) = a * b + 18446744073709551616 * ((if a < 0 then b else 0) + (if b < 0 then a else 0) + (if a < 0 ∧ b < 0 then 18446744073709551616 else 0)) := by
  rw [Int.natCast_mul]
  by_cases h1 : a < 0 <;> by_cases h2 : b < 0
  · rw [un_neg ha h1, un_neg hb h2, Int.add_mul, Int.mul_add, Int.mul_add]; simp [h1, h2]; omega
  · rw [un_neg ha h1, un_pos hb (by omega), Int.add_mul]; simp [h1, h2]
  · rw [un_pos ha (by omega), un_neg hb h2, Int.mul_add]; simp [h1, h2]; omega
  · rw [un_pos ha (by omega), un_pos hb (by omega)]; simp [h1, h2]

theorem prod_bd (a b : Int) (ha : cellR a) (hb : cellR b) : -85070591730234615865843651857942052864 ≤ a * b ∧ a * b ≤ 85070591730234615865843651857942052864 := by
  unfold cellR at *
  have h : (a * b).natAbs ≤ 85070591730234615865843651857942052864 := by
    rw [Int.natAbs_mul]
    have h1 : a.natAbs ≤ 9223372036854775808 := by omega
    have h2 : b.natAbs ≤ 9223372036854775808 := by omega
    exact Nat.mul_le_mul h1 h2
  omega

theorem smHi_cell (a b : Int) (ha : cellR a) (hb : cellR b) : cellR (smHi a b) := by
  have := prod_bd a b ha hb
  unfold cellR smHi; omega

theorem umLo_eq (a b : Int) (ha : cellR a) (hb : cellR b) : umLo a b = wrap64 (a * b) := by
  have h := prod_cases a b ha hb
  unfold umLo wrap64
  generalize un a * un b = p at *
  generalize a * b = q at *
  split at h <;> split at h <;> split at h <;> omega

theorem smHi_eq (a b : Int) (ha : cellR a) (hb : cellR b) :
    (a < 0 → b < 0 → wrap64 (wrap64 (umHi a b - b) - a) = smHi a b) ∧ (a < 0 → ¬ b < 0 → wrap64 (umHi a b - b) = smHi a b) ∧
    (¬ a < 0 → b < 0 → wrap64 (umHi a b - a) = smHi a b) ∧ (¬ a < 0 → ¬ b < 0 → umHi a b = smHi a b) := by
  have h := prod_cases a b ha hb
  have g := prod_bd a b ha hb
  unfold umHi smHi wrap64
  unfold cellR at ha hb
  generalize un a * un b = p at *
  generalize a * b = q at *
  refine ⟨?_, ?_, ?_, ?_⟩ <;> intro h1 h2 <;> simp only [h1, h2, if_true, if_false, and_true, and_false] at h <;> omega

/-- A pair's distance from 0, in two cells. -/
theorem pr_nonneg (lo hi : Int) (h : 0 ≤ hi) : 0 ≤ pr lo hi := by unfold pr; omega
theorem pr_neg (lo hi : Int) (h : hi < 0) : pr lo hi < 0 := by have := un_lt lo; unfold pr; omega

theorem bor_le (y b : Nat) : bor y b ≤ 1 := by unfold bor; split <;> omega
theorem pair_neg (lo hi : Int) (hh : cellR hi) (h : hi < 0) :
    negU (un lo) 0 = (pr lo hi).natAbs % 18446744073709551616 ∧ negU (un hi) (bor (un lo) 0) = (pr lo hi).natAbs / 18446744073709551616 := by
  have a := un_neg hh h
  have b := un_lt lo
  have c := un_lt hi
  unfold pr negU bor
  unfold cellR at hh
  split <;> omega
theorem pair_pos (lo hi : Int) (hh : cellR hi) (h : 0 ≤ hi) :
    un lo = (pr lo hi).natAbs % 18446744073709551616 ∧ un hi = (pr lo hi).natAbs / 18446744073709551616 := by
  have a := un_pos hh h
  have b := un_lt lo
  have c := un_lt hi
  unfold pr
  omega

end Go.Proofs.Ytngmkbbeafefaaa
