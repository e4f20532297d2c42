/- Plain arithmetic of products that are divided again. No model's run is named here. -/
import Derived.Test.YtadnajoefhajgaaMathB
namespace Go.Proofs.Ytadnajoefhajgaa
open Go.RowKit

theorem pair_prod (a b : Int) (ha : cellR a) (hb : cellR b) : pr (umLo a b) (smHi a b) = a * b := by
  unfold pr
  rw [un_mod, umLo_eq a b ha hb]
  unfold smHi wrap64
  omega
theorem prod_back (a b : Int) (ha : cellR a) (hb : cellR b) (h0 : b ≠ 0) :
    sq (umLo a b) (smHi a b) b = a ∧ sr (umLo a b) (smHi a b) b = 0 ∧ sc (umLo a b) (smHi a b) b = 0 ∧ fq (umLo a b) (smHi a b) b = a ∧ fr (umLo a b) (smHi a b) b = 0 ∧ fc (umLo a b) (smHi a b) b = 0 := by
  have e := pair_prod a b ha hb
  have t1 : (a * b).tdiv b = a := Int.mul_tdiv_cancel a h0
  have t2 : (a * b).tmod b = 0 := Int.mul_tmod_left a b
  have hk : sok (umLo a b) (smHi a b) b = true := by
    unfold sok
    rw [e, t1]
    unfold cellR at ha
    simp [h0]
    omega
  have q1 : sq (umLo a b) (smHi a b) b = a := by simp [sq, hk, e, t1]
  have q2 : sr (umLo a b) (smHi a b) b = 0 := by simp [sr, hk, e, t2]
  have q3 : leans 0 b = false := by simp [leans]
  refine ⟨q1, q2, by simp [sc, hk, h0], ?_, ?_, ?_⟩
  · simp [fq, fok, hk, q1, q2, q3]
  · simp [fr, fok, hk, q2, q3]
  · simp [fc, fok, hk, q2, q3, h0]

theorem un_wrap (n : Int) : (un (wrap64 n) : Int) = n % 18446744073709551616 := by rw [un_mod]; unfold wrap64; omega
theorem un_wrap_nat (k : Nat) (h : k < 18446744073709551616) : un (wrap64 (k : Int)) = k := by have := un_wrap (k : Int); omega

/-- Plain arithmetic: a rest below the divisor is added to a product's low part. -/
theorem carry_nat (A B R p : Nat) (hA : A < 18446744073709551616) (hB : B < 18446744073709551616) (hR : R < B) (hp : A * B = p) :
    (18446744073709551616 ≤ p % 18446744073709551616 + R → (p / 18446744073709551616 + 1) * 18446744073709551616 + (p % 18446744073709551616 + R) % 18446744073709551616 = p + R ∧ p / 18446744073709551616 + 1 < B) ∧
    (p % 18446744073709551616 + R < 18446744073709551616 → p / 18446744073709551616 * 18446744073709551616 + (p % 18446744073709551616 + R) % 18446744073709551616 = p + R ∧ p / 18446744073709551616 < B) := by
  have h : (A + 1) * B ≤ 18446744073709551616 * B := Nat.mul_le_mul_right _ hA
  rw [Nat.add_mul, hp] at h
  omega
theorem div_nat (A B R p : Nat) (hR : R < B) (hp : A * B = p) : (p + R) / B = A ∧ (p + R) % B = R := by
  subst hp
  rw [Nat.mul_comm]
  exact ⟨by rw [Nat.mul_add_div (by omega), Nat.div_eq_of_lt hR, Nat.add_zero], by rw [Nat.mul_add_mod, Nat.mod_eq_of_lt hR]⟩
theorem prod_small (A B p : Nat) (hA : A < 18446744073709551616) (hB : B < 18446744073709551616) (hp : A * B = p) : p / 18446744073709551616 < 18446744073709551616 := by
  have : A * B ≤ 18446744073709551615 * 18446744073709551615 := Nat.mul_le_mul (by omega) (by omega)
  omega
theorem un_back {a : Int} (ha : cellR a) : wrap64 ((un a : Nat) : Int) = a := by
  have := un_mod a; unfold cellR at ha; unfold wrap64; omega
theorem uq_of (lo hi b a r : Int) (N : Nat) (hN : un hi * 18446744073709551616 + un lo = N) (hk : un hi < un b) (ha : cellR a) (hr : cellR r) (hq : N / un b = un a) (hm : N % un b = un r) :
    uq lo hi b = a ∧ ur lo hi b = r ∧ uok hi b = true := by
  have hk' : uok hi b = true := by unfold uok; exact decide_eq_true hk
  refine ⟨?_, ?_, hk'⟩
  · rw [uq, if_pos hk', hN, hq, un_back ha]
  · rw [ur, if_pos hk', hN, hm, un_back hr]
theorem un_add (x r : Int) : un (wrap64 (x + r)) = (un x + un r) % 18446744073709551616 := by
  have h1 := un_wrap (x + r)
  have h2 := un_mod x
  have h3 := un_mod r
  omega
theorem un_next (x : Int) (h : un x + 1 < 18446744073709551616) : un (wrap64 (x + 1)) = un x + 1 := by
  have h1 := un_wrap (x + 1)
  have h2 := un_mod x
  omega
theorem un_lo (a b : Int) (p : Nat) (hp : un a * un b = p) : un (umLo a b) = p % 18446744073709551616 := by
  unfold umLo; rw [hp]; exact un_wrap_nat _ (Nat.mod_lt _ (by omega))
theorem un_hi (a b : Int) (p : Nat) (hp : un a * un b = p) : un (umHi a b) = p / 18446744073709551616 := by
  unfold umHi; rw [hp]; exact un_wrap_nat _ (prod_small _ _ _ (un_lt a) (un_lt b) hp)

/-- The rest is added to the low cell, and what goes round there to the high one. -/
theorem carry_back (a b r : Int) (ha : cellR a) (hr : cellR r) (h : un r < un b) :
    (un (wrap64 (umLo a b + r)) < un (umLo a b) → uq (wrap64 (umLo a b + r)) (wrap64 (umHi a b + 1)) b = a ∧ ur (wrap64 (umLo a b + r)) (wrap64 (umHi a b + 1)) b = r ∧ uok (wrap64 (umHi a b + 1)) b = true) ∧
    (¬ un (wrap64 (umLo a b + r)) < un (umLo a b) → uq (wrap64 (umLo a b + r)) (umHi a b) b = a ∧ ur (wrap64 (umLo a b + r)) (umHi a b) b = r ∧ uok (umHi a b) b = true) := by
  obtain ⟨p, hp⟩ : ∃ p, un a * un b = p := ⟨_, rfl⟩
  have hl := un_add (umLo a b) r
  have hx := un_lo a b p hp
  have hy := un_hi a b p hp
  have lb := un_lt b
  have lr := un_lt r
  have c := carry_nat (un a) (un b) (un r) p (un_lt a) lb h hp
  have d := div_nat (un a) (un b) (un r) p h hp
  rw [hx] at hl
  constructor
  · intro hc
    rw [hl, hx] at hc
    have hc' : 18446744073709551616 ≤ p % 18446744073709551616 + un r := by omega
    obtain ⟨c1, c2⟩ := c.1 hc'
    have hy1 := un_next (umHi a b) (by rw [hy]; omega)
    rw [hy] at hy1
    exact uq_of _ _ _ _ _ (p + un r) (by rw [hy1, hl]; exact c1) (by rw [hy1]; exact c2) ha hr d.1 d.2
  · intro hc
    rw [hl, hx] at hc
    have hc' : p % 18446744073709551616 + un r < 18446744073709551616 := by omega
    obtain ⟨c1, c2⟩ := c.2 hc'
    exact uq_of _ _ _ _ _ (p + un r) (by rw [hy, hl]; exact c1) (by rw [hy]; exact c2) ha hr d.1 d.2

theorem prod_zero (a : Int) : umLo a 0 = 0 ∧ umHi a 0 = 0 ∧ smHi a 0 = 0 := by
  have h : un 0 = 0 := by decide +kernel
  refine ⟨?_, ?_, ?_⟩
  · unfold umLo; rw [h]; simp [wrap64]
  · unfold umHi; rw [h]; simp [wrap64]
  · simp [smHi]

end Go.Proofs.Ytadnajoefhajgaa
