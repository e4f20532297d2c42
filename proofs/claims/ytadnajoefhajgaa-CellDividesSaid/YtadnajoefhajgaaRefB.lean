/- Contracts of the document's own answers for layer 1: UMul, Mul, udiv, UDiv. -/
import Derived.Test.YtadnajoefhajgaaRefA
namespace Go.Proofs.Ytadnajoefhajgaa
open Go.RowKit

set_option maxHeartbeats 400000 in
theorem rumul_any (a b : Int) (w : World) :
    Calls Try.prog 22 #[.int .i64 a, .int .i64 b] w fun e w' => e = .returned (.tuple #[.int .i64 (umLo a b), .int .i64 (umHi a b)]) ∧ Below w.heap.size w w' := by
  have ea := un_cast a
  have eb := un_cast b
  obtain ⟨lo, hlo⟩ : ∃ k : Nat, Hid (un a * un b % 18446744073709551616 = k) := ⟨_, Lib.hid rfl⟩
  obtain ⟨hi, hhi⟩ : ∃ k : Nat, Hid (un a * un b / 18446744073709551616 = k) := ⟨_, Lib.hid rfl⟩
  have cu := fun w => rumulN_any (un a) (un b) w (un_lt a) (un_lt b)
  rw [hlo.out, hhi.out] at cu
  have CU := Lib.hid cu
  clear cu
  go_enter Try.func22, Try.ntmps22
  go_wp2_with (go_at_call 35; refine (CU.out _).mono ?_; rintro e w1 ⟨rfl, hb⟩)
  go_ret2
  exact ⟨ret_two (by rw [umLo, hlo.out]) (by rw [umHi, hhi.out]), hb⟩

theorem mul_parts (a b : Int) (ha : cellR a) (hb : cellR b) (P : Nat) (hP : a.natAbs * b.natAbs = P) :
    ((decide (a < 0) != decide (b < 0)) = false → wrap64 ((P % 18446744073709551616 : Nat) : Int) = umLo a b ∧ wrap64 ((P / 18446744073709551616 : Nat) : Int) = smHi a b) ∧
    ((decide (a < 0) != decide (b < 0)) = true → wrap64 ((negU (P % 18446744073709551616) 0 : Nat) : Int) = umLo a b ∧ wrap64 ((negU (P / 18446744073709551616) (bor (P % 18446744073709551616) 0) : Nat) : Int) = smHi a b) := by
  have hbd := prod_bd a b ha hb
  rw [umLo_eq a b ha hb]
  have e : (decide (a < 0) != decide (b < 0)) = false ∧ a * b = (P : Int) ∨ (decide (a < 0) != decide (b < 0)) = true ∧ a * b = -(P : Int) := by
    rcases Int.natAbs_eq a with h1 | h1 <;> rcases Int.natAbs_eq b with h2 | h2
    · refine Or.inl ⟨?_, ?_⟩
      · have c1 : ¬ a < 0 := by omega
        have c2 : ¬ b < 0 := by omega
        simp [c1, c2]
      · conv => lhs; rw [h1, h2, ← Int.natCast_mul, hP]
    · by_cases h0 : b = 0
      · subst h0
        have c1 : ¬ a < 0 := by omega
        exact Or.inl ⟨by simp [c1], by simp at hP; simp [← hP]⟩
      · refine Or.inr ⟨?_, ?_⟩
        · have c1 : ¬ a < 0 := by omega
          have c2 : b < 0 := by omega
          simp [c1, c2]
        · conv => lhs; rw [h1, h2, Int.mul_neg, ← Int.natCast_mul, hP]
    · by_cases h0 : a = 0
      · subst h0
        have c1 : ¬ b < 0 := by omega
        exact Or.inl ⟨by simp [c1], by simp at hP; simp [← hP]⟩
      · refine Or.inr ⟨?_, ?_⟩
        · have c1 : a < 0 := by omega
          have c2 : ¬ b < 0 := by omega
          simp [c1, c2]
        · conv => lhs; rw [h1, h2, Int.neg_mul, ← Int.natCast_mul, hP]
    · by_cases h0 : a = 0
      · subst h0
        simp at hP
        by_cases c2 : b < 0
        · exact Or.inr ⟨by simp [c2], by simp [← hP]⟩
        · exact Or.inl ⟨by simp [c2], by simp [← hP]⟩
      · by_cases h3 : b = 0
        · subst h3
          simp at hP
          by_cases c2 : a < 0
          · exact Or.inr ⟨by simp [c2], by simp [← hP]⟩
          · exact Or.inl ⟨by simp [c2], by simp [← hP]⟩
        · refine Or.inl ⟨?_, ?_⟩
          · have c1 : a < 0 := by omega
            have c2 : b < 0 := by omega
            simp [c1, c2]
          · conv => lhs; rw [h1, h2, Int.neg_mul_neg, ← Int.natCast_mul, hP]
  unfold smHi
  clear hP
  rcases e with ⟨e1, e2⟩ | ⟨e1, e2⟩
  · rw [e1, e2]
    rw [e2] at hbd
    refine ⟨fun _ => ?_, fun h => by cases h⟩
    unfold wrap64
    omega
  · rw [e1, e2]
    rw [e2] at hbd
    refine ⟨(fun h => by cases h), fun _ => ?_⟩
    unfold wrap64 negU bor
    split <;> omega

set_option maxHeartbeats 1000000 in
theorem rmul_any (a b : Int) (w : World) (ha : cellR a) (hb : cellR b) :
    Calls Try.prog 24 #[.int .i64 a, .int .i64 b] w fun e w' => e = .returned (.tuple #[.int .i64 (umLo a b), .int .i64 (smHi a b)]) ∧ Below w.heap.size w w' := by
  obtain ⟨A, hA⟩ : ∃ A : Nat, a.natAbs = A := ⟨_, rfl⟩
  obtain ⟨B, hB⟩ : ∃ B : Nat, b.natAbs = B := ⟨_, rfl⟩
  have M := mul_parts a b ha hb (A * B) (by rw [hA, hB])
  have c1 := fun w => rsize_any a w ha
  have c2 := fun w => rsize_any b w hb
  rw [hA] at c1
  rw [hB] at c2
  have lA : A < 18446744073709551616 := by unfold cellR at ha; omega
  have lB : B < 18446744073709551616 := by unfold cellR at hb; omega
  have cu := fun w => rumulN_any A B w lA lB
  obtain ⟨lo, hlo⟩ : ∃ k : Nat, A * B % 18446744073709551616 = k := ⟨_, rfl⟩
  obtain ⟨hi, hhi⟩ : ∃ k : Nat, A * B / 18446744073709551616 = k := ⟨_, rfl⟩
  have l1 : lo < 18446744073709551616 := by omega
  have l2 : hi < 18446744073709551616 := by have := prod_small A B _ lA lB rfl; omega
  rw [hlo, hhi] at cu M
  have ct := fun w => rturned_any lo hi w l1 l2
  have CT := Lib.hid ct
  have CU := Lib.hid cu
  have C1 := Lib.hid c1
  have C2 := Lib.hid c2
  have HM := Lib.hid M
  clear ct cu c1 c2 M hlo hhi hA hB lA lB l1 l2 ha hb
  by_cases h1 : a < 0 <;> by_cases h2 : b < 0
  · have d1 : decide (a < 0) = true := by simpa using h1
    have d2 : decide (b < 0) = true := by simpa using h2
    go_enter Try.func24, Try.ntmps24
    go_wp2_with (first | (go_at_call 36; ((with_reducible refine (C1.out _).mono ?_); rintro e w1 ⟨rfl, rfl⟩)) | (go_at_call 36; ((with_reducible refine (C2.out _).mono ?_); rintro e w1 ⟨rfl, rfl⟩)) | (go_at_call 35; refine (CU.out _).mono ?_; rintro e w1 ⟨rfl, hb⟩) | (go_at_call 37; refine (CT.out _).mono ?_; rintro e w1 ⟨rfl, rfl⟩))
    go_ret2
    exact ⟨ret_two (HM.out.1 (by simp [h1, h2])).1 (HM.out.1 (by simp [h1, h2])).2, hb⟩
  · have d1 : decide (a < 0) = true := by simpa using h1
    have d2 : decide (b < 0) = false := by simpa using h2
    go_enter Try.func24, Try.ntmps24
    go_wp2_with (first | (go_at_call 36; ((with_reducible refine (C1.out _).mono ?_); rintro e w1 ⟨rfl, rfl⟩)) | (go_at_call 36; ((with_reducible refine (C2.out _).mono ?_); rintro e w1 ⟨rfl, rfl⟩)) | (go_at_call 35; refine (CU.out _).mono ?_; rintro e w1 ⟨rfl, hb⟩) | (go_at_call 37; refine (CT.out _).mono ?_; rintro e w1 ⟨rfl, rfl⟩))
    go_ret2
    exact ⟨ret_two (HM.out.2 (by simp [h1, d2])).1 (HM.out.2 (by simp [h1, d2])).2, hb⟩
  · have d1 : decide (a < 0) = false := by simpa using h1
    have d2 : decide (b < 0) = true := by simpa using h2
    go_enter Try.func24, Try.ntmps24
    go_wp2_with (first | (go_at_call 36; ((with_reducible refine (C1.out _).mono ?_); rintro e w1 ⟨rfl, rfl⟩)) | (go_at_call 36; ((with_reducible refine (C2.out _).mono ?_); rintro e w1 ⟨rfl, rfl⟩)) | (go_at_call 35; refine (CU.out _).mono ?_; rintro e w1 ⟨rfl, hb⟩) | (go_at_call 37; refine (CT.out _).mono ?_; rintro e w1 ⟨rfl, rfl⟩))
    go_ret2
    exact ⟨ret_two (HM.out.2 (by simp [d1, h2])).1 (HM.out.2 (by simp [d1, h2])).2, hb⟩
  · have d1 : decide (a < 0) = false := by simpa using h1
    have d2 : decide (b < 0) = false := by simpa using h2
    go_enter Try.func24, Try.ntmps24
    go_wp2_with (first | (go_at_call 36; ((with_reducible refine (C1.out _).mono ?_); rintro e w1 ⟨rfl, rfl⟩)) | (go_at_call 36; ((with_reducible refine (C2.out _).mono ?_); rintro e w1 ⟨rfl, rfl⟩)) | (go_at_call 35; refine (CU.out _).mono ?_; rintro e w1 ⟨rfl, hb⟩) | (go_at_call 37; refine (CT.out _).mono ?_; rintro e w1 ⟨rfl, rfl⟩))
    go_ret2
    exact ⟨ret_two (HM.out.1 (by simp [d1, d2])).1 (HM.out.1 (by simp [d1, d2])).2, hb⟩
end Go.Proofs.Ytadnajoefhajgaa
