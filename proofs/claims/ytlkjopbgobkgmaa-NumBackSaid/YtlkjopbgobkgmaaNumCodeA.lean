/- Contracts of num's isBase, worth, Worth and Digit. -/
import Derived.Test.YtlkjopbgobkgmaaNumRefC
namespace Go.Proofs.Ytlkjopbgobkgmaa
open Go.RowKit
set_option linter.unusedVariables false
set_option linter.unusedSimpArgs false

set_option maxRecDepth 100000 in
set_option maxHeartbeats 4000000 in
theorem isbase_any (b : Int) (w : World) : Calls Try.prog 19 #[.int .i64 b] w fun e w' => e = .returned (.bool (baseB b)) ∧ w = w' := by
  by_cases k1 : 2 ≤ b
  · by_cases k2 : b ≤ 36
    · have H : Hid (baseB b = true) := (baseB_iff b).2 ⟨k1, k2⟩
      go_enter Try.func19, Try.ntmps19
      go_wp2
      go_ret
      exact ⟨ret_bool H.out.symm, rfl⟩
    · have k2' : decide (b ≤ 36) = false := by simp; omega
      have H : Hid (baseB b = false) := (baseB_no b).2 (by omega)
      clear k2
      go_enter Try.func19, Try.ntmps19
      go_wp2
      go_ret
      exact ⟨ret_bool H.out.symm, rfl⟩
  · have k1' : decide (2 ≤ b) = false := by simp; omega
    have H : Hid (baseB b = false) := (baseB_no b).2 (by omega)
    clear k1
    go_enter Try.func19, Try.ntmps19
    go_wp2
    go_ret
    exact ⟨ret_bool H.out.symm, rfl⟩

set_option maxRecDepth 100000 in
set_option maxHeartbeats 4000000 in
theorem nworth_any (c : Nat) (b : Int) (w : World) (hc : c ≤ 2147483647) :
    Calls Try.prog 26 #[.int .i32 (c : Int), .int .i64 b] w fun e w' => e = .returned (.tuple #[.int .i64 (worthF c b), .bool (isW c b)]) ∧ w = w' := by
  have hc' : (c : Int) ≤ 2147483647 := by omega
  rcases (by omega : c < 48 ∨ (48 ≤ c ∧ c ≤ 57) ∨ (57 < c ∧ c < 65) ∨ (65 ≤ c ∧ c ≤ 90) ∨ (90 < c ∧ c < 97) ∨ (97 ≤ c ∧ c ≤ 122) ∨ 122 < c) with h | h | h | h | h | h | h
  · skip
    have n48 : decide ((48 : Int) ≤ (c : Int)) = false := by simp; omega
    have n65 : decide ((65 : Int) ≤ (c : Int)) = false := by simp; omega
    have n97 : decide ((97 : Int) ≤ (c : Int)) = false := by simp; omega
    have hv : Hid (((wN c : Nat) : Int) = 99) := by show _ = _; unfold wN; rw [if_neg (by omega), if_neg (by omega), if_neg (by omega)]; omega
    cases hb : baseB b with
    | false =>
      have hno := (baseB_no b).1 hb
      have H2 : Hid (isW c b = false) := (isW_no _ _).2 (by have := hv.out; omega)
      have H1 : Hid (worthF c b = 0) := by show _ = _; unfold worthF; rw [H2.out]; rfl
      clear hno
      go_enter Try.func26, Try.ntmps26
      go_wp2_with fail
      refine (isbase_any b _).mono ?_
      rw [hb]
      rintro e w1 ⟨rfl, rfl⟩
      go_wp2
      go_ret2
      exact ⟨ret_ib H1.out.symm H2.out.symm, rfl⟩
    | true =>
      have hyes := (baseB_iff b).1 hb
      by_cases k3 : b ≤ 36
      · skip
        have H2 : Hid (isW c b = false) := (isW_no _ _).2 (by have := hv.out; omega)
        have H1 : Hid (worthF c b = 0) := by show _ = _; unfold worthF; rw [H2.out]; rfl
        clear hyes
        go_enter Try.func26, Try.ntmps26
        go_wp2_with fail
        refine (isbase_any b _).mono ?_
        rw [hb]
        rintro e w1 ⟨rfl, rfl⟩
        go_wp2
        go_ret2
        exact ⟨ret_ib H1.out.symm H2.out.symm, rfl⟩
      · exact absurd hyes.2 (by omega)
  · skip
    have g48 : (48 : Int) ≤ (c : Int) := by omega
    have l57 : (c : Int) ≤ 57 := by omega
    have n65 : decide ((65 : Int) ≤ (c : Int)) = false := by simp; omega
    have n97 : decide ((97 : Int) ≤ (c : Int)) = false := by simp; omega
    have hv : Hid (((wN c : Nat) : Int) = (c : Int) - 48) := by show _ = _; unfold wN; rw [if_pos h]; omega
    cases hb : baseB b with
    | false =>
      have hno := (baseB_no b).1 hb
      have H2 : Hid (isW c b = false) := (isW_no _ _).2 (by have := hv.out; omega)
      have H1 : Hid (worthF c b = 0) := by show _ = _; unfold worthF; rw [H2.out]; rfl
      clear hno
      go_enter Try.func26, Try.ntmps26
      go_wp2_with fail
      refine (isbase_any b _).mono ?_
      rw [hb]
      rintro e w1 ⟨rfl, rfl⟩
      go_wp2
      go_ret2
      exact ⟨ret_ib H1.out.symm H2.out.symm, rfl⟩
    | true =>
      have hyes := (baseB_iff b).1 hb
      by_cases k3 : b ≤ (c : Int) - 48
      · skip
        have H2 : Hid (isW c b = false) := (isW_no _ _).2 (by have := hv.out; omega)
        have H1 : Hid (worthF c b = 0) := by show _ = _; unfold worthF; rw [H2.out]; rfl
        clear hyes
        go_enter Try.func26, Try.ntmps26
        go_wp2_with fail
        refine (isbase_any b _).mono ?_
        rw [hb]
        rintro e w1 ⟨rfl, rfl⟩
        go_wp2
        go_ret2
        exact ⟨ret_ib H1.out.symm H2.out.symm, rfl⟩
      · have k3' : decide (b ≤ (c : Int) - 48) = false := by simp; omega
        have H2 : Hid (isW c b = true) := (isW_iff _ _).2 (by have := hv.out; omega)
        have H1 : Hid (worthF c b = (c : Int) - 48) := by show _ = _; unfold worthF; rw [H2.out]; exact hv.out
        clear hyes k3
        go_enter Try.func26, Try.ntmps26
        go_wp2_with fail
        refine (isbase_any b _).mono ?_
        rw [hb]
        rintro e w1 ⟨rfl, rfl⟩
        go_wp2
        go_ret2
        exact ⟨ret_ib H1.out.symm H2.out.symm, rfl⟩
  · skip
    have g48 : (48 : Int) ≤ (c : Int) := by omega
    have m57 : decide ((c : Int) ≤ 57) = false := by simp; omega
    have n65 : decide ((65 : Int) ≤ (c : Int)) = false := by simp; omega
    have n97 : decide ((97 : Int) ≤ (c : Int)) = false := by simp; omega
    have hv : Hid (((wN c : Nat) : Int) = 99) := by show _ = _; unfold wN; rw [if_neg (by omega), if_neg (by omega), if_neg (by omega)]; omega
    cases hb : baseB b with
    | false =>
      have hno := (baseB_no b).1 hb
      have H2 : Hid (isW c b = false) := (isW_no _ _).2 (by have := hv.out; omega)
      have H1 : Hid (worthF c b = 0) := by show _ = _; unfold worthF; rw [H2.out]; rfl
      clear hno
      go_enter Try.func26, Try.ntmps26
      go_wp2_with fail
      refine (isbase_any b _).mono ?_
      rw [hb]
      rintro e w1 ⟨rfl, rfl⟩
      go_wp2
      go_ret2
      exact ⟨ret_ib H1.out.symm H2.out.symm, rfl⟩
    | true =>
      have hyes := (baseB_iff b).1 hb
      by_cases k3 : b ≤ 36
      · skip
        have H2 : Hid (isW c b = false) := (isW_no _ _).2 (by have := hv.out; omega)
        have H1 : Hid (worthF c b = 0) := by show _ = _; unfold worthF; rw [H2.out]; rfl
        clear hyes
        go_enter Try.func26, Try.ntmps26
        go_wp2_with fail
        refine (isbase_any b _).mono ?_
        rw [hb]
        rintro e w1 ⟨rfl, rfl⟩
        go_wp2
        go_ret2
        exact ⟨ret_ib H1.out.symm H2.out.symm, rfl⟩
      · exact absurd hyes.2 (by omega)
  · skip
    have g48 : (48 : Int) ≤ (c : Int) := by omega
    have m57 : decide ((c : Int) ≤ 57) = false := by simp; omega
    have g65 : (65 : Int) ≤ (c : Int) := by omega
    have l90 : (c : Int) ≤ 90 := by omega
    have n97 : decide ((97 : Int) ≤ (c : Int)) = false := by simp; omega
    have hv : Hid (((wN c : Nat) : Int) = (c : Int) - 65 + 10) := by show _ = _; unfold wN; rw [if_neg (by omega), if_pos h]; omega
    cases hb : baseB b with
    | false =>
      have hno := (baseB_no b).1 hb
      have H2 : Hid (isW c b = false) := (isW_no _ _).2 (by have := hv.out; omega)
      have H1 : Hid (worthF c b = 0) := by show _ = _; unfold worthF; rw [H2.out]; rfl
      clear hno
      go_enter Try.func26, Try.ntmps26
      go_wp2_with fail
      refine (isbase_any b _).mono ?_
      rw [hb]
      rintro e w1 ⟨rfl, rfl⟩
      go_wp2
      go_ret2
      exact ⟨ret_ib H1.out.symm H2.out.symm, rfl⟩
    | true =>
      have hyes := (baseB_iff b).1 hb
      by_cases k3 : b ≤ (c : Int) - 65 + 10
      · skip
        have H2 : Hid (isW c b = false) := (isW_no _ _).2 (by have := hv.out; omega)
        have H1 : Hid (worthF c b = 0) := by show _ = _; unfold worthF; rw [H2.out]; rfl
        clear hyes
        go_enter Try.func26, Try.ntmps26
        go_wp2_with fail
        refine (isbase_any b _).mono ?_
        rw [hb]
        rintro e w1 ⟨rfl, rfl⟩
        go_wp2
        go_ret2
        exact ⟨ret_ib H1.out.symm H2.out.symm, rfl⟩
      · have k3' : decide (b ≤ (c : Int) - 65 + 10) = false := by simp; omega
        have H2 : Hid (isW c b = true) := (isW_iff _ _).2 (by have := hv.out; omega)
        have H1 : Hid (worthF c b = (c : Int) - 65 + 10) := by show _ = _; unfold worthF; rw [H2.out]; exact hv.out
        clear hyes k3
        go_enter Try.func26, Try.ntmps26
        go_wp2_with fail
        refine (isbase_any b _).mono ?_
        rw [hb]
        rintro e w1 ⟨rfl, rfl⟩
        go_wp2
        go_ret2
        exact ⟨ret_ib H1.out.symm H2.out.symm, rfl⟩
  · skip
    have g48 : (48 : Int) ≤ (c : Int) := by omega
    have m57 : decide ((c : Int) ≤ 57) = false := by simp; omega
    have g65 : (65 : Int) ≤ (c : Int) := by omega
    have m90 : decide ((c : Int) ≤ 90) = false := by simp; omega
    have n97 : decide ((97 : Int) ≤ (c : Int)) = false := by simp; omega
    have hv : Hid (((wN c : Nat) : Int) = 99) := by show _ = _; unfold wN; rw [if_neg (by omega), if_neg (by omega), if_neg (by omega)]; omega
    cases hb : baseB b with
    | false =>
      have hno := (baseB_no b).1 hb
      have H2 : Hid (isW c b = false) := (isW_no _ _).2 (by have := hv.out; omega)
      have H1 : Hid (worthF c b = 0) := by show _ = _; unfold worthF; rw [H2.out]; rfl
      clear hno
      go_enter Try.func26, Try.ntmps26
      go_wp2_with fail
      refine (isbase_any b _).mono ?_
      rw [hb]
      rintro e w1 ⟨rfl, rfl⟩
      go_wp2
      go_ret2
      exact ⟨ret_ib H1.out.symm H2.out.symm, rfl⟩
    | true =>
      have hyes := (baseB_iff b).1 hb
      by_cases k3 : b ≤ 36
      · skip
        have H2 : Hid (isW c b = false) := (isW_no _ _).2 (by have := hv.out; omega)
        have H1 : Hid (worthF c b = 0) := by show _ = _; unfold worthF; rw [H2.out]; rfl
        clear hyes
        go_enter Try.func26, Try.ntmps26
        go_wp2_with fail
        refine (isbase_any b _).mono ?_
        rw [hb]
        rintro e w1 ⟨rfl, rfl⟩
        go_wp2
        go_ret2
        exact ⟨ret_ib H1.out.symm H2.out.symm, rfl⟩
      · exact absurd hyes.2 (by omega)
  · skip
    have g48 : (48 : Int) ≤ (c : Int) := by omega
    have m57 : decide ((c : Int) ≤ 57) = false := by simp; omega
    have g65 : (65 : Int) ≤ (c : Int) := by omega
    have m90 : decide ((c : Int) ≤ 90) = false := by simp; omega
    have g97 : (97 : Int) ≤ (c : Int) := by omega
    have l122 : (c : Int) ≤ 122 := by omega
    have hv : Hid (((wN c : Nat) : Int) = (c : Int) - 97 + 10) := by show _ = _; unfold wN; rw [if_neg (by omega), if_neg (by omega), if_pos h]; omega
    cases hb : baseB b with
    | false =>
      have hno := (baseB_no b).1 hb
      have H2 : Hid (isW c b = false) := (isW_no _ _).2 (by have := hv.out; omega)
      have H1 : Hid (worthF c b = 0) := by show _ = _; unfold worthF; rw [H2.out]; rfl
      clear hno
      go_enter Try.func26, Try.ntmps26
      go_wp2_with fail
      refine (isbase_any b _).mono ?_
      rw [hb]
      rintro e w1 ⟨rfl, rfl⟩
      go_wp2
      go_ret2
      exact ⟨ret_ib H1.out.symm H2.out.symm, rfl⟩
    | true =>
      have hyes := (baseB_iff b).1 hb
      by_cases k3 : b ≤ (c : Int) - 97 + 10
      · skip
        have H2 : Hid (isW c b = false) := (isW_no _ _).2 (by have := hv.out; omega)
        have H1 : Hid (worthF c b = 0) := by show _ = _; unfold worthF; rw [H2.out]; rfl
        clear hyes
        go_enter Try.func26, Try.ntmps26
        go_wp2_with fail
        refine (isbase_any b _).mono ?_
        rw [hb]
        rintro e w1 ⟨rfl, rfl⟩
        go_wp2
        go_ret2
        exact ⟨ret_ib H1.out.symm H2.out.symm, rfl⟩
      · have k3' : decide (b ≤ (c : Int) - 97 + 10) = false := by simp; omega
        have H2 : Hid (isW c b = true) := (isW_iff _ _).2 (by have := hv.out; omega)
        have H1 : Hid (worthF c b = (c : Int) - 97 + 10) := by show _ = _; unfold worthF; rw [H2.out]; exact hv.out
        clear hyes k3
        go_enter Try.func26, Try.ntmps26
        go_wp2_with fail
        refine (isbase_any b _).mono ?_
        rw [hb]
        rintro e w1 ⟨rfl, rfl⟩
        go_wp2
        go_ret2
        exact ⟨ret_ib H1.out.symm H2.out.symm, rfl⟩
  · skip
    have g48 : (48 : Int) ≤ (c : Int) := by omega
    have m57 : decide ((c : Int) ≤ 57) = false := by simp; omega
    have g65 : (65 : Int) ≤ (c : Int) := by omega
    have m90 : decide ((c : Int) ≤ 90) = false := by simp; omega
    have g97 : (97 : Int) ≤ (c : Int) := by omega
    have m122 : decide ((c : Int) ≤ 122) = false := by simp; omega
    have hv : Hid (((wN c : Nat) : Int) = 99) := by show _ = _; unfold wN; rw [if_neg (by omega), if_neg (by omega), if_neg (by omega)]; omega
    cases hb : baseB b with
    | false =>
      have hno := (baseB_no b).1 hb
      have H2 : Hid (isW c b = false) := (isW_no _ _).2 (by have := hv.out; omega)
      have H1 : Hid (worthF c b = 0) := by show _ = _; unfold worthF; rw [H2.out]; rfl
      clear hno
      go_enter Try.func26, Try.ntmps26
      go_wp2_with fail
      refine (isbase_any b _).mono ?_
      rw [hb]
      rintro e w1 ⟨rfl, rfl⟩
      go_wp2
      go_ret2
      exact ⟨ret_ib H1.out.symm H2.out.symm, rfl⟩
    | true =>
      have hyes := (baseB_iff b).1 hb
      by_cases k3 : b ≤ 36
      · skip
        have H2 : Hid (isW c b = false) := (isW_no _ _).2 (by have := hv.out; omega)
        have H1 : Hid (worthF c b = 0) := by show _ = _; unfold worthF; rw [H2.out]; rfl
        clear hyes
        go_enter Try.func26, Try.ntmps26
        go_wp2_with fail
        refine (isbase_any b _).mono ?_
        rw [hb]
        rintro e w1 ⟨rfl, rfl⟩
        go_wp2
        go_ret2
        exact ⟨ret_ib H1.out.symm H2.out.symm, rfl⟩
      · exact absurd hyes.2 (by omega)

set_option maxRecDepth 100000 in
set_option maxHeartbeats 4000000 in
theorem worth_any (c : Nat) (b : Int) (w : World) (hc : c < 256) :
    Calls Try.prog 15 #[.int .u8 (c : Int), .int .i64 b] w fun e w' => e = .returned (.tuple #[.int .i64 (worthF c b), .bool (isW c b)]) ∧ Below w.heap.size w w' := by
  have hc' : (c : Int) < 256 := by omega
  have HC := Lib.hid hc
  clear hc
  go_enter Try.func15, Try.ntmps15
  go_wp2_with fail
  refine (nworth_any c b _ (by have := HC.out; omega)).mono ?_
  rintro e w1 ⟨rfl, rfl⟩
  go_wp2
  go_ret2
  exact ⟨rfl, Below.refl _ _⟩

set_option maxRecDepth 100000 in
set_option maxHeartbeats 4000000 in
theorem digit_any (n : Int) (w : World) :
    Calls Try.prog 17 #[.int .i64 n] w fun e w' => e = .returned (.int .u8 (digF n)) ∧ Below w.heap.size w w' := by
  by_cases h0 : 0 ≤ n
  · by_cases h9 : n < 10
    · have H : Hid (digF n = 48 + n) := by
        show _ = _
        unfold digF digN
        rw [if_pos h0, if_pos (by omega)]
        omega
      go_enter Try.func17, Try.ntmps17
      go_wp2
      go_ret
      exact ⟨ret_int H.out.symm, Below.refl _ _⟩
    · have h9' : decide (n < 10) = false := by simp; omega
      have h10 : 10 ≤ n := by omega
      by_cases h35 : n < 36
      · have H : Hid (digF n = 65 + n - 10) := by
          show _ = _
          unfold digF digN
          rw [if_pos h0, if_neg (by omega), if_pos (by omega)]
          omega
        clear h9
        go_enter Try.func17, Try.ntmps17
        go_wp2
        go_ret
        exact ⟨ret_int H.out.symm, Below.refl _ _⟩
      · have h35' : decide (n < 36) = false := by simp; omega
        have H : Hid (digF n = 63) := by
          show _ = _
          unfold digF digN
          rw [if_pos h0, if_neg (by omega), if_neg (by omega)]
          rfl
        clear h9 h35
        go_enter Try.func17, Try.ntmps17
        go_wp2
        go_ret
        exact ⟨ret_int H.out.symm, Below.refl _ _⟩
  · have h0' : decide (0 ≤ n) = false := by simp; omega
    have h10' : decide (10 ≤ n) = false := by simp; omega
    have H : Hid (digF n = 63) := by
      show _ = _
      unfold digF
      rw [if_neg h0]
    clear h0
    go_enter Try.func17, Try.ntmps17
    go_wp2
    go_ret
    exact ⟨ret_int H.out.symm, Below.refl _ _⟩
end Go.Proofs.Ytlkjopbgobkgmaa
