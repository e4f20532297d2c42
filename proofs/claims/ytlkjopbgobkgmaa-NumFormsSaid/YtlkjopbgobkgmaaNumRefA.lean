/- Contracts of the document's Digit and Worth. -/
import Derived.Test.YtlkjopbgobkgmaaNumStr
namespace Go.Proofs.Ytlkjopbgobkgmaa
open Go.RowKit
set_option linter.unusedVariables false
set_option linter.unusedSimpArgs false

set_option maxRecDepth 100000 in
set_option maxHeartbeats 4000000 in
theorem rdigit_any (n : Int) (w : World) :
    Calls Try.prog 18 #[.int .i64 n] w fun e w' => e = .returned (.int .u8 (digF n)) ∧ w = w' := by
  by_cases h0 : 0 ≤ n
  · by_cases h9 : n ≤ 9
    · have H : Hid (digF n = 48 + n) := by
        show _ = _
        unfold digF digN
        rw [if_pos h0, if_pos (by omega)]
        omega
      go_enter Try.func18, Try.ntmps18
      go_wp2
      go_ret
      exact ⟨ret_int H.out.symm, rfl⟩
    · have h9' : decide (n ≤ 9) = false := by simp; omega
      have h10 : 10 ≤ n := by omega
      by_cases h35 : n ≤ 35
      · have H : Hid (digF n = 55 + n) := by
          show _ = _
          unfold digF digN
          rw [if_pos h0, if_neg (by omega), if_pos (by omega)]
          omega
        clear h9
        go_enter Try.func18, Try.ntmps18
        go_wp2
        go_ret
        exact ⟨ret_int H.out.symm, rfl⟩
      · have h35' : decide (n ≤ 35) = false := by simp; omega
        have H : Hid (digF n = 63) := by
          show _ = _
          unfold digF digN
          rw [if_pos h0, if_neg (by omega), if_neg (by omega)]
          rfl
        clear h9 h35
        go_enter Try.func18, Try.ntmps18
        go_wp2
        go_ret
        exact ⟨ret_int H.out.symm, rfl⟩
  · have h0' : decide (0 ≤ n) = false := by simp; omega
    have h10' : decide (10 ≤ n) = false := by simp; omega
    have H : Hid (digF n = 63) := by
      show _ = _
      unfold digF
      rw [if_neg h0]
    clear h0
    go_enter Try.func18, Try.ntmps18
    go_wp2
    go_ret
    exact ⟨ret_int H.out.symm, rfl⟩

set_option maxRecDepth 100000 in
set_option maxHeartbeats 4000000 in
theorem rworth_any (c : Nat) (b : Int) (w : World) (hc : c < 256) :
    Calls Try.prog 16 #[.int .u8 (c : Int), .int .i64 b] w fun e w' => e = .returned (.tuple #[.int .i64 (worthF c b), .bool (isW c b)]) ∧ w = w' := by
  rcases (by omega : c < 48 ∨ (48 ≤ c ∧ c ≤ 57) ∨ (57 < c ∧ c < 65) ∨ (65 ≤ c ∧ c ≤ 90) ∨ (90 < c ∧ c < 97) ∨ (97 ≤ c ∧ c ≤ 122) ∨ 122 < c) with h | h | h | h | h | h | h
  · skip
    have n48 : decide ((48 : Int) ≤ (c : Int)) = false := by simp; omega
    have n65 : decide ((65 : Int) ≤ (c : Int)) = false := by simp; omega
    have n97 : decide ((97 : Int) ≤ (c : Int)) = false := by simp; omega
    have hv : Hid (((wN c : Nat) : Int) = 99) := by show _ = _; unfold wN; rw [if_neg (by omega), if_neg (by omega), if_neg (by omega)]; omega
    by_cases k1 : b < 2
    · skip
      have H2 : Hid (isW c b = false) := (isW_no _ _).2 (by have := hv.out; omega)
      have H1 : Hid (worthF c b = 0) := by show _ = _; unfold worthF; rw [H2.out]; rfl
      go_enter Try.func16, Try.ntmps16
      go_wp2
      go_ret2
      exact ⟨ret_ib H1.out.symm H2.out.symm, rfl⟩
    · have k1' : decide (b < 2) = false := by simp; omega
      by_cases k2 : 36 < b
      · skip
        have H2 : Hid (isW c b = false) := (isW_no _ _).2 (by have := hv.out; omega)
        have H1 : Hid (worthF c b = 0) := by show _ = _; unfold worthF; rw [H2.out]; rfl
        clear k1
        go_enter Try.func16, Try.ntmps16
        go_wp2
        go_ret2
        exact ⟨ret_ib H1.out.symm H2.out.symm, rfl⟩
      · have k2' : decide (36 < b) = false := by simp; omega
        by_cases k3 : b ≤ 99
        · skip
          have H2 : Hid (isW c b = false) := (isW_no _ _).2 (by have := hv.out; omega)
          have H1 : Hid (worthF c b = 0) := by show _ = _; unfold worthF; rw [H2.out]; rfl
          clear k1 k2
          go_enter Try.func16, Try.ntmps16
          go_wp2
          go_ret2
          exact ⟨ret_ib H1.out.symm H2.out.symm, rfl⟩
        · have k3' : decide (b ≤ 99) = false := by simp; omega
          have H2 : Hid (isW c b = true) := (isW_iff _ _).2 (by have := hv.out; omega)
          have H1 : Hid (worthF c b = 99) := by show _ = _; unfold worthF; rw [H2.out]; exact hv.out
          clear k1 k2 k3
          go_enter Try.func16, Try.ntmps16
          go_wp2
          go_ret2
          exact ⟨ret_ib H1.out.symm H2.out.symm, rfl⟩
  · skip
    have g48 : (48 : Int) ≤ (c : Int) := by omega
    have l57 : (c : Int) ≤ 57 := by omega
    have n65 : decide ((65 : Int) ≤ (c : Int)) = false := by simp; omega
    have n97 : decide ((97 : Int) ≤ (c : Int)) = false := by simp; omega
    have hv : Hid (((wN c : Nat) : Int) = (c : Int) - 48) := by show _ = _; unfold wN; rw [if_pos h]; omega
    by_cases k1 : b < 2
    · skip
      have H2 : Hid (isW c b = false) := (isW_no _ _).2 (by have := hv.out; omega)
      have H1 : Hid (worthF c b = 0) := by show _ = _; unfold worthF; rw [H2.out]; rfl
      go_enter Try.func16, Try.ntmps16
      go_wp2
      go_ret2
      exact ⟨ret_ib H1.out.symm H2.out.symm, rfl⟩
    · have k1' : decide (b < 2) = false := by simp; omega
      by_cases k2 : 36 < b
      · skip
        have H2 : Hid (isW c b = false) := (isW_no _ _).2 (by have := hv.out; omega)
        have H1 : Hid (worthF c b = 0) := by show _ = _; unfold worthF; rw [H2.out]; rfl
        clear k1
        go_enter Try.func16, Try.ntmps16
        go_wp2
        go_ret2
        exact ⟨ret_ib H1.out.symm H2.out.symm, rfl⟩
      · have k2' : decide (36 < b) = false := by simp; omega
        by_cases k3 : b ≤ (c : Int) - 48
        · skip
          have H2 : Hid (isW c b = false) := (isW_no _ _).2 (by have := hv.out; omega)
          have H1 : Hid (worthF c b = 0) := by show _ = _; unfold worthF; rw [H2.out]; rfl
          clear k1 k2
          go_enter Try.func16, Try.ntmps16
          go_wp2
          go_ret2
          exact ⟨ret_ib H1.out.symm H2.out.symm, rfl⟩
        · have k3' : decide (b ≤ (c : Int) - 48) = false := by simp; omega
          have H2 : Hid (isW c b = true) := (isW_iff _ _).2 (by have := hv.out; omega)
          have H1 : Hid (worthF c b = (c : Int) - 48) := by show _ = _; unfold worthF; rw [H2.out]; exact hv.out
          clear k1 k2 k3
          go_enter Try.func16, Try.ntmps16
          go_wp2
          go_ret2
          exact ⟨ret_ib H1.out.symm H2.out.symm, rfl⟩
  · skip
    have g48 : (48 : Int) ≤ (c : Int) := by omega
    have m57 : decide ((c : Int) ≤ 57) = false := by simp; omega
    have n65 : decide ((65 : Int) ≤ (c : Int)) = false := by simp; omega
    have n97 : decide ((97 : Int) ≤ (c : Int)) = false := by simp; omega
    have hv : Hid (((wN c : Nat) : Int) = 99) := by show _ = _; unfold wN; rw [if_neg (by omega), if_neg (by omega), if_neg (by omega)]; omega
    by_cases k1 : b < 2
    · skip
      have H2 : Hid (isW c b = false) := (isW_no _ _).2 (by have := hv.out; omega)
      have H1 : Hid (worthF c b = 0) := by show _ = _; unfold worthF; rw [H2.out]; rfl
      go_enter Try.func16, Try.ntmps16
      go_wp2
      go_ret2
      exact ⟨ret_ib H1.out.symm H2.out.symm, rfl⟩
    · have k1' : decide (b < 2) = false := by simp; omega
      by_cases k2 : 36 < b
      · skip
        have H2 : Hid (isW c b = false) := (isW_no _ _).2 (by have := hv.out; omega)
        have H1 : Hid (worthF c b = 0) := by show _ = _; unfold worthF; rw [H2.out]; rfl
        clear k1
        go_enter Try.func16, Try.ntmps16
        go_wp2
        go_ret2
        exact ⟨ret_ib H1.out.symm H2.out.symm, rfl⟩
      · have k2' : decide (36 < b) = false := by simp; omega
        by_cases k3 : b ≤ 99
        · skip
          have H2 : Hid (isW c b = false) := (isW_no _ _).2 (by have := hv.out; omega)
          have H1 : Hid (worthF c b = 0) := by show _ = _; unfold worthF; rw [H2.out]; rfl
          clear k1 k2
          go_enter Try.func16, Try.ntmps16
          go_wp2
          go_ret2
          exact ⟨ret_ib H1.out.symm H2.out.symm, rfl⟩
        · have k3' : decide (b ≤ 99) = false := by simp; omega
          have H2 : Hid (isW c b = true) := (isW_iff _ _).2 (by have := hv.out; omega)
          have H1 : Hid (worthF c b = 99) := by show _ = _; unfold worthF; rw [H2.out]; exact hv.out
          clear k1 k2 k3
          go_enter Try.func16, Try.ntmps16
          go_wp2
          go_ret2
          exact ⟨ret_ib H1.out.symm H2.out.symm, rfl⟩
  · skip
    have g48 : (48 : Int) ≤ (c : Int) := by omega
    have m57 : decide ((c : Int) ≤ 57) = false := by simp; omega
    have g65 : (65 : Int) ≤ (c : Int) := by omega
    have l90 : (c : Int) ≤ 90 := by omega
    have n97 : decide ((97 : Int) ≤ (c : Int)) = false := by simp; omega
    have hv : Hid (((wN c : Nat) : Int) = (c : Int) - 55) := by show _ = _; unfold wN; rw [if_neg (by omega), if_pos h]; omega
    by_cases k1 : b < 2
    · skip
      have H2 : Hid (isW c b = false) := (isW_no _ _).2 (by have := hv.out; omega)
      have H1 : Hid (worthF c b = 0) := by show _ = _; unfold worthF; rw [H2.out]; rfl
      go_enter Try.func16, Try.ntmps16
      go_wp2
      go_ret2
      exact ⟨ret_ib H1.out.symm H2.out.symm, rfl⟩
    · have k1' : decide (b < 2) = false := by simp; omega
      by_cases k2 : 36 < b
      · skip
        have H2 : Hid (isW c b = false) := (isW_no _ _).2 (by have := hv.out; omega)
        have H1 : Hid (worthF c b = 0) := by show _ = _; unfold worthF; rw [H2.out]; rfl
        clear k1
        go_enter Try.func16, Try.ntmps16
        go_wp2
        go_ret2
        exact ⟨ret_ib H1.out.symm H2.out.symm, rfl⟩
      · have k2' : decide (36 < b) = false := by simp; omega
        by_cases k3 : b ≤ (c : Int) - 55
        · skip
          have H2 : Hid (isW c b = false) := (isW_no _ _).2 (by have := hv.out; omega)
          have H1 : Hid (worthF c b = 0) := by show _ = _; unfold worthF; rw [H2.out]; rfl
          clear k1 k2
          go_enter Try.func16, Try.ntmps16
          go_wp2
          go_ret2
          exact ⟨ret_ib H1.out.symm H2.out.symm, rfl⟩
        · have k3' : decide (b ≤ (c : Int) - 55) = false := by simp; omega
          have H2 : Hid (isW c b = true) := (isW_iff _ _).2 (by have := hv.out; omega)
          have H1 : Hid (worthF c b = (c : Int) - 55) := by show _ = _; unfold worthF; rw [H2.out]; exact hv.out
          clear k1 k2 k3
          go_enter Try.func16, Try.ntmps16
          go_wp2
          go_ret2
          exact ⟨ret_ib H1.out.symm H2.out.symm, rfl⟩
  · skip
    have g48 : (48 : Int) ≤ (c : Int) := by omega
    have m57 : decide ((c : Int) ≤ 57) = false := by simp; omega
    have g65 : (65 : Int) ≤ (c : Int) := by omega
    have m90 : decide ((c : Int) ≤ 90) = false := by simp; omega
    have n97 : decide ((97 : Int) ≤ (c : Int)) = false := by simp; omega
    have hv : Hid (((wN c : Nat) : Int) = 99) := by show _ = _; unfold wN; rw [if_neg (by omega), if_neg (by omega), if_neg (by omega)]; omega
    by_cases k1 : b < 2
    · skip
      have H2 : Hid (isW c b = false) := (isW_no _ _).2 (by have := hv.out; omega)
      have H1 : Hid (worthF c b = 0) := by show _ = _; unfold worthF; rw [H2.out]; rfl
      go_enter Try.func16, Try.ntmps16
      go_wp2
      go_ret2
      exact ⟨ret_ib H1.out.symm H2.out.symm, rfl⟩
    · have k1' : decide (b < 2) = false := by simp; omega
      by_cases k2 : 36 < b
      · skip
        have H2 : Hid (isW c b = false) := (isW_no _ _).2 (by have := hv.out; omega)
        have H1 : Hid (worthF c b = 0) := by show _ = _; unfold worthF; rw [H2.out]; rfl
        clear k1
        go_enter Try.func16, Try.ntmps16
        go_wp2
        go_ret2
        exact ⟨ret_ib H1.out.symm H2.out.symm, rfl⟩
      · have k2' : decide (36 < b) = false := by simp; omega
        by_cases k3 : b ≤ 99
        · skip
          have H2 : Hid (isW c b = false) := (isW_no _ _).2 (by have := hv.out; omega)
          have H1 : Hid (worthF c b = 0) := by show _ = _; unfold worthF; rw [H2.out]; rfl
          clear k1 k2
          go_enter Try.func16, Try.ntmps16
          go_wp2
          go_ret2
          exact ⟨ret_ib H1.out.symm H2.out.symm, rfl⟩
        · have k3' : decide (b ≤ 99) = false := by simp; omega
          have H2 : Hid (isW c b = true) := (isW_iff _ _).2 (by have := hv.out; omega)
          have H1 : Hid (worthF c b = 99) := by show _ = _; unfold worthF; rw [H2.out]; exact hv.out
          clear k1 k2 k3
          go_enter Try.func16, Try.ntmps16
          go_wp2
          go_ret2
          exact ⟨ret_ib H1.out.symm H2.out.symm, rfl⟩
  · skip
    have g48 : (48 : Int) ≤ (c : Int) := by omega
    have m57 : decide ((c : Int) ≤ 57) = false := by simp; omega
    have g65 : (65 : Int) ≤ (c : Int) := by omega
    have m90 : decide ((c : Int) ≤ 90) = false := by simp; omega
    have g97 : (97 : Int) ≤ (c : Int) := by omega
    have l122 : (c : Int) ≤ 122 := by omega
    have hv : Hid (((wN c : Nat) : Int) = (c : Int) - 87) := by show _ = _; unfold wN; rw [if_neg (by omega), if_neg (by omega), if_pos h]; omega
    by_cases k1 : b < 2
    · skip
      have H2 : Hid (isW c b = false) := (isW_no _ _).2 (by have := hv.out; omega)
      have H1 : Hid (worthF c b = 0) := by show _ = _; unfold worthF; rw [H2.out]; rfl
      go_enter Try.func16, Try.ntmps16
      go_wp2
      go_ret2
      exact ⟨ret_ib H1.out.symm H2.out.symm, rfl⟩
    · have k1' : decide (b < 2) = false := by simp; omega
      by_cases k2 : 36 < b
      · skip
        have H2 : Hid (isW c b = false) := (isW_no _ _).2 (by have := hv.out; omega)
        have H1 : Hid (worthF c b = 0) := by show _ = _; unfold worthF; rw [H2.out]; rfl
        clear k1
        go_enter Try.func16, Try.ntmps16
        go_wp2
        go_ret2
        exact ⟨ret_ib H1.out.symm H2.out.symm, rfl⟩
      · have k2' : decide (36 < b) = false := by simp; omega
        by_cases k3 : b ≤ (c : Int) - 87
        · skip
          have H2 : Hid (isW c b = false) := (isW_no _ _).2 (by have := hv.out; omega)
          have H1 : Hid (worthF c b = 0) := by show _ = _; unfold worthF; rw [H2.out]; rfl
          clear k1 k2
          go_enter Try.func16, Try.ntmps16
          go_wp2
          go_ret2
          exact ⟨ret_ib H1.out.symm H2.out.symm, rfl⟩
        · have k3' : decide (b ≤ (c : Int) - 87) = false := by simp; omega
          have H2 : Hid (isW c b = true) := (isW_iff _ _).2 (by have := hv.out; omega)
          have H1 : Hid (worthF c b = (c : Int) - 87) := by show _ = _; unfold worthF; rw [H2.out]; exact hv.out
          clear k1 k2 k3
          go_enter Try.func16, Try.ntmps16
          go_wp2
          go_ret2
          exact ⟨ret_ib H1.out.symm H2.out.symm, rfl⟩
  · skip
    have g48 : (48 : Int) ≤ (c : Int) := by omega
    have m57 : decide ((c : Int) ≤ 57) = false := by simp; omega
    have g65 : (65 : Int) ≤ (c : Int) := by omega
    have m90 : decide ((c : Int) ≤ 90) = false := by simp; omega
    have g97 : (97 : Int) ≤ (c : Int) := by omega
    have m122 : decide ((c : Int) ≤ 122) = false := by simp; omega
    have hv : Hid (((wN c : Nat) : Int) = 99) := by show _ = _; unfold wN; rw [if_neg (by omega), if_neg (by omega), if_neg (by omega)]; omega
    by_cases k1 : b < 2
    · skip
      have H2 : Hid (isW c b = false) := (isW_no _ _).2 (by have := hv.out; omega)
      have H1 : Hid (worthF c b = 0) := by show _ = _; unfold worthF; rw [H2.out]; rfl
      go_enter Try.func16, Try.ntmps16
      go_wp2
      go_ret2
      exact ⟨ret_ib H1.out.symm H2.out.symm, rfl⟩
    · have k1' : decide (b < 2) = false := by simp; omega
      by_cases k2 : 36 < b
      · skip
        have H2 : Hid (isW c b = false) := (isW_no _ _).2 (by have := hv.out; omega)
        have H1 : Hid (worthF c b = 0) := by show _ = _; unfold worthF; rw [H2.out]; rfl
        clear k1
        go_enter Try.func16, Try.ntmps16
        go_wp2
        go_ret2
        exact ⟨ret_ib H1.out.symm H2.out.symm, rfl⟩
      · have k2' : decide (36 < b) = false := by simp; omega
        by_cases k3 : b ≤ 99
        · skip
          have H2 : Hid (isW c b = false) := (isW_no _ _).2 (by have := hv.out; omega)
          have H1 : Hid (worthF c b = 0) := by show _ = _; unfold worthF; rw [H2.out]; rfl
          clear k1 k2
          go_enter Try.func16, Try.ntmps16
          go_wp2
          go_ret2
          exact ⟨ret_ib H1.out.symm H2.out.symm, rfl⟩
        · have k3' : decide (b ≤ 99) = false := by simp; omega
          have H2 : Hid (isW c b = true) := (isW_iff _ _).2 (by have := hv.out; omega)
          have H1 : Hid (worthF c b = 99) := by show _ = _; unfold worthF; rw [H2.out]; exact hv.out
          clear k1 k2 k3
          go_enter Try.func16, Try.ntmps16
          go_wp2
          go_ret2
          exact ⟨ret_ib H1.out.symm H2.out.symm, rfl⟩
end Go.Proofs.Ytlkjopbgobkgmaa
