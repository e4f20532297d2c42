/- Contracts of divide, UDiv, SDiv and FDiv of package cell. -/
import Derived.Test.YtlkjopbgobkgmaaDivB
namespace Go.Proofs.Ytlkjopbgobkgmaa
open Go.RowKit

set_option maxHeartbeats 400000 in
theorem divide_zero (lo hi : Int) (w : World) :
    Calls Try.prog 27 #[.int .u64 lo, .int .u64 hi, .int .u64 0] w fun e w' => e = .returned (.tuple #[.int .u64 0, .int .u64 0, .int .i64 (-10)]) ∧ Below w.heap.size w w' := by
  go_enter Try.func27, Try.ntmps27
  go_wp2
  go_ret3
  exact ⟨rfl, Below.refl _ _⟩

set_option maxHeartbeats 400000 in
theorem divide_range (lo hi d : Nat) (w : World) (h : d ≤ hi) (hd : 0 < d) :
    Calls Try.prog 27 #[.int .u64 (lo : Int), .int .u64 (hi : Int), .int .u64 (d : Int)] w fun e w' => e = .returned (.tuple #[.int .u64 0, .int .u64 0, .int .i64 (-11)]) ∧ Below w.heap.size w w' := by
  have h0 : ((d : Int) == 0) = false := by simp; omega
  have h1 : (d : Int) ≤ (hi : Int) := by omega
  go_enter Try.func27, Try.ntmps27
  go_wp2
  go_ret3
  exact ⟨rfl, Below.refl _ _⟩

set_option maxHeartbeats 400000 in
theorem divide_ok (lo hi d Q R : Nat) (w : World) (h : hi < d) (hl : lo < 18446744073709551616) (hd : d < 18446744073709551616) (hQ : Hid ((hi * 18446744073709551616 + lo) / d = Q)) (hR : Hid ((hi * 18446744073709551616 + lo) % d = R)) :
    Calls Try.prog 27 #[.int .u64 (lo : Int), .int .u64 (hi : Int), .int .u64 (d : Int)] w fun e w' => e = .returned (.tuple #[.int .u64 (Q : Int), .int .u64 (R : Int), .int .i64 0]) ∧ Below w.heap.size w w' := by
  have h0 : ((d : Int) == 0) = false := by simp; omega
  have h1 : ¬ (d : Int) ≤ (hi : Int) := by omega
  have HC := div64_any hi lo d w h hl hd
  rw [hQ.out, hR.out] at HC
  clear hl hd
  go_enter Try.func27, Try.ntmps27
  go_wp2_with (go_at_call 29; refine HC.mono ?_; rintro e w1 ⟨rfl, hb⟩)
  go_ret3
  exact ⟨rfl, hb⟩

theorem uok_true {hi d : Int} (h : uok hi d = true) : un hi < un d := by simpa [uok] using h
theorem uok_false {hi d : Int} (h : uok hi d = false) : un d ≤ un hi := by simpa [uok] using h

set_option maxHeartbeats 400000 in
theorem udiv_any (lo hi d : Int) (w : World) (hd : cellR d) :
    Calls Try.prog 20 #[.int .i64 lo, .int .i64 hi, .int .i64 d] w fun e w' => e = .returned (.tuple #[.int .i64 (uq lo hi d), .int .i64 (ur lo hi d), .int .i64 (uc hi d)]) ∧ Below w.heap.size w w' := by
  have e1 := un_cast lo
  have e2 := un_cast hi
  have e3 := un_cast d
  have b1 := Lib.hid (un_lt lo)
  have b3 := Lib.hid (un_lt d)
  by_cases h0 : d = 0
  · have e4 : un d = 0 := (un_zero hd).2 h0
    have hk : uok hi d = false := by simp [uok, e4]
    clear hd
    have e5 : IntKind.u64.wrap d = 0 := by rw [e3, e4]; rfl
    subst h0
    have H := Lib.hid hk
    clear e3 e4 hk
    go_enter Try.func20, Try.ntmps20
    go_wp2_with (go_at_call 27; refine (divide_zero _ _ _).mono ?_; rintro e w1 ⟨rfl, hb⟩)
    go_ret3
    exact ⟨ret_three (by simp [uq, H.out]) (by simp [ur, H.out]) (by simp [uc]), hb⟩
  · have h4 : un d ≠ 0 := fun h => h0 ((un_zero hd).1 h)
    clear hd
    cases hk : uok hi d
    · have h5 := uok_false hk
      have H := Lib.hid hk
      clear hk
      go_enter Try.func20, Try.ntmps20
      go_wp2_with (go_at_call 27; refine (divide_range _ _ _ _ (by omega) (by omega)).mono ?_; rintro e w1 ⟨rfl, hb⟩)
      go_ret3
      exact ⟨ret_three (by simp [uq, H.out]) (by simp [ur, H.out]) (by simp [uc, h0, H.out]), hb⟩
    · have h5 := uok_true hk
      have H := Lib.hid hk
      clear hk
      obtain ⟨Q, hQ⟩ : ∃ Q : Nat, Hid ((un hi * 18446744073709551616 + un lo) / un d = Q) := ⟨_, Lib.hid rfl⟩
      obtain ⟨R, hR⟩ : ∃ R : Nat, Hid ((un hi * 18446744073709551616 + un lo) % un d = R) := ⟨_, Lib.hid rfl⟩
      go_enter Try.func20, Try.ntmps20
      go_wp2_with (go_at_call 27; refine (divide_ok _ _ _ Q R _ h5 b1.out b3.out hQ hR).mono ?_; rintro e w1 ⟨rfl, hb⟩)
      go_ret3
      exact ⟨ret_three (by rw [uq, if_pos H.out, hQ.out]) (by rw [ur, if_pos H.out, hR.out]) (by rw [uc, if_neg h0, if_pos H.out]), hb⟩

end Go.Proofs.Ytlkjopbgobkgmaa
