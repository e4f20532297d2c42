/- The walk of NumLong. -/
import Derived.Test.YtlkjopbgobkgmaaNumIn
namespace Go.Proofs.Ytlkjopbgobkgmaa
open Go.RowKit
set_option linter.unusedVariables false
set_option linter.unusedSimpArgs false

theorem len_pos (b u : Nat) : 1 ≤ lenN b u := by
  rw [lenN]
  split <;> omega
theorem len_step {b u : Nat} (h2 : 2 ≤ b) (h : b ≤ u) : lenN b u = lenN b (u / b) + 1 := by rw [lenN, dif_pos ⟨h2, h⟩]
theorem len_one {b u : Nat} (h : u < b) : lenN b u = 1 := by rw [lenN, dif_neg (by omega)]

set_option maxRecDepth 100000 in
set_option maxHeartbeats 8000000 in
theorem long_no (n b : Int) (w : World) (h0 : -9223372036854775808 ≤ n) (h1 : n ≤ 9223372036854775807) (hb : baseB b = false) :
    Calls Try.prog 7 #[.int .i64 n, .int .i64 b] w fun e w' => e = .returned (.bool true) ∧ Below w.heap.size w w' := by
  have hno := (baseB_no b).1 hb
  have HE : Hid (showC b = -24) := by show _ = _; unfold showC; rw [if_neg (by simp [hb])]
  obtain ⟨SM, hSM⟩ : ∃ x, strB (ushowF n b) = x := ⟨_, rfl⟩
  have HSM := Lib.hid hSM
  clear hSM
  by_cases c1 : b < 2
  · skip
    clear hno hb
    go_enter Try.func7, Try.ntmps7
    go_wp2_with fail
    refine (shown_any6 _).mono ?_
    rintro e w1 ⟨rfl, bb⟩
    have B1 := Lib.hid bb
    clear bb
    go_wp2_with fail
    refine (ushow_any n b _ h0 h1).mono ?_
    rw [HSM.out, HE.out]
    rintro e w2 ⟨rfl, bb⟩
    have B2 := Lib.hid (below_then B1.out bb)
    clear bb B1
    go_wp2_with fail
    go_ret
    exact ⟨rfl, B2.out⟩
  · have c1' : decide (b < 2) = false := by simp; omega
    have c2 : 36 < b := by omega
    clear hno hb c1
    go_enter Try.func7, Try.ntmps7
    go_wp2_with fail
    refine (shown_any6 _).mono ?_
    rintro e w1 ⟨rfl, bb⟩
    have B1 := Lib.hid bb
    clear bb
    go_wp2_with fail
    refine (ushow_any n b _ h0 h1).mono ?_
    rw [HSM.out, HE.out]
    rintro e w2 ⟨rfl, bb⟩
    have B2 := Lib.hid (below_then B1.out bb)
    clear bb B1
    go_wp2_with fail
    go_ret
    exact ⟨rfl, B2.out⟩
set_option maxRecDepth 100000 in
set_option maxHeartbeats 8000000 in
theorem long_zero (n : Int) (k u0 kk : Nat) (lu : List UInt8) (c0 : UInt8) (w : World) (h0 : -9223372036854775808 ≤ n) (h1 : n ≤ 9223372036854775807) (hk2 : 2 ≤ k) (hk36 : k ≤ 36) (hul : u0 < 18446744073709551616) (hu : IntKind.u64.wrap n = (u0 : Int)) (HU : Hid (ushowF n (k : Int) = lu)) (HC : Hid (showC (k : Int) = 0)) (hsz : (strB lu).size = kk) (hkk : kk ≤ 64) (HL : Hid (lenN k u0 = kk)) (hi : Hid (lu[0]? = some c0)) (zm : ((c0.toNat : Int) == 45) = false) (z : n = 0) (zc : c0.toNat = 48) :
    Calls Try.prog 7 #[.int .i64 n, .int .i64 (k : Int)] w fun e w' => e = .returned (.bool true) ∧ Below w.heap.size w w' := by
  subst z
  have zc2 : (c0.toNat : Int) = 48 := by rw [zc]; rfl
  have ix := ix_0 hi.out
  rw [zc2] at ix
  clear zm zc zc2
  have c1 : decide ((k : Int) < 2) = false := by simp; omega
  have c2 : decide (36 < (k : Int)) = false := by simp; omega
  have k64 : IntKind.u64.wrap (k : Int) = (k : Int) := un_nat k (by omega)
  have hk0 : ((k : Int) == 0) = false := by simp; omega
  go_enter Try.func7, Try.ntmps7
  go_wp2_with fail
  refine (shown_any6 _).mono ?_
  rintro e w1 ⟨rfl, bb⟩
  have B1 := Lib.hid bb
  clear bb
  go_wp2_with fail
  refine (ushow_any 0 (k : Int) _ h0 h1).mono ?_
  rw [HU.out, HC.out]
  rintro e w2 ⟨rfl, bb⟩
  have B2 := Lib.hid (below_then B1.out bb)
  clear bb B1
  go_wp2_with fail
  go_loopw [8, 9] (fun s8 s9 wr => ∃ (u j : Nat), s8 = .int .u64 (u : Int) ∧ s9 = .int .i64 (j : Int) ∧ u < 18446744073709551616 ∧ Hid (lenN k u0 + 1 = lenN k u + j) ∧ w2 = wr) (fun s8 _ _ => (intOf s8).toNat)
  case atStart => exact ⟨u0, 1, rfl, rfl, hul, rfl, rfl⟩
  case round =>
    obtain ⟨u, j, rfl, rfl, hul2, HJ, rfl⟩ := hrel
    have hp := len_pos k u
    have hj : j ≤ 64 := by have a := HJ.out; have c := HL.out; omega
    by_cases hku : k ≤ u
    · have hku' : (k : Int) ≤ (u : Int) := by omega
      have hlt : u / k < u := Nat.div_lt_self (by omega) (by omega)
      have HJ2 : Hid (lenN k u0 + 1 = lenN k (u / k) + (j + 1)) := by have a := HJ.out; have c := len_step hk2 hku; show _ = _; omega
      obtain ⟨v, hv⟩ : ∃ v, u / k = v := ⟨_, rfl⟩
      have qv : (u : Int) / (k : Int) = (v : Int) := by rw [← hv]; simp
      rw [hv] at hlt HJ2
      clear hv HJ hku hp
      go_wp2
      go_roundw
      case rel => exact ⟨v, j + 1, rfl, by go_num, by omega, HJ2.out, by trivial⟩
      case measure => simp [intOf]; omega
    · have hku' : decide (k ≤ u) = false := by simp; omega
      have hjk : j = kk := by have a := HJ.out; have c := HL.out; have d := len_one (b := k) (u := u) (by omega); omega
      subst hjk
      clear HJ hku hp
      go_wp2
      go_ret
      exact ⟨rfl, B2.out⟩
set_option maxRecDepth 100000 in
set_option maxHeartbeats 8000000 in
theorem long_some (n : Int) (k u0 kk : Nat) (lu : List UInt8) (c0 : UInt8) (w : World) (h0 : -9223372036854775808 ≤ n) (h1 : n ≤ 9223372036854775807) (hk2 : 2 ≤ k) (hk36 : k ≤ 36) (hul : u0 < 18446744073709551616) (hu : IntKind.u64.wrap n = (u0 : Int)) (HU : Hid (ushowF n (k : Int) = lu)) (HC : Hid (showC (k : Int) = 0)) (hsz : (strB lu).size = kk) (hkk : kk ≤ 64) (HL : Hid (lenN k u0 = kk)) (hi : Hid (lu[0]? = some c0)) (zm : ((c0.toNat : Int) == 45) = false) (z : (n == 0) = false) (zc : ((c0.toNat : Int) == 48) = false) :
    Calls Try.prog 7 #[.int .i64 n, .int .i64 (k : Int)] w fun e w' => e = .returned (.bool true) ∧ Below w.heap.size w w' := by
  have ix := ix_0 hi.out
  have zcn : (c0.toNat == 48) = false := by simp at zc ⊢; omega
  have zmn : (c0.toNat == 45) = false := by simp at zm ⊢; omega
  have zcb : (c0.toNat != 48) = true := by rw [bne, zcn]; rfl
  have zmb : (c0.toNat != 45) = true := by rw [bne, zmn]; rfl
  have zcc : ((c0.toNat : Int) != 48) = true := by rw [bne, zc]; rfl
  have zmc : ((c0.toNat : Int) != 45) = true := by rw [bne, zm]; rfl
  have c1 : decide ((k : Int) < 2) = false := by simp; omega
  have c2 : decide (36 < (k : Int)) = false := by simp; omega
  have k64 : IntKind.u64.wrap (k : Int) = (k : Int) := un_nat k (by omega)
  have hk0 : ((k : Int) == 0) = false := by simp; omega
  go_enter Try.func7, Try.ntmps7
  go_wp2_with fail
  refine (shown_any6 _).mono ?_
  rintro e w1 ⟨rfl, bb⟩
  have B1 := Lib.hid bb
  clear bb
  go_wp2_with fail
  refine (ushow_any n (k : Int) _ h0 h1).mono ?_
  rw [HU.out, HC.out]
  rintro e w2 ⟨rfl, bb⟩
  have B2 := Lib.hid (below_then B1.out bb)
  clear bb B1
  go_wp2_with fail
  go_loopw [8, 9] (fun s8 s9 wr => ∃ (u j : Nat), s8 = .int .u64 (u : Int) ∧ s9 = .int .i64 (j : Int) ∧ u < 18446744073709551616 ∧ Hid (lenN k u0 + 1 = lenN k u + j) ∧ w2 = wr) (fun s8 _ _ => (intOf s8).toNat)
  case atStart => exact ⟨u0, 1, rfl, rfl, hul, rfl, rfl⟩
  case round =>
    obtain ⟨u, j, rfl, rfl, hul2, HJ, rfl⟩ := hrel
    have hp := len_pos k u
    have hj : j ≤ 64 := by have a := HJ.out; have c := HL.out; omega
    by_cases hku : k ≤ u
    · have hku' : (k : Int) ≤ (u : Int) := by omega
      have hlt : u / k < u := Nat.div_lt_self (by omega) (by omega)
      have HJ2 : Hid (lenN k u0 + 1 = lenN k (u / k) + (j + 1)) := by have a := HJ.out; have c := len_step hk2 hku; show _ = _; omega
      obtain ⟨v, hv⟩ : ∃ v, u / k = v := ⟨_, rfl⟩
      have qv : (u : Int) / (k : Int) = (v : Int) := by rw [← hv]; simp
      rw [hv] at hlt HJ2
      clear hv HJ hku hp
      go_wp2
      go_roundw
      case rel => exact ⟨v, j + 1, rfl, by go_num, by omega, HJ2.out, by trivial⟩
      case measure => simp [intOf]; omega
    · have hku' : decide (k ≤ u) = false := by simp; omega
      have hjk : j = kk := by have a := HJ.out; have c := HL.out; have d := len_one (b := k) (u := u) (by omega); omega
      subst hjk
      clear HJ hku hp
      go_wp2
      go_ret
      exact ⟨rfl, B2.out⟩
theorem long_walk6 (n b : Int) (w : World) (h0 : -9223372036854775808 ≤ n) (h1 : n ≤ 9223372036854775807) :
    Calls Try.prog 7 #[.int .i64 n, .int .i64 b] w fun e w' => e = .returned (.bool true) ∧ Below w.heap.size w w' := by
  cases hb : baseB b with
  | false => exact long_no n b w h0 h1 hb
  | true =>
    obtain ⟨b2, b36⟩ := (baseB_iff b).1 hb
    obtain ⟨k, rfl⟩ := Int.eq_ofNat_of_zero_le (by omega : 0 ≤ b)
    have hc : showC (k : Int) = 0 := by unfold showC; rw [if_pos hb]
    have hu : ushowF n (k : Int) = usF k (un n) := by unfold ushowF; rw [if_pos hb, Int.toNat_natCast]
    have hl := us_len k (by omega) (un n)
    have h64 := ushow_len n (k : Int)
    rw [hu] at h64
    obtain ⟨c, r, e, hd⟩ := us_head (b := k) (by omega) (by omega) (un n)
    have hi : (usF k (un n))[0]? = some c := by rw [e]; rfl
    have zm : ((c.toNat : Int) == 45) = false := by simp; omega
    by_cases z : n = 0
    · refine long_zero n k (un n) _ _ c w h0 h1 (by omega) (by omega) (un_lt n) (un_cast n) hu hc rfl h64 hl.symm hi zm z ?_
      have e0 : un n = 0 := by rw [z]; decide +kernel
      rw [e0, usF_low (by omega)] at e
      injection e with e _
      rw [← e]
      rfl
    · obtain ⟨c', r', e', hd'⟩ := us_first (b := k) (by omega) (by omega) (un n) (by have := un_mod n; omega)
      rw [e] at e'
      injection e' with e1 _
      refine long_some n k (un n) _ _ c w h0 h1 (by omega) (by omega) (un_lt n) (un_cast n) hu hc rfl h64 hl.symm hi zm (by simp [z]) ?_
      rw [e1]
      exact u8_ne (k := 48) (by omega) hd'
end Go.Proofs.Ytlkjopbgobkgmaa
