/- Contracts of the document's own answers for layer 1: UDiv, sized, SDiv, FDiv. -/
import Derived.Test.YtadnajoefhajgaaRefB
import Derived.Test.YtadnajoefhajgaaRefC
import Derived.Test.YtadnajoefhajgaaWalksD
namespace Go.Proofs.Ytadnajoefhajgaa
open Go.RowKit

theorem rudivN_ok (lo hi d Q R : Nat) (w : World) (hl : lo < 18446744073709551616) (hd : d < 18446744073709551616) (h : hi < d) (hQ : (hi * 18446744073709551616 + lo) / d = Q) (hR : (hi * 18446744073709551616 + lo) % d = R) :
    Calls Try.prog 39 #[.int .u64 (lo : Int), .int .u64 (hi : Int), .int .u64 (d : Int)] w fun e w' => e = .returned (.tuple #[.int .u64 (Q : Int), .int .u64 (R : Int)]) ∧ w = w' :=
  (rudivN_any lo hi d w (by omega) (by omega) h).mono fun e w' ⟨⟨Q', R', hid, he⟩, hw⟩ => ⟨by
    obtain ⟨h1, h2⟩ := hid.out
    rw [← hQ, ← hR, h1, h2]; exact he, hw⟩

set_option maxHeartbeats 400000 in
theorem rudiv_any (lo hi d : Int) (w : World) (hd : cellR d) :
    Calls Try.prog 26 #[.int .i64 lo, .int .i64 hi, .int .i64 d] w fun e w' => e = .returned (.tuple #[.int .i64 (uq lo hi d), .int .i64 (ur lo hi d), .int .i64 (uc hi d)]) ∧ w = w' := by
  have e1 := un_cast lo
  have e2 := un_cast hi
  have e3 := un_cast d
  by_cases h0 : d = 0
  · have e4 : un d = 0 := (un_zero hd).2 h0
    have hk : uok hi d = false := by simp [uok, e4]
    clear hd
    subst h0
    have H := Lib.hid hk
    clear e3 e4 hk
    go_enter Try.func26, Try.ntmps26
    go_wp2
    go_ret3
    exact ⟨ret_three (by simp [uq, H.out]) (by simp [ur, H.out]) (by simp [uc]), rfl⟩
  · have z0 : (d == 0) = false := by simpa using h0
    clear hd
    cases hk : uok hi d
    · have h5 := uok_false hk
      have h6 : ((un d : Nat) : Int) ≤ ((un hi : Nat) : Int) := by omega
      have H := Lib.hid hk
      clear hk
      go_enter Try.func26, Try.ntmps26
      go_wp2
      go_ret3
      exact ⟨ret_three (by simp [uq, H.out]) (by simp [ur, H.out]) (by simp [uc, h0, H.out]), rfl⟩
    · have h5 := uok_true hk
      have h6 : ¬ ((un d : Nat) : Int) ≤ ((un hi : Nat) : Int) := by omega
      have H := Lib.hid hk
      clear hk
      obtain ⟨Q, hQ⟩ : ∃ Q : Nat, Hid ((un hi * 18446744073709551616 + un lo) / un d = Q) := ⟨_, Lib.hid rfl⟩
      obtain ⟨R, hR⟩ : ∃ R : Nat, Hid ((un hi * 18446744073709551616 + un lo) % un d = R) := ⟨_, Lib.hid rfl⟩
      have CU := Lib.hid fun w => rudivN_ok (un lo) (un hi) (un d) Q R w (un_lt lo) (un_lt d) h5 hQ.out hR.out
      go_enter Try.func26, Try.ntmps26
      go_wp2_with (go_at_call 39; refine (CU.out _).mono ?_; rintro e w1 ⟨rfl, rfl⟩)
      go_ret3
      exact ⟨ret_three (by rw [uq, if_pos H.out, hQ.out]) (by rw [ur, if_pos H.out, hR.out]) (by rw [uc, if_neg h0, if_pos H.out]), rfl⟩

theorem ret_iib {k l : IntKind} {a b c d : Int} {x y : Bool} (h : a = c) (g : b = d) (i : x = y) : Ending.returned (.tuple #[.int k a, .int l b, .bool x]) = .returned (.tuple #[.int k c, .int l d, .bool y]) := by rw [h, g, i]

/-- The pair's size, as sized reckons it. -/
theorem rpair (lo hi : Int) (hh : cellR hi) (pl ph : Nat) (h1 : (pr lo hi).natAbs % 18446744073709551616 = pl) (h2 : (pr lo hi).natAbs / 18446744073709551616 = ph) :
    (hi < 0 → negU (un lo) 0 = pl ∧ negU (un hi) (bor (un lo) 0) = ph) ∧ (¬ hi < 0 → un lo = pl ∧ un hi = ph) := by
  refine ⟨fun h => ?_, fun h => ?_⟩
  · obtain ⟨a, b⟩ := pair_neg lo hi hh h
    exact ⟨a.trans h1, b.trans h2⟩
  · obtain ⟨a, b⟩ := pair_pos lo hi hh (by omega)
    exact ⟨a.trans h1, b.trans h2⟩

set_option maxHeartbeats 1000000 in
theorem rsized_core (lo hi d : Int) (w : World) (pl ph D Q R : Nat) (fits : Bool)
    (CT : Hid (hi < 0 → ∀ w, Calls Try.prog 37 #[.int .u64 (un lo : Int), .int .u64 (un hi : Int)] w fun e w' => e = .returned (.tuple #[.int .u64 (pl : Int), .int .u64 (ph : Int)]) ∧ w = w'))
    (HP : Hid (¬ hi < 0 → un lo = pl ∧ un hi = ph))
    (CS : Hid (∀ w, Calls Try.prog 36 #[.int .i64 d] w fun e w' => e = .returned (.int .u64 (D : Int)) ∧ w = w'))
    (CU : Hid (ph < D → ∀ w, Calls Try.prog 39 #[.int .u64 (pl : Int), .int .u64 (ph : Int), .int .u64 (D : Int)] w fun e w' => e = .returned (.tuple #[.int .u64 (Q : Int), .int .u64 (R : Int)]) ∧ w = w'))
    (hf : ((D : Int) ≤ (ph : Int) ∧ fits = false ∧ Q = 0 ∧ R = 0) ∨ (¬ (D : Int) ≤ (ph : Int) ∧ fits = true)) :
    Calls Try.prog 43 #[.int .i64 lo, .int .i64 hi, .int .i64 d] w fun e w' => e = .returned (.tuple #[.int .u64 (Q : Int), .int .u64 (R : Int), .bool fits]) ∧ w = w' := by
  have e1 := un_cast lo
  have e2 := un_cast hi
  by_cases h1 : hi < 0
  · have C1 := Lib.hid (CT.out h1)
    rcases hf with ⟨hf, rfl, rfl, rfl⟩ | ⟨hf, rfl⟩
    · go_enter Try.func43, Try.ntmps43
      go_wp2_with (first | (go_at_call 37; refine (C1.out _).mono ?_; rintro e w1 ⟨rfl, rfl⟩) | (go_at_call 36; refine (CS.out _).mono ?_; rintro e w1 ⟨rfl, rfl⟩))
      exact bodyPost_ret (v := .tuple #[.int .u64 0, .int .u64 0, .bool false]) (by simp [results, Try.results43, go_sem]) rfl ⟨rfl, rfl⟩
    · have C2 := Lib.hid (CU.out (by omega))
      go_enter Try.func43, Try.ntmps43
      go_wp2_with (first | (go_at_call 37; refine (C1.out _).mono ?_; rintro e w1 ⟨rfl, rfl⟩) | (go_at_call 36; refine (CS.out _).mono ?_; rintro e w1 ⟨rfl, rfl⟩) | (go_at_call 39; refine (C2.out _).mono ?_; rintro e w1 ⟨rfl, rfl⟩))
      exact bodyPost_ret (v := .tuple #[.int .u64 (Q : Int), .int .u64 (R : Int), .bool true]) (by simp [results, Try.results43, go_sem]) rfl ⟨rfl, rfl⟩
  · obtain ⟨p1, p2⟩ := HP.out h1
    rw [p1] at e1
    rw [p2] at e2
    clear p1 p2
    rcases hf with ⟨hf, rfl, rfl, rfl⟩ | ⟨hf, rfl⟩
    · go_enter Try.func43, Try.ntmps43
      go_wp2_with (go_at_call 36; refine (CS.out _).mono ?_; rintro e w1 ⟨rfl, rfl⟩)
      exact bodyPost_ret (v := .tuple #[.int .u64 0, .int .u64 0, .bool false]) (by simp [results, Try.results43, go_sem]) rfl ⟨rfl, rfl⟩
    · have C2 := Lib.hid (CU.out (by omega))
      go_enter Try.func43, Try.ntmps43
      go_wp2_with (first | (go_at_call 36; refine (CS.out _).mono ?_; rintro e w1 ⟨rfl, rfl⟩) | (go_at_call 39; refine (C2.out _).mono ?_; rintro e w1 ⟨rfl, rfl⟩))
      exact bodyPost_ret (v := .tuple #[.int .u64 (Q : Int), .int .u64 (R : Int), .bool true]) (by simp [results, Try.results43, go_sem]) rfl ⟨rfl, rfl⟩

set_option maxHeartbeats 1000000 in
theorem rsdiv_any (lo hi d : Int) (w : World) (hh : cellR hi) (hd : cellR d) :
    Calls Try.prog 28 #[.int .i64 lo, .int .i64 hi, .int .i64 d] w fun e w' => e = .returned (.tuple #[.int .i64 (sq lo hi d), .int .i64 (sr lo hi d), .int .i64 (sc lo hi d)]) ∧ w = w' := by
  obtain ⟨pl, ph, D, hP⟩ : ∃ pl ph D : Nat, Hid (PartsOf lo hi d pl ph D) := ⟨_, _, _, Lib.hid ⟨rfl, rfl, rfl⟩⟩
  by_cases h0 : d = 0
  · subst h0
    have H := Lib.hid (sdiv_zero lo hi)
    go_enter Try.func28, Try.ntmps28
    go_wp2
    go_ret3
    exact ⟨ret_three H.out.1 H.out.2.1 H.out.2.2, rfl⟩
  · have z0 : (d == 0) = false := by simpa using h0
    have hS := Lib.hid (sok_of lo hi d h0)
    have hDp : 0 < D := by have := hP.out.size; omega
    have hD := hP.out.d_le hd
    obtain ⟨Q, R, hQ, hR⟩ : ∃ Q R : Nat, Hid ((pr lo hi).natAbs / d.natAbs = Q) ∧ Hid ((pr lo hi).natAbs % d.natAbs = R) := ⟨_, _, Lib.hid rfl, Lib.hid rfl⟩
    have hp := rpair lo hi hh pl ph hP.out.low hP.out.high
    have CT : Hid (hi < 0 → ∀ w, Calls Try.prog 37 #[.int .u64 (un lo : Int), .int .u64 (un hi : Int)] w fun e w' => e = .returned (.tuple #[.int .u64 (pl : Int), .int .u64 (ph : Int)]) ∧ w = w') :=
      Lib.hid fun h w => by
        have c := rturned_any (un lo) (un hi) w (un_lt lo) (un_lt hi)
        rw [(hp.1 h).1, (hp.1 h).2] at c
        exact c
    have CS : Hid (∀ w, Calls Try.prog 36 #[.int .i64 d] w fun e w' => e = .returned (.int .u64 (D : Int)) ∧ w = w') := Lib.hid fun w => by
      have := rsize_any d w hd; rw [hP.out.size] at this; exact this
    have CU : Hid (ph < D → ∀ w, Calls Try.prog 39 #[.int .u64 (pl : Int), .int .u64 (ph : Int), .int .u64 (D : Int)] w fun e w' => e = .returned (.tuple #[.int .u64 (Q : Int), .int .u64 (R : Int)]) ∧ w = w') :=
      Lib.hid fun h w => rudivN_ok pl ph D Q R w hP.out.pl_lt (by omega) h (by rw [hP.out.quo, ← hP.out.size]; exact hQ.out) (by rw [hP.out.quo, ← hP.out.size]; exact hR.out)
    have HP := Lib.hid hp.2
    clear hp hh hd
    by_cases hr : D ≤ ph
    · have hk := hS.out.1 (by rw [hP.out.high, hP.out.size]; exact hr)
      have H := Lib.hid (sdiv_no h0 hk)
      have CZ := Lib.hid fun w => rsized_core lo hi d w pl ph D 0 0 false CT HP CS (Lib.hid fun h => by omega) (Or.inl ⟨by omega, rfl, rfl, rfl⟩)
      clear hk
      go_enter Try.func28, Try.ntmps28
      go_wp2_with (go_at_call 43; refine (CZ.out _).mono ?_; rintro e w1 ⟨rfl, rfl⟩)
      go_ret3
      exact ⟨ret_three H.out.1 H.out.2.1 H.out.2.2, rfl⟩
    · have CZ := Lib.hid fun w => rsized_core lo hi d w pl ph D Q R true CT HP CS CU (Or.inr ⟨by omega, rfl⟩)
      have hRl : R < D := by have := hR.out; rw [hP.out.size] at this; rw [← this]; exact Nat.mod_lt _ hDp
      have hRl' : (R : Int) ≤ 9223372036854775807 := by omega
      rw [hQ.out] at hS
      have nR := Lib.hid (neg_cell R (by omega))
      by_cases h1 : hi < 0 <;> by_cases h2 : d < 0
      · have c1 : decide (hi < 0) = true := by simpa using h1
        have c2 : decide (d < 0) = true := by simpa using h2
        by_cases hq : (Q : Int) ≤ 9223372036854775807
        · have hk := hS.out.2.2.2.1 (by simp [c1, c2]) (by omega)
          have H := Lib.hid (sdiv_yes h0 hk.1 hk.2 (rest_neg lo hi d R h1 hR.out))
          clear hk
          go_enter Try.func28, Try.ntmps28
          go_wp2_with (go_at_call 43; refine (CZ.out _).mono ?_; rintro e w1 ⟨rfl, rfl⟩)
          go_ret3
          exact ⟨ret_three H.out.1 (nR.out.trans H.out.2.1) H.out.2.2, rfl⟩
        · have hk := hS.out.2.2.2.2 (by simp [c1, c2]) (by omega)
          have H := Lib.hid (sdiv_no h0 hk)
          clear hk
          go_enter Try.func28, Try.ntmps28
          go_wp2_with (go_at_call 43; refine (CZ.out _).mono ?_; rintro e w1 ⟨rfl, rfl⟩)
          go_ret3
          exact ⟨ret_three H.out.1 H.out.2.1 H.out.2.2, rfl⟩
      · have c1 : decide (hi < 0) = true := by simpa using h1
        have c2 : decide (d < 0) = false := by simpa using h2
        by_cases hq : (Q : Int) ≤ 9223372036854775808
        · have hk := hS.out.2.1 (by simp [c1, c2]) (by omega)
          have H := Lib.hid (sdiv_yes h0 hk.1 hk.2 (rest_neg lo hi d R h1 hR.out))
          clear hk
          have nQ := Lib.hid (neg_cell Q (by omega))
          go_enter Try.func28, Try.ntmps28
          go_wp2_with (go_at_call 43; refine (CZ.out _).mono ?_; rintro e w1 ⟨rfl, rfl⟩)
          go_ret3
          exact ⟨ret_three (nQ.out.trans H.out.1) (nR.out.trans H.out.2.1) H.out.2.2, rfl⟩
        · have hk := hS.out.2.2.1 (by simp [c1, c2]) (by omega)
          have H := Lib.hid (sdiv_no h0 hk)
          clear hk
          go_enter Try.func28, Try.ntmps28
          go_wp2_with (go_at_call 43; refine (CZ.out _).mono ?_; rintro e w1 ⟨rfl, rfl⟩)
          go_ret3
          exact ⟨ret_three H.out.1 H.out.2.1 H.out.2.2, rfl⟩
      · have c1 : decide (hi < 0) = false := by simpa using h1
        have c2 : decide (d < 0) = true := by simpa using h2
        by_cases hq : (Q : Int) ≤ 9223372036854775808
        · have hk := hS.out.2.1 (by simp [c1, c2]) (by omega)
          have H := Lib.hid (sdiv_yes h0 hk.1 hk.2 (rest_pos lo hi d R h1 hR.out))
          clear hk
          have nQ := Lib.hid (neg_cell Q (by omega))
          go_enter Try.func28, Try.ntmps28
          go_wp2_with (go_at_call 43; refine (CZ.out _).mono ?_; rintro e w1 ⟨rfl, rfl⟩)
          go_ret3
          exact ⟨ret_three (nQ.out.trans H.out.1) H.out.2.1 H.out.2.2, rfl⟩
        · have hk := hS.out.2.2.1 (by simp [c1, c2]) (by omega)
          have H := Lib.hid (sdiv_no h0 hk)
          clear hk
          go_enter Try.func28, Try.ntmps28
          go_wp2_with (go_at_call 43; refine (CZ.out _).mono ?_; rintro e w1 ⟨rfl, rfl⟩)
          go_ret3
          exact ⟨ret_three H.out.1 H.out.2.1 H.out.2.2, rfl⟩
      · have c1 : decide (hi < 0) = false := by simpa using h1
        have c2 : decide (d < 0) = false := by simpa using h2
        by_cases hq : (Q : Int) ≤ 9223372036854775807
        · have hk := hS.out.2.2.2.1 (by simp [c1, c2]) (by omega)
          have H := Lib.hid (sdiv_yes h0 hk.1 hk.2 (rest_pos lo hi d R h1 hR.out))
          clear hk
          go_enter Try.func28, Try.ntmps28
          go_wp2_with (go_at_call 43; refine (CZ.out _).mono ?_; rintro e w1 ⟨rfl, rfl⟩)
          go_ret3
          exact ⟨ret_three H.out.1 H.out.2.1 H.out.2.2, rfl⟩
        · have hk := hS.out.2.2.2.2 (by simp [c1, c2]) (by omega)
          have H := Lib.hid (sdiv_no h0 hk)
          clear hk
          go_enter Try.func28, Try.ntmps28
          go_wp2_with (go_at_call 43; refine (CZ.out _).mono ?_; rintro e w1 ⟨rfl, rfl⟩)
          go_ret3
          exact ⟨ret_three H.out.1 H.out.2.1 H.out.2.2, rfl⟩

theorem rs_sign {lo hi d : Int} (h0 : d ≠ 0) (hk : sok lo hi d = true) : sr lo hi d = 0 ∨ (sr lo hi d < 0 ∧ hi < 0) ∨ (0 < sr lo hi d ∧ 0 ≤ hi) := by
  have e : sr lo hi d = (pr lo hi).tmod d := by simp [sr, hk]
  obtain ⟨_, _, t3, t4⟩ := tfacts (pr lo hi) d h0
  rw [e]
  by_cases h : hi < 0
  · have := t4 (by have := pr_neg lo hi h; omega)
    omega
  · have := t3 (pr_nonneg lo hi (by omega))
    omega

set_option maxHeartbeats 1000000 in
theorem rfdiv_core (lo hi d x y c x' y' c' : Int) (w : World)
    (CS : Hid (∀ w, Calls Try.prog 28 #[.int .i64 lo, .int .i64 hi, .int .i64 d] w fun e w' => e = .returned (.tuple #[.int .i64 x, .int .i64 y, .int .i64 c]) ∧ w = w'))
    (hc : ((c != 0) = true ∧ x' = x ∧ y' = y ∧ c' = c) ∨ (c = 0 ∧ c' = 0 ∧ x' = x ∧ y' = y ∧ y = 0) ∨
      (c = 0 ∧ c' = 0 ∧ x' = x ∧ y' = y ∧ (y == 0) = false ∧ (decide (hi < 0) == decide (d < 0)) = true) ∨
      (c = 0 ∧ c' = -11 ∧ x' = 0 ∧ y' = 0 ∧ (x == -9223372036854775808) = true ∧ (y == 0) = false ∧ (decide (hi < 0) == decide (d < 0)) = false) ∨
      (c = 0 ∧ c' = 0 ∧ x' = x - 1 ∧ y' = y + d ∧ (x == -9223372036854775808) = false ∧ -9223372036854775808 ≤ x - 1 ∧ x ≤ 9223372036854775807 ∧ -9223372036854775808 ≤ y + d ∧ y + d ≤ 9223372036854775807 ∧ (y == 0) = false ∧ (decide (hi < 0) == decide (d < 0)) = false)) :
    Calls Try.prog 30 #[.int .i64 lo, .int .i64 hi, .int .i64 d] w fun e w' => e = .returned (.tuple #[.int .i64 x', .int .i64 y', .int .i64 c']) ∧ w = w' := by
  rcases hc with ⟨h1, rfl, rfl, rfl⟩ | ⟨rfl, rfl, rfl, rfl, rfl⟩ | ⟨rfl, rfl, rfl, rfl, h1, h2⟩ | ⟨rfl, rfl, rfl, rfl, h1, h2, h3⟩ | ⟨rfl, rfl, rfl, rfl, h1, m1, m2, m3, m4, h2, h3⟩
  all_goals
    go_enter Try.func30, Try.ntmps30
    go_wp2_with (go_at_call 28; refine (CS.out _).mono ?_; rintro e w1 ⟨rfl, rfl⟩)
    go_ret3
    exact ⟨rfl, rfl⟩

theorem rfdiv_any (lo hi d : Int) (w : World) (hh : cellR hi) (hd : cellR d) :
    Calls Try.prog 30 #[.int .i64 lo, .int .i64 hi, .int .i64 d] w fun e w' => e = .returned (.tuple #[.int .i64 (fq lo hi d), .int .i64 (fr lo hi d), .int .i64 (fc lo hi d)]) ∧ w = w' := by
  refine rfdiv_core lo hi d _ _ _ _ _ _ w (Lib.hid fun w => rsdiv_any lo hi d w hh hd) ?_
  cases hk : sok lo hi d
  · refine Or.inl ⟨?_, ?_, ?_, ?_⟩
    · by_cases h0 : d = 0 <;> simp [sc, hk, h0]
    · simp [fq, sq, fok, hk]
    · simp [fr, sr, fok, hk]
    · simp [fc, sc, fok, hk]
  · refine Or.inr ?_
    obtain ⟨h0, hx⟩ := sok_cell hk
    have hs := rs_sign h0 hk
    have e : sr lo hi d = (pr lo hi).tmod d := by simp [sr, hk]
    have hc : sc lo hi d = 0 := by simp [sc, hk, h0]
    cases hl : leans (sr lo hi d) d
    · have f1 : fq lo hi d = sq lo hi d ∧ fr lo hi d = sr lo hi d ∧ fc lo hi d = 0 := by simp [fq, fr, fc, fok, hk, h0, hl]
      by_cases hy : sr lo hi d = 0
      · exact Or.inl ⟨hc, f1.2.2, f1.1, f1.2.1, hy⟩
      · refine Or.inr (Or.inl ⟨hc, f1.2.2, f1.1, f1.2.1, by simpa using hy, ?_⟩)
        have := leans_false hl
        by_cases a1 : hi < 0 <;> by_cases a2 : d < 0 <;> simp [a1, a2] <;> omega
    · have hl' := leans_true hl
      have hy : (sr lo hi d == 0) = false := by simp; omega
      have k1 : (decide (hi < 0) == decide (d < 0)) = false := by
        by_cases a1 : hi < 0 <;> by_cases a2 : d < 0 <;> simp [a1, a2] <;> omega
      refine Or.inr (Or.inr ?_)
      by_cases hm : sq lo hi d = -9223372036854775808
      · have f1 : fq lo hi d = 0 ∧ fr lo hi d = 0 ∧ fc lo hi d = -11 := by simp [fq, fr, fc, fok, h0, hl, hm]
        exact Or.inl ⟨hc, f1.2.2, f1.1, f1.2.1, by simp [hm], hy, k1⟩
      · have f1 : fq lo hi d = sq lo hi d - 1 ∧ fr lo hi d = sr lo hi d + d ∧ fc lo hi d = 0 := by simp [fq, fr, fc, fok, hk, h0, hl, hm]
        have hs' := leans_sum (pr lo hi) d h0 hd (by rw [← e]; exact hl)
        rw [← e] at hs'
        unfold cellR at hs' hx
        exact Or.inr ⟨hc, f1.2.2, f1.1, f1.2.1, by simpa using hm, by omega, hx.2, hs'.1, hs'.2, hy, k1⟩
end Go.Proofs.Ytadnajoefhajgaa
