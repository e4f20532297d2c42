/- Contracts of SDiv and FDiv of package cell. -/
import Derived.Test.YtadnajoefhajgaaWalksC
namespace Go.Proofs.Ytadnajoefhajgaa
open Go.RowKit

/-- What SDiv's parts are called. -/
structure PartsOf (lo hi d : Int) (pl ph D : Nat) : Prop where
  low : (pr lo hi).natAbs % 18446744073709551616 = pl
  high : (pr lo hi).natAbs / 18446744073709551616 = ph
  size : d.natAbs = D

theorem PartsOf.quo {lo hi d : Int} {pl ph D : Nat} (h : PartsOf lo hi d pl ph D) : ph * 18446744073709551616 + pl = (pr lo hi).natAbs := by
  have := pair_abs lo hi; rw [h.low, h.high] at this; exact this
theorem PartsOf.pl_lt {lo hi d : Int} {pl ph D : Nat} (h : PartsOf lo hi d pl ph D) : pl < 18446744073709551616 := by have := h.low; omega
theorem PartsOf.d_le {lo hi d : Int} {pl ph D : Nat} (h : PartsOf lo hi d pl ph D) (hd : cellR d) : D ≤ 9223372036854775808 := by have := h.size; unfold cellR at hd; omega

theorem sdiv_no {lo hi d : Int} (h0 : d ≠ 0) (hk : sok lo hi d = false) : (0 : Int) = sq lo hi d ∧ (0 : Int) = sr lo hi d ∧ (-11 : Int) = sc lo hi d := by
  simp [sq, sr, sc, hk, h0]
theorem sdiv_zero (lo hi : Int) : (0 : Int) = sq lo hi 0 ∧ (0 : Int) = sr lo hi 0 ∧ (-10 : Int) = sc lo hi 0 := by
  simp [sq, sr, sc, sok]
theorem sdiv_yes {lo hi d x y : Int} (h0 : d ≠ 0) (hk : sok lo hi d = true) (hx : (pr lo hi).tdiv d = x) (hy : (pr lo hi).tmod d = y) : x = sq lo hi d ∧ y = sr lo hi d ∧ (0 : Int) = sc lo hi d := by
  simp [sq, sr, sc, hk, h0, hx, hy]
theorem rest_neg (lo hi d : Int) (R : Nat) (h : hi < 0) (hR : (pr lo hi).natAbs % d.natAbs = R) : (pr lo hi).tmod d = -(R : Int) := by
  rw [tmod_sign, if_pos (pr_neg lo hi h), hR]
theorem rest_pos (lo hi d : Int) (R : Nat) (h : ¬ hi < 0) (hR : (pr lo hi).natAbs % d.natAbs = R) : (pr lo hi).tmod d = (R : Int) := by
  rw [tmod_sign, if_neg (by have := pr_nonneg lo hi (by omega); omega), hR]

set_option maxHeartbeats 1000000 in
theorem sdiv_any (lo hi d : Int) (w : World) (hh : cellR hi) (hd : cellR d) :
    Calls Try.prog 27 #[.int .i64 lo, .int .i64 hi, .int .i64 d] w fun e w' => e = .returned (.tuple #[.int .i64 (sq lo hi d), .int .i64 (sr lo hi d), .int .i64 (sc lo hi d)]) ∧ Below w.heap.size w w' := by
  obtain ⟨pl, ph, D, hP⟩ : ∃ pl ph D : Nat, Hid (PartsOf lo hi d pl ph D) := ⟨_, _, _, Lib.hid ⟨rfl, rfl, rfl⟩⟩
  have cp : ∀ w, Calls Try.prog 40 #[.int .i64 lo, .int .i64 hi] w fun e w' => e = .returned (.tuple #[.int .u64 (pl : Int), .int .u64 (ph : Int)]) ∧ w = w' := by
    intro w; have := pairSize_any lo hi w hh; rw [hP.out.low, hP.out.high] at this; exact this
  have cs : ∀ w, Calls Try.prog 41 #[.int .i64 d] w fun e w' => e = .returned (.int .u64 (D : Int)) ∧ w = w' := by
    intro w; have := size_any d w hd; rw [hP.out.size] at this; exact this
  have hD := hP.out.d_le hd
  clear hh
  have CP := Lib.hid cp
  have CS := Lib.hid cs
  clear cp cs
  by_cases h0 : d = 0
  · have hD0 : D = 0 := by have := hP.out.size; omega
    subst h0
    subst hD0
    have H := Lib.hid (sdiv_zero lo hi)
    go_enter Try.func27, Try.ntmps27
    go_wp2_with (first | (go_at_call 40; refine (CP.out _).mono ?_; rintro e w1 ⟨rfl, rfl⟩) | (go_at_call 41; refine (CS.out _).mono ?_; rintro e w1 ⟨rfl, rfl⟩) | (go_at_call 38; refine (divide_zero _ _ _).mono ?_; rintro e w1 ⟨rfl, hb⟩))
    go_ret3
    exact ⟨ret_three H.out.1 H.out.2.1 H.out.2.2, hb⟩
  · have hS := Lib.hid (sok_of lo hi d h0)
    have hDp : 0 < D := by have := hP.out.size; omega
    by_cases hr : D ≤ ph
    · have hk := hS.out.1 (by rw [hP.out.high, hP.out.size]; exact hr)
      have H := Lib.hid (sdiv_no h0 hk)
      clear hk
      go_enter Try.func27, Try.ntmps27
      go_wp2_with (first | (go_at_call 40; refine (CP.out _).mono ?_; rintro e w1 ⟨rfl, rfl⟩) | (go_at_call 41; refine (CS.out _).mono ?_; rintro e w1 ⟨rfl, rfl⟩) | (go_at_call 38; refine (divide_range _ _ _ _ hr hDp).mono ?_; rintro e w1 ⟨rfl, hb⟩))
      go_ret3
      exact ⟨ret_three H.out.1 H.out.2.1 H.out.2.2, hb⟩
    · have hr' : ph < D := by omega
      obtain ⟨Q, R, hQ, hR⟩ : ∃ Q R : Nat, Hid ((pr lo hi).natAbs / d.natAbs = Q) ∧ Hid ((pr lo hi).natAbs % d.natAbs = R) := ⟨_, _, Lib.hid rfl, Lib.hid rfl⟩
      have cd : Hid (∀ w, Calls Try.prog 38 #[.int .u64 (pl : Int), .int .u64 (ph : Int), .int .u64 (D : Int)] w fun e w' => e = .returned (.tuple #[.int .u64 (Q : Int), .int .u64 (R : Int), .int .i64 0]) ∧ Below w.heap.size w w') :=
        Lib.hid fun w => divide_ok pl ph D Q R w hr' hP.out.pl_lt (by omega) (Lib.hid (by rw [hP.out.quo, ← hP.out.size]; exact hQ.out)) (Lib.hid (by rw [hP.out.quo, ← hP.out.size]; exact hR.out))
      have hRl : R < D := by have := hR.out; rw [hP.out.size] at this; rw [← this]; exact Nat.mod_lt _ hDp
      rw [hQ.out] at hS
      by_cases h1 : hi < 0 <;> by_cases h2 : d < 0
      · have c1 : decide (hi < 0) = true := by simpa using h1
        have c2 : decide (d < 0) = true := by simpa using h2
        by_cases hq : Q ≤ 9223372036854775807
        · have hk := hS.out.2.2.2.1 (by simp [h1, h2]) hq
          have H := Lib.hid (sdiv_yes h0 hk.1 hk.2 (rest_neg lo hi d R h1 hR.out))
          clear hk
          go_enter Try.func27, Try.ntmps27
          go_wp2_with (first | (go_at_call 40; refine (CP.out _).mono ?_; rintro e w1 ⟨rfl, rfl⟩) | (go_at_call 41; refine (CS.out _).mono ?_; rintro e w1 ⟨rfl, rfl⟩) | (go_at_call 38; refine (cd.out _).mono ?_; rintro e w1 ⟨rfl, hb⟩) | (go_at_call 42; ((with_reducible refine (signed_above Q hq _).mono ?_); rintro e w2 ⟨rfl, rfl⟩)) | (go_at_call 42; ((with_reducible refine (signed_below R (by omega) _).mono ?_); rintro e w2 ⟨rfl, rfl⟩)))
          go_ret3
          exact ⟨ret_three H.out.1 H.out.2.1 H.out.2.2, hb⟩
        · have hk := hS.out.2.2.2.2 (by simp [h1, h2]) (by omega)
          have H := Lib.hid (sdiv_no h0 hk)
          clear hk
          go_enter Try.func27, Try.ntmps27
          go_wp2_with (first | (go_at_call 40; refine (CP.out _).mono ?_; rintro e w1 ⟨rfl, rfl⟩) | (go_at_call 41; refine (CS.out _).mono ?_; rintro e w1 ⟨rfl, rfl⟩) | (go_at_call 38; refine (cd.out _).mono ?_; rintro e w1 ⟨rfl, hb⟩) | (go_at_call 42; ((with_reducible refine (signed_above_no Q (by omega) _).mono ?_); rintro e w2 ⟨rfl, rfl⟩)))
          go_ret3
          exact ⟨ret_three H.out.1 H.out.2.1 H.out.2.2, hb⟩
      · have c1 : decide (hi < 0) = true := by simpa using h1
        have c2 : decide (d < 0) = false := by simpa using h2
        by_cases hq : Q ≤ 9223372036854775808
        · have hk := hS.out.2.1 (by simp [h1, h2]) hq
          have H := Lib.hid (sdiv_yes h0 hk.1 hk.2 (rest_neg lo hi d R h1 hR.out))
          clear hk
          go_enter Try.func27, Try.ntmps27
          go_wp2_with (first | (go_at_call 40; refine (CP.out _).mono ?_; rintro e w1 ⟨rfl, rfl⟩) | (go_at_call 41; refine (CS.out _).mono ?_; rintro e w1 ⟨rfl, rfl⟩) | (go_at_call 38; refine (cd.out _).mono ?_; rintro e w1 ⟨rfl, hb⟩) | (go_at_call 42; ((with_reducible refine (signed_below Q hq _).mono ?_); rintro e w2 ⟨rfl, rfl⟩)) | (go_at_call 42; ((with_reducible refine (signed_below R (by omega) _).mono ?_); rintro e w2 ⟨rfl, rfl⟩)))
          go_ret3
          exact ⟨ret_three H.out.1 H.out.2.1 H.out.2.2, hb⟩
        · have hk := hS.out.2.2.1 (by simp [h1, h2]) (by omega)
          have H := Lib.hid (sdiv_no h0 hk)
          clear hk
          go_enter Try.func27, Try.ntmps27
          go_wp2_with (first | (go_at_call 40; refine (CP.out _).mono ?_; rintro e w1 ⟨rfl, rfl⟩) | (go_at_call 41; refine (CS.out _).mono ?_; rintro e w1 ⟨rfl, rfl⟩) | (go_at_call 38; refine (cd.out _).mono ?_; rintro e w1 ⟨rfl, hb⟩) | (go_at_call 42; ((with_reducible refine (signed_below_no Q (by omega) _).mono ?_); rintro e w2 ⟨rfl, rfl⟩)))
          go_ret3
          exact ⟨ret_three H.out.1 H.out.2.1 H.out.2.2, hb⟩
      · have c1 : decide (hi < 0) = false := by simpa using h1
        have c2 : decide (d < 0) = true := by simpa using h2
        by_cases hq : Q ≤ 9223372036854775808
        · have hk := hS.out.2.1 (by simp [h1, h2]) hq
          have H := Lib.hid (sdiv_yes h0 hk.1 hk.2 (rest_pos lo hi d R h1 hR.out))
          clear hk
          go_enter Try.func27, Try.ntmps27
          go_wp2_with (first | (go_at_call 40; refine (CP.out _).mono ?_; rintro e w1 ⟨rfl, rfl⟩) | (go_at_call 41; refine (CS.out _).mono ?_; rintro e w1 ⟨rfl, rfl⟩) | (go_at_call 38; refine (cd.out _).mono ?_; rintro e w1 ⟨rfl, hb⟩) | (go_at_call 42; ((with_reducible refine (signed_below Q hq _).mono ?_); rintro e w2 ⟨rfl, rfl⟩)) | (go_at_call 42; ((with_reducible refine (signed_above R (by omega) _).mono ?_); rintro e w2 ⟨rfl, rfl⟩)))
          go_ret3
          exact ⟨ret_three H.out.1 H.out.2.1 H.out.2.2, hb⟩
        · have hk := hS.out.2.2.1 (by simp [h1, h2]) (by omega)
          have H := Lib.hid (sdiv_no h0 hk)
          clear hk
          go_enter Try.func27, Try.ntmps27
          go_wp2_with (first | (go_at_call 40; refine (CP.out _).mono ?_; rintro e w1 ⟨rfl, rfl⟩) | (go_at_call 41; refine (CS.out _).mono ?_; rintro e w1 ⟨rfl, rfl⟩) | (go_at_call 38; refine (cd.out _).mono ?_; rintro e w1 ⟨rfl, hb⟩) | (go_at_call 42; ((with_reducible refine (signed_below_no Q (by omega) _).mono ?_); rintro e w2 ⟨rfl, rfl⟩)))
          go_ret3
          exact ⟨ret_three H.out.1 H.out.2.1 H.out.2.2, hb⟩
      · have c1 : decide (hi < 0) = false := by simpa using h1
        have c2 : decide (d < 0) = false := by simpa using h2
        by_cases hq : Q ≤ 9223372036854775807
        · have hk := hS.out.2.2.2.1 (by simp [h1, h2]) hq
          have H := Lib.hid (sdiv_yes h0 hk.1 hk.2 (rest_pos lo hi d R h1 hR.out))
          clear hk
          go_enter Try.func27, Try.ntmps27
          go_wp2_with (first | (go_at_call 40; refine (CP.out _).mono ?_; rintro e w1 ⟨rfl, rfl⟩) | (go_at_call 41; refine (CS.out _).mono ?_; rintro e w1 ⟨rfl, rfl⟩) | (go_at_call 38; refine (cd.out _).mono ?_; rintro e w1 ⟨rfl, hb⟩) | (go_at_call 42; ((with_reducible refine (signed_above Q hq _).mono ?_); rintro e w2 ⟨rfl, rfl⟩)) | (go_at_call 42; ((with_reducible refine (signed_above R (by omega) _).mono ?_); rintro e w2 ⟨rfl, rfl⟩)))
          go_ret3
          exact ⟨ret_three H.out.1 H.out.2.1 H.out.2.2, hb⟩
        · have hk := hS.out.2.2.2.2 (by simp [h1, h2]) (by omega)
          have H := Lib.hid (sdiv_no h0 hk)
          clear hk
          go_enter Try.func27, Try.ntmps27
          go_wp2_with (first | (go_at_call 40; refine (CP.out _).mono ?_; rintro e w1 ⟨rfl, rfl⟩) | (go_at_call 41; refine (CS.out _).mono ?_; rintro e w1 ⟨rfl, rfl⟩) | (go_at_call 38; refine (cd.out _).mono ?_; rintro e w1 ⟨rfl, hb⟩) | (go_at_call 42; ((with_reducible refine (signed_above_no Q (by omega) _).mono ?_); rintro e w2 ⟨rfl, rfl⟩)))
          go_ret3
          exact ⟨ret_three H.out.1 H.out.2.1 H.out.2.2, hb⟩

theorem sok_cell {lo hi d : Int} (h : sok lo hi d = true) : d ≠ 0 ∧ cellR (sq lo hi d) := by
  have h' := h
  unfold sok at h
  simp only [Bool.and_eq_true, bne_iff_ne, decide_eq_true_eq] at h
  refine ⟨h.1.1, ?_⟩
  unfold sq cellR
  rw [if_pos h']
  omega

set_option maxHeartbeats 1000000 in
theorem fdiv_any (lo hi d : Int) (w : World) (hh : cellR hi) (hd : cellR d) :
    Calls Try.prog 29 #[.int .i64 lo, .int .i64 hi, .int .i64 d] w fun e w' => e = .returned (.tuple #[.int .i64 (fq lo hi d), .int .i64 (fr lo hi d), .int .i64 (fc lo hi d)]) ∧ Below w.heap.size w w' := by
  have cs := sdiv_any lo hi d w hh hd
  clear hh
  cases hk : sok lo hi d
  · obtain ⟨c, hc, hn⟩ : ∃ c : Int, Hid (sc lo hi d = c ∧ fc lo hi d = c) ∧ (c != 0) = true := by
      by_cases h0 : d = 0
      · exact ⟨-10, Lib.hid (by simp [sc, fc, h0]), rfl⟩
      · exact ⟨-11, Lib.hid (by simp [sc, fc, fok, h0, hk]), rfl⟩
    have e1 : sq lo hi d = 0 := by simp [sq, hk]
    have e2 : sr lo hi d = 0 := by simp [sr, hk]
    rw [e1, e2, hc.out.1] at cs
    have H := Lib.hid hk
    clear e1 e2 hk hd
    go_enter Try.func29, Try.ntmps29
    go_wp2_with (go_at_call 27; refine cs.mono ?_; rintro e w1 ⟨rfl, hb⟩)
    go_ret3
    exact ⟨ret_three (by simp [fq, fok, H.out]) (by simp [fr, fok, H.out]) hc.out.2.symm, hb⟩
  · obtain ⟨h0, hx⟩ := sok_cell hk
    have hy : sr lo hi d = (pr lo hi).tmod d := by simp [sr, hk]
    have hc : sc lo hi d = 0 := by simp [sc, hk, h0]
    obtain ⟨x, ex⟩ : ∃ x, Hid (sq lo hi d = x) := ⟨_, Lib.hid rfl⟩
    obtain ⟨y, ey⟩ : ∃ y, Hid (sr lo hi d = y) := ⟨_, Lib.hid rfl⟩
    rw [ex.out, ey.out, hc] at cs
    rw [ex.out] at hx
    unfold cellR at hx
    have H := Lib.hid hk
    cases hl : leans y d
    · have HL := Lib.hid hl
      clear hy hc hk hd
      go_enter Try.func29, Try.ntmps29
      go_wp2_with (first | (go_at_call 27; refine cs.mono ?_; rintro e w1 ⟨rfl, hb⟩) | (go_at_call 33; refine (leansUp_any _ _ _).mono ?_; rintro e w' ⟨rfl, rfl⟩))
      go_ret3
      exact ⟨ret_three (by simp [fq, fok, H.out, ex.out, ey.out, HL.out]) (by simp [fr, fok, H.out, ey.out, HL.out]) (by simp [fc, fok, H.out, ey.out, HL.out, h0]), hb⟩
    · have HL := Lib.hid hl
      have hs : cellR (y + d) := by rw [← ey.out, hy]; exact leans_sum _ _ h0 hd (by rw [← hy, ey.out]; exact hl)
      unfold cellR at hs
      clear hy hc hk hd
      by_cases hm : x = -9223372036854775808
      · have hm' : (x == -9223372036854775808) = true := by simpa using hm
        have HM := Lib.hid hm
        clear hm
        go_enter Try.func29, Try.ntmps29
        go_wp2_with (first | (go_at_call 27; refine cs.mono ?_; rintro e w1 ⟨rfl, hb⟩) | (go_at_call 33; refine (leansUp_any _ _ _).mono ?_; rintro e w' ⟨rfl, rfl⟩))
        go_ret3
        exact ⟨ret_three (by simp [fq, fok, H.out, ex.out, ey.out, HL.out, HM.out]) (by simp [fr, fok, H.out, ex.out, ey.out, HL.out, HM.out]) (by simp [fc, fok, H.out, ex.out, ey.out, HL.out, HM.out, h0]), hb⟩
      · have hm' : (x == -9223372036854775808) = false := by simpa using hm
        have HM := Lib.hid hm'
        go_enter Try.func29, Try.ntmps29
        go_wp2_with (first | (go_at_call 27; refine cs.mono ?_; rintro e w1 ⟨rfl, hb⟩) | (go_at_call 33; refine (leansUp_any _ _ _).mono ?_; rintro e w' ⟨rfl, rfl⟩))
        go_ret3
        exact ⟨ret_three (by simp [fq, fok, H.out, ex.out, ey.out, HL.out, HM.out]) (by simp [fr, fok, H.out, ex.out, ey.out, HL.out, HM.out]) (by simp [fc, fok, H.out, ex.out, ey.out, HL.out, HM.out, h0]), hb⟩
end Go.Proofs.Ytadnajoefhajgaa
