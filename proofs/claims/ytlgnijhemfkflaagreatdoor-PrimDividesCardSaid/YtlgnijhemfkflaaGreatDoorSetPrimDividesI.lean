/- Part 9. -/
import Derived.Test.YtlgnijhemfkflaaGreatDoorSetPrimDividesZero
import Derived.Test.YtlgnijhemfkflaaGreatDoorSetPrimDividesH
import Derived.Test.YtlgnijhemfkflaaGreatDoorSetPrimDividesD
import Derived.ProofKit
import Derived.OpenShut
import Derived.ShutString
import Derived.ChangeOld
import Derived.Below
import Derived.Lib.SmallJoins
import Derived.Deep.Slices
import Derived.Deep.Fields
import Derived.Test.YtlgnijhemfkflaaGreatDoorSetPrimDividesF
import Derived.Test.YtlgnijhemfkflaaGreatDoorSetPrimDividesG
import Derived.Test.YtlgnijhemfkflaaGreatDoorSetPrimDividesA
import Derived.Lib.Mul64
set_option linter.unusedVariables false
set_option linter.unusedSimpArgs false

namespace Go.Proofs.YtlgnijhemfkflaaGreatDoor
open Go.RowKit
set_option linter.unusedVariables false
set_option linter.unusedSimpArgs false
structure PartsOf (lo hi d : Int) (pl ph D : Nat) : Prop where
  low : (pr lo hi).natAbs % 18446744073709551616 = pl
  high : (pr lo hi).natAbs / 18446744073709551616 = ph
  size : d.natAbs = D
theorem PartsOf.quo {lo hi d : Int} {pl ph D : Nat} (h : PartsOf lo hi d pl ph D) : ph * 18446744073709551616 + pl = (pr lo hi).natAbs := by
  have := pair_abs lo hi; rw [h.low, h.high] at this; exact this
theorem PartsOf.pl_lt {lo hi d : Int} {pl ph D : Nat} (h : PartsOf lo hi d pl ph D) : pl < 18446744073709551616 := by have := h.low; omega
theorem PartsOf.d_le {lo hi d : Int} {pl ph D : Nat} (h : PartsOf lo hi d pl ph D) (hd : cellR d) : D ≤ 9223372036854775808 := by have := h.size; unfold cellR at hd; omega
theorem sdiv_no {lo hi d : Int} (h0 : d ≠ 0) (hk : sok lo hi d = false) : (0 : Int) = sq lo hi d ∧ (0 : Int) = sr lo hi d ∧ (-11 : Int) = sc lo hi d := by
  simp [sq, sr, sc, hk, h0]
theorem sdiv_zero (lo hi : Int) : (0 : Int) = sq lo hi 0 ∧ (0 : Int) = sr lo hi 0 ∧ (-10 : Int) = sc lo hi 0 := by
  simp [sq, sr, sc, sok]
theorem sdiv_yes {lo hi d x y : Int} (h0 : d ≠ 0) (hk : sok lo hi d = true) (hx : (pr lo hi).tdiv d = x) (hy : (pr lo hi).tmod d = y) : x = sq lo hi d ∧ y = sr lo hi d ∧ (0 : Int) = sc lo hi d := by
  simp [sq, sr, sc, hk, h0, hx, hy]
theorem rest_neg (lo hi d : Int) (R : Nat) (h : hi < 0) (hR : (pr lo hi).natAbs % d.natAbs = R) : (pr lo hi).tmod d = -(R : Int) := by
  rw [tmod_sign, if_pos (pr_neg lo hi h), hR]
theorem rest_pos (lo hi d : Int) (R : Nat) (h : ¬ hi < 0) (hR : (pr lo hi).natAbs % d.natAbs = R) : (pr lo hi).tmod d = (R : Int) := by
  rw [tmod_sign, if_neg (by have := pr_nonneg lo hi (by omega); omega), hR]
set_option maxHeartbeats 1000000 in
theorem sdiv_any (lo hi d : Int) (w : World) (hh : cellR hi) (hd : cellR d) :
    Calls Tryz.prog 94 #[.int .i64 lo, .int .i64 hi, .int .i64 d] w fun e w' => e = .returned (.tuple #[.int .i64 (sq lo hi d), .int .i64 (sr lo hi d), .int .i64 (sc lo hi d)]) ∧ Below w.heap.size w w' := by
  obtain ⟨pl, ph, D, hP⟩ : ∃ pl ph D : Nat, Hid (PartsOf lo hi d pl ph D) := ⟨_, _, _, Lib.hid ⟨rfl, rfl, rfl⟩⟩;have cp : ∀ w, Calls Tryz.prog 211 #[.int .i64 lo, .int .i64 hi] w fun e w' => e = .returned (.tuple #[.int .u64 (pl : Int), .int .u64 (ph : Int)]) ∧ w = w' := by
    intro w; have := pairSize_any lo hi w hh; rw [hP.out.low, hP.out.high] at this; exact this
  have cs : ∀ w, Calls Tryz.prog 212 #[.int .i64 d] w fun e w' => e = .returned (.int .u64 (D : Int)) ∧ w = w' := by
    intro w; have := size_any d w hd; rw [hP.out.size] at this; exact this
  have hD := hP.out.d_le hd;clear hh;have CP := Lib.hid cp;have CS := Lib.hid cs;clear cp cs
  by_cases h0 : d = 0
  · have hD0 : D = 0 := by have := hP.out.size; omega
    subst h0;subst hD0;have H := Lib.hid (sdiv_zero lo hi);go_enter Tryz.func94, Tryz.ntmps94;(go_wp2_with (first | (go_at_call 211; refine (CP.out _).mono ?_; rintro e w1 ⟨rfl, rfl⟩) | (go_at_call 212; refine (CS.out _).mono ?_; rintro e w1 ⟨rfl, rfl⟩) | (go_at_call 210; refine (divide_zero _ _ _).mono ?_; rintro e w1 ⟨rfl, hb⟩)))
    go_ret3
    exact ⟨ret_three H.out.1 H.out.2.1 H.out.2.2, hb⟩
  · have hS := Lib.hid (sok_of lo hi d h0)
    have hDp : 0 < D := by have := hP.out.size; omega
    by_cases hr : D ≤ ph
    · have hk := hS.out.1 (by rw [hP.out.high, hP.out.size]; exact hr)
      have H := Lib.hid (sdiv_no h0 hk);clear hk;go_enter Tryz.func94, Tryz.ntmps94;(go_wp2_with (first | (go_at_call 211; refine (CP.out _).mono ?_; rintro e w1 ⟨rfl, rfl⟩) | (go_at_call 212; refine (CS.out _).mono ?_; rintro e w1 ⟨rfl, rfl⟩) | (go_at_call 210; refine (divide_range _ _ _ _ hr hDp).mono ?_; rintro e w1 ⟨rfl, hb⟩)))
      go_ret3
      exact ⟨ret_three H.out.1 H.out.2.1 H.out.2.2, hb⟩
    · have hr' : ph < D := by omega
      obtain ⟨Q, R, hQ, hR⟩ : ∃ Q R : Nat, Hid ((pr lo hi).natAbs / d.natAbs = Q) ∧ Hid ((pr lo hi).natAbs % d.natAbs = R) := ⟨_, _, Lib.hid rfl, Lib.hid rfl⟩;have cd : Hid (∀ w, Calls Tryz.prog 210 #[.int .u64 (pl : Int), .int .u64 (ph : Int), .int .u64 (D : Int)] w fun e w' => e = .returned (.tuple #[.int .u64 (Q : Int), .int .u64 (R : Int), .int .i64 0]) ∧ Below w.heap.size w w') :=
        Lib.hid fun w => divide_ok pl ph D Q R w hr' hP.out.pl_lt (by omega) (Lib.hid (by rw [hP.out.quo, ← hP.out.size]; exact hQ.out)) (Lib.hid (by rw [hP.out.quo, ← hP.out.size]; exact hR.out))
      have hRl : R < D := by have := hR.out; rw [hP.out.size] at this; rw [← this]; exact Nat.mod_lt _ hDp
      rw [hQ.out] at hS
      by_cases h1 : hi < 0 <;> by_cases h2 : d < 0
      · have c1 : decide (hi < 0) = true := by simpa using h1
        have c2 : decide (d < 0) = true := by simpa using h2
        by_cases hq : Q ≤ 9223372036854775807
        · have hk := hS.out.2.2.2.1 (by simp [h1, h2]) hq
          have H := Lib.hid (sdiv_yes h0 hk.1 hk.2 (rest_neg lo hi d R h1 hR.out));clear hk;go_enter Tryz.func94, Tryz.ntmps94;(go_wp2_with (first | (go_at_call 211; refine (CP.out _).mono ?_; rintro e w1 ⟨rfl, rfl⟩) | (go_at_call 212; refine (CS.out _).mono ?_; rintro e w1 ⟨rfl, rfl⟩) | (go_at_call 210; refine (cd.out _).mono ?_; rintro e w1 ⟨rfl, hb⟩) | (go_at_call 213; ((with_reducible refine (signed_above Q hq _).mono ?_); rintro e w2 ⟨rfl, rfl⟩)) | (go_at_call 213; ((with_reducible refine (signed_below R (by omega) _).mono ?_); rintro e w2 ⟨rfl, rfl⟩))))
          go_ret3
          exact ⟨ret_three H.out.1 H.out.2.1 H.out.2.2, hb⟩
        · have hk := hS.out.2.2.2.2 (by simp [h1, h2]) (by omega)
          have H := Lib.hid (sdiv_no h0 hk);clear hk;go_enter Tryz.func94, Tryz.ntmps94;(go_wp2_with (first | (go_at_call 211; refine (CP.out _).mono ?_; rintro e w1 ⟨rfl, rfl⟩) | (go_at_call 212; refine (CS.out _).mono ?_; rintro e w1 ⟨rfl, rfl⟩) | (go_at_call 210; refine (cd.out _).mono ?_; rintro e w1 ⟨rfl, hb⟩) | (go_at_call 213; ((with_reducible refine (signed_above_no Q (by omega) _).mono ?_); rintro e w2 ⟨rfl, rfl⟩))))
          go_ret3
          exact ⟨ret_three H.out.1 H.out.2.1 H.out.2.2, hb⟩
      · have c1 : decide (hi < 0) = true := by simpa using h1
        have c2 : decide (d < 0) = false := by simpa using h2
        by_cases hq : Q ≤ 9223372036854775808
        · have hk := hS.out.2.1 (by simp [h1, h2]) hq
          have H := Lib.hid (sdiv_yes h0 hk.1 hk.2 (rest_neg lo hi d R h1 hR.out));clear hk;go_enter Tryz.func94, Tryz.ntmps94;(go_wp2_with (first | (go_at_call 211; refine (CP.out _).mono ?_; rintro e w1 ⟨rfl, rfl⟩) | (go_at_call 212; refine (CS.out _).mono ?_; rintro e w1 ⟨rfl, rfl⟩) | (go_at_call 210; refine (cd.out _).mono ?_; rintro e w1 ⟨rfl, hb⟩) | (go_at_call 213; ((with_reducible refine (signed_below Q hq _).mono ?_); rintro e w2 ⟨rfl, rfl⟩)) | (go_at_call 213; ((with_reducible refine (signed_below R (by omega) _).mono ?_); rintro e w2 ⟨rfl, rfl⟩))))
          go_ret3
          exact ⟨ret_three H.out.1 H.out.2.1 H.out.2.2, hb⟩
        · have hk := hS.out.2.2.1 (by simp [h1, h2]) (by omega)
          have H := Lib.hid (sdiv_no h0 hk);clear hk;go_enter Tryz.func94, Tryz.ntmps94;(go_wp2_with (first | (go_at_call 211; refine (CP.out _).mono ?_; rintro e w1 ⟨rfl, rfl⟩) | (go_at_call 212; refine (CS.out _).mono ?_; rintro e w1 ⟨rfl, rfl⟩) | (go_at_call 210; refine (cd.out _).mono ?_; rintro e w1 ⟨rfl, hb⟩) | (go_at_call 213; ((with_reducible refine (signed_below_no Q (by omega) _).mono ?_); rintro e w2 ⟨rfl, rfl⟩))))
          go_ret3
          exact ⟨ret_three H.out.1 H.out.2.1 H.out.2.2, hb⟩
      · have c1 : decide (hi < 0) = false := by simpa using h1
        have c2 : decide (d < 0) = true := by simpa using h2
        by_cases hq : Q ≤ 9223372036854775808
        · have hk := hS.out.2.1 (by simp [h1, h2]) hq
          have H := Lib.hid (sdiv_yes h0 hk.1 hk.2 (rest_pos lo hi d R h1 hR.out));clear hk;go_enter Tryz.func94, Tryz.ntmps94;(go_wp2_with (first | (go_at_call 211; refine (CP.out _).mono ?_; rintro e w1 ⟨rfl, rfl⟩) | (go_at_call 212; refine (CS.out _).mono ?_; rintro e w1 ⟨rfl, rfl⟩) | (go_at_call 210; refine (cd.out _).mono ?_; rintro e w1 ⟨rfl, hb⟩) | (go_at_call 213; ((with_reducible refine (signed_below Q hq _).mono ?_); rintro e w2 ⟨rfl, rfl⟩)) | (go_at_call 213; ((with_reducible refine (signed_above R (by omega) _).mono ?_); rintro e w2 ⟨rfl, rfl⟩))))
          go_ret3
          exact ⟨ret_three H.out.1 H.out.2.1 H.out.2.2, hb⟩
        · have hk := hS.out.2.2.1 (by simp [h1, h2]) (by omega)
          have H := Lib.hid (sdiv_no h0 hk);clear hk;go_enter Tryz.func94, Tryz.ntmps94;(go_wp2_with (first | (go_at_call 211; refine (CP.out _).mono ?_; rintro e w1 ⟨rfl, rfl⟩) | (go_at_call 212; refine (CS.out _).mono ?_; rintro e w1 ⟨rfl, rfl⟩) | (go_at_call 210; refine (cd.out _).mono ?_; rintro e w1 ⟨rfl, hb⟩) | (go_at_call 213; ((with_reducible refine (signed_below_no Q (by omega) _).mono ?_); rintro e w2 ⟨rfl, rfl⟩))))
          go_ret3
          exact ⟨ret_three H.out.1 H.out.2.1 H.out.2.2, hb⟩
      · have c1 : decide (hi < 0) = false := by simpa using h1
        have c2 : decide (d < 0) = false := by simpa using h2
        by_cases hq : Q ≤ 9223372036854775807
        · have hk := hS.out.2.2.2.1 (by simp [h1, h2]) hq
          have H := Lib.hid (sdiv_yes h0 hk.1 hk.2 (rest_pos lo hi d R h1 hR.out));clear hk;go_enter Tryz.func94, Tryz.ntmps94;(go_wp2_with (first | (go_at_call 211; refine (CP.out _).mono ?_; rintro e w1 ⟨rfl, rfl⟩) | (go_at_call 212; refine (CS.out _).mono ?_; rintro e w1 ⟨rfl, rfl⟩) | (go_at_call 210; refine (cd.out _).mono ?_; rintro e w1 ⟨rfl, hb⟩) | (go_at_call 213; ((with_reducible refine (signed_above Q hq _).mono ?_); rintro e w2 ⟨rfl, rfl⟩)) | (go_at_call 213; ((with_reducible refine (signed_above R (by omega) _).mono ?_); rintro e w2 ⟨rfl, rfl⟩))))
          go_ret3
          exact ⟨ret_three H.out.1 H.out.2.1 H.out.2.2, hb⟩
        · have hk := hS.out.2.2.2.2 (by simp [h1, h2]) (by omega)
          have H := Lib.hid (sdiv_no h0 hk);clear hk;go_enter Tryz.func94, Tryz.ntmps94;(go_wp2_with (first | (go_at_call 211; refine (CP.out _).mono ?_; rintro e w1 ⟨rfl, rfl⟩) | (go_at_call 212; refine (CS.out _).mono ?_; rintro e w1 ⟨rfl, rfl⟩) | (go_at_call 210; refine (cd.out _).mono ?_; rintro e w1 ⟨rfl, hb⟩) | (go_at_call 213; ((with_reducible refine (signed_above_no Q (by omega) _).mono ?_); rintro e w2 ⟨rfl, rfl⟩))))
          go_ret3
          exact ⟨ret_three H.out.1 H.out.2.1 H.out.2.2, hb⟩
theorem sok_cell {lo hi d : Int} (h : sok lo hi d = true) : d ≠ 0 ∧ cellR (sq lo hi d) := by
  have h' := h;unfold sok at h;simp only [Bool.and_eq_true, bne_iff_ne, decide_eq_true_eq] at h;refine ⟨h.1.1, ?_⟩;unfold sq cellR;rw [if_pos h'];omega
set_option maxHeartbeats 1000000 in
theorem fdiv_any (lo hi d : Int) (w : World) (hh : cellR hi) (hd : cellR d) :
    Calls Tryz.prog 95 #[.int .i64 lo, .int .i64 hi, .int .i64 d] w fun e w' => e = .returned (.tuple #[.int .i64 (fq lo hi d), .int .i64 (fr lo hi d), .int .i64 (fc lo hi d)]) ∧ Below w.heap.size w w' := by
  have cs := sdiv_any lo hi d w hh hd;clear hh;cases hk : sok lo hi d
  · obtain ⟨c, hc, hn⟩ : ∃ c : Int, Hid (sc lo hi d = c ∧ fc lo hi d = c) ∧ (c != 0) = true := by
      by_cases h0 : d = 0
      · exact ⟨-10, Lib.hid (by simp [sc, fc, h0]), rfl⟩
      · exact ⟨-11, Lib.hid (by simp [sc, fc, fok, h0, hk]), rfl⟩
    have e1 : sq lo hi d = 0 := by simp [sq, hk]
    have e2 : sr lo hi d = 0 := by simp [sr, hk]
    rw [e1, e2, hc.out.1] at cs;have H := Lib.hid hk;clear e1 e2 hk hd;go_enter Tryz.func95, Tryz.ntmps95;(go_wp2_with (go_at_call 94; refine cs.mono ?_; rintro e w1 ⟨rfl, hb⟩))
    go_ret3
    exact ⟨ret_three (by simp [fq, fok, H.out]) (by simp [fr, fok, H.out]) hc.out.2.symm, hb⟩
  · obtain ⟨h0, hx⟩ := sok_cell hk
    have hy : sr lo hi d = (pr lo hi).tmod d := by simp [sr, hk]
    have hc : sc lo hi d = 0 := by simp [sc, hk, h0]
    obtain ⟨x, ex⟩ : ∃ x, Hid (sq lo hi d = x) := ⟨_, Lib.hid rfl⟩;obtain ⟨y, ey⟩ : ∃ y, Hid (sr lo hi d = y) := ⟨_, Lib.hid rfl⟩;rw [ex.out, ey.out, hc] at cs;rw [ex.out] at hx;unfold cellR at hx;have H := Lib.hid hk;cases hl : leans y d
    · have HL := Lib.hid hl
      clear hy hc hk hd;go_enter Tryz.func95, Tryz.ntmps95;(go_wp2_with (first | (go_at_call 94; refine cs.mono ?_; rintro e w1 ⟨rfl, hb⟩) | (go_at_call 206; refine (leansUp_any _ _ _).mono ?_; rintro e w' ⟨rfl, rfl⟩)))
      go_ret3
      exact ⟨ret_three (by simp [fq, fok, H.out, ex.out, ey.out, HL.out]) (by simp [fr, fok, H.out, ey.out, HL.out]) (by simp [fc, fok, H.out, ey.out, HL.out, h0]), hb⟩
    · have HL := Lib.hid hl
      have hs : cellR (y + d) := by rw [← ey.out, hy]; exact leans_sum _ _ h0 hd (by rw [← hy, ey.out]; exact hl)
      unfold cellR at hs;clear hy hc hk hd
      by_cases hm : x = -9223372036854775808
      · have hm' : (x == -9223372036854775808) = true := by simpa using hm
        have HM := Lib.hid hm;clear hm;go_enter Tryz.func95, Tryz.ntmps95;(go_wp2_with (first | (go_at_call 94; refine cs.mono ?_; rintro e w1 ⟨rfl, hb⟩) | (go_at_call 206; refine (leansUp_any _ _ _).mono ?_; rintro e w' ⟨rfl, rfl⟩)))
        go_ret3
        exact ⟨ret_three (by simp [fq, fok, H.out, ex.out, ey.out, HL.out, HM.out]) (by simp [fr, fok, H.out, ex.out, ey.out, HL.out, HM.out]) (by simp [fc, fok, H.out, ex.out, ey.out, HL.out, HM.out, h0]), hb⟩
      · have hm' : (x == -9223372036854775808) = false := by simpa using hm
        have HM := Lib.hid hm';go_enter Tryz.func95, Tryz.ntmps95;(go_wp2_with (first | (go_at_call 94; refine cs.mono ?_; rintro e w1 ⟨rfl, hb⟩) | (go_at_call 206; refine (leansUp_any _ _ _).mono ?_; rintro e w' ⟨rfl, rfl⟩)))
        go_ret3
        exact ⟨ret_three (by simp [fq, fok, H.out, ex.out, ey.out, HL.out, HM.out]) (by simp [fr, fok, H.out, ex.out, ey.out, HL.out, HM.out]) (by simp [fc, fok, H.out, ex.out, ey.out, HL.out, HM.out, h0]), hb⟩
end Go.Proofs.YtlgnijhemfkflaaGreatDoor

namespace Go.Proofs.YtlgnijhemfkflaaGreatDoor
open Go.ChangeShapes Go.WideShapes Go.ChangeAt Go.RowKit Go.Joins Go.Deep
set_option linter.unusedVariables false
set_option linter.unusedSimpArgs false
theorem Byt.slice {w : World} {v : Value} {l : List UInt8} (h : Byt w v l) : ∃ A n c, v = .slice A n c := by
  obtain ⟨A, c, e, _⟩ := h;exact ⟨A, _, c, e⟩
theorem wf_i64 {n : Int} (h : (Lit.int .i64 n).wf = true) : -9223372036854775808 ≤ n ∧ n ≤ 9223372036854775807 := by
  simp only [Lit.wf, IntKind.min, IntKind.max, IntKind.signed, IntKind.bits, Bool.and_eq_true, decide_eq_true_eq] at h;simpa using h
theorem Byt.cap {w : World} {A : Option Addr} {n c : Nat} {l : List UInt8} (h : Byt w (.slice A n c) l) : n ≤ 9223372036854775807 := by
  obtain ⟨A', c', e, h1, h2, _⟩ := h;injection e with _ e _
  have h3 : maxLen ≤ 9223372036854775807 := by decide
  omega
section
variable {H : Type} {enc : TypeId × Value → H} {w : World}
end
end Go.Proofs.YtlgnijhemfkflaaGreatDoor

namespace Go.Proofs.YtlgnijhemfkflaaGreatDoor
open Go.RowKit
set_option linter.unusedVariables false
set_option linter.unusedSimpArgs false
abbrev PBox (w : World) (b : Nat) (A : Option Addr) (n c : Nat) (o : Bool) : Prop := Box w b (.slice A n c) (.bool o) 32
theorem pbox_new (w : World) (A : Option Addr) (n c : Nat) (o : Bool) : PBox (w.alloc (.cells #[.slice A n c, .bool o] 32)) w.heap.size A n c o := box_new _ _ _ _
theorem conv_any {w : World} {A : Option Addr} {n c : Nat} {l : List UInt8} (h : Byt w (.slice A n c) l) : (convert 24 9 (.slice A n c)).run Tryz.prog w = .ok (.string (strB l)) w := h.conv
theorem len_zero {l : List UInt8} (h : l.length = 0) : l = [] := List.eq_nil_of_length_eq_zero h
theorem al_two (w : World) (o o2 : Obj) : Below w.heap.size w ((w.alloc o).alloc o2) := alloc_then (al_one w o)
theorem BOwns.pset {w : World} {base n : Nat} {v : Value} {l : List UInt8} (h : BOwns w base v n l) {b : Nat} (hb : b < base) (x y : Value) : BOwns ((w.setCell ⟨b, 0, none⟩ x).setCell ⟨b, 1, none⟩ y) base v n l :=
  ownsRow_setCell_below (ownsRow_setCell_below h (a := ⟨b, 0, none⟩) hb x) (a := ⟨b, 1, none⟩) hb y
theorem below_pset {w0 w : World} {B : Nat} (h : Below B w0 w) {b : Nat} (hb : B ≤ b) (x y : Value) : Below B w0 ((w.setCell ⟨b, 0, none⟩ x).setCell ⟨b, 1, none⟩ y) :=
  (h.setCell (p := ⟨b, 0, none⟩) hb x).setCell (p := ⟨b, 1, none⟩) hb y
theorem PBox.put {w : World} {b : Nat} {A : Option Addr} {n c : Nat} {o : Bool} (h : PBox w b A n c o) (x y : Value) : Box ((w.setCell ⟨b, 0, none⟩ x).setCell ⟨b, 1, none⟩ y) b x y 32 := Box.put h x y
theorem byt_slice {w : World} {v : Value} {l : List UInt8} (h : Byt w v l) : ∃ A n c, v = .slice A n c := by
  obtain ⟨A, c, e, _⟩ := h;exact ⟨A, _, c, e⟩
theorem byt_low (w : World) (x : Int) : Byt (w.alloc (.cells #[.int .u8 (x % 256)] 5)) (.slice (some ⟨w.heap.size, 0, none⟩) 1 1) [byteI x] := by
  have h := byt_one w (byteI x);rw [byteI_nat] at h;exact h
theorem PBox.not_u8 {w : World} {b : Nat} {A : Option Addr} {n c : Nat} {o : Bool} (h : PBox w b A n c o) (k : Nat) (x : Int) : w.cell? ⟨b, k, none⟩ ≠ some (.int .u8 x) := by
  unfold PBox Box at h;intro e;simp only [World.cell?, h] at e
  match k, e with
  | 0, e => simp at e
  | 1, e => simp at e
  | k + 2, e => simp at e
theorem byt_pset {w : World} {v : Value} {l : List UInt8} (h : Byt w v l) {b : Nat} {A : Option Addr} {n c : Nat} {o : Bool} (hb : PBox w b A n c o) (x y : Value) : Byt ((w.setCell ⟨b, 0, none⟩ x).setCell ⟨b, 1, none⟩ y) v l := by
  obtain ⟨A', c', h1, h2, h3, h4⟩ := h;refine ⟨A', c', h1, h2, h3, ?_⟩
  rcases h4 with h | ⟨g, o', e, hg, hc⟩
  · exact .inl h
  · by_cases h0 : u8s l = []
    · exact .inl h0
    · have hne : g ≠ b := by
        intro e2;subst e2;cases l with
        | nil => exact h0 rfl
        | cons z l => exact hb.not_u8 (o' + 0) (z.toNat : Int) (hc 0 (.int .u8 (z.toNat : Int)) rfl)
      refine .inr ⟨g, o', e, by simpa [World.setCell] using hg, fun j u hu => ?_⟩;rw [World.cell?_setCell_far _ _ _ _ (fun e => hne e.symm), World.cell?_setCell_far _ _ _ _ (fun e => hne e.symm)];exact hc j u hu
def PAt (b : Nat) (A : Option Addr) (n c : Nat) (o : Bool) (l : List UInt8) (w : World) : Prop := PBox w b A n c o ∧ Byt w (.slice A n c) l
theorem PAt.keep {b : Nat} {A : Option Addr} {n c : Nat} {o : Bool} {l : List UInt8} {w w' : World} (h : PAt b A n c o l w) (k : Below w.heap.size w w') : PAt b A n c o l w' := ⟨Box.keep h.1 k, h.2.keep k⟩
theorem PAt.use {b : Nat} {A : Option Addr} {n c : Nat} {o : Bool} {l : List UInt8} {w : World} (h : PAt b A n c o l w) : w.cell? ⟨b, 0, none⟩ = some (.slice A n c) ∧ w.cell? ⟨b, 1, none⟩ = some (.bool o) := ⟨(Box.use h.1).1, (Box.use h.1).2.1⟩
theorem PAt.lt {b : Nat} {A : Option Addr} {n c : Nat} {o : Bool} {l : List UInt8} {w : World} (h : PAt b A n c o l w) : b < w.heap.size := Box.lt h.1
theorem PAt.byt {b : Nat} {A : Option Addr} {n c : Nat} {o : Bool} {l : List UInt8} {w : World} (h : PAt b A n c o l w) : Byt w (.slice A n c) l := h.2
theorem pat_new {A : Option Addr} {n c : Nat} {o : Bool} {l : List UInt8} {w : World} (h : Byt w (.slice A n c) l) : PAt w.heap.size A n c o l (w.alloc (.cells #[.slice A n c, .bool o] 32)) := ⟨pbox_new w A n c o, h.keep (al_one _ _)⟩
theorem pat_set {b : Nat} {A A' : Option Addr} {n c n' c' : Nat} {o o' : Bool} {l : List UInt8} {w : World} (hx : PBox w b A n c o) (h : Byt w (.slice A' n' c') l) : PAt b A' n' c' o' l ((w.setCell ⟨b, 0, none⟩ (.slice A' n' c')).setCell ⟨b, 1, none⟩ (.bool o')) := ⟨Box.put hx _ _, byt_pset h hx _ _⟩
theorem ppack {W w : World} {b : Nat} {A A' : Option Addr} {n c n' c' : Nat} {o o' : Bool} {l : List UInt8} (hx : PBox w b A n c o) (h : Byt w (.slice A' n' c') l) (B : Below W.heap.size W w) (hb : W.heap.size ≤ b) :
    ∃ wf, (w.setCell ⟨b, 0, none⟩ (.slice A' n' c')).setCell ⟨b, 1, none⟩ (.bool o') = wf ∧ Hid (PAt b A' n' c' o' l wf) ∧ Below W.heap.size W wf := ⟨_, rfl, Lib.hid (pat_set hx h), below_pset B hb _ _⟩
theorem papack {W w : World} {A : Option Addr} {n c : Nat} {o : Bool} {l : List UInt8} (h : Byt w (.slice A n c) l) (B : Below W.heap.size W w) :
    ∃ wf, w.alloc (.cells #[.slice A n c, .bool o] 32) = wf ∧ Hid (PAt w.heap.size A n c o l wf) ∧ Below W.heap.size W wf := ⟨_, rfl, Lib.hid (pat_new h), alloc_then B⟩
theorem pbox_far {w : World} {b b' : Nat} {A : Option Addr} {n c : Nat} {o : Bool} (h : PBox w b A n c o) (hne : b ≠ b') (x y : Value) : PBox ((w.setCell ⟨b', 0, none⟩ x).setCell ⟨b', 1, none⟩ y) b A n c o := by
  unfold PBox Box at h ⊢;rw [Below.heap_setCell _ _ _ _ hne, Below.heap_setCell _ _ _ _ hne];exact h
end Go.Proofs.YtlgnijhemfkflaaGreatDoor

namespace Go.Proofs.YtlgnijhemfkflaaGreatDoor
open Go.RowKit
set_option linter.unusedVariables false
set_option linter.unusedSimpArgs false
set_option maxRecDepth 100000 in
theorem rsame_any (A A' : Option Addr) (n c n' c' : Nat) (o o' : Bool) (l l' : List UInt8) (w : World) (h : Byt w (.slice A n c) l) (h' : Byt w (.slice A' n' c') l') :
    Calls Tryz.prog 34 #[.agg #[.slice A n c, .bool o], .agg #[.slice A' n' c', .bool o']] w fun e w' => e = .returned (.bool (pSame o l o' l')) ∧ Below w.heap.size w w' := by
  by_cases ho : o = o'
  · subst ho
    have k1 := (al_one w (.cells #[.slice A n c, .bool o] 32)).trans ((al_one _ (.cells #[.slice A' n' c', .bool o] 32)).mono (by simp));have c1 := (h.keep k1).conv;have c2 := (h'.keep k1).conv;have K := Lib.hid k1;have hb : PBox _ _ _ _ _ _ ∧ PBox _ _ _ _ _ _ := box_two w (.slice A n c) (.bool o) (.slice A' n' c') (.bool o) 32 32;obtain ⟨b1, b2, _, _⟩ := hb.1.use;obtain ⟨b3, b4, _, _⟩ := hb.2.use
    by_cases hs : l = l'
    · have H : Hid (pSame o l o l' = true) := by show _ = _; unfold pSame; simp [hs]
      rw [H.out];subst hs;clear h h' k1 hb;go_enter Tryz.func34, Tryz.ntmps34;go_wp2;go_ret;exact ⟨rfl, K.out⟩
    · have H : Hid (pSame o l o l' = false) := by show _ = _; unfold pSame; simp [hs]
      rw [H.out];have hs' := str_ne (a := strB l) (b := strB l') (fun e => hs (strB_inj e));clear h h' k1 hb hs;go_enter Tryz.func34, Tryz.ntmps34;go_wp2;go_ret;exact ⟨rfl, K.out⟩
  · have H : Hid (pSame o l o' l' = false) := by show _ = _; unfold pSame; simp [ho]
    rw [H.out];have ho' : (o == o') = false := by simpa using ho
    clear h h' ho;go_enter Tryz.func34, Tryz.ntmps34;go_wp2;go_ret;exact ⟨rfl, (al_one w (.cells #[.slice A n c, .bool o] 32)).trans ((al_one _ (.cells #[.slice A' n' c', .bool o'] 32)).mono (by simp))⟩
end Go.Proofs.YtlgnijhemfkflaaGreatDoor
