/- The walk of SpcTells. -/
import Derived.Test.YtekfemkoiadipaaSpcIn
namespace Go.Proofs.Ytekfemkoiadipaa
open Go.RowKit
set_option linter.unusedVariables false
set_option linter.unusedSimpArgs false

theorem movC_rng (L : Nat) (lo p n : Int) : -23 ≤ movC L lo p n ∧ movC L lo p n ≤ 0 := by unfold movC; split <;> omega
theorem layC_rng (L : Nat) (p : Int) (k : Nat) : -23 ≤ layC L p k ∧ layC L p k ≤ 0 := by unfold layC; split <;> omega
theorem comC_rng (L : Nat) (p : Int) : -23 ≤ comC L p ∧ comC L p ≤ 0 := by unfold comC; split; exact layC_rng _ _ _; omega
set_option maxRecDepth 100000 in
set_option maxHeartbeats 16000000 in
theorem tells_walk (A P Ab : Option Addr) (L c K d nb cb : Nat) (m : PM) (bs : List UInt8) (lo p n : Int) (w : World) (HM : Hid (IsMem w (.agg #[.slice A L c, .slice P K d]) m)) (HU : Hid (Byt w (.slice Ab nb cb) bs)) (hnb : nb ≤ 9223372036854775807) :
    Calls Try.prog 3 #[.agg #[.slice A L c, .slice P K d, .int .i64 lo, .int .i64 p, .int .i64 n, .slice Ab nb cb]] w fun e w' => e = .returned (.bool true) ∧ Below w.heap.size w w' := by
  cases hmay : (fewB m 600 && rightB m) with
  | false =>
    go_enter Try.func3, Try.ntmps3
    go_wp2_with fail
    refine (shown_any _).mono ?_
    rintro e w1 ⟨rfl, bb⟩
    have M1 := Lib.hid ((start6 HM.out _).keep bb)
    have U1 := Lib.hid ((HU.out.keep (((Below.refl _ w).alloc (Nat.le_refl _) _).alloc (by simp) _)).keep bb)
    have B1 := Lib.hid (below_two bb)
    clear bb
    obtain ⟨cM0, cM1⟩ := M1.out.use
    go_wp2_with fail
    refine (may_at _ _ _ _ _ _ m _ M1.out.mem).mono ?_
    rw [hmay]
    rintro e w2 ⟨rfl, bb⟩
    have M2 := Lib.hid (M1.out.keep bb)
    have U2 := Lib.hid (U1.out.keep bb)
    have B2 := Lib.hid (below_then B1.out bb)
    clear bb cM0 cM1 M1 U1 B1
    go_wp2_with fail
    go_ret
    exact ⟨rfl, B2.out⟩
  | true =>
    obtain ⟨hL, hK, HRi⟩ := may_parts hmay
    rw [HM.out.len1] at hL
    rw [HM.out.len2] at hK
    clear HRi
    cases hp : endB L p with
    | false =>
      go_enter Try.func3, Try.ntmps3
      go_wp2_with fail
      refine (shown_any _).mono ?_
      rintro e w1 ⟨rfl, bb⟩
      have M1 := Lib.hid ((start6 HM.out _).keep bb)
      have U1 := Lib.hid ((HU.out.keep (((Below.refl _ w).alloc (Nat.le_refl _) _).alloc (by simp) _)).keep bb)
      have B1 := Lib.hid (below_two bb)
      clear bb
      obtain ⟨cM0, cM1⟩ := M1.out.use
      go_wp2_with fail
      refine (may_at _ _ _ _ _ _ m _ M1.out.mem).mono ?_
      rw [hmay]
      rintro e w2 ⟨rfl, bb⟩
      have M2 := Lib.hid (M1.out.keep bb)
      have U2 := Lib.hid (U1.out.keep bb)
      have B2 := Lib.hid (below_then B1.out bb)
      clear bb cM0 cM1 M1 U1 B1
      obtain ⟨cM0, cM1⟩ := M2.out.use
      go_wp2_with fail
      refine (is_at _ _ _ _ _ _ p _).mono ?_
      rw [hp]
      rintro e w3 ⟨rfl, bb⟩
      have M3 := Lib.hid (M2.out.keep bb)
      have U3 := Lib.hid (U2.out.keep bb)
      have B3 := Lib.hid (below_then B2.out bb)
      clear bb cM0 cM1 M2 U2 B2
      go_wp2_with fail
      go_ret
      exact ⟨rfl, B3.out⟩
    | true =>
      cases hl : endB L lo with
      | false =>
        go_enter Try.func3, Try.ntmps3
        go_wp2_with fail
        refine (shown_any _).mono ?_
        rintro e w1 ⟨rfl, bb⟩
        have M1 := Lib.hid ((start6 HM.out _).keep bb)
        have U1 := Lib.hid ((HU.out.keep (((Below.refl _ w).alloc (Nat.le_refl _) _).alloc (by simp) _)).keep bb)
        have B1 := Lib.hid (below_two bb)
        clear bb
        obtain ⟨cM0, cM1⟩ := M1.out.use
        go_wp2_with fail
        refine (may_at _ _ _ _ _ _ m _ M1.out.mem).mono ?_
        rw [hmay]
        rintro e w2 ⟨rfl, bb⟩
        have M2 := Lib.hid (M1.out.keep bb)
        have U2 := Lib.hid (U1.out.keep bb)
        have B2 := Lib.hid (below_then B1.out bb)
        clear bb cM0 cM1 M1 U1 B1
        obtain ⟨cM0, cM1⟩ := M2.out.use
        go_wp2_with fail
        refine (is_at _ _ _ _ _ _ p _).mono ?_
        rw [hp]
        rintro e w3 ⟨rfl, bb⟩
        have M3 := Lib.hid (M2.out.keep bb)
        have U3 := Lib.hid (U2.out.keep bb)
        have B3 := Lib.hid (below_then B2.out bb)
        clear bb cM0 cM1 M2 U2 B2
        obtain ⟨cM0, cM1⟩ := M3.out.use
        go_wp2_with fail
        refine (is_at _ _ _ _ _ _ lo _).mono ?_
        rw [hl]
        rintro e w4 ⟨rfl, bb⟩
        have M4 := Lib.hid (M3.out.keep bb)
        have U4 := Lib.hid (U3.out.keep bb)
        have B4 := Lib.hid (below_then B3.out bb)
        clear bb cM0 cM1 M3 U3 B3
        go_wp2_with fail
        go_ret
        exact ⟨rfl, B4.out⟩
      | true =>
        by_cases h1 : 100 < nb
        · have h1' : (100 : Int) < (nb : Int) := by omega
          go_enter Try.func3, Try.ntmps3
          go_wp2_with fail
          refine (shown_any _).mono ?_
          rintro e w1 ⟨rfl, bb⟩
          have M1 := Lib.hid ((start6 HM.out _).keep bb)
          have U1 := Lib.hid ((HU.out.keep (((Below.refl _ w).alloc (Nat.le_refl _) _).alloc (by simp) _)).keep bb)
          have B1 := Lib.hid (below_two bb)
          clear bb
          obtain ⟨cM0, cM1⟩ := M1.out.use
          go_wp2_with fail
          refine (may_at _ _ _ _ _ _ m _ M1.out.mem).mono ?_
          rw [hmay]
          rintro e w2 ⟨rfl, bb⟩
          have M2 := Lib.hid (M1.out.keep bb)
          have U2 := Lib.hid (U1.out.keep bb)
          have B2 := Lib.hid (below_then B1.out bb)
          clear bb cM0 cM1 M1 U1 B1
          obtain ⟨cM0, cM1⟩ := M2.out.use
          go_wp2_with fail
          refine (is_at _ _ _ _ _ _ p _).mono ?_
          rw [hp]
          rintro e w3 ⟨rfl, bb⟩
          have M3 := Lib.hid (M2.out.keep bb)
          have U3 := Lib.hid (U2.out.keep bb)
          have B3 := Lib.hid (below_then B2.out bb)
          clear bb cM0 cM1 M2 U2 B2
          obtain ⟨cM0, cM1⟩ := M3.out.use
          go_wp2_with fail
          refine (is_at _ _ _ _ _ _ lo _).mono ?_
          rw [hl]
          rintro e w4 ⟨rfl, bb⟩
          have M4 := Lib.hid (M3.out.keep bb)
          have U4 := Lib.hid (U3.out.keep bb)
          have B4 := Lib.hid (below_then B3.out bb)
          clear bb cM0 cM1 M3 U3 B3
          go_wp2_with fail
          go_ret
          exact ⟨rfl, B4.out⟩
        · have h1' : decide ((100 : Int) < (nb : Int)) = false := by simp; omega
          obtain ⟨r1, s1⟩ := movC_rng L lo p n
          obtain ⟨r2, s2⟩ := layC_rng L p nb
          obtain ⟨r3, s3⟩ := comC_rng L p
          obtain ⟨r4, s4⟩ := layC_rng L p (misN p)
          obtain ⟨E1, hE1⟩ : ∃ x, movP L lo p n = x := ⟨_, rfl⟩
          have HE1 := Lib.hid hE1
          obtain ⟨C1, hC1⟩ : ∃ x, movC L lo p n = x := ⟨_, rfl⟩
          have HC1 := Lib.hid hC1
          obtain ⟨E2, hE2⟩ : ∃ x, layP L p nb = x := ⟨_, rfl⟩
          have HE2 := Lib.hid hE2
          obtain ⟨C2, hC2⟩ : ∃ x, layC L p nb = x := ⟨_, rfl⟩
          have HC2 := Lib.hid hC2
          obtain ⟨X2, hX2⟩ : ∃ x, layM m p bs = x := ⟨_, rfl⟩
          have HX2 := Lib.hid hX2
          obtain ⟨E3, hE3⟩ : ∃ x, comP L p = x := ⟨_, rfl⟩
          have HE3 := Lib.hid hE3
          obtain ⟨C3, hC3⟩ : ∃ x, comC L p = x := ⟨_, rfl⟩
          have HC3 := Lib.hid hC3
          obtain ⟨X3, hX3⟩ : ∃ x, comM m p n = x := ⟨_, rfl⟩
          have HX3 := Lib.hid hX3
          obtain ⟨E4, hE4⟩ : ∃ x, layP L p (misN p) = x := ⟨_, rfl⟩
          have HE4 := Lib.hid hE4
          obtain ⟨C4, hC4⟩ : ∃ x, layC L p (misN p) = x := ⟨_, rfl⟩
          have HC4 := Lib.hid hC4
          obtain ⟨X4, hX4⟩ : ∃ x, layM m p (upB p) = x := ⟨_, rfl⟩
          have HX4 := Lib.hid hX4
          rw [hC1] at r1 s1
          rw [hC2] at r2 s2
          rw [hC3] at r3 s3
          rw [hC4] at r4 s4
          clear hE1 hC1 hE2 hC2 hX2 hE3 hC3 hX3 hE4 hC4 hX4
          go_enter Try.func3, Try.ntmps3
          go_wp2_with fail
          refine (shown_any _).mono ?_
          rintro e w1 ⟨rfl, bb⟩
          have M1 := Lib.hid ((start6 HM.out _).keep bb)
          have U1 := Lib.hid ((HU.out.keep (((Below.refl _ w).alloc (Nat.le_refl _) _).alloc (by simp) _)).keep bb)
          have B1 := Lib.hid (below_two bb)
          clear bb
          obtain ⟨cM0, cM1⟩ := M1.out.use
          go_wp2_with fail
          refine (may_at _ _ _ _ _ _ m _ M1.out.mem).mono ?_
          rw [hmay]
          rintro e w2 ⟨rfl, bb⟩
          have M2 := Lib.hid (M1.out.keep bb)
          have U2 := Lib.hid (U1.out.keep bb)
          have B2 := Lib.hid (below_then B1.out bb)
          clear bb cM0 cM1 M1 U1 B1
          obtain ⟨cM0, cM1⟩ := M2.out.use
          go_wp2_with fail
          refine (is_at _ _ _ _ _ _ p _).mono ?_
          rw [hp]
          rintro e w3 ⟨rfl, bb⟩
          have M3 := Lib.hid (M2.out.keep bb)
          have U3 := Lib.hid (U2.out.keep bb)
          have B3 := Lib.hid (below_then B2.out bb)
          clear bb cM0 cM1 M2 U2 B2
          obtain ⟨cM0, cM1⟩ := M3.out.use
          go_wp2_with fail
          refine (is_at _ _ _ _ _ _ lo _).mono ?_
          rw [hl]
          rintro e w4 ⟨rfl, bb⟩
          have M4 := Lib.hid (M3.out.keep bb)
          have U4 := Lib.hid (U3.out.keep bb)
          have B4 := Lib.hid (below_then B3.out bb)
          clear bb cM0 cM1 M3 U3 B3
          obtain ⟨cM0, cM1⟩ := M4.out.use
          go_wp2_with fail
          refine (allot_at _ _ _ _ _ _ lo p n _ (by omega) hp hl).mono ?_
          rw [HE1.out, HC1.out]
          rintro e w5 ⟨rfl, bb⟩
          have M5 := Lib.hid (M4.out.keep bb)
          have U5 := Lib.hid (U4.out.keep bb)
          have B5 := Lib.hid (below_then B4.out bb)
          clear bb cM0 cM1 M4 U4 B4
          obtain ⟨cM0, cM1⟩ := M5.out.use
          go_wp2_with fail
          refine (rallot_at _ _ _ _ _ _ lo p n _ (by omega) hp hl).mono ?_
          rw [HE1.out, HC1.out]
          rintro e w6 ⟨rfl, bb⟩
          have M6 := Lib.hid (M5.out.keep bb)
          have U6 := Lib.hid (U5.out.keep bb)
          have B6 := Lib.hid (below_then B5.out bb)
          clear bb cM0 cM1 M5 U5 B5
          obtain ⟨cM0, cM1⟩ := M6.out.use
          go_wp2_with fail
          refine (lay_at _ _ _ _ _ _ _ _ _ m bs p _ M6.out.mem U6.out (by omega) (by omega) hp hnb).mono ?_
          rw [HE2.out, HC2.out, HX2.out]
          rintro e w7 ⟨A1, L1, c1, P1, K1, d1, rfl, hx1, bb⟩
          have Mp := Lib.hid (M6.out.keep bb)
          have M7 := Lib.hid (Mp.out.keep (al_one _ (.cells #[.slice A1 L1 c1, .slice P1 K1 d1] 25)))
          have Up := Lib.hid (U6.out.keep bb)
          have U7 := Lib.hid (Up.out.keep (al_one _ (.cells #[.slice A1 L1 c1, .slice P1 K1 d1] 25)))
          have B7 := Lib.hid (below_then (below_then B6.out bb) (al_one _ (.cells #[.slice A1 L1 c1, .slice P1 K1 d1] 25)))
          have Xa7 := Lib.hid (at_new hx1)
          clear bb cM0 cM1 M6 U6 B6 hx1
          obtain ⟨cM0, cM1⟩ := Mp.out.use
          have lM := Mp.out.lt
          go_wp2_with fail
          refine (rlay_at _ _ _ _ _ _ _ _ _ m bs p _ M7.out.mem U7.out (by omega) (by omega) hp hnb).mono ?_
          rw [HE2.out, HC2.out, HX2.out]
          rintro e w8 ⟨A2, L2, c2, P2, K2, d2, rfl, hx2, bb⟩
          clear Mp Up
          have Mp := Lib.hid (M7.out.keep bb)
          have M8 := Lib.hid (Mp.out.keep (al_one _ (.cells #[.slice A2 L2 c2, .slice P2 K2 d2] 25)))
          have Up := Lib.hid (U7.out.keep bb)
          have U8 := Lib.hid (Up.out.keep (al_one _ (.cells #[.slice A2 L2 c2, .slice P2 K2 d2] 25)))
          have Xap := Lib.hid (Xa7.out.keep bb)
          have Xa8 := Lib.hid (Xap.out.keep (al_one _ (.cells #[.slice A2 L2 c2, .slice P2 K2 d2] 25)))
          have B8 := Lib.hid (below_then (below_then B7.out bb) (al_one _ (.cells #[.slice A2 L2 c2, .slice P2 K2 d2] 25)))
          have Xb8 := Lib.hid (at_new hx2)
          clear bb cM0 cM1 lM M7 U7 Xa7 B7 hx2
          clear U8 Up
          obtain ⟨cM0, cM1⟩ := Mp.out.use
          have lM := Mp.out.lt
          go_wp2_with fail
          refine (comma_at _ _ _ _ _ _ m p n _ M8.out.mem (by omega) (by omega) hp).mono ?_
          rw [HE3.out, HC3.out, HX3.out]
          rintro e w9 ⟨A3, L3, c3, P3, K3, d3, rfl, hx3, bb⟩
          clear Mp Xap
          have Mp := Lib.hid (M8.out.keep bb)
          have M9 := Lib.hid (Mp.out.keep (al_one _ (.cells #[.slice A3 L3 c3, .slice P3 K3 d3] 25)))
          have Xap := Lib.hid (Xa8.out.keep bb)
          have Xa9 := Lib.hid (Xap.out.keep (al_one _ (.cells #[.slice A3 L3 c3, .slice P3 K3 d3] 25)))
          have Xbp := Lib.hid (Xb8.out.keep bb)
          have Xb9 := Lib.hid (Xbp.out.keep (al_one _ (.cells #[.slice A3 L3 c3, .slice P3 K3 d3] 25)))
          have B9 := Lib.hid (below_then (below_then B8.out bb) (al_one _ (.cells #[.slice A3 L3 c3, .slice P3 K3 d3] 25)))
          have Ya9 := Lib.hid (at_new hx3)
          clear bb cM0 cM1 lM M8 Xa8 Xb8 B8 hx3
          obtain ⟨cM0, cM1⟩ := Mp.out.use
          have lM := Mp.out.lt
          go_wp2_with fail
          refine (rcomma_at _ _ _ _ _ _ m p n _ M9.out.mem (by omega) (by omega) hp).mono ?_
          rw [HE3.out, HC3.out, HX3.out]
          rintro e w10 ⟨A4, L4, c4, P4, K4, d4, rfl, hx4, bb⟩
          clear Mp Xap Xbp
          have Mp := Lib.hid (M9.out.keep bb)
          have M10 := Lib.hid (Mp.out.keep (al_one _ (.cells #[.slice A4 L4 c4, .slice P4 K4 d4] 25)))
          have Xap := Lib.hid (Xa9.out.keep bb)
          have Xa10 := Lib.hid (Xap.out.keep (al_one _ (.cells #[.slice A4 L4 c4, .slice P4 K4 d4] 25)))
          have Xbp := Lib.hid (Xb9.out.keep bb)
          have Xb10 := Lib.hid (Xbp.out.keep (al_one _ (.cells #[.slice A4 L4 c4, .slice P4 K4 d4] 25)))
          have Yap := Lib.hid (Ya9.out.keep bb)
          have Ya10 := Lib.hid (Yap.out.keep (al_one _ (.cells #[.slice A4 L4 c4, .slice P4 K4 d4] 25)))
          have B10 := Lib.hid (below_then (below_then B9.out bb) (al_one _ (.cells #[.slice A4 L4 c4, .slice P4 K4 d4] 25)))
          have Yb10 := Lib.hid (at_new hx4)
          clear bb cM0 cM1 lM M9 Xa9 Xb9 Ya9 B9 hx4
          obtain ⟨cM0, cM1⟩ := Mp.out.use
          have lM := Mp.out.lt
          go_wp2_with fail
          refine (up_at _ _ _ _ _ _ m p _ M10.out.mem (by omega) (by omega) hp).mono ?_
          rw [HE4.out, HC4.out, HX4.out]
          rintro e w11 ⟨A5, L5, c5, P5, K5, d5, rfl, hx5, bb⟩
          clear Mp Xap Xbp Yap
          have Mp := Lib.hid (M10.out.keep bb)
          have M11 := Lib.hid (Mp.out.keep (al_one _ (.cells #[.slice A5 L5 c5, .slice P5 K5 d5] 25)))
          have Xap := Lib.hid (Xa10.out.keep bb)
          have Xa11 := Lib.hid (Xap.out.keep (al_one _ (.cells #[.slice A5 L5 c5, .slice P5 K5 d5] 25)))
          have Xbp := Lib.hid (Xb10.out.keep bb)
          have Xb11 := Lib.hid (Xbp.out.keep (al_one _ (.cells #[.slice A5 L5 c5, .slice P5 K5 d5] 25)))
          have Yap := Lib.hid (Ya10.out.keep bb)
          have Ya11 := Lib.hid (Yap.out.keep (al_one _ (.cells #[.slice A5 L5 c5, .slice P5 K5 d5] 25)))
          have Ybp := Lib.hid (Yb10.out.keep bb)
          have Yb11 := Lib.hid (Ybp.out.keep (al_one _ (.cells #[.slice A5 L5 c5, .slice P5 K5 d5] 25)))
          have B11 := Lib.hid (below_then (below_then B10.out bb) (al_one _ (.cells #[.slice A5 L5 c5, .slice P5 K5 d5] 25)))
          have Za11 := Lib.hid (at_new hx5)
          clear bb cM0 cM1 lM M10 Xa10 Xb10 Ya10 Yb10 B10 hx5
          obtain ⟨cM0, cM1⟩ := Mp.out.use
          have lM := Mp.out.lt
          go_wp2_with fail
          refine (rup_at _ _ _ _ _ _ m p _ M11.out.mem (by omega) (by omega) hp).mono ?_
          rw [HE4.out, HC4.out, HX4.out]
          rintro e w12 ⟨A6, L6, c6, P6, K6, d6, rfl, hx6, bb⟩
          clear Mp Xap Xbp Yap Ybp
          have Mp := Lib.hid (M11.out.keep bb)
          have M12 := Lib.hid (Mp.out.keep (al_one _ (.cells #[.slice A6 L6 c6, .slice P6 K6 d6] 25)))
          have Xap := Lib.hid (Xa11.out.keep bb)
          have Xa12 := Lib.hid (Xap.out.keep (al_one _ (.cells #[.slice A6 L6 c6, .slice P6 K6 d6] 25)))
          have Xbp := Lib.hid (Xb11.out.keep bb)
          have Xb12 := Lib.hid (Xbp.out.keep (al_one _ (.cells #[.slice A6 L6 c6, .slice P6 K6 d6] 25)))
          have Yap := Lib.hid (Ya11.out.keep bb)
          have Ya12 := Lib.hid (Yap.out.keep (al_one _ (.cells #[.slice A6 L6 c6, .slice P6 K6 d6] 25)))
          have Ybp := Lib.hid (Yb11.out.keep bb)
          have Yb12 := Lib.hid (Ybp.out.keep (al_one _ (.cells #[.slice A6 L6 c6, .slice P6 K6 d6] 25)))
          have Zap := Lib.hid (Za11.out.keep bb)
          have Za12 := Lib.hid (Zap.out.keep (al_one _ (.cells #[.slice A6 L6 c6, .slice P6 K6 d6] 25)))
          have B12 := Lib.hid (below_then (below_then B11.out bb) (al_one _ (.cells #[.slice A6 L6 c6, .slice P6 K6 d6] 25)))
          have Zb12 := Lib.hid (at_new hx6)
          clear bb cM0 cM1 lM M11 Xa11 Xb11 Ya11 Yb11 Za11 B11 hx6
          obtain ⟨cXa0, cXa1⟩ := Xap.out.use
          have lXa := Xap.out.lt
          obtain ⟨cXb0, cXb1⟩ := Xbp.out.use
          have lXb := Xbp.out.lt
          go_wp2_with fail
          refine (rsame_eq _ _ _ _ _ _ _ _ _ _ _ _ X2 _ Xa12.out.mem Xb12.out.mem).mono ?_
          rintro e w13 ⟨rfl, bb⟩
          clear Mp Xap Xbp Yap Ybp Zap
          have M13 := Lib.hid (M12.out.keep bb)
          have Xa13 := Lib.hid (Xa12.out.keep bb)
          have Xb13 := Lib.hid (Xb12.out.keep bb)
          have Ya13 := Lib.hid (Ya12.out.keep bb)
          have Yb13 := Lib.hid (Yb12.out.keep bb)
          have Za13 := Lib.hid (Za12.out.keep bb)
          have Zb13 := Lib.hid (Zb12.out.keep bb)
          have B13 := Lib.hid (below_then B12.out bb)
          clear bb cXa0 cXa1 lXa cXb0 cXb1 lXb M12 Xa12 Xb12 Ya12 Yb12 Za12 Zb12 B12
          obtain ⟨cYa0, cYa1⟩ := Ya13.out.use
          obtain ⟨cYb0, cYb1⟩ := Yb13.out.use
          go_wp2_with fail
          refine (rsame_eq _ _ _ _ _ _ _ _ _ _ _ _ X3 _ Ya13.out.mem Yb13.out.mem).mono ?_
          rintro e w14 ⟨rfl, bb⟩
          have M14 := Lib.hid (M13.out.keep bb)
          have Xa14 := Lib.hid (Xa13.out.keep bb)
          have Xb14 := Lib.hid (Xb13.out.keep bb)
          have Ya14 := Lib.hid (Ya13.out.keep bb)
          have Yb14 := Lib.hid (Yb13.out.keep bb)
          have Za14 := Lib.hid (Za13.out.keep bb)
          have Zb14 := Lib.hid (Zb13.out.keep bb)
          have B14 := Lib.hid (below_then B13.out bb)
          clear bb cYa0 cYa1 cYb0 cYb1 M13 Xa13 Xb13 Ya13 Yb13 Za13 Zb13 B13
          obtain ⟨cZa0, cZa1⟩ := Za14.out.use
          obtain ⟨cZb0, cZb1⟩ := Zb14.out.use
          go_wp2_with fail
          refine (rsame_eq _ _ _ _ _ _ _ _ _ _ _ _ X4 _ Za14.out.mem Zb14.out.mem).mono ?_
          rintro e w15 ⟨rfl, bb⟩
          have M15 := Lib.hid (M14.out.keep bb)
          have Xa15 := Lib.hid (Xa14.out.keep bb)
          have Xb15 := Lib.hid (Xb14.out.keep bb)
          have Ya15 := Lib.hid (Ya14.out.keep bb)
          have Yb15 := Lib.hid (Yb14.out.keep bb)
          have Za15 := Lib.hid (Za14.out.keep bb)
          have Zb15 := Lib.hid (Zb14.out.keep bb)
          have B15 := Lib.hid (below_then B14.out bb)
          clear bb cZa0 cZa1 cZb0 cZb1 M14 Xa14 Xb14 Ya14 Yb14 Za14 Zb14 B14
          go_wp2_with fail
          go_ret
          exact ⟨rfl, B15.out⟩
end Go.Proofs.Ytekfemkoiadipaa
