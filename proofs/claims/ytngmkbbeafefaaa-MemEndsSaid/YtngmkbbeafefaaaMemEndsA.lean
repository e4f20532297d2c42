/- The walk of MemEnds. -/
import Derived.Test.YtngmkbbeafefaaaMemUndoesA
import Derived.Deep.DeepCutAuto
import Derived.Deep.Cut
namespace Go.Proofs.Ytngmkbbeafefaaa
open Go.RowKit
set_option linter.unusedVariables false
set_option linter.unusedSimpArgs false

set_option maxRecDepth 100000 in
set_option maxHeartbeats 16000000 in
theorem ends_walk (A P : Option Addr) (L c K d : Nat) (m : PM) (p n : Int) (w : World) (HM : Hid (IsMem w (.agg #[.slice A L c, .slice P K d]) m)) (hp0 : -9223372036854775808 ≤ p) (hp1 : p ≤ 9223372036854775807) (hn0 : -9223372036854775808 ≤ n) (hn1 : n ≤ 9223372036854775807) :
    Calls Try.prog 9 #[.agg #[.slice A L c, .slice P K d], .int .i64 p, .int .i64 n] w fun e w' => e = .returned (.bool true) ∧ Below w.heap.size w w' := by
  cases hmay : (fewB m 600 && rightB m) with
  | false =>
    go_enter Try.func9, Try.ntmps9
    go_wp2_with fail
    refine (shown_any _).mono ?_
    rintro e w1 ⟨rfl, bb⟩
    have M1 := Lib.hid ((at_new HM.out).keep bb)
    have B1 := Lib.hid (al_then bb)
    clear bb
    obtain ⟨cM0, cM1⟩ := M1.out.use
    go_wp2_with fail
    refine (may_at _ _ _ _ _ _ m _ M1.out.mem).mono ?_
    rw [hmay]
    rintro e w2 ⟨rfl, bb⟩
    have M2 := Lib.hid (M1.out.keep bb)
    have B2 := Lib.hid (below_then B1.out bb)
    clear bb cM0 cM1 M1 B1
    go_wp2_with fail
    go_ret
    exact ⟨rfl, B2.out⟩
  | true =>
    obtain ⟨hL, hK, HRi⟩ := may_parts hmay
    rw [HM.out.len1] at hL
    rw [HM.out.len2] at hK
    clear HRi
    obtain ⟨ok, hok⟩ : ∃ ok, okB L p n = ok := ⟨_, rfl⟩
    obtain ⟨c8, hc8⟩ : ∃ c8, okB L p 8 = c8 := ⟨_, rfl⟩
    have HOK := Lib.hid hok
    have HC8 := Lib.hid hc8
    have HMN : Hid (okB L p n = false → fillF m p n 7 = m) := Lib.hid fun h => by unfold fillF; rw [HM.out.len1, h]; rfl
    clear hok hc8
    go_enter Try.func9, Try.ntmps9
    go_wp2_with fail
    refine (shown_any _).mono ?_
    rintro e w1 ⟨rfl, bb⟩
    have M1 := Lib.hid ((at_new HM.out).keep bb)
    have B1 := Lib.hid (al_then bb)
    clear bb
    obtain ⟨cM0, cM1⟩ := M1.out.use
    go_wp2_with fail
    refine (may_at _ _ _ _ _ _ m _ M1.out.mem).mono ?_
    rw [hmay]
    rintro e w2 ⟨rfl, bb⟩
    have M2 := Lib.hid (M1.out.keep bb)
    have B2 := Lib.hid (below_then B1.out bb)
    clear bb cM0 cM1 M1 B1
    obtain ⟨cM0, cM1⟩ := M2.out.use
    go_upto_region 4 with fail
    go_cut [8] (fun s8 wx => s8 = .bool ok ∧ w2 = wx)
    case first =>
      by_cases h0 : n = 0
      · have HE : Hid (ok = true) := HOK.out.symm.trans ((okB_iff _ _ _).2 (.inl h0))
        have h0' : (n == 0) = true := by simp [h0]
        clear h0
        go_wp2_with fail
        go_meet
        exact ⟨by rw [HE.out], rfl⟩
      have h0' : (n == 0) = false := by simp [h0]
      by_cases h3 : 0 < n
      rotate_left
      · have h3' : decide (0 < n) = false := by simp; omega
        have HE : Hid (ok = false) := HOK.out.symm.trans ((okB_no _ _ _).2 (by omega))
        clear h0 h3
        go_wp2_with fail
        go_meet
        exact ⟨by rw [HE.out], rfl⟩
      by_cases h4 : 0 ≤ p
      rotate_left
      · have h4' : decide (0 ≤ p) = false := by simp; omega
        have HE : Hid (ok = false) := HOK.out.symm.trans ((okB_no _ _ _).2 (by omega))
        clear h0 h4
        go_wp2_with fail
        go_meet
        exact ⟨by rw [HE.out], rfl⟩
      by_cases h6 : n ≤ (L : Int)
      rotate_left
      · have h6' : decide (n ≤ (L : Int)) = false := by simp; omega
        have HE : Hid (ok = false) := HOK.out.symm.trans ((okB_no _ _ _).2 (by omega))
        clear h0 h6
        go_wp2_with fail
        go_meet
        exact ⟨by rw [HE.out], rfl⟩
      by_cases h5 : p ≤ (L : Int) - n
      · have HE : Hid (ok = true) := HOK.out.symm.trans ((okB_iff _ _ _).2 (.inr ⟨h3, h4, h5⟩))
        clear h0
        go_wp2_with fail
        go_meet
        exact ⟨by rw [HE.out], rfl⟩
      · have h5' : decide (p ≤ (L : Int) - n) = false := by simp; omega
        have HE : Hid (ok = false) := HOK.out.symm.trans ((okB_no _ _ _).2 (by omega))
        clear h0 h5
        go_wp2_with fail
        go_meet
        exact ⟨by rw [HE.out], rfl⟩
    case rest =>
      obtain ⟨rfl, rfl⟩ := hcut
      go_upto_region 5 with fail
      go_cut [9] (fun s9 wx => s9 = .bool c8 ∧ w2 = wx)
      case first =>
        by_cases h4 : 0 ≤ p
        rotate_left
        · have h4' : decide (0 ≤ p) = false := by simp; omega
          have HE : Hid (c8 = false) := HC8.out.symm.trans ((okB_no _ _ _).2 (by omega))
          clear h4
          go_wp2_with fail
          go_meet
          exact ⟨by rw [HE.out], rfl⟩
        by_cases h6 : 8 ≤ (L : Int)
        rotate_left
        · have h6' : decide (8 ≤ (L : Int)) = false := by simp; omega
          have HE : Hid (c8 = false) := HC8.out.symm.trans ((okB_no _ _ _).2 (by omega))
          clear h6
          go_wp2_with fail
          go_meet
          exact ⟨by rw [HE.out], rfl⟩
        by_cases h5 : p ≤ (L : Int) - 8
        · have HE : Hid (c8 = true) := HC8.out.symm.trans ((okB_iff _ _ _).2 (.inr ⟨by omega, h4, h5⟩))
          go_wp2_with fail
          go_meet
          exact ⟨by rw [HE.out], rfl⟩
        · have h5' : decide (p ≤ (L : Int) - 8) = false := by simp; omega
          have HE : Hid (c8 = false) := HC8.out.symm.trans ((okB_no _ _ _).2 (by omega))
          clear h5
          go_wp2_with fail
          go_meet
          exact ⟨by rw [HE.out], rfl⟩
      case rest =>
        obtain ⟨rfl, rfl⟩ := hcut
        have HE0 : Hid (codeF (okB L p 0) = 0) := Lib.hid (by rw [(okB_iff L p 0).2 (.inl rfl)]; rfl)
        obtain ⟨FE, hFE⟩ : ∃ x, fetchF m p = x := ⟨_, rfl⟩
        have HFE := Lib.hid hFE
        clear hFE
        cases ok with
        | false =>
          have HE : Hid (codeF (okB L p n) = -9) := Lib.hid (by rw [HOK.out]; rfl)
          have HX : Hid (fillF m p n 7 = m) := Lib.hid (HMN.out HOK.out)
          cases c8 with
          | false =>
            have HCC : Hid (cellC L p = -9) := Lib.hid (cellC_no HC8.out)
            go_wp2_with fail
            refine (text_at _ _ _ _ _ _ m _ _ _ M2.out.mem (by omega) hn1).mono ?_
            rw [HE.out]
            rintro e w3 ⟨Ba, ka, ea, rfl, hta, bb⟩
            have M3 := Lib.hid (M2.out.keep bb)
            have B3 := Lib.hid (below_then B2.out bb)
            have S3 := Lib.hid hta
            clear bb cM0 cM1 M2 B2 hta
            obtain ⟨cM0, cM1⟩ := M3.out.use
            go_wp2_with fail
            refine (fill_at _ _ _ _ _ _ m _ _ _ _ M3.out.mem (by omega) (by omega) hn1).mono ?_
            rw [HE.out, HX.out]
            rintro e w4 ⟨A1, L1, c1, P1, K1, d1, rfl, hx1, bb⟩
            have Mp := Lib.hid (M3.out.keep bb)
            have M4 := Lib.hid (Mp.out.keep (al_one _ (.cells #[.slice A1 L1 c1, .slice P1 K1 d1] 25)))
            have Sp := Lib.hid (S3.out.keep bb)
            have S4 := Lib.hid (Sp.out.keep (al_one _ (.cells #[.slice A1 L1 c1, .slice P1 K1 d1] 25)))
            have B4 := Lib.hid (below_then (below_then B3.out bb) (al_one _ (.cells #[.slice A1 L1 c1, .slice P1 K1 d1] 25)))
            have X4 := Lib.hid (at_new hx1)
            clear bb cM0 cM1 M3 S3 B3 hx1
            obtain ⟨cM0, cM1⟩ := Mp.out.use
            have lM := Mp.out.lt
            go_wp2_with fail
            refine (text_at _ _ _ _ _ _ m _ _ _ M4.out.mem (by omega) (by omega)).mono ?_
            rw [HE0.out]
            rintro e w5 ⟨Bb, kb, eb, rfl, htb, bb⟩
            clear Mp Sp
            have M5 := Lib.hid (M4.out.keep bb)
            have S5 := Lib.hid (S4.out.keep bb)
            have X5 := Lib.hid (X4.out.keep bb)
            have B5 := Lib.hid (below_then B4.out bb)
            have R5 := Lib.hid htb
            clear bb cM0 cM1 lM M4 S4 X4 B4 htb
            obtain ⟨cM0, cM1⟩ := M5.out.use
            go_wp2_with fail
            refine (fetch_at _ _ _ _ _ _ m _ _ M5.out.mem (by omega)).mono ?_
            rw [HFE.out, HCC.out]
            rintro e w6 ⟨rfl, bb⟩
            have M6 := Lib.hid (M5.out.keep bb)
            have S6 := Lib.hid (S5.out.keep bb)
            have X6 := Lib.hid (X5.out.keep bb)
            have R6 := Lib.hid (R5.out.keep bb)
            have B6 := Lib.hid (below_then B5.out bb)
            clear bb cM0 cM1 M5 S5 X5 R5 B5
            obtain ⟨cX0, cX1⟩ := X6.out.use
            obtain ⟨cM0, cM1⟩ := M6.out.use
            go_wp2_with fail
            refine (rsame_eq _ _ _ _ _ _ _ _ _ _ _ _ m _ X6.out.mem M6.out.mem).mono ?_
            rintro e w7 ⟨rfl, bb⟩
            have M7 := Lib.hid (M6.out.keep bb)
            have S7 := Lib.hid (S6.out.keep bb)
            have X7 := Lib.hid (X6.out.keep bb)
            have R7 := Lib.hid (R6.out.keep bb)
            have B7 := Lib.hid (below_then B6.out bb)
            clear bb cX0 cX1 cM0 cM1 M6 S6 X6 R6 B6
            go_wp2_with fail
            go_ret
            exact ⟨rfl, B7.out⟩
          | true =>
            have r1 := (okB_iff _ _ _).1 HC8.out
            have r2 : 0 ≤ p := by omega
            by_cases h8 : p % 8 = 0
            · have HCC : Hid (cellC L p = 0) := Lib.hid (cellC_ok HC8.out h8)
              have h8' : (p % 8 != 0) = false := by simp [h8]
              clear h8 r1
              go_wp2_with fail
              refine (text_at _ _ _ _ _ _ m _ _ _ M2.out.mem (by omega) hn1).mono ?_
              rw [HE.out]
              rintro e w3 ⟨Ba, ka, ea, rfl, hta, bb⟩
              have M3 := Lib.hid (M2.out.keep bb)
              have B3 := Lib.hid (below_then B2.out bb)
              have S3 := Lib.hid hta
              clear bb cM0 cM1 M2 B2 hta
              obtain ⟨cM0, cM1⟩ := M3.out.use
              go_wp2_with fail
              refine (fill_at _ _ _ _ _ _ m _ _ _ _ M3.out.mem (by omega) (by omega) hn1).mono ?_
              rw [HE.out, HX.out]
              rintro e w4 ⟨A1, L1, c1, P1, K1, d1, rfl, hx1, bb⟩
              have Mp := Lib.hid (M3.out.keep bb)
              have M4 := Lib.hid (Mp.out.keep (al_one _ (.cells #[.slice A1 L1 c1, .slice P1 K1 d1] 25)))
              have Sp := Lib.hid (S3.out.keep bb)
              have S4 := Lib.hid (Sp.out.keep (al_one _ (.cells #[.slice A1 L1 c1, .slice P1 K1 d1] 25)))
              have B4 := Lib.hid (below_then (below_then B3.out bb) (al_one _ (.cells #[.slice A1 L1 c1, .slice P1 K1 d1] 25)))
              have X4 := Lib.hid (at_new hx1)
              clear bb cM0 cM1 M3 S3 B3 hx1
              obtain ⟨cM0, cM1⟩ := Mp.out.use
              have lM := Mp.out.lt
              go_wp2_with fail
              refine (text_at _ _ _ _ _ _ m _ _ _ M4.out.mem (by omega) (by omega)).mono ?_
              rw [HE0.out]
              rintro e w5 ⟨Bb, kb, eb, rfl, htb, bb⟩
              clear Mp Sp
              have M5 := Lib.hid (M4.out.keep bb)
              have S5 := Lib.hid (S4.out.keep bb)
              have X5 := Lib.hid (X4.out.keep bb)
              have B5 := Lib.hid (below_then B4.out bb)
              have R5 := Lib.hid htb
              clear bb cM0 cM1 lM M4 S4 X4 B4 htb
              obtain ⟨cM0, cM1⟩ := M5.out.use
              go_wp2_with fail
              refine (fetch_at _ _ _ _ _ _ m _ _ M5.out.mem (by omega)).mono ?_
              rw [HFE.out, HCC.out]
              rintro e w6 ⟨rfl, bb⟩
              have M6 := Lib.hid (M5.out.keep bb)
              have S6 := Lib.hid (S5.out.keep bb)
              have X6 := Lib.hid (X5.out.keep bb)
              have R6 := Lib.hid (R5.out.keep bb)
              have B6 := Lib.hid (below_then B5.out bb)
              clear bb cM0 cM1 M5 S5 X5 R5 B5
              obtain ⟨cX0, cX1⟩ := X6.out.use
              obtain ⟨cM0, cM1⟩ := M6.out.use
              go_wp2_with fail
              refine (rsame_eq _ _ _ _ _ _ _ _ _ _ _ _ m _ X6.out.mem M6.out.mem).mono ?_
              rintro e w7 ⟨rfl, bb⟩
              have M7 := Lib.hid (M6.out.keep bb)
              have S7 := Lib.hid (S6.out.keep bb)
              have X7 := Lib.hid (X6.out.keep bb)
              have R7 := Lib.hid (R6.out.keep bb)
              have B7 := Lib.hid (below_then B6.out bb)
              clear bb cX0 cX1 cM0 cM1 M6 S6 X6 R6 B6
              go_wp2_with fail
              go_ret
              exact ⟨rfl, B7.out⟩
            · have HCC : Hid (cellC L p = -23) := Lib.hid (cellC_align HC8.out h8)
              have h8' : (p % 8 != 0) = true := by simp [h8]
              clear h8 r1
              go_wp2_with fail
              refine (text_at _ _ _ _ _ _ m _ _ _ M2.out.mem (by omega) hn1).mono ?_
              rw [HE.out]
              rintro e w3 ⟨Ba, ka, ea, rfl, hta, bb⟩
              have M3 := Lib.hid (M2.out.keep bb)
              have B3 := Lib.hid (below_then B2.out bb)
              have S3 := Lib.hid hta
              clear bb cM0 cM1 M2 B2 hta
              obtain ⟨cM0, cM1⟩ := M3.out.use
              go_wp2_with fail
              refine (fill_at _ _ _ _ _ _ m _ _ _ _ M3.out.mem (by omega) (by omega) hn1).mono ?_
              rw [HE.out, HX.out]
              rintro e w4 ⟨A1, L1, c1, P1, K1, d1, rfl, hx1, bb⟩
              have Mp := Lib.hid (M3.out.keep bb)
              have M4 := Lib.hid (Mp.out.keep (al_one _ (.cells #[.slice A1 L1 c1, .slice P1 K1 d1] 25)))
              have Sp := Lib.hid (S3.out.keep bb)
              have S4 := Lib.hid (Sp.out.keep (al_one _ (.cells #[.slice A1 L1 c1, .slice P1 K1 d1] 25)))
              have B4 := Lib.hid (below_then (below_then B3.out bb) (al_one _ (.cells #[.slice A1 L1 c1, .slice P1 K1 d1] 25)))
              have X4 := Lib.hid (at_new hx1)
              clear bb cM0 cM1 M3 S3 B3 hx1
              obtain ⟨cM0, cM1⟩ := Mp.out.use
              have lM := Mp.out.lt
              go_wp2_with fail
              refine (text_at _ _ _ _ _ _ m _ _ _ M4.out.mem (by omega) (by omega)).mono ?_
              rw [HE0.out]
              rintro e w5 ⟨Bb, kb, eb, rfl, htb, bb⟩
              clear Mp Sp
              have M5 := Lib.hid (M4.out.keep bb)
              have S5 := Lib.hid (S4.out.keep bb)
              have X5 := Lib.hid (X4.out.keep bb)
              have B5 := Lib.hid (below_then B4.out bb)
              have R5 := Lib.hid htb
              clear bb cM0 cM1 lM M4 S4 X4 B4 htb
              obtain ⟨cM0, cM1⟩ := M5.out.use
              go_wp2_with fail
              refine (fetch_at _ _ _ _ _ _ m _ _ M5.out.mem (by omega)).mono ?_
              rw [HFE.out, HCC.out]
              rintro e w6 ⟨rfl, bb⟩
              have M6 := Lib.hid (M5.out.keep bb)
              have S6 := Lib.hid (S5.out.keep bb)
              have X6 := Lib.hid (X5.out.keep bb)
              have R6 := Lib.hid (R5.out.keep bb)
              have B6 := Lib.hid (below_then B5.out bb)
              clear bb cM0 cM1 M5 S5 X5 R5 B5
              obtain ⟨cX0, cX1⟩ := X6.out.use
              obtain ⟨cM0, cM1⟩ := M6.out.use
              go_wp2_with fail
              refine (rsame_eq _ _ _ _ _ _ _ _ _ _ _ _ m _ X6.out.mem M6.out.mem).mono ?_
              rintro e w7 ⟨rfl, bb⟩
              have M7 := Lib.hid (M6.out.keep bb)
              have S7 := Lib.hid (S6.out.keep bb)
              have X7 := Lib.hid (X6.out.keep bb)
              have R7 := Lib.hid (R6.out.keep bb)
              have B7 := Lib.hid (below_then B6.out bb)
              clear bb cX0 cX1 cM0 cM1 M6 S6 X6 R6 B6
              go_wp2_with fail
              go_ret
              exact ⟨rfl, B7.out⟩
        | true =>
          have HE : Hid (codeF (okB L p n) = 0) := Lib.hid (by rw [HOK.out]; rfl)
          obtain ⟨X1, hX1⟩ : ∃ x, fillF m p n 7 = x := ⟨_, rfl⟩
          have HX := Lib.hid hX1
          clear hX1
          cases c8 with
          | false =>
            have HCC : Hid (cellC L p = -9) := Lib.hid (cellC_no HC8.out)
            go_wp2_with fail
            refine (text_at _ _ _ _ _ _ m _ _ _ M2.out.mem (by omega) hn1).mono ?_
            rw [HE.out]
            rintro e w3 ⟨Ba, ka, ea, rfl, hta, bb⟩
            have M3 := Lib.hid (M2.out.keep bb)
            have B3 := Lib.hid (below_then B2.out bb)
            have S3 := Lib.hid hta
            clear bb cM0 cM1 M2 B2 hta
            obtain ⟨cM0, cM1⟩ := M3.out.use
            go_wp2_with fail
            refine (fill_at _ _ _ _ _ _ m _ _ _ _ M3.out.mem (by omega) (by omega) hn1).mono ?_
            rw [HE.out, HX.out]
            rintro e w4 ⟨A1, L1, c1, P1, K1, d1, rfl, hx1, bb⟩
            have Mp := Lib.hid (M3.out.keep bb)
            have M4 := Lib.hid (Mp.out.keep (al_one _ (.cells #[.slice A1 L1 c1, .slice P1 K1 d1] 25)))
            have Sp := Lib.hid (S3.out.keep bb)
            have S4 := Lib.hid (Sp.out.keep (al_one _ (.cells #[.slice A1 L1 c1, .slice P1 K1 d1] 25)))
            have B4 := Lib.hid (below_then (below_then B3.out bb) (al_one _ (.cells #[.slice A1 L1 c1, .slice P1 K1 d1] 25)))
            have X4 := Lib.hid (at_new hx1)
            clear bb cM0 cM1 M3 S3 B3 hx1
            obtain ⟨cM0, cM1⟩ := Mp.out.use
            have lM := Mp.out.lt
            go_wp2_with fail
            refine (text_at _ _ _ _ _ _ m _ _ _ M4.out.mem (by omega) (by omega)).mono ?_
            rw [HE0.out]
            rintro e w5 ⟨Bb, kb, eb, rfl, htb, bb⟩
            clear Mp Sp
            have M5 := Lib.hid (M4.out.keep bb)
            have S5 := Lib.hid (S4.out.keep bb)
            have X5 := Lib.hid (X4.out.keep bb)
            have B5 := Lib.hid (below_then B4.out bb)
            have R5 := Lib.hid htb
            clear bb cM0 cM1 lM M4 S4 X4 B4 htb
            obtain ⟨cM0, cM1⟩ := M5.out.use
            go_wp2_with fail
            refine (fetch_at _ _ _ _ _ _ m _ _ M5.out.mem (by omega)).mono ?_
            rw [HFE.out, HCC.out]
            rintro e w6 ⟨rfl, bb⟩
            have M6 := Lib.hid (M5.out.keep bb)
            have S6 := Lib.hid (S5.out.keep bb)
            have X6 := Lib.hid (X5.out.keep bb)
            have R6 := Lib.hid (R5.out.keep bb)
            have B6 := Lib.hid (below_then B5.out bb)
            clear bb cM0 cM1 M5 S5 X5 R5 B5
            go_wp2_with fail
            go_ret
            exact ⟨rfl, B6.out⟩
          | true =>
            have r1 := (okB_iff _ _ _).1 HC8.out
            have r2 : 0 ≤ p := by omega
            by_cases h8 : p % 8 = 0
            · have HCC : Hid (cellC L p = 0) := Lib.hid (cellC_ok HC8.out h8)
              have h8' : (p % 8 != 0) = false := by simp [h8]
              clear h8 r1
              go_wp2_with fail
              refine (text_at _ _ _ _ _ _ m _ _ _ M2.out.mem (by omega) hn1).mono ?_
              rw [HE.out]
              rintro e w3 ⟨Ba, ka, ea, rfl, hta, bb⟩
              have M3 := Lib.hid (M2.out.keep bb)
              have B3 := Lib.hid (below_then B2.out bb)
              have S3 := Lib.hid hta
              clear bb cM0 cM1 M2 B2 hta
              obtain ⟨cM0, cM1⟩ := M3.out.use
              go_wp2_with fail
              refine (fill_at _ _ _ _ _ _ m _ _ _ _ M3.out.mem (by omega) (by omega) hn1).mono ?_
              rw [HE.out, HX.out]
              rintro e w4 ⟨A1, L1, c1, P1, K1, d1, rfl, hx1, bb⟩
              have Mp := Lib.hid (M3.out.keep bb)
              have M4 := Lib.hid (Mp.out.keep (al_one _ (.cells #[.slice A1 L1 c1, .slice P1 K1 d1] 25)))
              have Sp := Lib.hid (S3.out.keep bb)
              have S4 := Lib.hid (Sp.out.keep (al_one _ (.cells #[.slice A1 L1 c1, .slice P1 K1 d1] 25)))
              have B4 := Lib.hid (below_then (below_then B3.out bb) (al_one _ (.cells #[.slice A1 L1 c1, .slice P1 K1 d1] 25)))
              have X4 := Lib.hid (at_new hx1)
              clear bb cM0 cM1 M3 S3 B3 hx1
              obtain ⟨cM0, cM1⟩ := Mp.out.use
              have lM := Mp.out.lt
              go_wp2_with fail
              refine (text_at _ _ _ _ _ _ m _ _ _ M4.out.mem (by omega) (by omega)).mono ?_
              rw [HE0.out]
              rintro e w5 ⟨Bb, kb, eb, rfl, htb, bb⟩
              clear Mp Sp
              have M5 := Lib.hid (M4.out.keep bb)
              have S5 := Lib.hid (S4.out.keep bb)
              have X5 := Lib.hid (X4.out.keep bb)
              have B5 := Lib.hid (below_then B4.out bb)
              have R5 := Lib.hid htb
              clear bb cM0 cM1 lM M4 S4 X4 B4 htb
              obtain ⟨cM0, cM1⟩ := M5.out.use
              go_wp2_with fail
              refine (fetch_at _ _ _ _ _ _ m _ _ M5.out.mem (by omega)).mono ?_
              rw [HFE.out, HCC.out]
              rintro e w6 ⟨rfl, bb⟩
              have M6 := Lib.hid (M5.out.keep bb)
              have S6 := Lib.hid (S5.out.keep bb)
              have X6 := Lib.hid (X5.out.keep bb)
              have R6 := Lib.hid (R5.out.keep bb)
              have B6 := Lib.hid (below_then B5.out bb)
              clear bb cM0 cM1 M5 S5 X5 R5 B5
              go_wp2_with fail
              go_ret
              exact ⟨rfl, B6.out⟩
            · have HCC : Hid (cellC L p = -23) := Lib.hid (cellC_align HC8.out h8)
              have h8' : (p % 8 != 0) = true := by simp [h8]
              clear h8 r1
              go_wp2_with fail
              refine (text_at _ _ _ _ _ _ m _ _ _ M2.out.mem (by omega) hn1).mono ?_
              rw [HE.out]
              rintro e w3 ⟨Ba, ka, ea, rfl, hta, bb⟩
              have M3 := Lib.hid (M2.out.keep bb)
              have B3 := Lib.hid (below_then B2.out bb)
              have S3 := Lib.hid hta
              clear bb cM0 cM1 M2 B2 hta
              obtain ⟨cM0, cM1⟩ := M3.out.use
              go_wp2_with fail
              refine (fill_at _ _ _ _ _ _ m _ _ _ _ M3.out.mem (by omega) (by omega) hn1).mono ?_
              rw [HE.out, HX.out]
              rintro e w4 ⟨A1, L1, c1, P1, K1, d1, rfl, hx1, bb⟩
              have Mp := Lib.hid (M3.out.keep bb)
              have M4 := Lib.hid (Mp.out.keep (al_one _ (.cells #[.slice A1 L1 c1, .slice P1 K1 d1] 25)))
              have Sp := Lib.hid (S3.out.keep bb)
              have S4 := Lib.hid (Sp.out.keep (al_one _ (.cells #[.slice A1 L1 c1, .slice P1 K1 d1] 25)))
              have B4 := Lib.hid (below_then (below_then B3.out bb) (al_one _ (.cells #[.slice A1 L1 c1, .slice P1 K1 d1] 25)))
              have X4 := Lib.hid (at_new hx1)
              clear bb cM0 cM1 M3 S3 B3 hx1
              obtain ⟨cM0, cM1⟩ := Mp.out.use
              have lM := Mp.out.lt
              go_wp2_with fail
              refine (text_at _ _ _ _ _ _ m _ _ _ M4.out.mem (by omega) (by omega)).mono ?_
              rw [HE0.out]
              rintro e w5 ⟨Bb, kb, eb, rfl, htb, bb⟩
              clear Mp Sp
              have M5 := Lib.hid (M4.out.keep bb)
              have S5 := Lib.hid (S4.out.keep bb)
              have X5 := Lib.hid (X4.out.keep bb)
              have B5 := Lib.hid (below_then B4.out bb)
              have R5 := Lib.hid htb
              clear bb cM0 cM1 lM M4 S4 X4 B4 htb
              obtain ⟨cM0, cM1⟩ := M5.out.use
              go_wp2_with fail
              refine (fetch_at _ _ _ _ _ _ m _ _ M5.out.mem (by omega)).mono ?_
              rw [HFE.out, HCC.out]
              rintro e w6 ⟨rfl, bb⟩
              have M6 := Lib.hid (M5.out.keep bb)
              have S6 := Lib.hid (S5.out.keep bb)
              have X6 := Lib.hid (X5.out.keep bb)
              have R6 := Lib.hid (R5.out.keep bb)
              have B6 := Lib.hid (below_then B5.out bb)
              clear bb cM0 cM1 M5 S5 X5 R5 B5
              go_wp2_with fail
              go_ret
              exact ⟨rfl, B6.out⟩
end Go.Proofs.Ytngmkbbeafefaaa
