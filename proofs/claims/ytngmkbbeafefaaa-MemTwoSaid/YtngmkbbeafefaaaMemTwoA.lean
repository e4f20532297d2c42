/- The walk of MemTwo. -/
import Derived.Test.YtngmkbbeafefaaaMemTextsA
import Derived.Test.YtngmkbbeafefaaaMemMath
namespace Go.Proofs.Ytngmkbbeafefaaa
open Go.RowKit
set_option linter.unusedVariables false
set_option linter.unusedSimpArgs false

set_option maxRecDepth 100000 in
set_option maxHeartbeats 16000000 in
theorem two_early (A P Ab Ac : Option Addr) (L c K d nb cb nc cc : Nat) (m : PM) (bs cs : List UInt8) (p t : Int) (w : World) (HM : Hid (IsMem w (.agg #[.slice A L c, .slice P K d]) m)) (HU : Hid (Byt w (.slice Ab nb cb) bs)) (HV : Hid (Byt w (.slice Ac nc cc) cs)) (hnb : nb ≤ 9223372036854775807) (hnc : nc ≤ 9223372036854775807) (H0 : (fewB m 600 && rightB m) = false ∨ 100 < nb ∨ 100 < nc) :
    Calls Try.prog 10 #[.agg #[.slice A L c, .slice P K d, .int .i64 p, .int .i64 t, .slice Ab nb cb, .slice Ac nc cc]] w fun e w' => e = .returned (.bool true) ∧ Below w.heap.size w w' := by
  cases hmay : (fewB m 600 && rightB m) with
  | false =>
    go_enter Try.func10, Try.ntmps10
    go_wp2_with fail
    refine (shown_any _).mono ?_
    rintro e w1 ⟨rfl, bb⟩
    have M1 := Lib.hid ((start6 HM.out _).keep bb)
    have U1 := Lib.hid ((HU.out.keep (((Below.refl _ w).alloc (Nat.le_refl _) _).alloc (by simp) _)).keep bb)
    have V1 := Lib.hid ((HV.out.keep (((Below.refl _ w).alloc (Nat.le_refl _) _).alloc (by simp) _)).keep bb)
    have B1 := Lib.hid (below_two bb)
    clear bb
    obtain ⟨cM0, cM1⟩ := M1.out.use
    go_wp2_with fail
    refine (may_at _ _ _ _ _ _ m _ M1.out.mem).mono ?_
    rw [hmay]
    rintro e w2 ⟨rfl, bb⟩
    have M2 := Lib.hid (M1.out.keep bb)
    have U2 := Lib.hid (U1.out.keep bb)
    have V2 := Lib.hid (V1.out.keep bb)
    have B2 := Lib.hid (below_then B1.out bb)
    clear bb cM0 cM1 M1 U1 V1 B1
    go_wp2_with fail
    go_ret
    exact ⟨rfl, B2.out⟩
  | true =>
    have H1 : 100 < nb ∨ 100 < nc := by
      rcases H0 with h | h
      · rw [hmay] at h; cases h
      · exact h
    clear H0
    by_cases h1 : 100 < nb
    · have h1' : (100 : Int) < (nb : Int) := by omega
      clear H1
      go_enter Try.func10, Try.ntmps10
      go_wp2_with fail
      refine (shown_any _).mono ?_
      rintro e w1 ⟨rfl, bb⟩
      have M1 := Lib.hid ((start6 HM.out _).keep bb)
      have U1 := Lib.hid ((HU.out.keep (((Below.refl _ w).alloc (Nat.le_refl _) _).alloc (by simp) _)).keep bb)
      have V1 := Lib.hid ((HV.out.keep (((Below.refl _ w).alloc (Nat.le_refl _) _).alloc (by simp) _)).keep bb)
      have B1 := Lib.hid (below_two bb)
      clear bb
      obtain ⟨cM0, cM1⟩ := M1.out.use
      go_wp2_with fail
      refine (may_at _ _ _ _ _ _ m _ M1.out.mem).mono ?_
      rw [hmay]
      rintro e w2 ⟨rfl, bb⟩
      have M2 := Lib.hid (M1.out.keep bb)
      have U2 := Lib.hid (U1.out.keep bb)
      have V2 := Lib.hid (V1.out.keep bb)
      have B2 := Lib.hid (below_then B1.out bb)
      clear bb cM0 cM1 M1 U1 V1 B1
      go_wp2_with fail
      go_ret
      exact ⟨rfl, B2.out⟩
    · have h1' : decide ((100 : Int) < (nb : Int)) = false := by simp; omega
      have h2' : (100 : Int) < (nc : Int) := by omega
      clear H1
      go_enter Try.func10, Try.ntmps10
      go_wp2_with fail
      refine (shown_any _).mono ?_
      rintro e w1 ⟨rfl, bb⟩
      have M1 := Lib.hid ((start6 HM.out _).keep bb)
      have U1 := Lib.hid ((HU.out.keep (((Below.refl _ w).alloc (Nat.le_refl _) _).alloc (by simp) _)).keep bb)
      have V1 := Lib.hid ((HV.out.keep (((Below.refl _ w).alloc (Nat.le_refl _) _).alloc (by simp) _)).keep bb)
      have B1 := Lib.hid (below_two bb)
      clear bb
      obtain ⟨cM0, cM1⟩ := M1.out.use
      go_wp2_with fail
      refine (may_at _ _ _ _ _ _ m _ M1.out.mem).mono ?_
      rw [hmay]
      rintro e w2 ⟨rfl, bb⟩
      have M2 := Lib.hid (M1.out.keep bb)
      have U2 := Lib.hid (U1.out.keep bb)
      have V2 := Lib.hid (V1.out.keep bb)
      have B2 := Lib.hid (below_then B1.out bb)
      clear bb cM0 cM1 M1 U1 V1 B1
      go_wp2_with fail
      go_ret
      exact ⟨rfl, B2.out⟩
set_option maxRecDepth 100000 in
set_option maxHeartbeats 16000000 in
theorem two_nn (A P Ab Ac : Option Addr) (L c K d nb cb nc cc : Nat) (m : PM) (bs cs : List UInt8) (p t : Int) (w : World) (HM : Hid (IsMem w (.agg #[.slice A L c, .slice P K d]) m)) (HU : Hid (Byt w (.slice Ab nb cb) bs)) (HV : Hid (Byt w (.slice Ac nc cc) cs)) (hnb : nb ≤ 9223372036854775807) (hnc : nc ≤ 9223372036854775807) (X1 Y1 G1 Q1 : PM) (hmay : (fewB m 600 && rightB m) = true) (h1 : decide ((100 : Int) < (nb : Int)) = false) (h2 : decide ((100 : Int) < (nc : Int)) = false) (HX1 : Hid (writeF m p bs = X1)) (HY1 : Hid (writeF X1 t cs = Y1)) (HP1 : Hid (writeF m t cs = G1)) (HQ1 : Hid (writeF G1 p bs = Q1)) (HF1 : Hid (codeF (okB m.1.length p bs.length) = (-9))) (HF2 : Hid (codeF (okB m.1.length t cs.length) = (-9))) (HF3 : Hid (codeF (okB X1.1.length t cs.length) = (-9))) (HF4 : Hid (codeF (okB G1.1.length p bs.length) = (-9))) (HBL : Hid (bs.length ≤ 65536)) (HCL : Hid (cs.length ≤ 65536)) (HML : Hid (m.1.length ≤ 65536 ∧ m.2.length < 1000)) (HML1 : Hid (X1.1.length ≤ 65536 ∧ X1.2.length < 1000)) (HML2 : Hid (G1.1.length ≤ 65536 ∧ G1.2.length < 1000)) :
    Calls Try.prog 10 #[.agg #[.slice A L c, .slice P K d, .int .i64 p, .int .i64 t, .slice Ab nb cb, .slice Ac nc cc]] w fun e w' => e = .returned (.bool true) ∧ Below w.heap.size w w' := by
  go_enter Try.func10, Try.ntmps10
  go_wp2_with fail
  refine (shown_any _).mono ?_
  rintro e w1 ⟨rfl, bb⟩
  have M1 := Lib.hid ((start6 HM.out _).keep bb)
  have U1 := Lib.hid ((HU.out.keep (((Below.refl _ w).alloc (Nat.le_refl _) _).alloc (by simp) _)).keep bb)
  have V1 := Lib.hid ((HV.out.keep (((Below.refl _ w).alloc (Nat.le_refl _) _).alloc (by simp) _)).keep bb)
  have B1 := Lib.hid (below_two bb)
  clear bb
  obtain ⟨cM0, cM1⟩ := M1.out.use
  go_wp2_with fail
  refine (may_at _ _ _ _ _ _ m _ M1.out.mem).mono ?_
  rw [hmay]
  rintro e w2 ⟨rfl, bb⟩
  have M2 := Lib.hid (M1.out.keep bb)
  have U2 := Lib.hid (U1.out.keep bb)
  have V2 := Lib.hid (V1.out.keep bb)
  have B2 := Lib.hid (below_then B1.out bb)
  clear bb cM0 cM1 M1 U1 V1 B1
  obtain ⟨cM0, cM1⟩ := M2.out.use
  go_wp2_with fail
  refine (write_sl _ _ m bs _ _ M2.out.mem U2.out HML.out.1 HML.out.2 HBL.out).mono ?_
  rw [HF1.out, HX1.out]
  rintro e w3 ⟨A1, L1, c1, P1, K1, d1, rfl, hx1, bb⟩
  have Mp := Lib.hid (M2.out.keep bb)
  have M3 := Lib.hid (Mp.out.keep (al_one _ (.cells #[.slice A1 L1 c1, .slice P1 K1 d1] 25)))
  have Up := Lib.hid (U2.out.keep bb)
  have U3 := Lib.hid (Up.out.keep (al_one _ (.cells #[.slice A1 L1 c1, .slice P1 K1 d1] 25)))
  have Vp := Lib.hid (V2.out.keep bb)
  have V3 := Lib.hid (Vp.out.keep (al_one _ (.cells #[.slice A1 L1 c1, .slice P1 K1 d1] 25)))
  have B3 := Lib.hid (below_then (below_then B2.out bb) (al_one _ (.cells #[.slice A1 L1 c1, .slice P1 K1 d1] 25)))
  have X3 := Lib.hid (at_new hx1)
  clear bb cM0 cM1 M2 U2 V2 B2 hx1
  go_wp2_with fail
  refine (write_sl _ _ X1 cs _ _ X3.out.mem V3.out HML1.out.1 HML1.out.2 HCL.out).mono ?_
  rw [HF3.out, HY1.out]
  rintro e w4 ⟨A2, L2, c2, P2, K2, d2, rfl, hx2, bb⟩
  clear Mp Up Vp
  have Mp := Lib.hid (M3.out.keep bb)
  have M4 := Lib.hid (Mp.out.keep (al_one _ (.cells #[.slice A2 L2 c2, .slice P2 K2 d2] 25)))
  have Up := Lib.hid (U3.out.keep bb)
  have U4 := Lib.hid (Up.out.keep (al_one _ (.cells #[.slice A2 L2 c2, .slice P2 K2 d2] 25)))
  have Vp := Lib.hid (V3.out.keep bb)
  have V4 := Lib.hid (Vp.out.keep (al_one _ (.cells #[.slice A2 L2 c2, .slice P2 K2 d2] 25)))
  have Xp := Lib.hid (X3.out.keep bb)
  have X4 := Lib.hid (Xp.out.keep (al_one _ (.cells #[.slice A2 L2 c2, .slice P2 K2 d2] 25)))
  have B4 := Lib.hid (below_then (below_then B3.out bb) (al_one _ (.cells #[.slice A2 L2 c2, .slice P2 K2 d2] 25)))
  have Y4 := Lib.hid (at_new hx2)
  clear bb M3 U3 V3 X3 B3 hx2
  obtain ⟨cM0, cM1⟩ := Mp.out.use
  have lM := Mp.out.lt
  go_wp2_with fail
  refine (write_sl _ _ m cs _ _ M4.out.mem V4.out HML.out.1 HML.out.2 HCL.out).mono ?_
  rw [HF2.out, HP1.out]
  rintro e w5 ⟨A3, L3, c3, P3, K3, d3, rfl, hx3, bb⟩
  clear Mp Up Vp Xp
  have Mp := Lib.hid (M4.out.keep bb)
  have M5 := Lib.hid (Mp.out.keep (al_one _ (.cells #[.slice A3 L3 c3, .slice P3 K3 d3] 25)))
  have Up := Lib.hid (U4.out.keep bb)
  have U5 := Lib.hid (Up.out.keep (al_one _ (.cells #[.slice A3 L3 c3, .slice P3 K3 d3] 25)))
  have Vp := Lib.hid (V4.out.keep bb)
  have V5 := Lib.hid (Vp.out.keep (al_one _ (.cells #[.slice A3 L3 c3, .slice P3 K3 d3] 25)))
  have Xp := Lib.hid (X4.out.keep bb)
  have X5 := Lib.hid (Xp.out.keep (al_one _ (.cells #[.slice A3 L3 c3, .slice P3 K3 d3] 25)))
  have Yp := Lib.hid (Y4.out.keep bb)
  have Y5 := Lib.hid (Yp.out.keep (al_one _ (.cells #[.slice A3 L3 c3, .slice P3 K3 d3] 25)))
  have B5 := Lib.hid (below_then (below_then B4.out bb) (al_one _ (.cells #[.slice A3 L3 c3, .slice P3 K3 d3] 25)))
  have Pm5 := Lib.hid (at_new hx3)
  clear bb cM0 cM1 lM M4 U4 V4 X4 Y4 B4 hx3
  go_wp2_with fail
  refine (write_sl _ _ G1 bs _ _ Pm5.out.mem U5.out HML2.out.1 HML2.out.2 HBL.out).mono ?_
  rw [HF4.out, HQ1.out]
  rintro e w6 ⟨A4, L4, c4, P4, K4, d4, rfl, hx4, bb⟩
  clear Mp Up Vp Xp Yp
  have Mp := Lib.hid (M5.out.keep bb)
  have M6 := Lib.hid (Mp.out.keep (al_one _ (.cells #[.slice A4 L4 c4, .slice P4 K4 d4] 25)))
  have Up := Lib.hid (U5.out.keep bb)
  have U6 := Lib.hid (Up.out.keep (al_one _ (.cells #[.slice A4 L4 c4, .slice P4 K4 d4] 25)))
  have Vp := Lib.hid (V5.out.keep bb)
  have V6 := Lib.hid (Vp.out.keep (al_one _ (.cells #[.slice A4 L4 c4, .slice P4 K4 d4] 25)))
  have Xp := Lib.hid (X5.out.keep bb)
  have X6 := Lib.hid (Xp.out.keep (al_one _ (.cells #[.slice A4 L4 c4, .slice P4 K4 d4] 25)))
  have Yp := Lib.hid (Y5.out.keep bb)
  have Y6 := Lib.hid (Yp.out.keep (al_one _ (.cells #[.slice A4 L4 c4, .slice P4 K4 d4] 25)))
  have Pmp := Lib.hid (Pm5.out.keep bb)
  have Pm6 := Lib.hid (Pmp.out.keep (al_one _ (.cells #[.slice A4 L4 c4, .slice P4 K4 d4] 25)))
  have B6 := Lib.hid (below_then (below_then B5.out bb) (al_one _ (.cells #[.slice A4 L4 c4, .slice P4 K4 d4] 25)))
  have Q6 := Lib.hid (at_new hx4)
  clear bb M5 U5 V5 X5 Y5 Pm5 B5 hx4
  go_wp2_with fail
  go_ret
  exact ⟨rfl, B6.out⟩
set_option maxRecDepth 100000 in
set_option maxHeartbeats 16000000 in
theorem two_ny (A P Ab Ac : Option Addr) (L c K d nb cb nc cc : Nat) (m : PM) (bs cs : List UInt8) (p t : Int) (w : World) (HM : Hid (IsMem w (.agg #[.slice A L c, .slice P K d]) m)) (HU : Hid (Byt w (.slice Ab nb cb) bs)) (HV : Hid (Byt w (.slice Ac nc cc) cs)) (hnb : nb ≤ 9223372036854775807) (hnc : nc ≤ 9223372036854775807) (X1 Y1 G1 Q1 : PM) (hmay : (fewB m 600 && rightB m) = true) (h1 : decide ((100 : Int) < (nb : Int)) = false) (h2 : decide ((100 : Int) < (nc : Int)) = false) (HX1 : Hid (writeF m p bs = X1)) (HY1 : Hid (writeF X1 t cs = Y1)) (HP1 : Hid (writeF m t cs = G1)) (HQ1 : Hid (writeF G1 p bs = Q1)) (HF1 : Hid (codeF (okB m.1.length p bs.length) = (-9))) (HF2 : Hid (codeF (okB m.1.length t cs.length) = 0)) (HF3 : Hid (codeF (okB X1.1.length t cs.length) = 0)) (HF4 : Hid (codeF (okB G1.1.length p bs.length) = (-9))) (HBL : Hid (bs.length ≤ 65536)) (HCL : Hid (cs.length ≤ 65536)) (HML : Hid (m.1.length ≤ 65536 ∧ m.2.length < 1000)) (HML1 : Hid (X1.1.length ≤ 65536 ∧ X1.2.length < 1000)) (HML2 : Hid (G1.1.length ≤ 65536 ∧ G1.2.length < 1000)) :
    Calls Try.prog 10 #[.agg #[.slice A L c, .slice P K d, .int .i64 p, .int .i64 t, .slice Ab nb cb, .slice Ac nc cc]] w fun e w' => e = .returned (.bool true) ∧ Below w.heap.size w w' := by
  go_enter Try.func10, Try.ntmps10
  go_wp2_with fail
  refine (shown_any _).mono ?_
  rintro e w1 ⟨rfl, bb⟩
  have M1 := Lib.hid ((start6 HM.out _).keep bb)
  have U1 := Lib.hid ((HU.out.keep (((Below.refl _ w).alloc (Nat.le_refl _) _).alloc (by simp) _)).keep bb)
  have V1 := Lib.hid ((HV.out.keep (((Below.refl _ w).alloc (Nat.le_refl _) _).alloc (by simp) _)).keep bb)
  have B1 := Lib.hid (below_two bb)
  clear bb
  obtain ⟨cM0, cM1⟩ := M1.out.use
  go_wp2_with fail
  refine (may_at _ _ _ _ _ _ m _ M1.out.mem).mono ?_
  rw [hmay]
  rintro e w2 ⟨rfl, bb⟩
  have M2 := Lib.hid (M1.out.keep bb)
  have U2 := Lib.hid (U1.out.keep bb)
  have V2 := Lib.hid (V1.out.keep bb)
  have B2 := Lib.hid (below_then B1.out bb)
  clear bb cM0 cM1 M1 U1 V1 B1
  obtain ⟨cM0, cM1⟩ := M2.out.use
  go_wp2_with fail
  refine (write_sl _ _ m bs _ _ M2.out.mem U2.out HML.out.1 HML.out.2 HBL.out).mono ?_
  rw [HF1.out, HX1.out]
  rintro e w3 ⟨A1, L1, c1, P1, K1, d1, rfl, hx1, bb⟩
  have Mp := Lib.hid (M2.out.keep bb)
  have M3 := Lib.hid (Mp.out.keep (al_one _ (.cells #[.slice A1 L1 c1, .slice P1 K1 d1] 25)))
  have Up := Lib.hid (U2.out.keep bb)
  have U3 := Lib.hid (Up.out.keep (al_one _ (.cells #[.slice A1 L1 c1, .slice P1 K1 d1] 25)))
  have Vp := Lib.hid (V2.out.keep bb)
  have V3 := Lib.hid (Vp.out.keep (al_one _ (.cells #[.slice A1 L1 c1, .slice P1 K1 d1] 25)))
  have B3 := Lib.hid (below_then (below_then B2.out bb) (al_one _ (.cells #[.slice A1 L1 c1, .slice P1 K1 d1] 25)))
  have X3 := Lib.hid (at_new hx1)
  clear bb cM0 cM1 M2 U2 V2 B2 hx1
  go_wp2_with fail
  refine (write_sl _ _ X1 cs _ _ X3.out.mem V3.out HML1.out.1 HML1.out.2 HCL.out).mono ?_
  rw [HF3.out, HY1.out]
  rintro e w4 ⟨A2, L2, c2, P2, K2, d2, rfl, hx2, bb⟩
  clear Mp Up Vp
  have Mp := Lib.hid (M3.out.keep bb)
  have M4 := Lib.hid (Mp.out.keep (al_one _ (.cells #[.slice A2 L2 c2, .slice P2 K2 d2] 25)))
  have Up := Lib.hid (U3.out.keep bb)
  have U4 := Lib.hid (Up.out.keep (al_one _ (.cells #[.slice A2 L2 c2, .slice P2 K2 d2] 25)))
  have Vp := Lib.hid (V3.out.keep bb)
  have V4 := Lib.hid (Vp.out.keep (al_one _ (.cells #[.slice A2 L2 c2, .slice P2 K2 d2] 25)))
  have Xp := Lib.hid (X3.out.keep bb)
  have X4 := Lib.hid (Xp.out.keep (al_one _ (.cells #[.slice A2 L2 c2, .slice P2 K2 d2] 25)))
  have B4 := Lib.hid (below_then (below_then B3.out bb) (al_one _ (.cells #[.slice A2 L2 c2, .slice P2 K2 d2] 25)))
  have Y4 := Lib.hid (at_new hx2)
  clear bb M3 U3 V3 X3 B3 hx2
  obtain ⟨cM0, cM1⟩ := Mp.out.use
  have lM := Mp.out.lt
  go_wp2_with fail
  refine (write_sl _ _ m cs _ _ M4.out.mem V4.out HML.out.1 HML.out.2 HCL.out).mono ?_
  rw [HF2.out, HP1.out]
  rintro e w5 ⟨A3, L3, c3, P3, K3, d3, rfl, hx3, bb⟩
  clear Mp Up Vp Xp
  have Mp := Lib.hid (M4.out.keep bb)
  have M5 := Lib.hid (Mp.out.keep (al_one _ (.cells #[.slice A3 L3 c3, .slice P3 K3 d3] 25)))
  have Up := Lib.hid (U4.out.keep bb)
  have U5 := Lib.hid (Up.out.keep (al_one _ (.cells #[.slice A3 L3 c3, .slice P3 K3 d3] 25)))
  have Vp := Lib.hid (V4.out.keep bb)
  have V5 := Lib.hid (Vp.out.keep (al_one _ (.cells #[.slice A3 L3 c3, .slice P3 K3 d3] 25)))
  have Xp := Lib.hid (X4.out.keep bb)
  have X5 := Lib.hid (Xp.out.keep (al_one _ (.cells #[.slice A3 L3 c3, .slice P3 K3 d3] 25)))
  have Yp := Lib.hid (Y4.out.keep bb)
  have Y5 := Lib.hid (Yp.out.keep (al_one _ (.cells #[.slice A3 L3 c3, .slice P3 K3 d3] 25)))
  have B5 := Lib.hid (below_then (below_then B4.out bb) (al_one _ (.cells #[.slice A3 L3 c3, .slice P3 K3 d3] 25)))
  have Pm5 := Lib.hid (at_new hx3)
  clear bb cM0 cM1 lM M4 U4 V4 X4 Y4 B4 hx3
  go_wp2_with fail
  refine (write_sl _ _ G1 bs _ _ Pm5.out.mem U5.out HML2.out.1 HML2.out.2 HBL.out).mono ?_
  rw [HF4.out, HQ1.out]
  rintro e w6 ⟨A4, L4, c4, P4, K4, d4, rfl, hx4, bb⟩
  clear Mp Up Vp Xp Yp
  have Mp := Lib.hid (M5.out.keep bb)
  have M6 := Lib.hid (Mp.out.keep (al_one _ (.cells #[.slice A4 L4 c4, .slice P4 K4 d4] 25)))
  have Up := Lib.hid (U5.out.keep bb)
  have U6 := Lib.hid (Up.out.keep (al_one _ (.cells #[.slice A4 L4 c4, .slice P4 K4 d4] 25)))
  have Vp := Lib.hid (V5.out.keep bb)
  have V6 := Lib.hid (Vp.out.keep (al_one _ (.cells #[.slice A4 L4 c4, .slice P4 K4 d4] 25)))
  have Xp := Lib.hid (X5.out.keep bb)
  have X6 := Lib.hid (Xp.out.keep (al_one _ (.cells #[.slice A4 L4 c4, .slice P4 K4 d4] 25)))
  have Yp := Lib.hid (Y5.out.keep bb)
  have Y6 := Lib.hid (Yp.out.keep (al_one _ (.cells #[.slice A4 L4 c4, .slice P4 K4 d4] 25)))
  have Pmp := Lib.hid (Pm5.out.keep bb)
  have Pm6 := Lib.hid (Pmp.out.keep (al_one _ (.cells #[.slice A4 L4 c4, .slice P4 K4 d4] 25)))
  have B6 := Lib.hid (below_then (below_then B5.out bb) (al_one _ (.cells #[.slice A4 L4 c4, .slice P4 K4 d4] 25)))
  have Q6 := Lib.hid (at_new hx4)
  clear bb M5 U5 V5 X5 Y5 Pm5 B5 hx4
  go_wp2_with fail
  go_ret
  exact ⟨rfl, B6.out⟩
set_option maxRecDepth 100000 in
set_option maxHeartbeats 16000000 in
theorem two_yn (A P Ab Ac : Option Addr) (L c K d nb cb nc cc : Nat) (m : PM) (bs cs : List UInt8) (p t : Int) (w : World) (HM : Hid (IsMem w (.agg #[.slice A L c, .slice P K d]) m)) (HU : Hid (Byt w (.slice Ab nb cb) bs)) (HV : Hid (Byt w (.slice Ac nc cc) cs)) (hnb : nb ≤ 9223372036854775807) (hnc : nc ≤ 9223372036854775807) (X1 Y1 G1 Q1 : PM) (hmay : (fewB m 600 && rightB m) = true) (h1 : decide ((100 : Int) < (nb : Int)) = false) (h2 : decide ((100 : Int) < (nc : Int)) = false) (HX1 : Hid (writeF m p bs = X1)) (HY1 : Hid (writeF X1 t cs = Y1)) (HP1 : Hid (writeF m t cs = G1)) (HQ1 : Hid (writeF G1 p bs = Q1)) (HF1 : Hid (codeF (okB m.1.length p bs.length) = 0)) (HF2 : Hid (codeF (okB m.1.length t cs.length) = (-9))) (HF3 : Hid (codeF (okB X1.1.length t cs.length) = (-9))) (HF4 : Hid (codeF (okB G1.1.length p bs.length) = 0)) (HBL : Hid (bs.length ≤ 65536)) (HCL : Hid (cs.length ≤ 65536)) (HML : Hid (m.1.length ≤ 65536 ∧ m.2.length < 1000)) (HML1 : Hid (X1.1.length ≤ 65536 ∧ X1.2.length < 1000)) (HML2 : Hid (G1.1.length ≤ 65536 ∧ G1.2.length < 1000)) :
    Calls Try.prog 10 #[.agg #[.slice A L c, .slice P K d, .int .i64 p, .int .i64 t, .slice Ab nb cb, .slice Ac nc cc]] w fun e w' => e = .returned (.bool true) ∧ Below w.heap.size w w' := by
  go_enter Try.func10, Try.ntmps10
  go_wp2_with fail
  refine (shown_any _).mono ?_
  rintro e w1 ⟨rfl, bb⟩
  have M1 := Lib.hid ((start6 HM.out _).keep bb)
  have U1 := Lib.hid ((HU.out.keep (((Below.refl _ w).alloc (Nat.le_refl _) _).alloc (by simp) _)).keep bb)
  have V1 := Lib.hid ((HV.out.keep (((Below.refl _ w).alloc (Nat.le_refl _) _).alloc (by simp) _)).keep bb)
  have B1 := Lib.hid (below_two bb)
  clear bb
  obtain ⟨cM0, cM1⟩ := M1.out.use
  go_wp2_with fail
  refine (may_at _ _ _ _ _ _ m _ M1.out.mem).mono ?_
  rw [hmay]
  rintro e w2 ⟨rfl, bb⟩
  have M2 := Lib.hid (M1.out.keep bb)
  have U2 := Lib.hid (U1.out.keep bb)
  have V2 := Lib.hid (V1.out.keep bb)
  have B2 := Lib.hid (below_then B1.out bb)
  clear bb cM0 cM1 M1 U1 V1 B1
  obtain ⟨cM0, cM1⟩ := M2.out.use
  go_wp2_with fail
  refine (write_sl _ _ m bs _ _ M2.out.mem U2.out HML.out.1 HML.out.2 HBL.out).mono ?_
  rw [HF1.out, HX1.out]
  rintro e w3 ⟨A1, L1, c1, P1, K1, d1, rfl, hx1, bb⟩
  have Mp := Lib.hid (M2.out.keep bb)
  have M3 := Lib.hid (Mp.out.keep (al_one _ (.cells #[.slice A1 L1 c1, .slice P1 K1 d1] 25)))
  have Up := Lib.hid (U2.out.keep bb)
  have U3 := Lib.hid (Up.out.keep (al_one _ (.cells #[.slice A1 L1 c1, .slice P1 K1 d1] 25)))
  have Vp := Lib.hid (V2.out.keep bb)
  have V3 := Lib.hid (Vp.out.keep (al_one _ (.cells #[.slice A1 L1 c1, .slice P1 K1 d1] 25)))
  have B3 := Lib.hid (below_then (below_then B2.out bb) (al_one _ (.cells #[.slice A1 L1 c1, .slice P1 K1 d1] 25)))
  have X3 := Lib.hid (at_new hx1)
  clear bb cM0 cM1 M2 U2 V2 B2 hx1
  go_wp2_with fail
  refine (write_sl _ _ X1 cs _ _ X3.out.mem V3.out HML1.out.1 HML1.out.2 HCL.out).mono ?_
  rw [HF3.out, HY1.out]
  rintro e w4 ⟨A2, L2, c2, P2, K2, d2, rfl, hx2, bb⟩
  clear Mp Up Vp
  have Mp := Lib.hid (M3.out.keep bb)
  have M4 := Lib.hid (Mp.out.keep (al_one _ (.cells #[.slice A2 L2 c2, .slice P2 K2 d2] 25)))
  have Up := Lib.hid (U3.out.keep bb)
  have U4 := Lib.hid (Up.out.keep (al_one _ (.cells #[.slice A2 L2 c2, .slice P2 K2 d2] 25)))
  have Vp := Lib.hid (V3.out.keep bb)
  have V4 := Lib.hid (Vp.out.keep (al_one _ (.cells #[.slice A2 L2 c2, .slice P2 K2 d2] 25)))
  have Xp := Lib.hid (X3.out.keep bb)
  have X4 := Lib.hid (Xp.out.keep (al_one _ (.cells #[.slice A2 L2 c2, .slice P2 K2 d2] 25)))
  have B4 := Lib.hid (below_then (below_then B3.out bb) (al_one _ (.cells #[.slice A2 L2 c2, .slice P2 K2 d2] 25)))
  have Y4 := Lib.hid (at_new hx2)
  clear bb M3 U3 V3 X3 B3 hx2
  obtain ⟨cM0, cM1⟩ := Mp.out.use
  have lM := Mp.out.lt
  go_wp2_with fail
  refine (write_sl _ _ m cs _ _ M4.out.mem V4.out HML.out.1 HML.out.2 HCL.out).mono ?_
  rw [HF2.out, HP1.out]
  rintro e w5 ⟨A3, L3, c3, P3, K3, d3, rfl, hx3, bb⟩
  clear Mp Up Vp Xp
  have Mp := Lib.hid (M4.out.keep bb)
  have M5 := Lib.hid (Mp.out.keep (al_one _ (.cells #[.slice A3 L3 c3, .slice P3 K3 d3] 25)))
  have Up := Lib.hid (U4.out.keep bb)
  have U5 := Lib.hid (Up.out.keep (al_one _ (.cells #[.slice A3 L3 c3, .slice P3 K3 d3] 25)))
  have Vp := Lib.hid (V4.out.keep bb)
  have V5 := Lib.hid (Vp.out.keep (al_one _ (.cells #[.slice A3 L3 c3, .slice P3 K3 d3] 25)))
  have Xp := Lib.hid (X4.out.keep bb)
  have X5 := Lib.hid (Xp.out.keep (al_one _ (.cells #[.slice A3 L3 c3, .slice P3 K3 d3] 25)))
  have Yp := Lib.hid (Y4.out.keep bb)
  have Y5 := Lib.hid (Yp.out.keep (al_one _ (.cells #[.slice A3 L3 c3, .slice P3 K3 d3] 25)))
  have B5 := Lib.hid (below_then (below_then B4.out bb) (al_one _ (.cells #[.slice A3 L3 c3, .slice P3 K3 d3] 25)))
  have Pm5 := Lib.hid (at_new hx3)
  clear bb cM0 cM1 lM M4 U4 V4 X4 Y4 B4 hx3
  go_wp2_with fail
  refine (write_sl _ _ G1 bs _ _ Pm5.out.mem U5.out HML2.out.1 HML2.out.2 HBL.out).mono ?_
  rw [HF4.out, HQ1.out]
  rintro e w6 ⟨A4, L4, c4, P4, K4, d4, rfl, hx4, bb⟩
  clear Mp Up Vp Xp Yp
  have Mp := Lib.hid (M5.out.keep bb)
  have M6 := Lib.hid (Mp.out.keep (al_one _ (.cells #[.slice A4 L4 c4, .slice P4 K4 d4] 25)))
  have Up := Lib.hid (U5.out.keep bb)
  have U6 := Lib.hid (Up.out.keep (al_one _ (.cells #[.slice A4 L4 c4, .slice P4 K4 d4] 25)))
  have Vp := Lib.hid (V5.out.keep bb)
  have V6 := Lib.hid (Vp.out.keep (al_one _ (.cells #[.slice A4 L4 c4, .slice P4 K4 d4] 25)))
  have Xp := Lib.hid (X5.out.keep bb)
  have X6 := Lib.hid (Xp.out.keep (al_one _ (.cells #[.slice A4 L4 c4, .slice P4 K4 d4] 25)))
  have Yp := Lib.hid (Y5.out.keep bb)
  have Y6 := Lib.hid (Yp.out.keep (al_one _ (.cells #[.slice A4 L4 c4, .slice P4 K4 d4] 25)))
  have Pmp := Lib.hid (Pm5.out.keep bb)
  have Pm6 := Lib.hid (Pmp.out.keep (al_one _ (.cells #[.slice A4 L4 c4, .slice P4 K4 d4] 25)))
  have B6 := Lib.hid (below_then (below_then B5.out bb) (al_one _ (.cells #[.slice A4 L4 c4, .slice P4 K4 d4] 25)))
  have Q6 := Lib.hid (at_new hx4)
  clear bb M5 U5 V5 X5 Y5 Pm5 B5 hx4
  go_wp2_with fail
  go_ret
  exact ⟨rfl, B6.out⟩
end Go.Proofs.Ytngmkbbeafefaaa
