/- The walk of MemHolds: the early ways, and those where no cell is stored. -/
import Derived.Test.YtngmkbbeafefaaaMemTextsA
import Derived.Test.YtngmkbbeafefaaaMemMath
namespace Go.Proofs.Ytngmkbbeafefaaa
open Go.RowKit
set_option linter.unusedVariables false
set_option linter.unusedSimpArgs false

set_option maxRecDepth 100000 in
set_option maxHeartbeats 16000000 in
theorem holds_early (A P Ab : Option Addr) (L c K d nb cb : Nat) (m : PM) (bs : List UInt8) (p n o : Int) (w : World) (HM : Hid (IsMem w (.agg #[.slice A L c, .slice P K d]) m)) (HU : Hid (Byt w (.slice Ab nb cb) bs)) (hnb : nb ≤ 9223372036854775807) (H0 : (fewB m 600 && rightB m) = false ∨ 200 < nb) :
    Calls Try.prog 7 #[.agg #[.slice A L c, .slice P K d, .int .i64 p, .int .i64 n, .slice Ab nb cb, .int .i64 o]] w fun e w' => e = .returned (.bool true) ∧ Below w.heap.size w w' := by
  cases hmay : (fewB m 600 && rightB m) with
  | false =>
    go_enter Try.func7, Try.ntmps7
    go_wp2_with fail
    refine (shown_any _).mono ?_
    rintro e w1 ⟨rfl, bb⟩
    have M1 := Lib.hid ((start6 HM.out _).keep bb)
    have U1 := Lib.hid ((HU.out.keep (((Below.refl _ w).alloc (Nat.le_refl _) _).alloc (by simp) _)).keep bb)
    have B1 := Lib.hid (below_two bb)
    clear bb
    obtain ⟨cM0, cM1⟩ := M1.out.use
    go_wp2_with fail
    refine (may_at _ _ _ _ _ _ m _ M1.out.mem).mono ?_
    rw [hmay]
    rintro e w2 ⟨rfl, bb⟩
    have M2 := Lib.hid (M1.out.keep bb)
    have U2 := Lib.hid (U1.out.keep bb)
    have B2 := Lib.hid (below_then B1.out bb)
    clear bb cM0 cM1 M1 U1 B1
    go_wp2_with fail
    go_ret
    exact ⟨rfl, B2.out⟩
  | true =>
    have h1 : (200 : Int) < (nb : Int) := by
      rcases H0 with h | h
      · rw [hmay] at h; cases h
      · omega
    clear H0
    go_enter Try.func7, Try.ntmps7
    go_wp2_with fail
    refine (shown_any _).mono ?_
    rintro e w1 ⟨rfl, bb⟩
    have M1 := Lib.hid ((start6 HM.out _).keep bb)
    have U1 := Lib.hid ((HU.out.keep (((Below.refl _ w).alloc (Nat.le_refl _) _).alloc (by simp) _)).keep bb)
    have B1 := Lib.hid (below_two bb)
    clear bb
    obtain ⟨cM0, cM1⟩ := M1.out.use
    go_wp2_with fail
    refine (may_at _ _ _ _ _ _ m _ M1.out.mem).mono ?_
    rw [hmay]
    rintro e w2 ⟨rfl, bb⟩
    have M2 := Lib.hid (M1.out.keep bb)
    have U2 := Lib.hid (U1.out.keep bb)
    have B2 := Lib.hid (below_then B1.out bb)
    clear bb cM0 cM1 M1 U1 B1
    go_wp2_with fail
    go_ret
    exact ⟨rfl, B2.out⟩
set_option maxRecDepth 100000 in
set_option maxHeartbeats 16000000 in
theorem holds_no_no (A P Ab : Option Addr) (L c K d nb cb : Nat) (m : PM) (bs : List UInt8) (p n o : Int) (w : World) (HM : Hid (IsMem w (.agg #[.slice A L c, .slice P K d]) m)) (HU : Hid (Byt w (.slice Ab nb cb) bs)) (hnb : nb ≤ 9223372036854775807) (X1 Y1 : PM) (bm bx bz Eo C : Int) (hmay : (fewB m 600 && rightB m) = true) (h1 : decide ((200 : Int) < (nb : Int)) = false) (hL : L ≤ 600) (hK : K ≤ 60) (HX1 : Hid (storeF m p n = X1)) (HY1 : Hid (writeF m p bs = Y1)) (HXL : Hid (X1.1.length = L)) (HYL : Hid (Y1.1.length = L)) (HC : Hid (cellC L p = C)) (HE : Hid (codeF (okB m.1.length p bs.length) = (-9))) (HBL : Hid (bs.length ≤ 65536)) (HML : Hid (m.1.length ≤ 65536 ∧ m.2.length < 1000)) (HO : Hid (codeF (okB L o 1) = Eo)) (HBM : Hid (byteF m o = bm)) (hC : (C == 0) = false) (HYM : Hid (Y1 = m)) :
    Calls Try.prog 7 #[.agg #[.slice A L c, .slice P K d, .int .i64 p, .int .i64 n, .slice Ab nb cb, .int .i64 o]] w fun e w' => e = .returned (.bool true) ∧ Below w.heap.size w w' := by
  go_enter Try.func7, Try.ntmps7
  go_wp2_with fail
  refine (shown_any _).mono ?_
  rintro e w1 ⟨rfl, bb⟩
  have M1 := Lib.hid ((start6 HM.out _).keep bb)
  have U1 := Lib.hid ((HU.out.keep (((Below.refl _ w).alloc (Nat.le_refl _) _).alloc (by simp) _)).keep bb)
  have B1 := Lib.hid (below_two bb)
  clear bb
  obtain ⟨cM0, cM1⟩ := M1.out.use
  go_wp2_with fail
  refine (may_at _ _ _ _ _ _ m _ M1.out.mem).mono ?_
  rw [hmay]
  rintro e w2 ⟨rfl, bb⟩
  have M2 := Lib.hid (M1.out.keep bb)
  have U2 := Lib.hid (U1.out.keep bb)
  have B2 := Lib.hid (below_then B1.out bb)
  clear bb cM0 cM1 M1 U1 B1
  obtain ⟨cM0, cM1⟩ := M2.out.use
  go_wp2_with fail
  refine (store_at _ _ _ _ _ _ m _ _ _ M2.out.mem (by omega) (by omega)).mono ?_
  rw [HC.out, HX1.out]
  rintro e w3 ⟨A1, L1, c1, P1, K1, d1, rfl, hx1, bb⟩
  have Mp := Lib.hid (M2.out.keep bb)
  have M3 := Lib.hid (Mp.out.keep (al_one _ (.cells #[.slice A1 L1 c1, .slice P1 K1 d1] 25)))
  have Up := Lib.hid (U2.out.keep bb)
  have U3 := Lib.hid (Up.out.keep (al_one _ (.cells #[.slice A1 L1 c1, .slice P1 K1 d1] 25)))
  have B3 := Lib.hid (below_then (below_then B2.out bb) (al_one _ (.cells #[.slice A1 L1 c1, .slice P1 K1 d1] 25)))
  have X3 := Lib.hid (at_new hx1)
  clear bb cM0 cM1 M2 U2 B2 hx1
  have hl : L = L1 := HXL.out.symm.trans X3.out.mem.len1
  subst hl
  obtain ⟨cM0, cM1⟩ := Mp.out.use
  have lM := Mp.out.lt
  go_wp2_with fail
  refine (write_sl _ _ m bs _ _ M3.out.mem U3.out HML.out.1 HML.out.2 HBL.out).mono ?_
  rw [HE.out, HY1.out]
  rintro e w4 ⟨A2, L2, c2, P2, K2, d2, rfl, hx2, bb⟩
  clear Mp Up
  have Mp := Lib.hid (M3.out.keep bb)
  have M4 := Lib.hid (Mp.out.keep (al_one _ (.cells #[.slice A2 L2 c2, .slice P2 K2 d2] 25)))
  have Up := Lib.hid (U3.out.keep bb)
  have U4 := Lib.hid (Up.out.keep (al_one _ (.cells #[.slice A2 L2 c2, .slice P2 K2 d2] 25)))
  have Xp := Lib.hid (X3.out.keep bb)
  have X4 := Lib.hid (Xp.out.keep (al_one _ (.cells #[.slice A2 L2 c2, .slice P2 K2 d2] 25)))
  have B4 := Lib.hid (below_then (below_then B3.out bb) (al_one _ (.cells #[.slice A2 L2 c2, .slice P2 K2 d2] 25)))
  have Y4 := Lib.hid (at_new hx2)
  clear bb cM0 cM1 lM M3 U3 X3 B3 hx2
  have hl : L = L2 := HYL.out.symm.trans Y4.out.mem.len1
  subst hl
  obtain ⟨cM0, cM1⟩ := Mp.out.use
  have lM := Mp.out.lt
  go_wp2_with fail
  refine (rsame_eq _ _ _ _ _ _ _ _ _ _ _ _ m _ (HYM.out ▸ Y4.out.mem) M4.out.mem).mono ?_
  rintro e w5 ⟨rfl, bb⟩
  clear Mp Up Xp
  have M5 := Lib.hid (M4.out.keep bb)
  have U5 := Lib.hid (U4.out.keep bb)
  have X5 := Lib.hid (X4.out.keep bb)
  have Y5 := Lib.hid (Y4.out.keep bb)
  have B5 := Lib.hid (below_then B4.out bb)
  clear bb cM0 cM1 lM M4 U4 X4 Y4 B4
  go_wp2_with fail
  go_ret
  exact ⟨rfl, B5.out⟩
set_option maxRecDepth 100000 in
set_option maxHeartbeats 16000000 in
theorem holds_no_nil (A P Ab : Option Addr) (L c K d nb cb : Nat) (m : PM) (bs : List UInt8) (p n o : Int) (w : World) (HM : Hid (IsMem w (.agg #[.slice A L c, .slice P K d]) m)) (HU : Hid (Byt w (.slice Ab nb cb) bs)) (hnb : nb ≤ 9223372036854775807) (X1 Y1 : PM) (bm bx bz Eo C : Int) (hmay : (fewB m 600 && rightB m) = true) (h1 : decide ((200 : Int) < (nb : Int)) = false) (hL : L ≤ 600) (hK : K ≤ 60) (HX1 : Hid (storeF m p n = X1)) (HY1 : Hid (writeF m p bs = Y1)) (HXL : Hid (X1.1.length = L)) (HYL : Hid (Y1.1.length = L)) (HC : Hid (cellC L p = C)) (HE : Hid (codeF (okB m.1.length p bs.length) = 0)) (HBL : Hid (bs.length ≤ 65536)) (HML : Hid (m.1.length ≤ 65536 ∧ m.2.length < 1000)) (HO : Hid (codeF (okB L o 1) = Eo)) (HBM : Hid (byteF m o = bm)) (hC : (C == 0) = false) (HYM : Hid (Y1 = m)) (z0 : ((nb : Int) == 0) = true) :
    Calls Try.prog 7 #[.agg #[.slice A L c, .slice P K d, .int .i64 p, .int .i64 n, .slice Ab nb cb, .int .i64 o]] w fun e w' => e = .returned (.bool true) ∧ Below w.heap.size w w' := by
  go_enter Try.func7, Try.ntmps7
  go_wp2_with fail
  refine (shown_any _).mono ?_
  rintro e w1 ⟨rfl, bb⟩
  have M1 := Lib.hid ((start6 HM.out _).keep bb)
  have U1 := Lib.hid ((HU.out.keep (((Below.refl _ w).alloc (Nat.le_refl _) _).alloc (by simp) _)).keep bb)
  have B1 := Lib.hid (below_two bb)
  clear bb
  obtain ⟨cM0, cM1⟩ := M1.out.use
  go_wp2_with fail
  refine (may_at _ _ _ _ _ _ m _ M1.out.mem).mono ?_
  rw [hmay]
  rintro e w2 ⟨rfl, bb⟩
  have M2 := Lib.hid (M1.out.keep bb)
  have U2 := Lib.hid (U1.out.keep bb)
  have B2 := Lib.hid (below_then B1.out bb)
  clear bb cM0 cM1 M1 U1 B1
  obtain ⟨cM0, cM1⟩ := M2.out.use
  go_wp2_with fail
  refine (store_at _ _ _ _ _ _ m _ _ _ M2.out.mem (by omega) (by omega)).mono ?_
  rw [HC.out, HX1.out]
  rintro e w3 ⟨A1, L1, c1, P1, K1, d1, rfl, hx1, bb⟩
  have Mp := Lib.hid (M2.out.keep bb)
  have M3 := Lib.hid (Mp.out.keep (al_one _ (.cells #[.slice A1 L1 c1, .slice P1 K1 d1] 25)))
  have Up := Lib.hid (U2.out.keep bb)
  have U3 := Lib.hid (Up.out.keep (al_one _ (.cells #[.slice A1 L1 c1, .slice P1 K1 d1] 25)))
  have B3 := Lib.hid (below_then (below_then B2.out bb) (al_one _ (.cells #[.slice A1 L1 c1, .slice P1 K1 d1] 25)))
  have X3 := Lib.hid (at_new hx1)
  clear bb cM0 cM1 M2 U2 B2 hx1
  have hl : L = L1 := HXL.out.symm.trans X3.out.mem.len1
  subst hl
  obtain ⟨cM0, cM1⟩ := Mp.out.use
  have lM := Mp.out.lt
  go_wp2_with fail
  refine (write_sl _ _ m bs _ _ M3.out.mem U3.out HML.out.1 HML.out.2 HBL.out).mono ?_
  rw [HE.out, HY1.out]
  rintro e w4 ⟨A2, L2, c2, P2, K2, d2, rfl, hx2, bb⟩
  clear Mp Up
  have Mp := Lib.hid (M3.out.keep bb)
  have M4 := Lib.hid (Mp.out.keep (al_one _ (.cells #[.slice A2 L2 c2, .slice P2 K2 d2] 25)))
  have Up := Lib.hid (U3.out.keep bb)
  have U4 := Lib.hid (Up.out.keep (al_one _ (.cells #[.slice A2 L2 c2, .slice P2 K2 d2] 25)))
  have Xp := Lib.hid (X3.out.keep bb)
  have X4 := Lib.hid (Xp.out.keep (al_one _ (.cells #[.slice A2 L2 c2, .slice P2 K2 d2] 25)))
  have B4 := Lib.hid (below_then (below_then B3.out bb) (al_one _ (.cells #[.slice A2 L2 c2, .slice P2 K2 d2] 25)))
  have Y4 := Lib.hid (at_new hx2)
  clear bb cM0 cM1 lM M3 U3 X3 B3 hx2
  have hl : L = L2 := HYL.out.symm.trans Y4.out.mem.len1
  subst hl
  obtain ⟨cM0, cM1⟩ := Mp.out.use
  have lM := Mp.out.lt
  go_wp2_with fail
  refine (rsame_eq _ _ _ _ _ _ _ _ _ _ _ _ m _ (HYM.out ▸ Y4.out.mem) M4.out.mem).mono ?_
  rintro e w5 ⟨rfl, bb⟩
  clear Mp Up Xp
  have M5 := Lib.hid (M4.out.keep bb)
  have U5 := Lib.hid (U4.out.keep bb)
  have X5 := Lib.hid (X4.out.keep bb)
  have Y5 := Lib.hid (Y4.out.keep bb)
  have B5 := Lib.hid (below_then B4.out bb)
  clear bb cM0 cM1 lM M4 U4 X4 Y4 B4
  go_wp2_with fail
  go_ret
  exact ⟨rfl, B5.out⟩
set_option maxRecDepth 100000 in
set_option maxHeartbeats 16000000 in
theorem holds_no_in (A P Ab : Option Addr) (L c K d nb cb : Nat) (m : PM) (bs : List UInt8) (p n o : Int) (w : World) (HM : Hid (IsMem w (.agg #[.slice A L c, .slice P K d]) m)) (HU : Hid (Byt w (.slice Ab nb cb) bs)) (hnb : nb ≤ 9223372036854775807) (X1 Y1 : PM) (bm bx bz Eo C : Int) (hmay : (fewB m 600 && rightB m) = true) (h1 : decide ((200 : Int) < (nb : Int)) = false) (hL : L ≤ 600) (hK : K ≤ 60) (HX1 : Hid (storeF m p n = X1)) (HY1 : Hid (writeF m p bs = Y1)) (HXL : Hid (X1.1.length = L)) (HYL : Hid (Y1.1.length = L)) (HC : Hid (cellC L p = C)) (HE : Hid (codeF (okB m.1.length p bs.length) = 0)) (HBL : Hid (bs.length ≤ 65536)) (HML : Hid (m.1.length ≤ 65536 ∧ m.2.length < 1000)) (HO : Hid (codeF (okB L o 1) = Eo)) (HBM : Hid (byteF m o = bm)) (hC : (C == 0) = false) (HT : Hid (textF Y1 p (nb : Int) = bs)) (HE2 : Hid (codeF (okB L p (nb : Int)) = 0)) (z1 : 0 ≤ p) (z2 : p ≤ 600) (z3 : nb ≤ 200) (z0 : ((nb : Int) == 0) = false) (HBY : Hid (byteF Y1 o = bz)) (t1 : p ≤ o) (t2 : o < p + (nb : Int)) :
    Calls Try.prog 7 #[.agg #[.slice A L c, .slice P K d, .int .i64 p, .int .i64 n, .slice Ab nb cb, .int .i64 o]] w fun e w' => e = .returned (.bool true) ∧ Below w.heap.size w w' := by
  go_enter Try.func7, Try.ntmps7
  go_wp2_with fail
  refine (shown_any _).mono ?_
  rintro e w1 ⟨rfl, bb⟩
  have M1 := Lib.hid ((start6 HM.out _).keep bb)
  have U1 := Lib.hid ((HU.out.keep (((Below.refl _ w).alloc (Nat.le_refl _) _).alloc (by simp) _)).keep bb)
  have B1 := Lib.hid (below_two bb)
  clear bb
  obtain ⟨cM0, cM1⟩ := M1.out.use
  go_wp2_with fail
  refine (may_at _ _ _ _ _ _ m _ M1.out.mem).mono ?_
  rw [hmay]
  rintro e w2 ⟨rfl, bb⟩
  have M2 := Lib.hid (M1.out.keep bb)
  have U2 := Lib.hid (U1.out.keep bb)
  have B2 := Lib.hid (below_then B1.out bb)
  clear bb cM0 cM1 M1 U1 B1
  obtain ⟨cM0, cM1⟩ := M2.out.use
  go_wp2_with fail
  refine (store_at _ _ _ _ _ _ m _ _ _ M2.out.mem (by omega) (by omega)).mono ?_
  rw [HC.out, HX1.out]
  rintro e w3 ⟨A1, L1, c1, P1, K1, d1, rfl, hx1, bb⟩
  have Mp := Lib.hid (M2.out.keep bb)
  have M3 := Lib.hid (Mp.out.keep (al_one _ (.cells #[.slice A1 L1 c1, .slice P1 K1 d1] 25)))
  have Up := Lib.hid (U2.out.keep bb)
  have U3 := Lib.hid (Up.out.keep (al_one _ (.cells #[.slice A1 L1 c1, .slice P1 K1 d1] 25)))
  have B3 := Lib.hid (below_then (below_then B2.out bb) (al_one _ (.cells #[.slice A1 L1 c1, .slice P1 K1 d1] 25)))
  have X3 := Lib.hid (at_new hx1)
  clear bb cM0 cM1 M2 U2 B2 hx1
  have hl : L = L1 := HXL.out.symm.trans X3.out.mem.len1
  subst hl
  obtain ⟨cM0, cM1⟩ := Mp.out.use
  have lM := Mp.out.lt
  go_wp2_with fail
  refine (write_sl _ _ m bs _ _ M3.out.mem U3.out HML.out.1 HML.out.2 HBL.out).mono ?_
  rw [HE.out, HY1.out]
  rintro e w4 ⟨A2, L2, c2, P2, K2, d2, rfl, hx2, bb⟩
  clear Mp Up
  have Mp := Lib.hid (M3.out.keep bb)
  have M4 := Lib.hid (Mp.out.keep (al_one _ (.cells #[.slice A2 L2 c2, .slice P2 K2 d2] 25)))
  have Up := Lib.hid (U3.out.keep bb)
  have U4 := Lib.hid (Up.out.keep (al_one _ (.cells #[.slice A2 L2 c2, .slice P2 K2 d2] 25)))
  have Xp := Lib.hid (X3.out.keep bb)
  have X4 := Lib.hid (Xp.out.keep (al_one _ (.cells #[.slice A2 L2 c2, .slice P2 K2 d2] 25)))
  have B4 := Lib.hid (below_then (below_then B3.out bb) (al_one _ (.cells #[.slice A2 L2 c2, .slice P2 K2 d2] 25)))
  have Y4 := Lib.hid (at_new hx2)
  clear bb cM0 cM1 lM M3 U3 X3 B3 hx2
  have hl : L = L2 := HYL.out.symm.trans Y4.out.mem.len1
  subst hl
  go_wp2_with fail
  refine (text_at _ _ _ _ _ _ Y1 _ _ _ Y4.out.mem (by omega) (by omega)).mono ?_
  rw [HT.out, HE2.out]
  rintro e w5 ⟨Bt, kt, et, rfl, hta, bb⟩
  clear Mp Up Xp
  have M5 := Lib.hid (M4.out.keep bb)
  have U5 := Lib.hid (U4.out.keep bb)
  have X5 := Lib.hid (X4.out.keep bb)
  have Y5 := Lib.hid (Y4.out.keep bb)
  have B5 := Lib.hid (below_then B4.out bb)
  have S5 := Lib.hid hta
  clear bb M4 U4 X4 Y4 B4 hta
  obtain ⟨cM0, cM1⟩ := M5.out.use
  go_wp2_with fail
  refine (fetchByte_at _ _ _ _ _ _ m _ _ M5.out.mem (by omega)).mono ?_
  rw [HBM.out, HO.out]
  rintro e w6 ⟨rfl, bb⟩
  have M6 := Lib.hid (M5.out.keep bb)
  have U6 := Lib.hid (U5.out.keep bb)
  have X6 := Lib.hid (X5.out.keep bb)
  have Y6 := Lib.hid (Y5.out.keep bb)
  have S6 := Lib.hid (S5.out.keep bb)
  have B6 := Lib.hid (below_then B5.out bb)
  clear bb cM0 cM1 M5 U5 X5 Y5 S5 B5
  obtain ⟨cY0, cY1⟩ := Y6.out.use
  go_wp2_with fail
  refine (fetchByte_at _ _ _ _ _ _ Y1 _ _ Y6.out.mem (by omega)).mono ?_
  rw [HBY.out, HO.out]
  rintro e w7 ⟨rfl, bb⟩
  have M7 := Lib.hid (M6.out.keep bb)
  have U7 := Lib.hid (U6.out.keep bb)
  have X7 := Lib.hid (X6.out.keep bb)
  have Y7 := Lib.hid (Y6.out.keep bb)
  have S7 := Lib.hid (S6.out.keep bb)
  have B7 := Lib.hid (below_then B6.out bb)
  clear bb cY0 cY1 M6 U6 X6 Y6 S6 B6
  have cv1 := S7.out.conv
  have cv2 := U7.out.conv
  generalize strB bs = st at cv1 cv2
  go_wp2_with fail
  go_ret
  exact ⟨rfl, B7.out⟩
set_option maxRecDepth 100000 in
set_option maxHeartbeats 16000000 in
theorem holds_no_lt (A P Ab : Option Addr) (L c K d nb cb : Nat) (m : PM) (bs : List UInt8) (p n o : Int) (w : World) (HM : Hid (IsMem w (.agg #[.slice A L c, .slice P K d]) m)) (HU : Hid (Byt w (.slice Ab nb cb) bs)) (hnb : nb ≤ 9223372036854775807) (X1 Y1 : PM) (bm bx bz Eo C : Int) (hmay : (fewB m 600 && rightB m) = true) (h1 : decide ((200 : Int) < (nb : Int)) = false) (hL : L ≤ 600) (hK : K ≤ 60) (HX1 : Hid (storeF m p n = X1)) (HY1 : Hid (writeF m p bs = Y1)) (HXL : Hid (X1.1.length = L)) (HYL : Hid (Y1.1.length = L)) (HC : Hid (cellC L p = C)) (HE : Hid (codeF (okB m.1.length p bs.length) = 0)) (HBL : Hid (bs.length ≤ 65536)) (HML : Hid (m.1.length ≤ 65536 ∧ m.2.length < 1000)) (HO : Hid (codeF (okB L o 1) = Eo)) (HBM : Hid (byteF m o = bm)) (hC : (C == 0) = false) (HT : Hid (textF Y1 p (nb : Int) = bs)) (HE2 : Hid (codeF (okB L p (nb : Int)) = 0)) (z1 : 0 ≤ p) (z2 : p ≤ 600) (z3 : nb ≤ 200) (z0 : ((nb : Int) == 0) = false) (HBY : Hid (byteF Y1 o = bm)) (t1 : decide (p ≤ o) = false) :
    Calls Try.prog 7 #[.agg #[.slice A L c, .slice P K d, .int .i64 p, .int .i64 n, .slice Ab nb cb, .int .i64 o]] w fun e w' => e = .returned (.bool true) ∧ Below w.heap.size w w' := by
  go_enter Try.func7, Try.ntmps7
  go_wp2_with fail
  refine (shown_any _).mono ?_
  rintro e w1 ⟨rfl, bb⟩
  have M1 := Lib.hid ((start6 HM.out _).keep bb)
  have U1 := Lib.hid ((HU.out.keep (((Below.refl _ w).alloc (Nat.le_refl _) _).alloc (by simp) _)).keep bb)
  have B1 := Lib.hid (below_two bb)
  clear bb
  obtain ⟨cM0, cM1⟩ := M1.out.use
  go_wp2_with fail
  refine (may_at _ _ _ _ _ _ m _ M1.out.mem).mono ?_
  rw [hmay]
  rintro e w2 ⟨rfl, bb⟩
  have M2 := Lib.hid (M1.out.keep bb)
  have U2 := Lib.hid (U1.out.keep bb)
  have B2 := Lib.hid (below_then B1.out bb)
  clear bb cM0 cM1 M1 U1 B1
  obtain ⟨cM0, cM1⟩ := M2.out.use
  go_wp2_with fail
  refine (store_at _ _ _ _ _ _ m _ _ _ M2.out.mem (by omega) (by omega)).mono ?_
  rw [HC.out, HX1.out]
  rintro e w3 ⟨A1, L1, c1, P1, K1, d1, rfl, hx1, bb⟩
  have Mp := Lib.hid (M2.out.keep bb)
  have M3 := Lib.hid (Mp.out.keep (al_one _ (.cells #[.slice A1 L1 c1, .slice P1 K1 d1] 25)))
  have Up := Lib.hid (U2.out.keep bb)
  have U3 := Lib.hid (Up.out.keep (al_one _ (.cells #[.slice A1 L1 c1, .slice P1 K1 d1] 25)))
  have B3 := Lib.hid (below_then (below_then B2.out bb) (al_one _ (.cells #[.slice A1 L1 c1, .slice P1 K1 d1] 25)))
  have X3 := Lib.hid (at_new hx1)
  clear bb cM0 cM1 M2 U2 B2 hx1
  have hl : L = L1 := HXL.out.symm.trans X3.out.mem.len1
  subst hl
  obtain ⟨cM0, cM1⟩ := Mp.out.use
  have lM := Mp.out.lt
  go_wp2_with fail
  refine (write_sl _ _ m bs _ _ M3.out.mem U3.out HML.out.1 HML.out.2 HBL.out).mono ?_
  rw [HE.out, HY1.out]
  rintro e w4 ⟨A2, L2, c2, P2, K2, d2, rfl, hx2, bb⟩
  clear Mp Up
  have Mp := Lib.hid (M3.out.keep bb)
  have M4 := Lib.hid (Mp.out.keep (al_one _ (.cells #[.slice A2 L2 c2, .slice P2 K2 d2] 25)))
  have Up := Lib.hid (U3.out.keep bb)
  have U4 := Lib.hid (Up.out.keep (al_one _ (.cells #[.slice A2 L2 c2, .slice P2 K2 d2] 25)))
  have Xp := Lib.hid (X3.out.keep bb)
  have X4 := Lib.hid (Xp.out.keep (al_one _ (.cells #[.slice A2 L2 c2, .slice P2 K2 d2] 25)))
  have B4 := Lib.hid (below_then (below_then B3.out bb) (al_one _ (.cells #[.slice A2 L2 c2, .slice P2 K2 d2] 25)))
  have Y4 := Lib.hid (at_new hx2)
  clear bb cM0 cM1 lM M3 U3 X3 B3 hx2
  have hl : L = L2 := HYL.out.symm.trans Y4.out.mem.len1
  subst hl
  go_wp2_with fail
  refine (text_at _ _ _ _ _ _ Y1 _ _ _ Y4.out.mem (by omega) (by omega)).mono ?_
  rw [HT.out, HE2.out]
  rintro e w5 ⟨Bt, kt, et, rfl, hta, bb⟩
  clear Mp Up Xp
  have M5 := Lib.hid (M4.out.keep bb)
  have U5 := Lib.hid (U4.out.keep bb)
  have X5 := Lib.hid (X4.out.keep bb)
  have Y5 := Lib.hid (Y4.out.keep bb)
  have B5 := Lib.hid (below_then B4.out bb)
  have S5 := Lib.hid hta
  clear bb M4 U4 X4 Y4 B4 hta
  obtain ⟨cM0, cM1⟩ := M5.out.use
  go_wp2_with fail
  refine (fetchByte_at _ _ _ _ _ _ m _ _ M5.out.mem (by omega)).mono ?_
  rw [HBM.out, HO.out]
  rintro e w6 ⟨rfl, bb⟩
  have M6 := Lib.hid (M5.out.keep bb)
  have U6 := Lib.hid (U5.out.keep bb)
  have X6 := Lib.hid (X5.out.keep bb)
  have Y6 := Lib.hid (Y5.out.keep bb)
  have S6 := Lib.hid (S5.out.keep bb)
  have B6 := Lib.hid (below_then B5.out bb)
  clear bb cM0 cM1 M5 U5 X5 Y5 S5 B5
  obtain ⟨cY0, cY1⟩ := Y6.out.use
  go_wp2_with fail
  refine (fetchByte_at _ _ _ _ _ _ Y1 _ _ Y6.out.mem (by omega)).mono ?_
  rw [HBY.out, HO.out]
  rintro e w7 ⟨rfl, bb⟩
  have M7 := Lib.hid (M6.out.keep bb)
  have U7 := Lib.hid (U6.out.keep bb)
  have X7 := Lib.hid (X6.out.keep bb)
  have Y7 := Lib.hid (Y6.out.keep bb)
  have S7 := Lib.hid (S6.out.keep bb)
  have B7 := Lib.hid (below_then B6.out bb)
  clear bb cY0 cY1 M6 U6 X6 Y6 S6 B6
  have cv1 := S7.out.conv
  have cv2 := U7.out.conv
  generalize strB bs = st at cv1 cv2
  go_wp2_with fail
  go_ret
  exact ⟨rfl, B7.out⟩
set_option maxRecDepth 100000 in
set_option maxHeartbeats 16000000 in
theorem holds_no_ge (A P Ab : Option Addr) (L c K d nb cb : Nat) (m : PM) (bs : List UInt8) (p n o : Int) (w : World) (HM : Hid (IsMem w (.agg #[.slice A L c, .slice P K d]) m)) (HU : Hid (Byt w (.slice Ab nb cb) bs)) (hnb : nb ≤ 9223372036854775807) (X1 Y1 : PM) (bm bx bz Eo C : Int) (hmay : (fewB m 600 && rightB m) = true) (h1 : decide ((200 : Int) < (nb : Int)) = false) (hL : L ≤ 600) (hK : K ≤ 60) (HX1 : Hid (storeF m p n = X1)) (HY1 : Hid (writeF m p bs = Y1)) (HXL : Hid (X1.1.length = L)) (HYL : Hid (Y1.1.length = L)) (HC : Hid (cellC L p = C)) (HE : Hid (codeF (okB m.1.length p bs.length) = 0)) (HBL : Hid (bs.length ≤ 65536)) (HML : Hid (m.1.length ≤ 65536 ∧ m.2.length < 1000)) (HO : Hid (codeF (okB L o 1) = Eo)) (HBM : Hid (byteF m o = bm)) (hC : (C == 0) = false) (HT : Hid (textF Y1 p (nb : Int) = bs)) (HE2 : Hid (codeF (okB L p (nb : Int)) = 0)) (z1 : 0 ≤ p) (z2 : p ≤ 600) (z3 : nb ≤ 200) (z0 : ((nb : Int) == 0) = false) (HBY : Hid (byteF Y1 o = bm)) (t1 : p ≤ o) (t2 : decide (o < p + (nb : Int)) = false) :
    Calls Try.prog 7 #[.agg #[.slice A L c, .slice P K d, .int .i64 p, .int .i64 n, .slice Ab nb cb, .int .i64 o]] w fun e w' => e = .returned (.bool true) ∧ Below w.heap.size w w' := by
  go_enter Try.func7, Try.ntmps7
  go_wp2_with fail
  refine (shown_any _).mono ?_
  rintro e w1 ⟨rfl, bb⟩
  have M1 := Lib.hid ((start6 HM.out _).keep bb)
  have U1 := Lib.hid ((HU.out.keep (((Below.refl _ w).alloc (Nat.le_refl _) _).alloc (by simp) _)).keep bb)
  have B1 := Lib.hid (below_two bb)
  clear bb
  obtain ⟨cM0, cM1⟩ := M1.out.use
  go_wp2_with fail
  refine (may_at _ _ _ _ _ _ m _ M1.out.mem).mono ?_
  rw [hmay]
  rintro e w2 ⟨rfl, bb⟩
  have M2 := Lib.hid (M1.out.keep bb)
  have U2 := Lib.hid (U1.out.keep bb)
  have B2 := Lib.hid (below_then B1.out bb)
  clear bb cM0 cM1 M1 U1 B1
  obtain ⟨cM0, cM1⟩ := M2.out.use
  go_wp2_with fail
  refine (store_at _ _ _ _ _ _ m _ _ _ M2.out.mem (by omega) (by omega)).mono ?_
  rw [HC.out, HX1.out]
  rintro e w3 ⟨A1, L1, c1, P1, K1, d1, rfl, hx1, bb⟩
  have Mp := Lib.hid (M2.out.keep bb)
  have M3 := Lib.hid (Mp.out.keep (al_one _ (.cells #[.slice A1 L1 c1, .slice P1 K1 d1] 25)))
  have Up := Lib.hid (U2.out.keep bb)
  have U3 := Lib.hid (Up.out.keep (al_one _ (.cells #[.slice A1 L1 c1, .slice P1 K1 d1] 25)))
  have B3 := Lib.hid (below_then (below_then B2.out bb) (al_one _ (.cells #[.slice A1 L1 c1, .slice P1 K1 d1] 25)))
  have X3 := Lib.hid (at_new hx1)
  clear bb cM0 cM1 M2 U2 B2 hx1
  have hl : L = L1 := HXL.out.symm.trans X3.out.mem.len1
  subst hl
  obtain ⟨cM0, cM1⟩ := Mp.out.use
  have lM := Mp.out.lt
  go_wp2_with fail
  refine (write_sl _ _ m bs _ _ M3.out.mem U3.out HML.out.1 HML.out.2 HBL.out).mono ?_
  rw [HE.out, HY1.out]
  rintro e w4 ⟨A2, L2, c2, P2, K2, d2, rfl, hx2, bb⟩
  clear Mp Up
  have Mp := Lib.hid (M3.out.keep bb)
  have M4 := Lib.hid (Mp.out.keep (al_one _ (.cells #[.slice A2 L2 c2, .slice P2 K2 d2] 25)))
  have Up := Lib.hid (U3.out.keep bb)
  have U4 := Lib.hid (Up.out.keep (al_one _ (.cells #[.slice A2 L2 c2, .slice P2 K2 d2] 25)))
  have Xp := Lib.hid (X3.out.keep bb)
  have X4 := Lib.hid (Xp.out.keep (al_one _ (.cells #[.slice A2 L2 c2, .slice P2 K2 d2] 25)))
  have B4 := Lib.hid (below_then (below_then B3.out bb) (al_one _ (.cells #[.slice A2 L2 c2, .slice P2 K2 d2] 25)))
  have Y4 := Lib.hid (at_new hx2)
  clear bb cM0 cM1 lM M3 U3 X3 B3 hx2
  have hl : L = L2 := HYL.out.symm.trans Y4.out.mem.len1
  subst hl
  go_wp2_with fail
  refine (text_at _ _ _ _ _ _ Y1 _ _ _ Y4.out.mem (by omega) (by omega)).mono ?_
  rw [HT.out, HE2.out]
  rintro e w5 ⟨Bt, kt, et, rfl, hta, bb⟩
  clear Mp Up Xp
  have M5 := Lib.hid (M4.out.keep bb)
  have U5 := Lib.hid (U4.out.keep bb)
  have X5 := Lib.hid (X4.out.keep bb)
  have Y5 := Lib.hid (Y4.out.keep bb)
  have B5 := Lib.hid (below_then B4.out bb)
  have S5 := Lib.hid hta
  clear bb M4 U4 X4 Y4 B4 hta
  obtain ⟨cM0, cM1⟩ := M5.out.use
  go_wp2_with fail
  refine (fetchByte_at _ _ _ _ _ _ m _ _ M5.out.mem (by omega)).mono ?_
  rw [HBM.out, HO.out]
  rintro e w6 ⟨rfl, bb⟩
  have M6 := Lib.hid (M5.out.keep bb)
  have U6 := Lib.hid (U5.out.keep bb)
  have X6 := Lib.hid (X5.out.keep bb)
  have Y6 := Lib.hid (Y5.out.keep bb)
  have S6 := Lib.hid (S5.out.keep bb)
  have B6 := Lib.hid (below_then B5.out bb)
  clear bb cM0 cM1 M5 U5 X5 Y5 S5 B5
  obtain ⟨cY0, cY1⟩ := Y6.out.use
  go_wp2_with fail
  refine (fetchByte_at _ _ _ _ _ _ Y1 _ _ Y6.out.mem (by omega)).mono ?_
  rw [HBY.out, HO.out]
  rintro e w7 ⟨rfl, bb⟩
  have M7 := Lib.hid (M6.out.keep bb)
  have U7 := Lib.hid (U6.out.keep bb)
  have X7 := Lib.hid (X6.out.keep bb)
  have Y7 := Lib.hid (Y6.out.keep bb)
  have S7 := Lib.hid (S6.out.keep bb)
  have B7 := Lib.hid (below_then B6.out bb)
  clear bb cY0 cY1 M6 U6 X6 Y6 S6 B6
  have cv1 := S7.out.conv
  have cv2 := U7.out.conv
  generalize strB bs = st at cv1 cv2
  go_wp2_with fail
  go_ret
  exact ⟨rfl, B7.out⟩
end Go.Proofs.Ytngmkbbeafefaaa
