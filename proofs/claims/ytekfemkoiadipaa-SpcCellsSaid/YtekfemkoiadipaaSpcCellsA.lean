/- The walk of SpcCells. -/
import Derived.Test.YtekfemkoiadipaaSpcCellsM
namespace Go.Proofs.Ytekfemkoiadipaa
open Go.RowKit
set_option linter.unusedVariables false
set_option linter.unusedSimpArgs false

set_option maxRecDepth 100000 in
set_option maxHeartbeats 16000000 in
theorem cells_early (A P : Option Addr) (L c K d : Nat) (m : PM) (p ja jb : Int) (w : World) (HM : Hid (IsMem w (.agg #[.slice A L c, .slice P K d]) m)) (H0 : (fewB m 600 && rightB m) = false ∨ (fewB m 600 && rightB m) = true ∧ endB L p = false) :
    Calls Try.prog 6 #[.agg #[.slice A L c, .slice P K d, .int .i64 p, .int .i64 ja, .int .i64 jb]] w fun e w' => e = .returned (.bool true) ∧ Below w.heap.size w w' := by
  rcases H0 with hmay | ⟨hmay, hp⟩
  · skip
    go_enter Try.func6, Try.ntmps6
    go_wp2_with fail
    refine (shown_any _).mono ?_
    rintro e w1 ⟨rfl, bb⟩
    have M1 := Lib.hid ((start6 HM.out _).keep bb)
    have B1 := Lib.hid (below_two bb)
    clear bb
    obtain ⟨cM0, cM1⟩ := M1.out.use
    go_wp2_with fail
    refine (may_at _ _ _ _ _ _ m _ M1.out.mem).mono ?_
    rw [hmay]
    rintro e w2 ⟨rfl, bb⟩
    have M2 := Lib.hid (M1.out.keep bb)
    have B2 := Lib.hid (below_then B1.out bb)
    clear bb cM0 cM1 M1 B1
    go_wp2_with fail
    go_ret
    exact ⟨rfl, B2.out⟩
  · skip
    go_enter Try.func6, Try.ntmps6
    go_wp2_with fail
    refine (shown_any _).mono ?_
    rintro e w1 ⟨rfl, bb⟩
    have M1 := Lib.hid ((start6 HM.out _).keep bb)
    have B1 := Lib.hid (below_two bb)
    clear bb
    obtain ⟨cM0, cM1⟩ := M1.out.use
    go_wp2_with fail
    refine (may_at _ _ _ _ _ _ m _ M1.out.mem).mono ?_
    rw [hmay]
    rintro e w2 ⟨rfl, bb⟩
    have M2 := Lib.hid (M1.out.keep bb)
    have B2 := Lib.hid (below_then B1.out bb)
    clear bb cM0 cM1 M1 B1
    obtain ⟨cM0, cM1⟩ := M2.out.use
    go_wp2_with fail
    refine (is_at _ _ _ _ _ _ p _).mono ?_
    rw [hp]
    rintro e w3 ⟨rfl, bb⟩
    have M3 := Lib.hid (M2.out.keep bb)
    have B3 := Lib.hid (below_then B2.out bb)
    clear bb cM0 cM1 M2 B2
    go_wp2_with fail
    go_ret
    exact ⟨rfl, B3.out⟩
set_option maxRecDepth 100000 in
set_option maxHeartbeats 16000000 in
theorem cells_no (A P : Option Addr) (L c K d : Nat) (m : PM) (p ja jb : Int) (w : World) (HM : Hid (IsMem w (.agg #[.slice A L c, .slice P K d]) m)) (X1 X2 X3 : PM) (tn : Nat) (hmay : (fewB m 600 && rightB m) = true) (hp : endB L p = true) (hL : L ≤ 600) (hK : K ≤ 60) (p0 : 0 ≤ p) (p1 : p ≤ (tn : Int)) (t1 : tn ≤ L) (t2 : (tn : Int) ≤ p + 7) (ht : endB L (tn : Int) = true) (h8 : (tn : Int) % 8 = 0) (HE1 : Hid (layP L p (misN p) = (tn : Int))) (HC1 : Hid (layC L p (misN p) = 0)) (HX1 : Hid (layM m p (upB p) = X1)) (HE2 : Hid (layP L (tn : Int) (misN (tn : Int)) = (tn : Int))) (HC2 : Hid (layC L (tn : Int) (misN (tn : Int)) = 0)) (HXU : Hid (layM X1 (tn : Int) (upB (tn : Int)) = X1)) (HXL : Hid (X1.1.length = L)) (HXK : Hid (X1.2.length ≤ K + 1)) (HB : Hid (∀ q : Nat, p ≤ (q : Int) → q < tn → X1.1.getD q 0 = 0)) (HX2 : Hid (comM X1 (tn : Int) ja = X2)) (HYL : Hid (X2.1.length = L)) (HYK : Hid (X2.2.length ≤ K + 2)) (HP1 : Hid (comP L (tn : Int) = (tn : Int))) (HG1 : Hid (comC L (tn : Int) = -8)) (HX3 : Hid (comM X2 (tn : Int) jb = X3)) (hfin : (L : Int) - (tn : Int) < 16) :
    Calls Try.prog 6 #[.agg #[.slice A L c, .slice P K d, .int .i64 p, .int .i64 ja, .int .i64 jb]] w fun e w' => e = .returned (.bool true) ∧ Below w.heap.size w w' := by
  go_enter Try.func6, Try.ntmps6
  go_wp2_with fail
  refine (shown_any _).mono ?_
  rintro e w1 ⟨rfl, bb⟩
  have M1 := Lib.hid ((start6 HM.out _).keep bb)
  have B1 := Lib.hid (below_two bb)
  clear bb
  obtain ⟨cM0, cM1⟩ := M1.out.use
  go_wp2_with fail
  refine (may_at _ _ _ _ _ _ m _ M1.out.mem).mono ?_
  rw [hmay]
  rintro e w2 ⟨rfl, bb⟩
  have M2 := Lib.hid (M1.out.keep bb)
  have B2 := Lib.hid (below_then B1.out bb)
  clear bb cM0 cM1 M1 B1
  obtain ⟨cM0, cM1⟩ := M2.out.use
  go_wp2_with fail
  refine (is_at _ _ _ _ _ _ p _).mono ?_
  rw [hp]
  rintro e w3 ⟨rfl, bb⟩
  have M3 := Lib.hid (M2.out.keep bb)
  have B3 := Lib.hid (below_then B2.out bb)
  clear bb cM0 cM1 M2 B2
  obtain ⟨cM0, cM1⟩ := M3.out.use
  go_wp2_with fail
  refine (up_at _ _ _ _ _ _ m p _ M3.out.mem (by omega) (by omega) hp).mono ?_
  rw [HE1.out, HC1.out, HX1.out]
  rintro e w4 ⟨A1, L1, g1, P1, K1, d1, rfl, hx1, bb⟩
  have Mp := Lib.hid (M3.out.keep bb)
  have M4 := Lib.hid (Mp.out.keep (al_one _ (.cells #[.slice A1 L1 g1, .slice P1 K1 d1] 25)))
  have B4 := Lib.hid (below_then (below_then B3.out bb) (al_one _ (.cells #[.slice A1 L1 g1, .slice P1 K1 d1] 25)))
  have Xm4 := Lib.hid (at_new hx1)
  clear bb cM0 cM1 M3 B3 hx1
  have hl : L = L1 := HXL.out.symm.trans Xm4.out.mem.len1
  subst hl
  have hk1 : K1 ≤ 61 := by have a1 := Xm4.out.mem.len2; have a2 := HXK.out; omega
  go_wp2_with fail
  refine (up_at _ _ _ _ _ _ X1 (tn : Int) _ Xm4.out.mem (by omega) (by omega) ht).mono ?_
  rw [HE2.out, HC2.out, HXU.out]
  rintro e w5 ⟨A2, L2, g2, P2, K2, d2, rfl, hx2, bb⟩
  clear Mp
  have Mp := Lib.hid (M4.out.keep bb)
  have M5 := Lib.hid (Mp.out.keep (al_one _ (.cells #[.slice A2 L2 g2, .slice P2 K2 d2] 25)))
  have Xmp := Lib.hid (Xm4.out.keep bb)
  have Xm5 := Lib.hid (Xmp.out.keep (al_one _ (.cells #[.slice A2 L2 g2, .slice P2 K2 d2] 25)))
  have B5 := Lib.hid (below_then (below_then B4.out bb) (al_one _ (.cells #[.slice A2 L2 g2, .slice P2 K2 d2] 25)))
  have Ym5 := Lib.hid (at_new hx2)
  clear bb M4 Xm4 B4 hx2
  have hl : L = L2 := HXL.out.symm.trans Ym5.out.mem.len1
  subst hl
  have h8' : ((tn : Int) % 8 != 0) = false := by simp; omega
  have h9 : decide ((tn : Int) < p) = false := by simp; omega
  have h10 : decide (p + 7 < (tn : Int)) = false := by simp; omega
  obtain ⟨cM0, cM1⟩ := Mp.out.use
  have lM := Mp.out.lt
  obtain ⟨cXm0, cXm1⟩ := Xmp.out.use
  have lXm := Xmp.out.lt
  obtain ⟨cz0, cz1⟩ := Ym5.out.use
  go_wp2_with fail
  refine (rsame_eq _ _ _ _ _ _ _ _ _ _ _ _ X1 _ Xm5.out.mem Ym5.out.mem).mono ?_
  rintro e w6 ⟨rfl, bb⟩
  clear Mp Xmp
  have M6 := Lib.hid (M5.out.keep bb)
  have Xm6 := Lib.hid (Xm5.out.keep bb)
  have Ym6 := Lib.hid (Ym5.out.keep bb)
  have B6 := Lib.hid (below_then B5.out bb)
  clear bb cM0 cM1 lM cXm0 cXm1 lXm cz0 cz1 M5 Xm5 Ym5 B5
  clear Ym6
  obtain ⟨pn, rfl⟩ := Int.eq_ofNat_of_zero_le p0
  obtain ⟨cX0, cX1⟩ := Xm6.out.use
  go_wp2_with fail
  go_loopw [14] (fun iv wr => ∃ j : Nat, pn ≤ j ∧ j ≤ tn ∧ iv = .int .i64 (j : Int) ∧ w6 = wr) (fun iv _ => tn - (intOf iv).toNat)
  case atStart => exact ⟨pn, Nat.le_refl _, by omega, rfl, rfl⟩
  case round =>
    obtain ⟨j, hj0, hj1, rfl, rfl⟩ := hrel
    by_cases hlt : j < tn
    · obtain ⟨g, og, rfl, hg, hc, hLc⟩ := mem_cell Xm6.out.mem (q := j) (by omega)
      rw [HB.out j (by omega) hlt] at hc
      change _ = some (Value.int .u8 0) at hc
      have hjl : (j : Int) < (tn : Int) := by omega
      have hjL : (j : Int) < (L : Int) := by omega
      go_wp2
      go_roundw
      case rel => exact ⟨j + 1, by omega, by omega, by go_num, by trivial⟩
      case measure => simp [intOf]; omega
    · have hjk : j = tn := by omega
      subst hjk
      have hjl : decide ((j : Int) < (j : Int)) = false := by simp
      go_wp2_with fail
      refine (comma_at _ _ _ _ _ _ X1 (j : Int) ja _ Xm6.out.mem (by omega) (by omega) ht).mono ?_
      rw [HP1.out, HG1.out, HX2.out]
      rintro e w7 ⟨A3, L3, g3, P3, K3, d3, rfl, hx3, bb⟩
      have Mp := Lib.hid (M6.out.keep bb)
      have M7 := Lib.hid (Mp.out.keep (al_one _ (.cells #[.slice A3 L3 g3, .slice P3 K3 d3] 25)))
      have Xmp := Lib.hid (Xm6.out.keep bb)
      have Xm7 := Lib.hid (Xmp.out.keep (al_one _ (.cells #[.slice A3 L3 g3, .slice P3 K3 d3] 25)))
      have B7 := Lib.hid (below_then (below_then B6.out bb) (al_one _ (.cells #[.slice A3 L3 g3, .slice P3 K3 d3] 25)))
      have Pm7 := Lib.hid (at_new hx3)
      clear bb cX0 cX1 M6 Xm6 B6 hx3
      have hl : L = L3 := HYL.out.symm.trans Pm7.out.mem.len1
      subst hl
      have hk3 : K3 ≤ 62 := by have a1 := Pm7.out.mem.len2; have a2 := HYK.out; omega
      obtain ⟨cP0, cP1⟩ := Pm7.out.use
      go_wp2_with fail
      refine (comma_at _ _ _ _ _ _ X2 (j : Int) jb _ Pm7.out.mem (by omega) (by omega) ht).mono ?_
      rw [HP1.out, HG1.out, HX3.out]
      rintro e w8 ⟨A4, L4, g4, P4, K4, d4, rfl, hx4, bb⟩
      clear Mp Xmp
      have Mp := Lib.hid (M7.out.keep bb)
      have M8 := Lib.hid (Mp.out.keep (al_one _ (.cells #[.slice A4 L4 g4, .slice P4 K4 d4] 25)))
      have Xmp := Lib.hid (Xm7.out.keep bb)
      have Xm8 := Lib.hid (Xmp.out.keep (al_one _ (.cells #[.slice A4 L4 g4, .slice P4 K4 d4] 25)))
      have Pmp := Lib.hid (Pm7.out.keep bb)
      have Pm8 := Lib.hid (Pmp.out.keep (al_one _ (.cells #[.slice A4 L4 g4, .slice P4 K4 d4] 25)))
      have B8 := Lib.hid (below_then (below_then B7.out bb) (al_one _ (.cells #[.slice A4 L4 g4, .slice P4 K4 d4] 25)))
      have Qm8 := Lib.hid (at_new hx4)
      clear bb cP0 cP1 M7 Xm7 Pm7 B7 hx4
      obtain ⟨cM0, cM1⟩ := M8.out.use
      go_wp2_with fail
      go_ret
      exact ⟨rfl, B8.out⟩
set_option maxRecDepth 100000 in
set_option maxHeartbeats 16000000 in
theorem cells_one (A P : Option Addr) (L c K d : Nat) (m : PM) (p ja jb : Int) (w : World) (HM : Hid (IsMem w (.agg #[.slice A L c, .slice P K d]) m)) (X1 X2 X3 : PM) (tn : Nat) (hmay : (fewB m 600 && rightB m) = true) (hp : endB L p = true) (hL : L ≤ 600) (hK : K ≤ 60) (p0 : 0 ≤ p) (p1 : p ≤ (tn : Int)) (t1 : tn ≤ L) (t2 : (tn : Int) ≤ p + 7) (ht : endB L (tn : Int) = true) (h8 : (tn : Int) % 8 = 0) (HE1 : Hid (layP L p (misN p) = (tn : Int))) (HC1 : Hid (layC L p (misN p) = 0)) (HX1 : Hid (layM m p (upB p) = X1)) (HE2 : Hid (layP L (tn : Int) (misN (tn : Int)) = (tn : Int))) (HC2 : Hid (layC L (tn : Int) (misN (tn : Int)) = 0)) (HXU : Hid (layM X1 (tn : Int) (upB (tn : Int)) = X1)) (HXL : Hid (X1.1.length = L)) (HXK : Hid (X1.2.length ≤ K + 1)) (HB : Hid (∀ q : Nat, p ≤ (q : Int) → q < tn → X1.1.getD q 0 = 0)) (HX2 : Hid (comM X1 (tn : Int) ja = X2)) (HYL : Hid (X2.1.length = L)) (HYK : Hid (X2.2.length ≤ K + 2)) (HP1 : Hid (comP L (tn : Int) = (tn : Int) + 8)) (HG1 : Hid (comC L (tn : Int) = 0)) (ht8 : endB L ((tn : Int) + 8) = true) (HX3 : Hid (comM X2 ((tn : Int) + 8) jb = X3)) (HP2 : Hid (comP L ((tn : Int) + 8) = (tn : Int) + 8)) (HG2 : Hid (comC L ((tn : Int) + 8) = -8)) (hfin : (L : Int) - (tn : Int) < 16) :
    Calls Try.prog 6 #[.agg #[.slice A L c, .slice P K d, .int .i64 p, .int .i64 ja, .int .i64 jb]] w fun e w' => e = .returned (.bool true) ∧ Below w.heap.size w w' := by
  go_enter Try.func6, Try.ntmps6
  go_wp2_with fail
  refine (shown_any _).mono ?_
  rintro e w1 ⟨rfl, bb⟩
  have M1 := Lib.hid ((start6 HM.out _).keep bb)
  have B1 := Lib.hid (below_two bb)
  clear bb
  obtain ⟨cM0, cM1⟩ := M1.out.use
  go_wp2_with fail
  refine (may_at _ _ _ _ _ _ m _ M1.out.mem).mono ?_
  rw [hmay]
  rintro e w2 ⟨rfl, bb⟩
  have M2 := Lib.hid (M1.out.keep bb)
  have B2 := Lib.hid (below_then B1.out bb)
  clear bb cM0 cM1 M1 B1
  obtain ⟨cM0, cM1⟩ := M2.out.use
  go_wp2_with fail
  refine (is_at _ _ _ _ _ _ p _).mono ?_
  rw [hp]
  rintro e w3 ⟨rfl, bb⟩
  have M3 := Lib.hid (M2.out.keep bb)
  have B3 := Lib.hid (below_then B2.out bb)
  clear bb cM0 cM1 M2 B2
  obtain ⟨cM0, cM1⟩ := M3.out.use
  go_wp2_with fail
  refine (up_at _ _ _ _ _ _ m p _ M3.out.mem (by omega) (by omega) hp).mono ?_
  rw [HE1.out, HC1.out, HX1.out]
  rintro e w4 ⟨A1, L1, g1, P1, K1, d1, rfl, hx1, bb⟩
  have Mp := Lib.hid (M3.out.keep bb)
  have M4 := Lib.hid (Mp.out.keep (al_one _ (.cells #[.slice A1 L1 g1, .slice P1 K1 d1] 25)))
  have B4 := Lib.hid (below_then (below_then B3.out bb) (al_one _ (.cells #[.slice A1 L1 g1, .slice P1 K1 d1] 25)))
  have Xm4 := Lib.hid (at_new hx1)
  clear bb cM0 cM1 M3 B3 hx1
  have hl : L = L1 := HXL.out.symm.trans Xm4.out.mem.len1
  subst hl
  have hk1 : K1 ≤ 61 := by have a1 := Xm4.out.mem.len2; have a2 := HXK.out; omega
  go_wp2_with fail
  refine (up_at _ _ _ _ _ _ X1 (tn : Int) _ Xm4.out.mem (by omega) (by omega) ht).mono ?_
  rw [HE2.out, HC2.out, HXU.out]
  rintro e w5 ⟨A2, L2, g2, P2, K2, d2, rfl, hx2, bb⟩
  clear Mp
  have Mp := Lib.hid (M4.out.keep bb)
  have M5 := Lib.hid (Mp.out.keep (al_one _ (.cells #[.slice A2 L2 g2, .slice P2 K2 d2] 25)))
  have Xmp := Lib.hid (Xm4.out.keep bb)
  have Xm5 := Lib.hid (Xmp.out.keep (al_one _ (.cells #[.slice A2 L2 g2, .slice P2 K2 d2] 25)))
  have B5 := Lib.hid (below_then (below_then B4.out bb) (al_one _ (.cells #[.slice A2 L2 g2, .slice P2 K2 d2] 25)))
  have Ym5 := Lib.hid (at_new hx2)
  clear bb M4 Xm4 B4 hx2
  have hl : L = L2 := HXL.out.symm.trans Ym5.out.mem.len1
  subst hl
  have h8' : ((tn : Int) % 8 != 0) = false := by simp; omega
  have h9 : decide ((tn : Int) < p) = false := by simp; omega
  have h10 : decide (p + 7 < (tn : Int)) = false := by simp; omega
  obtain ⟨cM0, cM1⟩ := Mp.out.use
  have lM := Mp.out.lt
  obtain ⟨cXm0, cXm1⟩ := Xmp.out.use
  have lXm := Xmp.out.lt
  obtain ⟨cz0, cz1⟩ := Ym5.out.use
  go_wp2_with fail
  refine (rsame_eq _ _ _ _ _ _ _ _ _ _ _ _ X1 _ Xm5.out.mem Ym5.out.mem).mono ?_
  rintro e w6 ⟨rfl, bb⟩
  clear Mp Xmp
  have M6 := Lib.hid (M5.out.keep bb)
  have Xm6 := Lib.hid (Xm5.out.keep bb)
  have Ym6 := Lib.hid (Ym5.out.keep bb)
  have B6 := Lib.hid (below_then B5.out bb)
  clear bb cM0 cM1 lM cXm0 cXm1 lXm cz0 cz1 M5 Xm5 Ym5 B5
  clear Ym6
  obtain ⟨pn, rfl⟩ := Int.eq_ofNat_of_zero_le p0
  obtain ⟨cX0, cX1⟩ := Xm6.out.use
  go_wp2_with fail
  go_loopw [14] (fun iv wr => ∃ j : Nat, pn ≤ j ∧ j ≤ tn ∧ iv = .int .i64 (j : Int) ∧ w6 = wr) (fun iv _ => tn - (intOf iv).toNat)
  case atStart => exact ⟨pn, Nat.le_refl _, by omega, rfl, rfl⟩
  case round =>
    obtain ⟨j, hj0, hj1, rfl, rfl⟩ := hrel
    by_cases hlt : j < tn
    · obtain ⟨g, og, rfl, hg, hc, hLc⟩ := mem_cell Xm6.out.mem (q := j) (by omega)
      rw [HB.out j (by omega) hlt] at hc
      change _ = some (Value.int .u8 0) at hc
      have hjl : (j : Int) < (tn : Int) := by omega
      have hjL : (j : Int) < (L : Int) := by omega
      go_wp2
      go_roundw
      case rel => exact ⟨j + 1, by omega, by omega, by go_num, by trivial⟩
      case measure => simp [intOf]; omega
    · have hjk : j = tn := by omega
      subst hjk
      have hjl : decide ((j : Int) < (j : Int)) = false := by simp
      go_wp2_with fail
      refine (comma_at _ _ _ _ _ _ X1 (j : Int) ja _ Xm6.out.mem (by omega) (by omega) ht).mono ?_
      rw [HP1.out, HG1.out, HX2.out]
      rintro e w7 ⟨A3, L3, g3, P3, K3, d3, rfl, hx3, bb⟩
      have Mp := Lib.hid (M6.out.keep bb)
      have M7 := Lib.hid (Mp.out.keep (al_one _ (.cells #[.slice A3 L3 g3, .slice P3 K3 d3] 25)))
      have Xmp := Lib.hid (Xm6.out.keep bb)
      have Xm7 := Lib.hid (Xmp.out.keep (al_one _ (.cells #[.slice A3 L3 g3, .slice P3 K3 d3] 25)))
      have B7 := Lib.hid (below_then (below_then B6.out bb) (al_one _ (.cells #[.slice A3 L3 g3, .slice P3 K3 d3] 25)))
      have Pm7 := Lib.hid (at_new hx3)
      clear bb cX0 cX1 M6 Xm6 B6 hx3
      have hl : L = L3 := HYL.out.symm.trans Pm7.out.mem.len1
      subst hl
      have hk3 : K3 ≤ 62 := by have a1 := Pm7.out.mem.len2; have a2 := HYK.out; omega
      obtain ⟨cP0, cP1⟩ := Pm7.out.use
      go_wp2_with fail
      refine (comma_at _ _ _ _ _ _ X2 ((j : Int) + 8) jb _ Pm7.out.mem (by omega) (by omega) ht8).mono ?_
      rw [HP2.out, HG2.out, HX3.out]
      rintro e w8 ⟨A4, L4, g4, P4, K4, d4, rfl, hx4, bb⟩
      clear Mp Xmp
      have Mp := Lib.hid (M7.out.keep bb)
      have M8 := Lib.hid (Mp.out.keep (al_one _ (.cells #[.slice A4 L4 g4, .slice P4 K4 d4] 25)))
      have Xmp := Lib.hid (Xm7.out.keep bb)
      have Xm8 := Lib.hid (Xmp.out.keep (al_one _ (.cells #[.slice A4 L4 g4, .slice P4 K4 d4] 25)))
      have Pmp := Lib.hid (Pm7.out.keep bb)
      have Pm8 := Lib.hid (Pmp.out.keep (al_one _ (.cells #[.slice A4 L4 g4, .slice P4 K4 d4] 25)))
      have B8 := Lib.hid (below_then (below_then B7.out bb) (al_one _ (.cells #[.slice A4 L4 g4, .slice P4 K4 d4] 25)))
      have Qm8 := Lib.hid (at_new hx4)
      clear bb cP0 cP1 M7 Xm7 Pm7 B7 hx4
      obtain ⟨cM0, cM1⟩ := M8.out.use
      go_wp2_with fail
      go_ret
      exact ⟨rfl, B8.out⟩
set_option maxRecDepth 100000 in
set_option maxHeartbeats 16000000 in
theorem cells_two (A P : Option Addr) (L c K d : Nat) (m : PM) (p ja jb : Int) (w : World) (HM : Hid (IsMem w (.agg #[.slice A L c, .slice P K d]) m)) (X1 X2 X3 : PM) (tn : Nat) (hmay : (fewB m 600 && rightB m) = true) (hp : endB L p = true) (hL : L ≤ 600) (hK : K ≤ 60) (p0 : 0 ≤ p) (p1 : p ≤ (tn : Int)) (t1 : tn ≤ L) (t2 : (tn : Int) ≤ p + 7) (ht : endB L (tn : Int) = true) (h8 : (tn : Int) % 8 = 0) (HE1 : Hid (layP L p (misN p) = (tn : Int))) (HC1 : Hid (layC L p (misN p) = 0)) (HX1 : Hid (layM m p (upB p) = X1)) (HE2 : Hid (layP L (tn : Int) (misN (tn : Int)) = (tn : Int))) (HC2 : Hid (layC L (tn : Int) (misN (tn : Int)) = 0)) (HXU : Hid (layM X1 (tn : Int) (upB (tn : Int)) = X1)) (HXL : Hid (X1.1.length = L)) (HXK : Hid (X1.2.length ≤ K + 1)) (HB : Hid (∀ q : Nat, p ≤ (q : Int) → q < tn → X1.1.getD q 0 = 0)) (HX2 : Hid (comM X1 (tn : Int) ja = X2)) (HYL : Hid (X2.1.length = L)) (HYK : Hid (X2.2.length ≤ K + 2)) (HP1 : Hid (comP L (tn : Int) = (tn : Int) + 8)) (HG1 : Hid (comC L (tn : Int) = 0)) (ht8 : endB L ((tn : Int) + 8) = true) (HX3 : Hid (comM X2 ((tn : Int) + 8) jb = X3)) (HP2 : Hid (comP L ((tn : Int) + 8) = (tn : Int) + 16)) (HG2 : Hid (comC L ((tn : Int) + 8) = 0)) (HZL : Hid (X3.1.length = L)) (HF1 : Hid (fetchF X3 (tn : Int) = ja)) (HF2 : Hid (fetchF X3 ((tn : Int) + 8) = jb)) (HK1 : Hid (cellC L (tn : Int) = 0)) (HK2 : Hid (cellC L ((tn : Int) + 8) = 0)) :
    Calls Try.prog 6 #[.agg #[.slice A L c, .slice P K d, .int .i64 p, .int .i64 ja, .int .i64 jb]] w fun e w' => e = .returned (.bool true) ∧ Below w.heap.size w w' := by
  go_enter Try.func6, Try.ntmps6
  go_wp2_with fail
  refine (shown_any _).mono ?_
  rintro e w1 ⟨rfl, bb⟩
  have M1 := Lib.hid ((start6 HM.out _).keep bb)
  have B1 := Lib.hid (below_two bb)
  clear bb
  obtain ⟨cM0, cM1⟩ := M1.out.use
  go_wp2_with fail
  refine (may_at _ _ _ _ _ _ m _ M1.out.mem).mono ?_
  rw [hmay]
  rintro e w2 ⟨rfl, bb⟩
  have M2 := Lib.hid (M1.out.keep bb)
  have B2 := Lib.hid (below_then B1.out bb)
  clear bb cM0 cM1 M1 B1
  obtain ⟨cM0, cM1⟩ := M2.out.use
  go_wp2_with fail
  refine (is_at _ _ _ _ _ _ p _).mono ?_
  rw [hp]
  rintro e w3 ⟨rfl, bb⟩
  have M3 := Lib.hid (M2.out.keep bb)
  have B3 := Lib.hid (below_then B2.out bb)
  clear bb cM0 cM1 M2 B2
  obtain ⟨cM0, cM1⟩ := M3.out.use
  go_wp2_with fail
  refine (up_at _ _ _ _ _ _ m p _ M3.out.mem (by omega) (by omega) hp).mono ?_
  rw [HE1.out, HC1.out, HX1.out]
  rintro e w4 ⟨A1, L1, g1, P1, K1, d1, rfl, hx1, bb⟩
  have Mp := Lib.hid (M3.out.keep bb)
  have M4 := Lib.hid (Mp.out.keep (al_one _ (.cells #[.slice A1 L1 g1, .slice P1 K1 d1] 25)))
  have B4 := Lib.hid (below_then (below_then B3.out bb) (al_one _ (.cells #[.slice A1 L1 g1, .slice P1 K1 d1] 25)))
  have Xm4 := Lib.hid (at_new hx1)
  clear bb cM0 cM1 M3 B3 hx1
  have hl : L = L1 := HXL.out.symm.trans Xm4.out.mem.len1
  subst hl
  have hk1 : K1 ≤ 61 := by have a1 := Xm4.out.mem.len2; have a2 := HXK.out; omega
  go_wp2_with fail
  refine (up_at _ _ _ _ _ _ X1 (tn : Int) _ Xm4.out.mem (by omega) (by omega) ht).mono ?_
  rw [HE2.out, HC2.out, HXU.out]
  rintro e w5 ⟨A2, L2, g2, P2, K2, d2, rfl, hx2, bb⟩
  clear Mp
  have Mp := Lib.hid (M4.out.keep bb)
  have M5 := Lib.hid (Mp.out.keep (al_one _ (.cells #[.slice A2 L2 g2, .slice P2 K2 d2] 25)))
  have Xmp := Lib.hid (Xm4.out.keep bb)
  have Xm5 := Lib.hid (Xmp.out.keep (al_one _ (.cells #[.slice A2 L2 g2, .slice P2 K2 d2] 25)))
  have B5 := Lib.hid (below_then (below_then B4.out bb) (al_one _ (.cells #[.slice A2 L2 g2, .slice P2 K2 d2] 25)))
  have Ym5 := Lib.hid (at_new hx2)
  clear bb M4 Xm4 B4 hx2
  have hl : L = L2 := HXL.out.symm.trans Ym5.out.mem.len1
  subst hl
  have h8' : ((tn : Int) % 8 != 0) = false := by simp; omega
  have h9 : decide ((tn : Int) < p) = false := by simp; omega
  have h10 : decide (p + 7 < (tn : Int)) = false := by simp; omega
  obtain ⟨cM0, cM1⟩ := Mp.out.use
  have lM := Mp.out.lt
  obtain ⟨cXm0, cXm1⟩ := Xmp.out.use
  have lXm := Xmp.out.lt
  obtain ⟨cz0, cz1⟩ := Ym5.out.use
  go_wp2_with fail
  refine (rsame_eq _ _ _ _ _ _ _ _ _ _ _ _ X1 _ Xm5.out.mem Ym5.out.mem).mono ?_
  rintro e w6 ⟨rfl, bb⟩
  clear Mp Xmp
  have M6 := Lib.hid (M5.out.keep bb)
  have Xm6 := Lib.hid (Xm5.out.keep bb)
  have Ym6 := Lib.hid (Ym5.out.keep bb)
  have B6 := Lib.hid (below_then B5.out bb)
  clear bb cM0 cM1 lM cXm0 cXm1 lXm cz0 cz1 M5 Xm5 Ym5 B5
  clear Ym6
  obtain ⟨pn, rfl⟩ := Int.eq_ofNat_of_zero_le p0
  obtain ⟨cX0, cX1⟩ := Xm6.out.use
  go_wp2_with fail
  go_loopw [14] (fun iv wr => ∃ j : Nat, pn ≤ j ∧ j ≤ tn ∧ iv = .int .i64 (j : Int) ∧ w6 = wr) (fun iv _ => tn - (intOf iv).toNat)
  case atStart => exact ⟨pn, Nat.le_refl _, by omega, rfl, rfl⟩
  case round =>
    obtain ⟨j, hj0, hj1, rfl, rfl⟩ := hrel
    by_cases hlt : j < tn
    · obtain ⟨g, og, rfl, hg, hc, hLc⟩ := mem_cell Xm6.out.mem (q := j) (by omega)
      rw [HB.out j (by omega) hlt] at hc
      change _ = some (Value.int .u8 0) at hc
      have hjl : (j : Int) < (tn : Int) := by omega
      have hjL : (j : Int) < (L : Int) := by omega
      go_wp2
      go_roundw
      case rel => exact ⟨j + 1, by omega, by omega, by go_num, by trivial⟩
      case measure => simp [intOf]; omega
    · have hjk : j = tn := by omega
      subst hjk
      have hjl : decide ((j : Int) < (j : Int)) = false := by simp
      go_wp2_with fail
      refine (comma_at _ _ _ _ _ _ X1 (j : Int) ja _ Xm6.out.mem (by omega) (by omega) ht).mono ?_
      rw [HP1.out, HG1.out, HX2.out]
      rintro e w7 ⟨A3, L3, g3, P3, K3, d3, rfl, hx3, bb⟩
      have Mp := Lib.hid (M6.out.keep bb)
      have M7 := Lib.hid (Mp.out.keep (al_one _ (.cells #[.slice A3 L3 g3, .slice P3 K3 d3] 25)))
      have Xmp := Lib.hid (Xm6.out.keep bb)
      have Xm7 := Lib.hid (Xmp.out.keep (al_one _ (.cells #[.slice A3 L3 g3, .slice P3 K3 d3] 25)))
      have B7 := Lib.hid (below_then (below_then B6.out bb) (al_one _ (.cells #[.slice A3 L3 g3, .slice P3 K3 d3] 25)))
      have Pm7 := Lib.hid (at_new hx3)
      clear bb cX0 cX1 M6 Xm6 B6 hx3
      have hl : L = L3 := HYL.out.symm.trans Pm7.out.mem.len1
      subst hl
      have hk3 : K3 ≤ 62 := by have a1 := Pm7.out.mem.len2; have a2 := HYK.out; omega
      obtain ⟨cP0, cP1⟩ := Pm7.out.use
      go_wp2_with fail
      refine (comma_at _ _ _ _ _ _ X2 ((j : Int) + 8) jb _ Pm7.out.mem (by omega) (by omega) ht8).mono ?_
      rw [HP2.out, HG2.out, HX3.out]
      rintro e w8 ⟨A4, L4, g4, P4, K4, d4, rfl, hx4, bb⟩
      clear Mp Xmp
      have Mp := Lib.hid (M7.out.keep bb)
      have M8 := Lib.hid (Mp.out.keep (al_one _ (.cells #[.slice A4 L4 g4, .slice P4 K4 d4] 25)))
      have Xmp := Lib.hid (Xm7.out.keep bb)
      have Xm8 := Lib.hid (Xmp.out.keep (al_one _ (.cells #[.slice A4 L4 g4, .slice P4 K4 d4] 25)))
      have Pmp := Lib.hid (Pm7.out.keep bb)
      have Pm8 := Lib.hid (Pmp.out.keep (al_one _ (.cells #[.slice A4 L4 g4, .slice P4 K4 d4] 25)))
      have B8 := Lib.hid (below_then (below_then B7.out bb) (al_one _ (.cells #[.slice A4 L4 g4, .slice P4 K4 d4] 25)))
      have Qm8 := Lib.hid (at_new hx4)
      clear bb cP0 cP1 M7 Xm7 Pm7 B7 hx4
      have hl : L = L4 := HZL.out.symm.trans Qm8.out.mem.len1
      subst hl
      obtain ⟨cQ0, cQ1⟩ := Qm8.out.use
      go_wp2_with fail
      refine (rfetch_at _ _ _ _ _ _ X3 (j : Int) _ Qm8.out.mem (by omega)).mono ?_
      rw [HF1.out, HK1.out]
      rintro e w9 ⟨rfl, bb⟩
      clear Mp Xmp Pmp
      have M9 := Lib.hid (M8.out.keep bb)
      have Xm9 := Lib.hid (Xm8.out.keep bb)
      have Pm9 := Lib.hid (Pm8.out.keep bb)
      have Qm9 := Lib.hid (Qm8.out.keep bb)
      have B9 := Lib.hid (below_then B8.out bb)
      clear bb cQ0 cQ1 M8 Xm8 Pm8 Qm8 B8
      obtain ⟨cQ0, cQ1⟩ := Qm9.out.use
      go_wp2_with fail
      refine (rfetch_at _ _ _ _ _ _ X3 ((j : Int) + 8) _ Qm9.out.mem (by omega)).mono ?_
      rw [HF2.out, HK2.out]
      rintro e w10 ⟨rfl, bb⟩
      have M10 := Lib.hid (M9.out.keep bb)
      have Xm10 := Lib.hid (Xm9.out.keep bb)
      have Pm10 := Lib.hid (Pm9.out.keep bb)
      have Qm10 := Lib.hid (Qm9.out.keep bb)
      have B10 := Lib.hid (below_then B9.out bb)
      clear bb cQ0 cQ1 M9 Xm9 Pm9 Qm9 B9
      go_wp2_with fail
      go_ret
      exact ⟨rfl, B10.out⟩
end Go.Proofs.Ytekfemkoiadipaa
