/- The walk of SpcJoins: the early ways. -/
import Derived.Test.YtekfemkoiadipaaSpcMath
import Derived.Test.YtekfemkoiadipaaBytApp
namespace Go.Proofs.Ytekfemkoiadipaa
open Go.RowKit
set_option linter.unusedVariables false
set_option linter.unusedSimpArgs false

set_option maxRecDepth 100000 in
set_option maxHeartbeats 16000000 in
theorem joins_early (A P Ab Ac : Option Addr) (L c K d nb cb nc cc : Nat) (m : PM) (bs cs : List UInt8) (p : Int) (w : World) (HM : Hid (IsMem w (.agg #[.slice A L c, .slice P K d]) m)) (HU : Hid (Byt w (.slice Ab nb cb) bs)) (HV : Hid (Byt w (.slice Ac nc cc) cs)) (hnb : nb ≤ 9223372036854775807) (hnc : nc ≤ 9223372036854775807) (H0 : (fewB m 600 && rightB m) = false ∨ (fewB m 600 && rightB m) = true ∧ (endB L p = false ∨ endB L p = true ∧ (100 < nb ∨ nb ≤ 100 ∧ 100 < nc))) :
    Calls Try.prog 7 #[.agg #[.slice A L c, .slice P K d, .int .i64 p, .slice Ab nb cb, .slice Ac nc cc]] w fun e w' => e = .returned (.bool true) ∧ Below w.heap.size w w' := by
  rcases H0 with hmay | ⟨hmay, hp | ⟨hp, h1 | ⟨h2, h1⟩⟩⟩
  · skip
    go_enter Try.func7, Try.ntmps7
    go_wp2_with fail
    refine (shown_any _).mono ?_
    rintro e w1 ⟨rfl, bb⟩
    have M1 := Lib.hid ((start6 HM.out _).keep bb)
    have U1 := Lib.hid ((HU.out.keep (((Below.refl _ w).alloc (Nat.le_refl _) _).alloc (by simp) _)).keep bb)
    have V1 := Lib.hid ((HV.out.keep (((Below.refl _ w).alloc (Nat.le_refl _) _).alloc (by simp) _)).keep bb)
    have B1 := Lib.hid (below_two bb)
    clear bb
    obtain ⟨cM0, cM1⟩ := M1.out.use
    go_wp2_with fail
    refine (may_at _ _ _ _ _ _ m _ M1.out.mem).mono ?_
    rw [hmay]
    rintro e w2 ⟨rfl, bb⟩
    have M2 := Lib.hid (M1.out.keep bb)
    have U2 := Lib.hid (U1.out.keep bb)
    have V2 := Lib.hid (V1.out.keep bb)
    have B2 := Lib.hid (below_then B1.out bb)
    clear bb cM0 cM1 M1 U1 V1 B1
    go_wp2_with fail
    go_ret
    exact ⟨rfl, B2.out⟩
  · skip
    go_enter Try.func7, Try.ntmps7
    go_wp2_with fail
    refine (shown_any _).mono ?_
    rintro e w1 ⟨rfl, bb⟩
    have M1 := Lib.hid ((start6 HM.out _).keep bb)
    have U1 := Lib.hid ((HU.out.keep (((Below.refl _ w).alloc (Nat.le_refl _) _).alloc (by simp) _)).keep bb)
    have V1 := Lib.hid ((HV.out.keep (((Below.refl _ w).alloc (Nat.le_refl _) _).alloc (by simp) _)).keep bb)
    have B1 := Lib.hid (below_two bb)
    clear bb
    obtain ⟨cM0, cM1⟩ := M1.out.use
    go_wp2_with fail
    refine (may_at _ _ _ _ _ _ m _ M1.out.mem).mono ?_
    rw [hmay]
    rintro e w2 ⟨rfl, bb⟩
    have M2 := Lib.hid (M1.out.keep bb)
    have U2 := Lib.hid (U1.out.keep bb)
    have V2 := Lib.hid (V1.out.keep bb)
    have B2 := Lib.hid (below_then B1.out bb)
    clear bb cM0 cM1 M1 U1 V1 B1
    obtain ⟨cM0, cM1⟩ := M2.out.use
    go_wp2_with fail
    refine (is_at _ _ _ _ _ _ p _).mono ?_
    rw [hp]
    rintro e w3 ⟨rfl, bb⟩
    have M3 := Lib.hid (M2.out.keep bb)
    have U3 := Lib.hid (U2.out.keep bb)
    have V3 := Lib.hid (V2.out.keep bb)
    have B3 := Lib.hid (below_then B2.out bb)
    clear bb cM0 cM1 M2 U2 V2 B2
    go_wp2_with fail
    go_ret
    exact ⟨rfl, B3.out⟩
  · have h1' : (100 : Int) < (nb : Int) := by omega
    go_enter Try.func7, Try.ntmps7
    go_wp2_with fail
    refine (shown_any _).mono ?_
    rintro e w1 ⟨rfl, bb⟩
    have M1 := Lib.hid ((start6 HM.out _).keep bb)
    have U1 := Lib.hid ((HU.out.keep (((Below.refl _ w).alloc (Nat.le_refl _) _).alloc (by simp) _)).keep bb)
    have V1 := Lib.hid ((HV.out.keep (((Below.refl _ w).alloc (Nat.le_refl _) _).alloc (by simp) _)).keep bb)
    have B1 := Lib.hid (below_two bb)
    clear bb
    obtain ⟨cM0, cM1⟩ := M1.out.use
    go_wp2_with fail
    refine (may_at _ _ _ _ _ _ m _ M1.out.mem).mono ?_
    rw [hmay]
    rintro e w2 ⟨rfl, bb⟩
    have M2 := Lib.hid (M1.out.keep bb)
    have U2 := Lib.hid (U1.out.keep bb)
    have V2 := Lib.hid (V1.out.keep bb)
    have B2 := Lib.hid (below_then B1.out bb)
    clear bb cM0 cM1 M1 U1 V1 B1
    obtain ⟨cM0, cM1⟩ := M2.out.use
    go_wp2_with fail
    refine (is_at _ _ _ _ _ _ p _).mono ?_
    rw [hp]
    rintro e w3 ⟨rfl, bb⟩
    have M3 := Lib.hid (M2.out.keep bb)
    have U3 := Lib.hid (U2.out.keep bb)
    have V3 := Lib.hid (V2.out.keep bb)
    have B3 := Lib.hid (below_then B2.out bb)
    clear bb cM0 cM1 M2 U2 V2 B2
    go_wp2_with fail
    go_ret
    exact ⟨rfl, B3.out⟩
  · have h2' : decide ((100 : Int) < (nb : Int)) = false := by simp; omega
    have h1' : (100 : Int) < (nc : Int) := by omega
    go_enter Try.func7, Try.ntmps7
    go_wp2_with fail
    refine (shown_any _).mono ?_
    rintro e w1 ⟨rfl, bb⟩
    have M1 := Lib.hid ((start6 HM.out _).keep bb)
    have U1 := Lib.hid ((HU.out.keep (((Below.refl _ w).alloc (Nat.le_refl _) _).alloc (by simp) _)).keep bb)
    have V1 := Lib.hid ((HV.out.keep (((Below.refl _ w).alloc (Nat.le_refl _) _).alloc (by simp) _)).keep bb)
    have B1 := Lib.hid (below_two bb)
    clear bb
    obtain ⟨cM0, cM1⟩ := M1.out.use
    go_wp2_with fail
    refine (may_at _ _ _ _ _ _ m _ M1.out.mem).mono ?_
    rw [hmay]
    rintro e w2 ⟨rfl, bb⟩
    have M2 := Lib.hid (M1.out.keep bb)
    have U2 := Lib.hid (U1.out.keep bb)
    have V2 := Lib.hid (V1.out.keep bb)
    have B2 := Lib.hid (below_then B1.out bb)
    clear bb cM0 cM1 M1 U1 V1 B1
    obtain ⟨cM0, cM1⟩ := M2.out.use
    go_wp2_with fail
    refine (is_at _ _ _ _ _ _ p _).mono ?_
    rw [hp]
    rintro e w3 ⟨rfl, bb⟩
    have M3 := Lib.hid (M2.out.keep bb)
    have U3 := Lib.hid (U2.out.keep bb)
    have V3 := Lib.hid (V2.out.keep bb)
    have B3 := Lib.hid (below_then B2.out bb)
    clear bb cM0 cM1 M2 U2 V2 B2
    go_wp2_with fail
    go_ret
    exact ⟨rfl, B3.out⟩
set_option maxRecDepth 100000 in
set_option maxHeartbeats 16000000 in
theorem joins_no (A P Ab Ac : Option Addr) (L c K d nb cb nc cc : Nat) (m : PM) (bs cs : List UInt8) (p : Int) (w : World) (HM : Hid (IsMem w (.agg #[.slice A L c, .slice P K d]) m)) (HU : Hid (Byt w (.slice Ab nb cb) bs)) (HV : Hid (Byt w (.slice Ac nc cc) cs)) (hnb : nb ≤ 9223372036854775807) (hnc : nc ≤ 9223372036854775807) (hmay : (fewB m 600 && rightB m) = true) (hp : endB L p = true) (h1 : decide ((100 : Int) < (nb : Int)) = false) (h2 : decide ((100 : Int) < (nc : Int)) = false) (hL : L ≤ 600) (hK : K ≤ 60) (hr : roomB L p nb = false) (hr2 : (L : Int) - p < (nb : Int)) (p0 : 0 ≤ p) (p1 : p ≤ (L : Int)) :
    Calls Try.prog 7 #[.agg #[.slice A L c, .slice P K d, .int .i64 p, .slice Ab nb cb, .slice Ac nc cc]] w fun e w' => e = .returned (.bool true) ∧ Below w.heap.size w w' := by
  go_enter Try.func7, Try.ntmps7
  go_wp2_with fail
  refine (shown_any _).mono ?_
  rintro e w1 ⟨rfl, bb⟩
  have M1 := Lib.hid ((start6 HM.out _).keep bb)
  have U1 := Lib.hid ((HU.out.keep (((Below.refl _ w).alloc (Nat.le_refl _) _).alloc (by simp) _)).keep bb)
  have V1 := Lib.hid ((HV.out.keep (((Below.refl _ w).alloc (Nat.le_refl _) _).alloc (by simp) _)).keep bb)
  have B1 := Lib.hid (below_two bb)
  clear bb
  obtain ⟨cM0, cM1⟩ := M1.out.use
  go_wp2_with fail
  refine (may_at _ _ _ _ _ _ m _ M1.out.mem).mono ?_
  rw [hmay]
  rintro e w2 ⟨rfl, bb⟩
  have M2 := Lib.hid (M1.out.keep bb)
  have U2 := Lib.hid (U1.out.keep bb)
  have V2 := Lib.hid (V1.out.keep bb)
  have B2 := Lib.hid (below_then B1.out bb)
  clear bb cM0 cM1 M1 U1 V1 B1
  obtain ⟨cM0, cM1⟩ := M2.out.use
  go_wp2_with fail
  refine (is_at _ _ _ _ _ _ p _).mono ?_
  rw [hp]
  rintro e w3 ⟨rfl, bb⟩
  have M3 := Lib.hid (M2.out.keep bb)
  have U3 := Lib.hid (U2.out.keep bb)
  have V3 := Lib.hid (V2.out.keep bb)
  have B3 := Lib.hid (below_then B2.out bb)
  clear bb cM0 cM1 M2 U2 V2 B2
  obtain ⟨cM0, cM1⟩ := M3.out.use
  go_wp2_with fail
  refine (lay_at _ _ _ _ _ _ _ _ _ m bs p _ M3.out.mem U3.out (by omega) (by omega) hp hnb).mono ?_
  rw [layP_no hr, layC_no hr]
  rintro e w4 ⟨A1, L1, c1, P1, K1, d1, rfl, hx1, bb⟩
  have Mp := Lib.hid (M3.out.keep bb)
  have M4 := Lib.hid (Mp.out.keep (al_one _ (.cells #[.slice A1 L1 c1, .slice P1 K1 d1] 25)))
  have Up := Lib.hid (U3.out.keep bb)
  have U4 := Lib.hid (Up.out.keep (al_one _ (.cells #[.slice A1 L1 c1, .slice P1 K1 d1] 25)))
  have Vp := Lib.hid (V3.out.keep bb)
  have V4 := Lib.hid (Vp.out.keep (al_one _ (.cells #[.slice A1 L1 c1, .slice P1 K1 d1] 25)))
  have B4 := Lib.hid (below_then (below_then B3.out bb) (al_one _ (.cells #[.slice A1 L1 c1, .slice P1 K1 d1] 25)))
  have Xm4 := Lib.hid (at_new hx1)
  clear bb cM0 cM1 M3 U3 V3 B3 hx1
  obtain ⟨cM0, cM1⟩ := Mp.out.use
  have lM := Mp.out.lt
  go_wp2_with fail
  go_ret
  exact ⟨rfl, B4.out⟩
end Go.Proofs.Ytekfemkoiadipaa
