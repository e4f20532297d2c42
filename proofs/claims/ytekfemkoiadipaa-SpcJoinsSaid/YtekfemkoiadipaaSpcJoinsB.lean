/- The walk of SpcJoins: the first row has room. -/
import Derived.Test.YtekfemkoiadipaaSpcJoinsA
import Derived.Deep.RegionHeld3
namespace Go.Proofs.Ytekfemkoiadipaa
open Go.RowKit
set_option linter.unusedVariables false
set_option linter.unusedSimpArgs false

theorem zput {w : World} {g : Nat} {A P : Option Addr} {L c K d : Nat} {m : PM} (h : Box w g (.slice none 0 0) (.slice none 0 0) 25) (k : IsMem w (.agg #[.slice A L c, .slice P K d]) m) : At g A P L c K d m ((w.setCell ⟨g, 0, none⟩ (.slice A L c)).setCell ⟨g, 1, none⟩ (.slice P K d)) :=
  ⟨h.put _ _, k.row h (row_put _ _ _ _)⟩
theorem zpack {w W0 : World} {g : Nat} {A P : Option Addr} {L c K d : Nat} {m : PM} (h : Box w g (.slice none 0 0) (.slice none 0 0) 25) (k : IsMem w (.agg #[.slice A L c, .slice P K d]) m) (b : Below W0.heap.size W0 w) (hg : W0.heap.size ≤ g) : ∃ wf, ((w.setCell ⟨g, 0, none⟩ (.slice A L c)).setCell ⟨g, 1, none⟩ (.slice P K d)) = wf ∧ Hid (At g A P L c K d m wf) ∧ Below W0.heap.size W0 wf :=
  ⟨_, rfl, zput h k, (b.setCell hg _).setCell hg _⟩
theorem apack {w W0 : World} {A P : Option Addr} {L c K d : Nat} {m : PM} (k : IsMem w (.agg #[.slice A L c, .slice P K d]) m) (b : Below W0.heap.size W0 w) : ∃ wf, w.alloc (.cells #[.slice A L c, .slice P K d] 25) = wf ∧ Hid (At w.heap.size A P L c K d m wf) ∧ Below W0.heap.size W0 wf :=
  ⟨_, rfl, at_new k, since_aa b _⟩
set_option maxRecDepth 100000 in
set_option maxHeartbeats 16000000 in
theorem joins_yes (A P Ab Ac : Option Addr) (L c K d nb cb nc cc : Nat) (m : PM) (bs cs : List UInt8) (p : Int) (w : World) (HM : Hid (IsMem w (.agg #[.slice A L c, .slice P K d]) m)) (HU : Hid (Byt w (.slice Ab nb cb) bs)) (HV : Hid (Byt w (.slice Ac nc cc) cs)) (hnb : nb ≤ 9223372036854775807) (hnc : nc ≤ 9223372036854775807) (hmay : (fewB m 600 && rightB m) = true) (hp : endB L p = true) (h1 : decide ((100 : Int) < (nb : Int)) = false) (h2 : decide ((100 : Int) < (nc : Int)) = false) (hL : L ≤ 600) (hK : K ≤ 60) (X1 X2 X3 : PM) (e3 c2 : Int) (HX1 : Hid (layM m p bs = X1)) (HX2 : Hid (layM X1 (p + (nb : Int)) cs = X2)) (HXL : Hid (X1.1.length = L)) (HXK : Hid (X1.2.length ≤ K + 1)) (HYL : Hid (X2.1.length = L)) (hr : roomB L p nb = true) (hp2 : endB L (p + (nb : Int)) = true) (HE2 : Hid (layP L (p + (nb : Int)) nc = e3)) (HC2 : Hid (layC L (p + (nb : Int)) nc = c2)) (p0 : 0 ≤ p) (p1 : p ≤ (L : Int)) (n1 : nb ≤ 100) (n2 : nc ≤ 100) (HJ : Hid (∀ (w1 : World) (v : Value), IsMem w1 (.agg #[.slice A L c, .slice P K d]) m → Byt w1 v (bs ++ cs) → Calls Try.prog 13 #[.agg #[.slice A L c, .slice P K d], .int .i64 p, v] w1 fun e w' => ∃ A' L' c' P' K' d', e = .returned (.tuple #[.agg #[.slice A' L' c', .slice P' K' d'], .int .i64 e3, .int .i64 c2]) ∧ IsMem w' (.agg #[.slice A' L' c', .slice P' K' d']) X3 ∧ Below w1.heap.size w1 w')) (HST : Hid (X2.1 = X3.1)) (hc : c2 = 0) :
    Calls Try.prog 7 #[.agg #[.slice A L c, .slice P K d, .int .i64 p, .slice Ab nb cb, .slice Ac nc cc]] w fun e w' => e = .returned (.bool true) ∧ Below w.heap.size w w' := by
  subst hc
  go_enter Try.func7, Try.ntmps7
  go_wp2_with fail
  refine (shown_any _).mono ?_
  rintro e w1 ⟨rfl, bb⟩
  have M1 := Lib.hid ((start6 HM.out _).keep bb)
  have U1 := Lib.hid ((HU.out.keep (((Below.refl _ w).alloc (Nat.le_refl _) _).alloc (by simp) _)).keep bb)
  have V1 := Lib.hid ((HV.out.keep (((Below.refl _ w).alloc (Nat.le_refl _) _).alloc (by simp) _)).keep bb)
  have B1 := Lib.hid (below_two bb)
  clear bb
  obtain ⟨cM0, cM1⟩ := M1.out.use
  go_wp2_with fail
  refine (may_at _ _ _ _ _ _ m _ M1.out.mem).mono ?_
  rw [hmay]
  rintro e w2 ⟨rfl, bb⟩
  have M2 := Lib.hid (M1.out.keep bb)
  have U2 := Lib.hid (U1.out.keep bb)
  have V2 := Lib.hid (V1.out.keep bb)
  have B2 := Lib.hid (below_then B1.out bb)
  clear bb cM0 cM1 M1 U1 V1 B1
  obtain ⟨cM0, cM1⟩ := M2.out.use
  go_wp2_with fail
  refine (is_at _ _ _ _ _ _ p _).mono ?_
  rw [hp]
  rintro e w3 ⟨rfl, bb⟩
  have M3 := Lib.hid (M2.out.keep bb)
  have U3 := Lib.hid (U2.out.keep bb)
  have V3 := Lib.hid (V2.out.keep bb)
  have B3 := Lib.hid (below_then B2.out bb)
  clear bb cM0 cM1 M2 U2 V2 B2
  obtain ⟨cM0, cM1⟩ := M3.out.use
  go_wp2_with fail
  refine (lay_at _ _ _ _ _ _ _ _ _ m bs p _ M3.out.mem U3.out (by omega) (by omega) hp hnb).mono ?_
  rw [layP_yes hr, layC_yes hr, HX1.out]
  rintro e w4 ⟨A1, L1, c1, P1, K1, d1, rfl, hx1, bb⟩
  have Mp := Lib.hid (M3.out.keep bb)
  have M4 := Lib.hid (Mp.out.keep (al_one _ (.cells #[.slice A1 L1 c1, .slice P1 K1 d1] 25)))
  have Up := Lib.hid (U3.out.keep bb)
  have U4 := Lib.hid (Up.out.keep (al_one _ (.cells #[.slice A1 L1 c1, .slice P1 K1 d1] 25)))
  have Vp := Lib.hid (V3.out.keep bb)
  have V4 := Lib.hid (Vp.out.keep (al_one _ (.cells #[.slice A1 L1 c1, .slice P1 K1 d1] 25)))
  have B4 := Lib.hid (below_then (below_then B3.out bb) (al_one _ (.cells #[.slice A1 L1 c1, .slice P1 K1 d1] 25)))
  have Xm4 := Lib.hid (at_new hx1)
  clear bb cM0 cM1 M3 U3 V3 B3 hx1
  have hl : L = L1 := HXL.out.symm.trans Xm4.out.mem.len1
  subst hl
  have hk1 : K1 ≤ 61 := by have a1 := Xm4.out.mem.len2; have a2 := HXK.out; omega
  go_wp2_with fail
  refine (lay_at _ _ _ _ _ _ _ _ _ X1 cs (p + (nb : Int)) _ Xm4.out.mem V4.out (by omega) (by omega) hp2 hnc).mono ?_
  rw [HE2.out, HC2.out, HX2.out]
  rintro e w5 ⟨A2, L2, cq, P2, K2, d2, rfl, hx2, bb⟩
  clear Mp Up Vp
  have Mp := Lib.hid (M4.out.keep bb)
  have M5 := Lib.hid (Mp.out.keep (al_one _ (.cells #[.slice A2 L2 cq, .slice P2 K2 d2] 25)))
  have Up := Lib.hid (U4.out.keep bb)
  have U5 := Lib.hid (Up.out.keep (al_one _ (.cells #[.slice A2 L2 cq, .slice P2 K2 d2] 25)))
  have Vp := Lib.hid (V4.out.keep bb)
  have V5 := Lib.hid (Vp.out.keep (al_one _ (.cells #[.slice A2 L2 cq, .slice P2 K2 d2] 25)))
  have Xmp := Lib.hid (Xm4.out.keep bb)
  have Xm5 := Lib.hid (Xmp.out.keep (al_one _ (.cells #[.slice A2 L2 cq, .slice P2 K2 d2] 25)))
  have B5 := Lib.hid (below_then (below_then B4.out bb) (al_one _ (.cells #[.slice A2 L2 cq, .slice P2 K2 d2] 25)))
  have Ym5 := Lib.hid (at_new hx2)
  clear bb M4 U4 V4 Xm4 B4 hx2
  have hl : L = L2 := HYL.out.symm.trans Ym5.out.mem.len1
  subst hl
  clear Xm5 Xmp
  clear U5 Up
  clear V5 Vp
  obtain ⟨W0, hW⟩ : ∃ W0, w5.alloc (.cells #[.slice A2 L cq, .slice P2 K2 d2] 25) = W0 := ⟨_, rfl⟩
  rw [hW] at M5 Ym5 B5
  have HW := Lib.hid hW
  clear hW Mp
  have SB : Hid (∀ a, Below W0.heap.size W0 a → (a.cell? ⟨w.heap.size + 1, 0, none⟩ = some (.slice A L c) ∧ a.cell? ⟨w.heap.size + 1, 1, none⟩ = some (.slice P K d) ∧ Below W0.heap.size W0 a)) := Lib.hid fun a h => ⟨(M5.out.keep h).use.1, (M5.out.keep h).use.2, h⟩
  have HUW : Hid (Byt W0 (.slice Ab nb cb) bs) := Lib.hid (HU.out.keep B5.out)
  have HVW : Hid (Byt W0 (.slice Ac nc cc) cs) := Lib.hid (HV.out.keep B5.out)
  have g1 : 0 + nb ≤ 1000000 := by omega
  have g2 : 0 + nb + nc ≤ 1000000 := by omega
  go_wp2_with fail
  rw [HW.out]
  refine wp_region_noPanic ?_
  go_region_held3 (fun a => a.cell? ⟨w.heap.size + 1, 0, none⟩ = some (.slice A L c) ∧ a.cell? ⟨w.heap.size + 1, 1, none⟩ = some (.slice P K d) ∧ Below W0.heap.size W0 a) (first | assumption | exact SB.out _ (since_d _) | exact SB.out _ (since_ad _ _) | exact SB.out _ (since_add _ _ _) | exact SB.out _ (since_aa s5.2.2 _) | exact SB.out _ (since_aa s6.2.2 _) | exact SB.out _ (since_aa s7.2.2 _) | exact SB.out _ (((s7.2.2).setCell (by assumption) _).setCell (by assumption) _) | exact SB.out _ (((since_aa s7.2.2 _).setCell s7.2.2.size _).setCell s7.2.2.size _))
    (first
      | (refine step_bapp rfl _ _ rfl W0.heap.size _ 0 [] rfl (none_bowns W0) Ab nb cb bs rfl (HUW.out.keep (by assumption : _ ∧ _ ∧ Below W0.heap.size W0 _).2.2) g1 (by assumption : _ ∧ _ ∧ Below W0.heap.size W0 _).2.2.size W0 (by assumption : _ ∧ _ ∧ Below W0.heap.size W0 _).2.2 (Nat.le_refl _) ?_; intro va ua ho ba hgw; have s5 := SB.out _ ba; have HO := Lib.hid ho;  clear ho ba hgw)
      | (refine step_bapp rfl _ _ rfl W0.heap.size _ 0 [] rfl ((none_bowns W0).alloc _) Ab nb cb bs rfl (HUW.out.keep (by assumption : _ ∧ _ ∧ Below W0.heap.size W0 _).2.2) g1 (by assumption : _ ∧ _ ∧ Below W0.heap.size W0 _).2.2.size W0 (by assumption : _ ∧ _ ∧ Below W0.heap.size W0 _).2.2 (Nat.le_refl _) ?_; intro va ua ho ba hgw; have s5 := SB.out _ ba; have HO := Lib.hid ho; have hb9 : W0.heap.size ≤ W0.heap.size + 1 := Nat.le_succ _; have Q1 := Lib.hid ((zbox2 W0 (.cells #[] 5)).grown_h hgw ((zbox2 W0 (.cells #[] 5)).own_ne ((none_bowns W0).alloc _)) rfl); clear ho ba hgw)
      | (refine step_bapp rfl _ _ rfl W0.heap.size _ 0 [] rfl (none_bowns2 W0 _) Ab nb cb bs rfl (HUW.out.keep (by assumption : _ ∧ _ ∧ Below W0.heap.size W0 _).2.2) g1 (by assumption : _ ∧ _ ∧ Below W0.heap.size W0 _).2.2.size W0 (by assumption : _ ∧ _ ∧ Below W0.heap.size W0 _).2.2 (Nat.le_refl _) ?_; intro va ua ho ba hgw; have s5 := SB.out _ ba; have HO := Lib.hid ho; have hb9 : W0.heap.size ≤ W0.heap.size := Nat.le_refl _; have Q1 := Lib.hid (((zbox W0).keep (al_one _ (.cells #[] 5))).grown_h hgw (((zbox W0).keep (al_one _ (.cells #[] 5))).own_ne (none_bowns2 W0 _)) rfl); clear ho ba hgw)
      | (refine step_bapp rfl _ _ rfl W0.heap.size va (0 + nb) ([] ++ bs) rfl HO.out Ac nc cc cs rfl (HVW.out.keep s5.2.2) g2 (s5.2.2).size W0 s5.2.2 (Nat.le_refl _) ?_; intro vb ub ho bb2 hgw; have s6 := SB.out _ bb2; have HO2 : Hid (Byt ub vb (bs ++ cs)) := Lib.hid (by simpa using ho.byt); have Q2 := Lib.hid (Q1.out.grown hgw (Q1.out.own_ne HO.out)); clear ho bb2 hgw)
      | (refine step_bapp rfl _ _ rfl W0.heap.size va (0 + nb) ([] ++ bs) rfl HO.out Ac nc cc cs rfl (HVW.out.keep s5.2.2) g2 (s5.2.2).size W0 s5.2.2 (Nat.le_refl _) ?_; intro vb ub ho bb2 hgw; have s6 := SB.out _ bb2; have HO2 : Hid (Byt ub vb (bs ++ cs)) := Lib.hid (by simpa using ho.byt);  clear ho bb2 hgw)
      | (refine step_bapp rfl _ _ rfl W0.heap.size va (0 + nb) ([] ++ bs) rfl (HO.out.alloc _) Ac nc cc cs rfl (HVW.out.keep (since_aa s5.2.2 _)) g2 ((since_aa s5.2.2 _)).size W0 (since_aa s5.2.2 _) (Nat.le_refl _) ?_; intro vb ub ho bb2 hgw; have s6 := SB.out _ bb2; have HO2 : Hid (Byt ub vb (bs ++ cs)) := Lib.hid (by simpa using ho.byt); have hb9 : W0.heap.size ≤ ua.heap.size := s5.2.2.size; have Q2 := Lib.hid ((zbox ua).grown_h hgw ((zbox ua).own_ne (HO.out.alloc _)) rfl); clear ho bb2 hgw)
      | (go_at_call 13; ((with_reducible refine (HJ.out _ _ (M5.out.keep s6.2.2).mem HO2.out).mono ?_); rintro ec uc ⟨A9, L9, c9, P9, K9, d9, rfl, hx9, b9⟩; have s7 := SB.out _ (below_then s6.2.2 b9); have Q3 := Lib.hid (Q2.out.keep b9); obtain ⟨q2, q3, q4, q5⟩ := Q3.out.use; have hq9 := hb9))
      | (go_at_call 13; ((with_reducible refine (HJ.out _ _ (M5.out.keep s6.2.2).mem HO2.out).mono ?_); rintro ec uc ⟨A9, L9, c9, P9, K9, d9, rfl, hx9, b9⟩; have s7 := SB.out _ (below_then s6.2.2 b9); skip))
      | (go_at_call 13; ((with_reducible refine (HJ.out _ _ (M5.out.keep (since_aa s6.2.2 _)).mem (HO2.out.keep (al_one _ _))).mono ?_); rintro ec uc ⟨A9, L9, c9, P9, K9, d9, rfl, hx9, b9⟩; have s7 := SB.out _ (below_then (since_aa s6.2.2 _) b9); have Q3 := Lib.hid ((zbox ub).keep_h b9 rfl); obtain ⟨q2, q3, q4, q5⟩ := Q3.out.use; have hq9 : W0.heap.size ≤ _ := s6.2.2.size)))
  all_goals (refine NoPanic.normal ?_)
  all_goals (first
    | (obtain ⟨wf, hwf, zf, bf⟩ := zpack Q3.out hx9 s7.2.2 hq9; rw [hwf]; clear hwf)
    | (obtain ⟨wf, hwf, zf, bf⟩ := apack hx9 s7.2.2; rw [hwf]; clear hwf))
  all_goals (obtain ⟨cy0, cy1⟩ := (Ym5.out.keep bf).use; obtain ⟨cz0, cz1⟩ := zf.out.use; have cv1 := (Ym5.out.keep bf).mem.byt.conv; have cv2 := zf.out.mem.byt.conv; rw [HST.out] at cv1; generalize strB X3.1 = st at cv1 cv2)
  all_goals (have BF := Lib.hid (below_then B5.out bf); clear bf)
  all_goals go_wp2_with fail
  all_goals go_ret
  all_goals exact ⟨rfl, BF.out⟩
set_option maxRecDepth 100000 in
set_option maxHeartbeats 16000000 in
theorem joins_nor (er : Int) (A P Ab Ac : Option Addr) (L c K d nb cb nc cc : Nat) (m : PM) (bs cs : List UInt8) (p : Int) (w : World) (HM : Hid (IsMem w (.agg #[.slice A L c, .slice P K d]) m)) (HU : Hid (Byt w (.slice Ab nb cb) bs)) (HV : Hid (Byt w (.slice Ac nc cc) cs)) (hnb : nb ≤ 9223372036854775807) (hnc : nc ≤ 9223372036854775807) (hmay : (fewB m 600 && rightB m) = true) (hp : endB L p = true) (h1 : decide ((100 : Int) < (nb : Int)) = false) (h2 : decide ((100 : Int) < (nc : Int)) = false) (hL : L ≤ 600) (hK : K ≤ 60) (X1 X2 X3 : PM) (e3 c2 : Int) (HX1 : Hid (layM m p bs = X1)) (HX2 : Hid (layM X1 (p + (nb : Int)) cs = X2)) (HXL : Hid (X1.1.length = L)) (HXK : Hid (X1.2.length ≤ K + 1)) (HYL : Hid (X2.1.length = L)) (hr : roomB L p nb = true) (hp2 : endB L (p + (nb : Int)) = true) (HE2 : Hid (layP L (p + (nb : Int)) nc = e3)) (HC2 : Hid (layC L (p + (nb : Int)) nc = c2)) (p0 : 0 ≤ p) (p1 : p ≤ (L : Int)) (n1 : nb ≤ 100) (n2 : nc ≤ 100) (HJ : Hid (∀ (w1 : World) (v : Value), IsMem w1 (.agg #[.slice A L c, .slice P K d]) m → Byt w1 v (bs ++ cs) → Calls Try.prog 13 #[.agg #[.slice A L c, .slice P K d], .int .i64 p, v] w1 fun e w' => ∃ A' L' c' P' K' d', e = .returned (.tuple #[.agg #[.slice A' L' c', .slice P' K' d'], .int .i64 er, .int .i64 c2]) ∧ IsMem w' (.agg #[.slice A' L' c', .slice P' K' d']) X3 ∧ Below w1.heap.size w1 w')) (hc : c2 = -8) :
    Calls Try.prog 7 #[.agg #[.slice A L c, .slice P K d, .int .i64 p, .slice Ab nb cb, .slice Ac nc cc]] w fun e w' => e = .returned (.bool true) ∧ Below w.heap.size w w' := by
  subst hc
  go_enter Try.func7, Try.ntmps7
  go_wp2_with fail
  refine (shown_any _).mono ?_
  rintro e w1 ⟨rfl, bb⟩
  have M1 := Lib.hid ((start6 HM.out _).keep bb)
  have U1 := Lib.hid ((HU.out.keep (((Below.refl _ w).alloc (Nat.le_refl _) _).alloc (by simp) _)).keep bb)
  have V1 := Lib.hid ((HV.out.keep (((Below.refl _ w).alloc (Nat.le_refl _) _).alloc (by simp) _)).keep bb)
  have B1 := Lib.hid (below_two bb)
  clear bb
  obtain ⟨cM0, cM1⟩ := M1.out.use
  go_wp2_with fail
  refine (may_at _ _ _ _ _ _ m _ M1.out.mem).mono ?_
  rw [hmay]
  rintro e w2 ⟨rfl, bb⟩
  have M2 := Lib.hid (M1.out.keep bb)
  have U2 := Lib.hid (U1.out.keep bb)
  have V2 := Lib.hid (V1.out.keep bb)
  have B2 := Lib.hid (below_then B1.out bb)
  clear bb cM0 cM1 M1 U1 V1 B1
  obtain ⟨cM0, cM1⟩ := M2.out.use
  go_wp2_with fail
  refine (is_at _ _ _ _ _ _ p _).mono ?_
  rw [hp]
  rintro e w3 ⟨rfl, bb⟩
  have M3 := Lib.hid (M2.out.keep bb)
  have U3 := Lib.hid (U2.out.keep bb)
  have V3 := Lib.hid (V2.out.keep bb)
  have B3 := Lib.hid (below_then B2.out bb)
  clear bb cM0 cM1 M2 U2 V2 B2
  obtain ⟨cM0, cM1⟩ := M3.out.use
  go_wp2_with fail
  refine (lay_at _ _ _ _ _ _ _ _ _ m bs p _ M3.out.mem U3.out (by omega) (by omega) hp hnb).mono ?_
  rw [layP_yes hr, layC_yes hr, HX1.out]
  rintro e w4 ⟨A1, L1, c1, P1, K1, d1, rfl, hx1, bb⟩
  have Mp := Lib.hid (M3.out.keep bb)
  have M4 := Lib.hid (Mp.out.keep (al_one _ (.cells #[.slice A1 L1 c1, .slice P1 K1 d1] 25)))
  have Up := Lib.hid (U3.out.keep bb)
  have U4 := Lib.hid (Up.out.keep (al_one _ (.cells #[.slice A1 L1 c1, .slice P1 K1 d1] 25)))
  have Vp := Lib.hid (V3.out.keep bb)
  have V4 := Lib.hid (Vp.out.keep (al_one _ (.cells #[.slice A1 L1 c1, .slice P1 K1 d1] 25)))
  have B4 := Lib.hid (below_then (below_then B3.out bb) (al_one _ (.cells #[.slice A1 L1 c1, .slice P1 K1 d1] 25)))
  have Xm4 := Lib.hid (at_new hx1)
  clear bb cM0 cM1 M3 U3 V3 B3 hx1
  have hl : L = L1 := HXL.out.symm.trans Xm4.out.mem.len1
  subst hl
  have hk1 : K1 ≤ 61 := by have a1 := Xm4.out.mem.len2; have a2 := HXK.out; omega
  go_wp2_with fail
  refine (lay_at _ _ _ _ _ _ _ _ _ X1 cs (p + (nb : Int)) _ Xm4.out.mem V4.out (by omega) (by omega) hp2 hnc).mono ?_
  rw [HE2.out, HC2.out, HX2.out]
  rintro e w5 ⟨A2, L2, cq, P2, K2, d2, rfl, hx2, bb⟩
  clear Mp Up Vp
  have Mp := Lib.hid (M4.out.keep bb)
  have M5 := Lib.hid (Mp.out.keep (al_one _ (.cells #[.slice A2 L2 cq, .slice P2 K2 d2] 25)))
  have Up := Lib.hid (U4.out.keep bb)
  have U5 := Lib.hid (Up.out.keep (al_one _ (.cells #[.slice A2 L2 cq, .slice P2 K2 d2] 25)))
  have Vp := Lib.hid (V4.out.keep bb)
  have V5 := Lib.hid (Vp.out.keep (al_one _ (.cells #[.slice A2 L2 cq, .slice P2 K2 d2] 25)))
  have Xmp := Lib.hid (Xm4.out.keep bb)
  have Xm5 := Lib.hid (Xmp.out.keep (al_one _ (.cells #[.slice A2 L2 cq, .slice P2 K2 d2] 25)))
  have B5 := Lib.hid (below_then (below_then B4.out bb) (al_one _ (.cells #[.slice A2 L2 cq, .slice P2 K2 d2] 25)))
  have Ym5 := Lib.hid (at_new hx2)
  clear bb M4 U4 V4 Xm4 B4 hx2
  have hl : L = L2 := HYL.out.symm.trans Ym5.out.mem.len1
  subst hl
  clear Xm5 Xmp
  clear U5 Up
  clear V5 Vp
  obtain ⟨W0, hW⟩ : ∃ W0, w5.alloc (.cells #[.slice A2 L cq, .slice P2 K2 d2] 25) = W0 := ⟨_, rfl⟩
  rw [hW] at M5 Ym5 B5
  have HW := Lib.hid hW
  clear hW Mp
  have SB : Hid (∀ a, Below W0.heap.size W0 a → (a.cell? ⟨w.heap.size + 1, 0, none⟩ = some (.slice A L c) ∧ a.cell? ⟨w.heap.size + 1, 1, none⟩ = some (.slice P K d) ∧ Below W0.heap.size W0 a)) := Lib.hid fun a h => ⟨(M5.out.keep h).use.1, (M5.out.keep h).use.2, h⟩
  have HUW : Hid (Byt W0 (.slice Ab nb cb) bs) := Lib.hid (HU.out.keep B5.out)
  have HVW : Hid (Byt W0 (.slice Ac nc cc) cs) := Lib.hid (HV.out.keep B5.out)
  have g1 : 0 + nb ≤ 1000000 := by omega
  have g2 : 0 + nb + nc ≤ 1000000 := by omega
  go_wp2_with fail
  rw [HW.out]
  refine wp_region_noPanic ?_
  go_region_held3 (fun a => a.cell? ⟨w.heap.size + 1, 0, none⟩ = some (.slice A L c) ∧ a.cell? ⟨w.heap.size + 1, 1, none⟩ = some (.slice P K d) ∧ Below W0.heap.size W0 a) (first | assumption | exact SB.out _ (since_d _) | exact SB.out _ (since_ad _ _) | exact SB.out _ (since_add _ _ _) | exact SB.out _ (since_aa s5.2.2 _) | exact SB.out _ (since_aa s6.2.2 _) | exact SB.out _ (since_aa s7.2.2 _) | exact SB.out _ (((s7.2.2).setCell (by assumption) _).setCell (by assumption) _) | exact SB.out _ (((since_aa s7.2.2 _).setCell s7.2.2.size _).setCell s7.2.2.size _))
    (first
      | (refine step_bapp rfl _ _ rfl W0.heap.size _ 0 [] rfl (none_bowns W0) Ab nb cb bs rfl (HUW.out.keep (by assumption : _ ∧ _ ∧ Below W0.heap.size W0 _).2.2) g1 (by assumption : _ ∧ _ ∧ Below W0.heap.size W0 _).2.2.size W0 (by assumption : _ ∧ _ ∧ Below W0.heap.size W0 _).2.2 (Nat.le_refl _) ?_; intro va ua ho ba hgw; have s5 := SB.out _ ba; have HO := Lib.hid ho;  clear ho ba hgw)
      | (refine step_bapp rfl _ _ rfl W0.heap.size _ 0 [] rfl ((none_bowns W0).alloc _) Ab nb cb bs rfl (HUW.out.keep (by assumption : _ ∧ _ ∧ Below W0.heap.size W0 _).2.2) g1 (by assumption : _ ∧ _ ∧ Below W0.heap.size W0 _).2.2.size W0 (by assumption : _ ∧ _ ∧ Below W0.heap.size W0 _).2.2 (Nat.le_refl _) ?_; intro va ua ho ba hgw; have s5 := SB.out _ ba; have HO := Lib.hid ho; have hb9 : W0.heap.size ≤ W0.heap.size + 1 := Nat.le_succ _; have Q1 := Lib.hid ((zbox2 W0 (.cells #[] 5)).grown_h hgw ((zbox2 W0 (.cells #[] 5)).own_ne ((none_bowns W0).alloc _)) rfl); clear ho ba hgw)
      | (refine step_bapp rfl _ _ rfl W0.heap.size _ 0 [] rfl (none_bowns2 W0 _) Ab nb cb bs rfl (HUW.out.keep (by assumption : _ ∧ _ ∧ Below W0.heap.size W0 _).2.2) g1 (by assumption : _ ∧ _ ∧ Below W0.heap.size W0 _).2.2.size W0 (by assumption : _ ∧ _ ∧ Below W0.heap.size W0 _).2.2 (Nat.le_refl _) ?_; intro va ua ho ba hgw; have s5 := SB.out _ ba; have HO := Lib.hid ho; have hb9 : W0.heap.size ≤ W0.heap.size := Nat.le_refl _; have Q1 := Lib.hid (((zbox W0).keep (al_one _ (.cells #[] 5))).grown_h hgw (((zbox W0).keep (al_one _ (.cells #[] 5))).own_ne (none_bowns2 W0 _)) rfl); clear ho ba hgw)
      | (refine step_bapp rfl _ _ rfl W0.heap.size va (0 + nb) ([] ++ bs) rfl HO.out Ac nc cc cs rfl (HVW.out.keep s5.2.2) g2 (s5.2.2).size W0 s5.2.2 (Nat.le_refl _) ?_; intro vb ub ho bb2 hgw; have s6 := SB.out _ bb2; have HO2 : Hid (Byt ub vb (bs ++ cs)) := Lib.hid (by simpa using ho.byt); have Q2 := Lib.hid (Q1.out.grown hgw (Q1.out.own_ne HO.out)); clear ho bb2 hgw)
      | (refine step_bapp rfl _ _ rfl W0.heap.size va (0 + nb) ([] ++ bs) rfl HO.out Ac nc cc cs rfl (HVW.out.keep s5.2.2) g2 (s5.2.2).size W0 s5.2.2 (Nat.le_refl _) ?_; intro vb ub ho bb2 hgw; have s6 := SB.out _ bb2; have HO2 : Hid (Byt ub vb (bs ++ cs)) := Lib.hid (by simpa using ho.byt);  clear ho bb2 hgw)
      | (refine step_bapp rfl _ _ rfl W0.heap.size va (0 + nb) ([] ++ bs) rfl (HO.out.alloc _) Ac nc cc cs rfl (HVW.out.keep (since_aa s5.2.2 _)) g2 ((since_aa s5.2.2 _)).size W0 (since_aa s5.2.2 _) (Nat.le_refl _) ?_; intro vb ub ho bb2 hgw; have s6 := SB.out _ bb2; have HO2 : Hid (Byt ub vb (bs ++ cs)) := Lib.hid (by simpa using ho.byt); have hb9 : W0.heap.size ≤ ua.heap.size := s5.2.2.size; have Q2 := Lib.hid ((zbox ua).grown_h hgw ((zbox ua).own_ne (HO.out.alloc _)) rfl); clear ho bb2 hgw)
      | (go_at_call 13; ((with_reducible refine (HJ.out _ _ (M5.out.keep s6.2.2).mem HO2.out).mono ?_); rintro ec uc ⟨A9, L9, c9, P9, K9, d9, rfl, hx9, b9⟩; have s7 := SB.out _ (below_then s6.2.2 b9); have Q3 := Lib.hid (Q2.out.keep b9); obtain ⟨q2, q3, q4, q5⟩ := Q3.out.use; have hq9 := hb9))
      | (go_at_call 13; ((with_reducible refine (HJ.out _ _ (M5.out.keep s6.2.2).mem HO2.out).mono ?_); rintro ec uc ⟨A9, L9, c9, P9, K9, d9, rfl, hx9, b9⟩; have s7 := SB.out _ (below_then s6.2.2 b9); skip))
      | (go_at_call 13; ((with_reducible refine (HJ.out _ _ (M5.out.keep (since_aa s6.2.2 _)).mem (HO2.out.keep (al_one _ _))).mono ?_); rintro ec uc ⟨A9, L9, c9, P9, K9, d9, rfl, hx9, b9⟩; have s7 := SB.out _ (below_then (since_aa s6.2.2 _) b9); have Q3 := Lib.hid ((zbox ub).keep_h b9 rfl); obtain ⟨q2, q3, q4, q5⟩ := Q3.out.use; have hq9 : W0.heap.size ≤ _ := s6.2.2.size)))
  all_goals (refine NoPanic.normal ?_)
  all_goals (first
    | (obtain ⟨wf, hwf, zf, bf⟩ := zpack Q3.out hx9 s7.2.2 hq9; rw [hwf]; clear hwf)
    | (obtain ⟨wf, hwf, zf, bf⟩ := apack hx9 s7.2.2; rw [hwf]; clear hwf))
  all_goals (have BF := Lib.hid (below_then B5.out bf); clear bf)
  all_goals go_wp2_with fail
  all_goals go_ret
  all_goals exact ⟨rfl, BF.out⟩
end Go.Proofs.Ytekfemkoiadipaa
