/- The walk of VmDoes. -/
import Derived.Test.YtbighilgkmfemaaGreatDoorSetL
namespace Go.Proofs.YtbighilgkmfemaaGreatDoor
open Go.RowKit
set_option linter.unusedVariables false
set_option linter.unusedSimpArgs false

set_option maxRecDepth 100000 in
set_option maxHeartbeats 4000000 in
theorem does_any (k : VmK) (L : VmL) (n : Int) (s : List UInt8) (w : World) (HT : Tab w) (HM : IsVm w k L) (hl : s.length ≤ 9223372036854775807) : Calls Tryz.prog 4 #[vmV k, .int .i64 n, .string (strB s)] w fun e w' => e = .returned (.bool true) ∧ Below w.heap.size w w' := by
  have T0 := Lib.hid HT
  have M0 := Lib.hid HM
  have B0 := Lib.hid (Below.refl w.heap.size w)
  clear HT
  go_enter Tryz.func4, Tryz.ntmps4
  go_upto_region 1 with fail
  generalize hw : World.alloc _ _ = w1
  have kb : Below w.heap.size w w1 := by rw [← hw]; exact al_one _ _
  have hx : VBox w1 w.heap.size k := by rw [← hw]; exact vbox_new _ _
  clear hw
  have T1 := Lib.hid (T0.out.keep kb)
  have M1 := Lib.hid (M0.out.keep kb)
  have B1 := Lib.hid (below_then B0.out kb)
  have V1 := Lib.hid hx
  clear kb T0 M0 B0
  clear hx
  go_wp2_with fail
  refine (shown_any _ T1.out).mono ?_
  rintro e w2 ⟨rfl, bb⟩
  have T2 := Lib.hid (T1.out.keep bb)
  have M2 := Lib.hid (M1.out.keep bb)
  have V2 := Lib.hid (V1.out.keep bb)
  have B2 := Lib.hid (below_then B1.out bb)
  clear bb T1 M1 V1 B1
  obtain ⟨Y, hY⟩ : ∃ Y, vMay k L = Y := ⟨_, rfl⟩
  go_wp2_with (first | (refine wpList_vload (by rfl) _ rfl w.heap.size k rfl V2.out ?_))
  have HC := Lib.hid (rvmay_w k L w2 M2.out)
  rw [hY] at HC
  refine (HC.out).mono ?_
  rintro e w3 ⟨rfl, bb⟩
  clear HC
  have T3 := Lib.hid (T2.out.keep bb)
  have M3 := Lib.hid (M2.out.keep bb)
  have V3 := Lib.hid (V2.out.keep bb)
  have B3 := Lib.hid (below_then B2.out bb)
  clear bb T2 M2 V2 B2
  cases Y with
  | false =>
    go_wp2_with fail
    go_ret
    exact ⟨rfl, B3.out⟩
  | true =>
    have hmay : vFew k L = true ∧ vRight k L = true := by unfold vMay at hY; rw [Bool.and_eq_true] at hY; exact hY
    have HF := Lib.hid hmay.1
    have HR := Lib.hid (conf_of hmay.2)
    have HL := Lib.hid HM.lens
    clear hY hmay
    by_cases h6 : (600 : Int) < ((strB s).size : Int)
    · go_wp2_with fail
      go_ret
      exact ⟨rfl, B3.out⟩
    have h7 : decide ((600 : Int) < ((strB s).size : Int)) = false := decide_eq_false h6
    have HS := Lib.hid (show s.length ≤ 600 by rw [strB_size] at h6; omega)
    have HLN := Lib.hid (fit_lens (fit_of HF.out HL.out) HL.out)
    obtain ⟨kv, hkv⟩ : ∃ q, kindV L.m k.mn n = q := ⟨_, rfl⟩
    obtain ⟨kc, hkc⟩ : ∃ q, kindC L.m k.mn n = q := ⟨_, rfl⟩
    go_wp2_with (first | (refine wpList_vload (by rfl) _ rfl w.heap.size k rfl V3.out ?_))
    have HC := Lib.hid (vkind_any k L.m n w3 (Lib.hid M3.out.m) (by have := HLN.out; omega))
    rw [hkv, hkc] at HC
    refine (HC.out).mono ?_
    rintro e w4 ⟨rfl, bb⟩
    clear HC
    have T4 := Lib.hid (T3.out.keep bb)
    have M4 := Lib.hid (M3.out.keep bb)
    have V4 := Lib.hid (V3.out.keep bb)
    have B4 := Lib.hid (below_then B3.out bb)
    clear bb T3 M3 V3 B3
    go_wp2_with (first | (refine wpList_vload (by rfl) _ rfl w.heap.size k rfl V4.out ?_))
    have HC := Lib.hid (rvkind_any k L.m n w4 (Lib.hid M4.out.m) (by have := HLN.out; omega))
    rw [hkv, hkc] at HC
    refine (HC.out).mono ?_
    rintro e w5 ⟨rfl, bb⟩
    clear HC
    have T5 := Lib.hid (T4.out.keep bb)
    have M5 := Lib.hid (M4.out.keep bb)
    have V5 := Lib.hid (V4.out.keep bb)
    have B5 := Lib.hid (below_then B4.out bb)
    clear bb T4 M4 V4 B4
    clear hkv hkc h6 h7
    obtain ⟨ca, hca⟩ : ∃ q, pushC L.d k.cd = q := ⟨_, rfl⟩
    go_wp2_with (first | (refine wpList_vload (by rfl) _ rfl w.heap.size k rfl V5.out ?_))
    have HC := Lib.hid (vpush_use k L n w5 (by have := HLN.out; omega) M5.out)
    rw [hca] at HC
    refine (HC.out).mono ?_
    rintro e w6 ⟨ja, rfl, hv, hs, bb⟩
    have Sa := Lib.hid hs
    clear HC hs
    have T6 := Lib.hid (T5.out.keep bb)
    have M6 := Lib.hid (M5.out.keep bb)
    have V6 := Lib.hid (V5.out.keep bb)
    have B6 := Lib.hid (below_then B5.out bb)
    have Ma6 := Lib.hid hv
    clear bb T5 M5 V5 B5
    clear hv
    go_upto_region 7 with (refine wpList_vstore (by rfl) _ _ rfl _ vm0 ja rfl rfl (vbox_zero _) ?_)
    generalize hw7 : World.setRow _ _ _ = w7
    have kb : Below w6.heap.size w6 w7 := by rw [← hw7]; exact below_setRow (al_one _ _) (Nat.le_refl _) _
    have hx : VBox w7 w6.heap.size ja := by rw [← hw7]; exact vrow (vbox_zero w6) ja
    clear hw7
    have T7 := Lib.hid (T6.out.keep kb)
    have M7 := Lib.hid (M6.out.keep kb)
    have V7 := Lib.hid (V6.out.keep kb)
    have Ma7 := Lib.hid (Ma6.out.keep kb)
    have B7 := Lib.hid (below_then B6.out kb)
    have Va7 := Lib.hid hx
    clear kb T6 M6 V6 Ma6 B6
    clear hx
    go_wp2_with (first | (refine wpList_vload (by rfl) _ rfl w.heap.size k rfl V7.out ?_))
    have HC := Lib.hid (rvpush_use k L n w7 (by have := HLN.out; omega) M7.out)
    rw [hca] at HC
    refine (HC.out).mono ?_
    rintro e w8 ⟨jb, rfl, hv, hs, bb⟩
    have Sb := Lib.hid hs
    clear HC hs
    have T8 := Lib.hid (T7.out.keep bb)
    have M8 := Lib.hid (M7.out.keep bb)
    have V8 := Lib.hid (V7.out.keep bb)
    have Ma8 := Lib.hid (Ma7.out.keep bb)
    have Va8 := Lib.hid (Va7.out.keep bb)
    have B8 := Lib.hid (below_then B7.out bb)
    have Mb8 := Lib.hid hv
    clear bb T7 M7 V7 Ma7 Va7 B7
    clear hv
    go_upto_region 8 with (refine wpList_vstore (by rfl) _ _ rfl _ vm0 jb rfl rfl (vbox_zero _) ?_)
    generalize hw9 : World.setRow _ _ _ = w9
    have kb : Below w8.heap.size w8 w9 := by rw [← hw9]; exact below_setRow (al_one _ _) (Nat.le_refl _) _
    have hx : VBox w9 w8.heap.size jb := by rw [← hw9]; exact vrow (vbox_zero w8) jb
    clear hw9
    have T9 := Lib.hid (T8.out.keep kb)
    have M9 := Lib.hid (M8.out.keep kb)
    have V9 := Lib.hid (V8.out.keep kb)
    have Ma9 := Lib.hid (Ma8.out.keep kb)
    have Va9 := Lib.hid (Va8.out.keep kb)
    have Mb9 := Lib.hid (Mb8.out.keep kb)
    have B9 := Lib.hid (below_then B8.out kb)
    have Vb9 := Lib.hid hx
    clear kb T8 M8 V8 Ma8 Va8 Mb8 B8
    clear hx
    clear hca
    obtain ⟨px, hpx⟩ : ∃ q, popX L.d = q := ⟨_, rfl⟩
    obtain ⟨cx, hcx⟩ : ∃ q, popC L.d = q := ⟨_, rfl⟩
    go_wp2_with (first | (refine wpList_vload (by rfl) _ rfl w.heap.size k rfl V9.out ?_))
    have HC := Lib.hid (vpop_use k L w9 (by have := HLN.out; omega) M9.out)
    rw [hcx, hpx] at HC
    refine (HC.out).mono ?_
    rintro e w10 ⟨jx, rfl, hv, hs, bb⟩
    have Sx := Lib.hid hs
    clear HC hs
    have T10 := Lib.hid (T9.out.keep bb)
    have M10 := Lib.hid (M9.out.keep bb)
    have V10 := Lib.hid (V9.out.keep bb)
    have Ma10 := Lib.hid (Ma9.out.keep bb)
    have Va10 := Lib.hid (Va9.out.keep bb)
    have Mb10 := Lib.hid (Mb9.out.keep bb)
    have Vb10 := Lib.hid (Vb9.out.keep bb)
    have B10 := Lib.hid (below_then B9.out bb)
    have Mx10 := Lib.hid hv
    clear bb T9 M9 V9 Ma9 Va9 Mb9 Vb9 B9
    clear hv
    go_upto_region 9 with (refine wpList_vstore (by rfl) _ _ rfl _ vm0 jx rfl rfl (vbox_zero _) ?_)
    generalize hw11 : World.setRow _ _ _ = w11
    have kb : Below w10.heap.size w10 w11 := by rw [← hw11]; exact below_setRow (al_one _ _) (Nat.le_refl _) _
    have hx : VBox w11 w10.heap.size jx := by rw [← hw11]; exact vrow (vbox_zero w10) jx
    clear hw11
    have T11 := Lib.hid (T10.out.keep kb)
    have M11 := Lib.hid (M10.out.keep kb)
    have V11 := Lib.hid (V10.out.keep kb)
    have Ma11 := Lib.hid (Ma10.out.keep kb)
    have Va11 := Lib.hid (Va10.out.keep kb)
    have Mb11 := Lib.hid (Mb10.out.keep kb)
    have Vb11 := Lib.hid (Vb10.out.keep kb)
    have Mx11 := Lib.hid (Mx10.out.keep kb)
    have B11 := Lib.hid (below_then B10.out kb)
    have Vx11 := Lib.hid hx
    clear kb T10 M10 V10 Ma10 Va10 Mb10 Vb10 Mx10 B10
    clear hx
    go_wp2_with (first | (refine wpList_vload (by rfl) _ rfl w.heap.size k rfl V11.out ?_))
    have HC := Lib.hid (rvpop_use k L w11 (by have := HLN.out; omega) M11.out)
    rw [hcx, hpx] at HC
    refine (HC.out).mono ?_
    rintro e w12 ⟨jy, rfl, hv, hs, bb⟩
    have Sy := Lib.hid hs
    clear HC hs
    have T12 := Lib.hid (T11.out.keep bb)
    have M12 := Lib.hid (M11.out.keep bb)
    have V12 := Lib.hid (V11.out.keep bb)
    have Ma12 := Lib.hid (Ma11.out.keep bb)
    have Va12 := Lib.hid (Va11.out.keep bb)
    have Mb12 := Lib.hid (Mb11.out.keep bb)
    have Vb12 := Lib.hid (Vb11.out.keep bb)
    have Mx12 := Lib.hid (Mx11.out.keep bb)
    have Vx12 := Lib.hid (Vx11.out.keep bb)
    have B12 := Lib.hid (below_then B11.out bb)
    have My12 := Lib.hid hv
    clear bb T11 M11 V11 Ma11 Va11 Mb11 Vb11 Mx11 Vx11 B11
    clear hv
    go_upto_region 10 with (refine wpList_vstore (by rfl) _ _ rfl _ vm0 jy rfl rfl (vbox_zero _) ?_)
    generalize hw13 : World.setRow _ _ _ = w13
    have kb : Below w12.heap.size w12 w13 := by rw [← hw13]; exact below_setRow (al_one _ _) (Nat.le_refl _) _
    have hx : VBox w13 w12.heap.size jy := by rw [← hw13]; exact vrow (vbox_zero w12) jy
    clear hw13
    have T13 := Lib.hid (T12.out.keep kb)
    have M13 := Lib.hid (M12.out.keep kb)
    have V13 := Lib.hid (V12.out.keep kb)
    have Ma13 := Lib.hid (Ma12.out.keep kb)
    have Va13 := Lib.hid (Va12.out.keep kb)
    have Mb13 := Lib.hid (Mb12.out.keep kb)
    have Vb13 := Lib.hid (Vb12.out.keep kb)
    have Mx13 := Lib.hid (Mx12.out.keep kb)
    have Vx13 := Lib.hid (Vx12.out.keep kb)
    have My13 := Lib.hid (My12.out.keep kb)
    have B13 := Lib.hid (below_then B12.out kb)
    have Vy13 := Lib.hid hx
    clear kb T12 M12 V12 Ma12 Va12 Mb12 Vb12 Mx12 Vx12 My12 B12
    clear hx
    clear hcx
    clear hpx
    try simp only [List.append_eq, List.cons_append, List.nil_append]
    go_wp2_with (first | (refine wpList_vload (by rfl) _ rfl w6.heap.size ja rfl Va13.out ?_) | (refine wpList_vload (by rfl) _ rfl w8.heap.size jb rfl Vb13.out ?_))
    have HC := Lib.hid (rsame_two Ma13.out Mb13.out (Sa.out.trans Sb.out.symm) (fit_push HF.out HL.out n))
    refine (HC.out).mono ?_
    rintro e w14 ⟨rfl, bb⟩
    clear HC
    have T14 := Lib.hid (T13.out.keep bb)
    have M14 := Lib.hid (M13.out.keep bb)
    have V14 := Lib.hid (V13.out.keep bb)
    have Ma14 := Lib.hid (Ma13.out.keep bb)
    have Va14 := Lib.hid (Va13.out.keep bb)
    have Mb14 := Lib.hid (Mb13.out.keep bb)
    have Vb14 := Lib.hid (Vb13.out.keep bb)
    have Mx14 := Lib.hid (Mx13.out.keep bb)
    have Vx14 := Lib.hid (Vx13.out.keep bb)
    have My14 := Lib.hid (My13.out.keep bb)
    have Vy14 := Lib.hid (Vy13.out.keep bb)
    have B14 := Lib.hid (below_then B13.out bb)
    clear bb T13 M13 V13 Ma13 Va13 Mb13 Vb13 Mx13 Vx13 My13 Vy13 B13
    go_wp2_with (first | (refine wpList_vload (by rfl) _ rfl w10.heap.size jx rfl Vx14.out ?_) | (refine wpList_vload (by rfl) _ rfl w12.heap.size jy rfl Vy14.out ?_))
    have HC := Lib.hid (rsame_two Mx14.out My14.out (Sx.out.trans Sy.out.symm) (fit_pop HF.out HL.out))
    refine (HC.out).mono ?_
    rintro e w15 ⟨rfl, bb⟩
    clear HC
    have T15 := Lib.hid (T14.out.keep bb)
    have M15 := Lib.hid (M14.out.keep bb)
    have V15 := Lib.hid (V14.out.keep bb)
    have Ma15 := Lib.hid (Ma14.out.keep bb)
    have Va15 := Lib.hid (Va14.out.keep bb)
    have Mb15 := Lib.hid (Mb14.out.keep bb)
    have Vb15 := Lib.hid (Vb14.out.keep bb)
    have Mx15 := Lib.hid (Mx14.out.keep bb)
    have Vx15 := Lib.hid (Vx14.out.keep bb)
    have My15 := Lib.hid (My14.out.keep bb)
    have Vy15 := Lib.hid (Vy14.out.keep bb)
    have B15 := Lib.hid (below_then B14.out bb)
    clear bb T14 M14 V14 Ma14 Va14 Mb14 Vb14 Mx14 Vx14 My14 Vy14 B14
    obtain ⟨cp, hcp⟩ : ∃ q, rpushC L.r k.cr = q := ⟨_, rfl⟩
    go_wp2_with (first | (refine wpList_vload (by rfl) _ rfl w.heap.size k rfl V15.out ?_))
    have HC := Lib.hid (vrpush_use k L n w15 (by have := HLN.out; omega) M15.out)
    rw [hcp] at HC
    refine (HC.out).mono ?_
    rintro e w16 ⟨jp, rfl, hv, hs, bb⟩
    have Sp := Lib.hid hs
    clear HC hs
    have T16 := Lib.hid (T15.out.keep bb)
    have M16 := Lib.hid (M15.out.keep bb)
    have V16 := Lib.hid (V15.out.keep bb)
    have Ma16 := Lib.hid (Ma15.out.keep bb)
    have Va16 := Lib.hid (Va15.out.keep bb)
    have Mb16 := Lib.hid (Mb15.out.keep bb)
    have Vb16 := Lib.hid (Vb15.out.keep bb)
    have Mx16 := Lib.hid (Mx15.out.keep bb)
    have Vx16 := Lib.hid (Vx15.out.keep bb)
    have My16 := Lib.hid (My15.out.keep bb)
    have Vy16 := Lib.hid (Vy15.out.keep bb)
    have B16 := Lib.hid (below_then B15.out bb)
    have Mp16 := Lib.hid hv
    clear bb T15 M15 V15 Ma15 Va15 Mb15 Vb15 Mx15 Vx15 My15 Vy15 B15
    clear hv
    go_upto_region 13 with (refine wpList_vstore (by rfl) _ _ rfl _ vm0 jp rfl rfl (vbox_zero _) ?_)
    generalize hw17 : World.setRow _ _ _ = w17
    have kb : Below w16.heap.size w16 w17 := by rw [← hw17]; exact below_setRow (al_one _ _) (Nat.le_refl _) _
    have hx : VBox w17 w16.heap.size jp := by rw [← hw17]; exact vrow (vbox_zero w16) jp
    clear hw17
    have T17 := Lib.hid (T16.out.keep kb)
    have M17 := Lib.hid (M16.out.keep kb)
    have V17 := Lib.hid (V16.out.keep kb)
    have Ma17 := Lib.hid (Ma16.out.keep kb)
    have Va17 := Lib.hid (Va16.out.keep kb)
    have Mb17 := Lib.hid (Mb16.out.keep kb)
    have Vb17 := Lib.hid (Vb16.out.keep kb)
    have Mx17 := Lib.hid (Mx16.out.keep kb)
    have Vx17 := Lib.hid (Vx16.out.keep kb)
    have My17 := Lib.hid (My16.out.keep kb)
    have Vy17 := Lib.hid (Vy16.out.keep kb)
    have Mp17 := Lib.hid (Mp16.out.keep kb)
    have B17 := Lib.hid (below_then B16.out kb)
    have Vp17 := Lib.hid hx
    clear kb T16 M16 V16 Ma16 Va16 Mb16 Vb16 Mx16 Vx16 My16 Vy16 Mp16 B16
    clear hx
    go_wp2_with (first | (refine wpList_vload (by rfl) _ rfl w.heap.size k rfl V17.out ?_))
    have HC := Lib.hid (rvrpush_use k L n w17 (by have := HLN.out; omega) M17.out)
    rw [hcp] at HC
    refine (HC.out).mono ?_
    rintro e w18 ⟨jq, rfl, hv, hs, bb⟩
    have Sq := Lib.hid hs
    clear HC hs
    have T18 := Lib.hid (T17.out.keep bb)
    have M18 := Lib.hid (M17.out.keep bb)
    have V18 := Lib.hid (V17.out.keep bb)
    have Ma18 := Lib.hid (Ma17.out.keep bb)
    have Va18 := Lib.hid (Va17.out.keep bb)
    have Mb18 := Lib.hid (Mb17.out.keep bb)
    have Vb18 := Lib.hid (Vb17.out.keep bb)
    have Mx18 := Lib.hid (Mx17.out.keep bb)
    have Vx18 := Lib.hid (Vx17.out.keep bb)
    have My18 := Lib.hid (My17.out.keep bb)
    have Vy18 := Lib.hid (Vy17.out.keep bb)
    have Mp18 := Lib.hid (Mp17.out.keep bb)
    have Vp18 := Lib.hid (Vp17.out.keep bb)
    have B18 := Lib.hid (below_then B17.out bb)
    have Mq18 := Lib.hid hv
    clear bb T17 M17 V17 Ma17 Va17 Mb17 Vb17 Mx17 Vx17 My17 Vy17 Mp17 Vp17 B17
    clear hv
    go_upto_region 14 with (refine wpList_vstore (by rfl) _ _ rfl _ vm0 jq rfl rfl (vbox_zero _) ?_)
    generalize hw19 : World.setRow _ _ _ = w19
    have kb : Below w18.heap.size w18 w19 := by rw [← hw19]; exact below_setRow (al_one _ _) (Nat.le_refl _) _
    have hx : VBox w19 w18.heap.size jq := by rw [← hw19]; exact vrow (vbox_zero w18) jq
    clear hw19
    have T19 := Lib.hid (T18.out.keep kb)
    have M19 := Lib.hid (M18.out.keep kb)
    have V19 := Lib.hid (V18.out.keep kb)
    have Ma19 := Lib.hid (Ma18.out.keep kb)
    have Va19 := Lib.hid (Va18.out.keep kb)
    have Mb19 := Lib.hid (Mb18.out.keep kb)
    have Vb19 := Lib.hid (Vb18.out.keep kb)
    have Mx19 := Lib.hid (Mx18.out.keep kb)
    have Vx19 := Lib.hid (Vx18.out.keep kb)
    have My19 := Lib.hid (My18.out.keep kb)
    have Vy19 := Lib.hid (Vy18.out.keep kb)
    have Mp19 := Lib.hid (Mp18.out.keep kb)
    have Vp19 := Lib.hid (Vp18.out.keep kb)
    have Mq19 := Lib.hid (Mq18.out.keep kb)
    have B19 := Lib.hid (below_then B18.out kb)
    have Vq19 := Lib.hid hx
    clear kb T18 M18 V18 Ma18 Va18 Mb18 Vb18 Mx18 Vx18 My18 Vy18 Mp18 Vp18 Mq18 B18
    clear hx
    clear hcp
    obtain ⟨rx, hrx⟩ : ∃ q, popX L.r = q := ⟨_, rfl⟩
    obtain ⟨cu, hcu⟩ : ∃ q, rpopC L.r = q := ⟨_, rfl⟩
    go_wp2_with (first | (refine wpList_vload (by rfl) _ rfl w.heap.size k rfl V19.out ?_))
    have HC := Lib.hid (vrpop_use k L w19 (by have := HLN.out; omega) M19.out)
    rw [hcu, hrx] at HC
    refine (HC.out).mono ?_
    rintro e w20 ⟨ju, rfl, hv, hs, bb⟩
    have Su := Lib.hid hs
    clear HC hs
    have T20 := Lib.hid (T19.out.keep bb)
    have M20 := Lib.hid (M19.out.keep bb)
    have V20 := Lib.hid (V19.out.keep bb)
    have Ma20 := Lib.hid (Ma19.out.keep bb)
    have Va20 := Lib.hid (Va19.out.keep bb)
    have Mb20 := Lib.hid (Mb19.out.keep bb)
    have Vb20 := Lib.hid (Vb19.out.keep bb)
    have Mx20 := Lib.hid (Mx19.out.keep bb)
    have Vx20 := Lib.hid (Vx19.out.keep bb)
    have My20 := Lib.hid (My19.out.keep bb)
    have Vy20 := Lib.hid (Vy19.out.keep bb)
    have Mp20 := Lib.hid (Mp19.out.keep bb)
    have Vp20 := Lib.hid (Vp19.out.keep bb)
    have Mq20 := Lib.hid (Mq19.out.keep bb)
    have Vq20 := Lib.hid (Vq19.out.keep bb)
    have B20 := Lib.hid (below_then B19.out bb)
    have Mu20 := Lib.hid hv
    clear bb T19 M19 V19 Ma19 Va19 Mb19 Vb19 Mx19 Vx19 My19 Vy19 Mp19 Vp19 Mq19 Vq19 B19
    clear hv
    go_upto_region 15 with (refine wpList_vstore (by rfl) _ _ rfl _ vm0 ju rfl rfl (vbox_zero _) ?_)
    generalize hw21 : World.setRow _ _ _ = w21
    have kb : Below w20.heap.size w20 w21 := by rw [← hw21]; exact below_setRow (al_one _ _) (Nat.le_refl _) _
    have hx : VBox w21 w20.heap.size ju := by rw [← hw21]; exact vrow (vbox_zero w20) ju
    clear hw21
    have T21 := Lib.hid (T20.out.keep kb)
    have M21 := Lib.hid (M20.out.keep kb)
    have V21 := Lib.hid (V20.out.keep kb)
    have Ma21 := Lib.hid (Ma20.out.keep kb)
    have Va21 := Lib.hid (Va20.out.keep kb)
    have Mb21 := Lib.hid (Mb20.out.keep kb)
    have Vb21 := Lib.hid (Vb20.out.keep kb)
    have Mx21 := Lib.hid (Mx20.out.keep kb)
    have Vx21 := Lib.hid (Vx20.out.keep kb)
    have My21 := Lib.hid (My20.out.keep kb)
    have Vy21 := Lib.hid (Vy20.out.keep kb)
    have Mp21 := Lib.hid (Mp20.out.keep kb)
    have Vp21 := Lib.hid (Vp20.out.keep kb)
    have Mq21 := Lib.hid (Mq20.out.keep kb)
    have Vq21 := Lib.hid (Vq20.out.keep kb)
    have Mu21 := Lib.hid (Mu20.out.keep kb)
    have B21 := Lib.hid (below_then B20.out kb)
    have Vu21 := Lib.hid hx
    clear kb T20 M20 V20 Ma20 Va20 Mb20 Vb20 Mx20 Vx20 My20 Vy20 Mp20 Vp20 Mq20 Vq20 Mu20 B20
    clear hx
    go_wp2_with (first | (refine wpList_vload (by rfl) _ rfl w.heap.size k rfl V21.out ?_))
    have HC := Lib.hid (rvrpop_use k L w21 (by have := HLN.out; omega) M21.out)
    rw [hcu, hrx] at HC
    refine (HC.out).mono ?_
    rintro e w22 ⟨jz, rfl, hv, hs, bb⟩
    have Sz := Lib.hid hs
    clear HC hs
    have T22 := Lib.hid (T21.out.keep bb)
    have M22 := Lib.hid (M21.out.keep bb)
    have V22 := Lib.hid (V21.out.keep bb)
    have Ma22 := Lib.hid (Ma21.out.keep bb)
    have Va22 := Lib.hid (Va21.out.keep bb)
    have Mb22 := Lib.hid (Mb21.out.keep bb)
    have Vb22 := Lib.hid (Vb21.out.keep bb)
    have Mx22 := Lib.hid (Mx21.out.keep bb)
    have Vx22 := Lib.hid (Vx21.out.keep bb)
    have My22 := Lib.hid (My21.out.keep bb)
    have Vy22 := Lib.hid (Vy21.out.keep bb)
    have Mp22 := Lib.hid (Mp21.out.keep bb)
    have Vp22 := Lib.hid (Vp21.out.keep bb)
    have Mq22 := Lib.hid (Mq21.out.keep bb)
    have Vq22 := Lib.hid (Vq21.out.keep bb)
    have Mu22 := Lib.hid (Mu21.out.keep bb)
    have Vu22 := Lib.hid (Vu21.out.keep bb)
    have B22 := Lib.hid (below_then B21.out bb)
    have Mz22 := Lib.hid hv
    clear bb T21 M21 V21 Ma21 Va21 Mb21 Vb21 Mx21 Vx21 My21 Vy21 Mp21 Vp21 Mq21 Vq21 Mu21 Vu21 B21
    clear hv
    go_upto_region 16 with (refine wpList_vstore (by rfl) _ _ rfl _ vm0 jz rfl rfl (vbox_zero _) ?_)
    generalize hw23 : World.setRow _ _ _ = w23
    have kb : Below w22.heap.size w22 w23 := by rw [← hw23]; exact below_setRow (al_one _ _) (Nat.le_refl _) _
    have hx : VBox w23 w22.heap.size jz := by rw [← hw23]; exact vrow (vbox_zero w22) jz
    clear hw23
    have T23 := Lib.hid (T22.out.keep kb)
    have M23 := Lib.hid (M22.out.keep kb)
    have V23 := Lib.hid (V22.out.keep kb)
    have Ma23 := Lib.hid (Ma22.out.keep kb)
    have Va23 := Lib.hid (Va22.out.keep kb)
    have Mb23 := Lib.hid (Mb22.out.keep kb)
    have Vb23 := Lib.hid (Vb22.out.keep kb)
    have Mx23 := Lib.hid (Mx22.out.keep kb)
    have Vx23 := Lib.hid (Vx22.out.keep kb)
    have My23 := Lib.hid (My22.out.keep kb)
    have Vy23 := Lib.hid (Vy22.out.keep kb)
    have Mp23 := Lib.hid (Mp22.out.keep kb)
    have Vp23 := Lib.hid (Vp22.out.keep kb)
    have Mq23 := Lib.hid (Mq22.out.keep kb)
    have Vq23 := Lib.hid (Vq22.out.keep kb)
    have Mu23 := Lib.hid (Mu22.out.keep kb)
    have Vu23 := Lib.hid (Vu22.out.keep kb)
    have Mz23 := Lib.hid (Mz22.out.keep kb)
    have B23 := Lib.hid (below_then B22.out kb)
    have Vz23 := Lib.hid hx
    clear kb T22 M22 V22 Ma22 Va22 Mb22 Vb22 Mx22 Vx22 My22 Vy22 Mp22 Vp22 Mq22 Vq22 Mu22 Vu22 Mz22 B22
    clear hx
    clear hcu
    clear hrx
    obtain ⟨cg, hcg⟩ : ∃ q, printC L.o s k.co = q := ⟨_, rfl⟩
    go_wp2_with (first | (refine wpList_vload (by rfl) _ rfl w.heap.size k rfl V23.out ?_))
    have HC := Lib.hid (vprint_use k L s w23 (by have := HLN.out; omega) HR.out.2.2.1 HR.out.2.2.2.1 (by have := HS.out; omega) M23.out)
    rw [hcg] at HC
    refine (HC.out).mono ?_
    rintro e w24 ⟨jg, rfl, hv, hs, bb⟩
    have Sg := Lib.hid hs
    clear HC hs
    have T24 := Lib.hid (T23.out.keep bb)
    have M24 := Lib.hid (M23.out.keep bb)
    have V24 := Lib.hid (V23.out.keep bb)
    have Ma24 := Lib.hid (Ma23.out.keep bb)
    have Va24 := Lib.hid (Va23.out.keep bb)
    have Mb24 := Lib.hid (Mb23.out.keep bb)
    have Vb24 := Lib.hid (Vb23.out.keep bb)
    have Mx24 := Lib.hid (Mx23.out.keep bb)
    have Vx24 := Lib.hid (Vx23.out.keep bb)
    have My24 := Lib.hid (My23.out.keep bb)
    have Vy24 := Lib.hid (Vy23.out.keep bb)
    have Mp24 := Lib.hid (Mp23.out.keep bb)
    have Vp24 := Lib.hid (Vp23.out.keep bb)
    have Mq24 := Lib.hid (Mq23.out.keep bb)
    have Vq24 := Lib.hid (Vq23.out.keep bb)
    have Mu24 := Lib.hid (Mu23.out.keep bb)
    have Vu24 := Lib.hid (Vu23.out.keep bb)
    have Mz24 := Lib.hid (Mz23.out.keep bb)
    have Vz24 := Lib.hid (Vz23.out.keep bb)
    have B24 := Lib.hid (below_then B23.out bb)
    have Mg24 := Lib.hid hv
    clear bb T23 M23 V23 Ma23 Va23 Mb23 Vb23 Mx23 Vx23 My23 Vy23 Mp23 Vp23 Mq23 Vq23 Mu23 Vu23 Mz23 Vz23 B23
    clear hv
    go_upto_region 17 with (refine wpList_vstore (by rfl) _ _ rfl _ vm0 jg rfl rfl (vbox_zero _) ?_)
    generalize hw25 : World.setRow _ _ _ = w25
    have kb : Below w24.heap.size w24 w25 := by rw [← hw25]; exact below_setRow (al_one _ _) (Nat.le_refl _) _
    have hx : VBox w25 w24.heap.size jg := by rw [← hw25]; exact vrow (vbox_zero w24) jg
    clear hw25
    have T25 := Lib.hid (T24.out.keep kb)
    have M25 := Lib.hid (M24.out.keep kb)
    have V25 := Lib.hid (V24.out.keep kb)
    have Ma25 := Lib.hid (Ma24.out.keep kb)
    have Va25 := Lib.hid (Va24.out.keep kb)
    have Mb25 := Lib.hid (Mb24.out.keep kb)
    have Vb25 := Lib.hid (Vb24.out.keep kb)
    have Mx25 := Lib.hid (Mx24.out.keep kb)
    have Vx25 := Lib.hid (Vx24.out.keep kb)
    have My25 := Lib.hid (My24.out.keep kb)
    have Vy25 := Lib.hid (Vy24.out.keep kb)
    have Mp25 := Lib.hid (Mp24.out.keep kb)
    have Vp25 := Lib.hid (Vp24.out.keep kb)
    have Mq25 := Lib.hid (Mq24.out.keep kb)
    have Vq25 := Lib.hid (Vq24.out.keep kb)
    have Mu25 := Lib.hid (Mu24.out.keep kb)
    have Vu25 := Lib.hid (Vu24.out.keep kb)
    have Mz25 := Lib.hid (Mz24.out.keep kb)
    have Vz25 := Lib.hid (Vz24.out.keep kb)
    have Mg25 := Lib.hid (Mg24.out.keep kb)
    have B25 := Lib.hid (below_then B24.out kb)
    have Vg25 := Lib.hid hx
    clear kb T24 M24 V24 Ma24 Va24 Mb24 Vb24 Mx24 Vx24 My24 Vy24 Mp24 Vp24 Mq24 Vq24 Mu24 Vu24 Mz24 Vz24 Mg24 B24
    clear hx
    go_wp2_with (first | (refine wpList_vload (by rfl) _ rfl w.heap.size k rfl V25.out ?_))
    have HC := Lib.hid (rvprint_use k L s w25 (by have := HLN.out; omega) HR.out.2.2.1 HR.out.2.2.2.1 (by have := HS.out; omega) M25.out)
    rw [hcg] at HC
    refine (HC.out).mono ?_
    rintro e w26 ⟨jh, rfl, hv, hs, bb⟩
    have Sh := Lib.hid hs
    clear HC hs
    have T26 := Lib.hid (T25.out.keep bb)
    have M26 := Lib.hid (M25.out.keep bb)
    have V26 := Lib.hid (V25.out.keep bb)
    have Ma26 := Lib.hid (Ma25.out.keep bb)
    have Va26 := Lib.hid (Va25.out.keep bb)
    have Mb26 := Lib.hid (Mb25.out.keep bb)
    have Vb26 := Lib.hid (Vb25.out.keep bb)
    have Mx26 := Lib.hid (Mx25.out.keep bb)
    have Vx26 := Lib.hid (Vx25.out.keep bb)
    have My26 := Lib.hid (My25.out.keep bb)
    have Vy26 := Lib.hid (Vy25.out.keep bb)
    have Mp26 := Lib.hid (Mp25.out.keep bb)
    have Vp26 := Lib.hid (Vp25.out.keep bb)
    have Mq26 := Lib.hid (Mq25.out.keep bb)
    have Vq26 := Lib.hid (Vq25.out.keep bb)
    have Mu26 := Lib.hid (Mu25.out.keep bb)
    have Vu26 := Lib.hid (Vu25.out.keep bb)
    have Mz26 := Lib.hid (Mz25.out.keep bb)
    have Vz26 := Lib.hid (Vz25.out.keep bb)
    have Mg26 := Lib.hid (Mg25.out.keep bb)
    have Vg26 := Lib.hid (Vg25.out.keep bb)
    have B26 := Lib.hid (below_then B25.out bb)
    have Mh26 := Lib.hid hv
    clear bb T25 M25 V25 Ma25 Va25 Mb25 Vb25 Mx25 Vx25 My25 Vy25 Mp25 Vp25 Mq25 Vq25 Mu25 Vu25 Mz25 Vz25 Mg25 Vg25 B25
    clear hv
    go_upto_region 18 with (refine wpList_vstore (by rfl) _ _ rfl _ vm0 jh rfl rfl (vbox_zero _) ?_)
    generalize hw27 : World.setRow _ _ _ = w27
    have kb : Below w26.heap.size w26 w27 := by rw [← hw27]; exact below_setRow (al_one _ _) (Nat.le_refl _) _
    have hx : VBox w27 w26.heap.size jh := by rw [← hw27]; exact vrow (vbox_zero w26) jh
    clear hw27
    have T27 := Lib.hid (T26.out.keep kb)
    have M27 := Lib.hid (M26.out.keep kb)
    have V27 := Lib.hid (V26.out.keep kb)
    have Ma27 := Lib.hid (Ma26.out.keep kb)
    have Va27 := Lib.hid (Va26.out.keep kb)
    have Mb27 := Lib.hid (Mb26.out.keep kb)
    have Vb27 := Lib.hid (Vb26.out.keep kb)
    have Mx27 := Lib.hid (Mx26.out.keep kb)
    have Vx27 := Lib.hid (Vx26.out.keep kb)
    have My27 := Lib.hid (My26.out.keep kb)
    have Vy27 := Lib.hid (Vy26.out.keep kb)
    have Mp27 := Lib.hid (Mp26.out.keep kb)
    have Vp27 := Lib.hid (Vp26.out.keep kb)
    have Mq27 := Lib.hid (Mq26.out.keep kb)
    have Vq27 := Lib.hid (Vq26.out.keep kb)
    have Mu27 := Lib.hid (Mu26.out.keep kb)
    have Vu27 := Lib.hid (Vu26.out.keep kb)
    have Mz27 := Lib.hid (Mz26.out.keep kb)
    have Vz27 := Lib.hid (Vz26.out.keep kb)
    have Mg27 := Lib.hid (Mg26.out.keep kb)
    have Vg27 := Lib.hid (Vg26.out.keep kb)
    have Mh27 := Lib.hid (Mh26.out.keep kb)
    have B27 := Lib.hid (below_then B26.out kb)
    have Vh27 := Lib.hid hx
    clear kb T26 M26 V26 Ma26 Va26 Mb26 Vb26 Mx26 Vx26 My26 Vy26 Mp26 Vp26 Mq26 Vq26 Mu26 Vu26 Mz26 Vz26 Mg26 Vg26 Mh26 B26
    clear hx
    clear hcg
    try simp only [List.append_eq, List.cons_append, List.nil_append]
    go_wp2_with (first | (refine wpList_vload (by rfl) _ rfl w16.heap.size jp rfl Vp27.out ?_) | (refine wpList_vload (by rfl) _ rfl w18.heap.size jq rfl Vq27.out ?_))
    have HC := Lib.hid (rsame_two Mp27.out Mq27.out (Sp.out.trans Sq.out.symm) (fit_rpush HF.out HL.out n))
    refine (HC.out).mono ?_
    rintro e w28 ⟨rfl, bb⟩
    clear HC
    have T28 := Lib.hid (T27.out.keep bb)
    have M28 := Lib.hid (M27.out.keep bb)
    have V28 := Lib.hid (V27.out.keep bb)
    have Ma28 := Lib.hid (Ma27.out.keep bb)
    have Va28 := Lib.hid (Va27.out.keep bb)
    have Mb28 := Lib.hid (Mb27.out.keep bb)
    have Vb28 := Lib.hid (Vb27.out.keep bb)
    have Mx28 := Lib.hid (Mx27.out.keep bb)
    have Vx28 := Lib.hid (Vx27.out.keep bb)
    have My28 := Lib.hid (My27.out.keep bb)
    have Vy28 := Lib.hid (Vy27.out.keep bb)
    have Mp28 := Lib.hid (Mp27.out.keep bb)
    have Vp28 := Lib.hid (Vp27.out.keep bb)
    have Mq28 := Lib.hid (Mq27.out.keep bb)
    have Vq28 := Lib.hid (Vq27.out.keep bb)
    have Mu28 := Lib.hid (Mu27.out.keep bb)
    have Vu28 := Lib.hid (Vu27.out.keep bb)
    have Mz28 := Lib.hid (Mz27.out.keep bb)
    have Vz28 := Lib.hid (Vz27.out.keep bb)
    have Mg28 := Lib.hid (Mg27.out.keep bb)
    have Vg28 := Lib.hid (Vg27.out.keep bb)
    have Mh28 := Lib.hid (Mh27.out.keep bb)
    have Vh28 := Lib.hid (Vh27.out.keep bb)
    have B28 := Lib.hid (below_then B27.out bb)
    clear bb T27 M27 V27 Ma27 Va27 Mb27 Vb27 Mx27 Vx27 My27 Vy27 Mp27 Vp27 Mq27 Vq27 Mu27 Vu27 Mz27 Vz27 Mg27 Vg27 Mh27 Vh27 B27
    go_wp2_with (first | (refine wpList_vload (by rfl) _ rfl w20.heap.size ju rfl Vu28.out ?_) | (refine wpList_vload (by rfl) _ rfl w22.heap.size jz rfl Vz28.out ?_))
    have HC := Lib.hid (rsame_two Mu28.out Mz28.out (Su.out.trans Sz.out.symm) (fit_rpop HF.out HL.out))
    refine (HC.out).mono ?_
    rintro e w29 ⟨rfl, bb⟩
    clear HC
    have T29 := Lib.hid (T28.out.keep bb)
    have M29 := Lib.hid (M28.out.keep bb)
    have V29 := Lib.hid (V28.out.keep bb)
    have Ma29 := Lib.hid (Ma28.out.keep bb)
    have Va29 := Lib.hid (Va28.out.keep bb)
    have Mb29 := Lib.hid (Mb28.out.keep bb)
    have Vb29 := Lib.hid (Vb28.out.keep bb)
    have Mx29 := Lib.hid (Mx28.out.keep bb)
    have Vx29 := Lib.hid (Vx28.out.keep bb)
    have My29 := Lib.hid (My28.out.keep bb)
    have Vy29 := Lib.hid (Vy28.out.keep bb)
    have Mp29 := Lib.hid (Mp28.out.keep bb)
    have Vp29 := Lib.hid (Vp28.out.keep bb)
    have Mq29 := Lib.hid (Mq28.out.keep bb)
    have Vq29 := Lib.hid (Vq28.out.keep bb)
    have Mu29 := Lib.hid (Mu28.out.keep bb)
    have Vu29 := Lib.hid (Vu28.out.keep bb)
    have Mz29 := Lib.hid (Mz28.out.keep bb)
    have Vz29 := Lib.hid (Vz28.out.keep bb)
    have Mg29 := Lib.hid (Mg28.out.keep bb)
    have Vg29 := Lib.hid (Vg28.out.keep bb)
    have Mh29 := Lib.hid (Mh28.out.keep bb)
    have Vh29 := Lib.hid (Vh28.out.keep bb)
    have B29 := Lib.hid (below_then B28.out bb)
    clear bb T28 M28 V28 Ma28 Va28 Mb28 Vb28 Mx28 Vx28 My28 Vy28 Mp28 Vp28 Mq28 Vq28 Mu28 Vu28 Mz28 Vz28 Mg28 Vg28 Mh28 Vh28 B28
    go_wp2_with (first | (refine wpList_vload (by rfl) _ rfl w24.heap.size jg rfl Vg29.out ?_) | (refine wpList_vload (by rfl) _ rfl w26.heap.size jh rfl Vh29.out ?_))
    have HC := Lib.hid (rsame_two Mg29.out Mh29.out (Sg.out.trans Sh.out.symm) (fit_print HF.out HL.out HS.out))
    refine (HC.out).mono ?_
    rintro e w30 ⟨rfl, bb⟩
    clear HC
    have T30 := Lib.hid (T29.out.keep bb)
    have M30 := Lib.hid (M29.out.keep bb)
    have V30 := Lib.hid (V29.out.keep bb)
    have Ma30 := Lib.hid (Ma29.out.keep bb)
    have Va30 := Lib.hid (Va29.out.keep bb)
    have Mb30 := Lib.hid (Mb29.out.keep bb)
    have Vb30 := Lib.hid (Vb29.out.keep bb)
    have Mx30 := Lib.hid (Mx29.out.keep bb)
    have Vx30 := Lib.hid (Vx29.out.keep bb)
    have My30 := Lib.hid (My29.out.keep bb)
    have Vy30 := Lib.hid (Vy29.out.keep bb)
    have Mp30 := Lib.hid (Mp29.out.keep bb)
    have Vp30 := Lib.hid (Vp29.out.keep bb)
    have Mq30 := Lib.hid (Mq29.out.keep bb)
    have Vq30 := Lib.hid (Vq29.out.keep bb)
    have Mu30 := Lib.hid (Mu29.out.keep bb)
    have Vu30 := Lib.hid (Vu29.out.keep bb)
    have Mz30 := Lib.hid (Mz29.out.keep bb)
    have Vz30 := Lib.hid (Vz29.out.keep bb)
    have Mg30 := Lib.hid (Mg29.out.keep bb)
    have Vg30 := Lib.hid (Vg29.out.keep bb)
    have Mh30 := Lib.hid (Mh29.out.keep bb)
    have Vh30 := Lib.hid (Vh29.out.keep bb)
    have B30 := Lib.hid (below_then B29.out bb)
    clear bb T29 M29 V29 Ma29 Va29 Mb29 Vb29 Mx29 Vx29 My29 Vy29 Mp29 Vp29 Mq29 Vq29 Mu29 Vu29 Mz29 Vz29 Mg29 Vg29 Mh29 Vh29 B29
    go_wp2_with fail
    go_ret
    exact ⟨rfl, B30.out⟩
end Go.Proofs.YtbighilgkmfemaaGreatDoor
