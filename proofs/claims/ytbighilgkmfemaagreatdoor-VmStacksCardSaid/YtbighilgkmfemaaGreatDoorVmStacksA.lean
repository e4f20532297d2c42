/- The walk of VmStacks. -/
import Derived.Test.YtbighilgkmfemaaGreatDoorVmStacksM
namespace Go.Proofs.YtbighilgkmfemaaGreatDoor
open Go.RowKit
set_option linter.unusedVariables false
set_option linter.unusedSimpArgs false

set_option maxRecDepth 100000 in
set_option maxHeartbeats 4000000 in
theorem stacks_any (k : VmK) (L : VmL) (n : Int) (s : List UInt8) (w : World) (HT : Tab w) (HM : IsVm w k L) (hl : s.length ≤ 9223372036854775807) : Calls Tryz.prog 5 #[vmV k, .int .i64 n, .string (strB s)] w fun e w' => e = .returned (.bool true) ∧ Below w.heap.size w w' := by
  have T0 := Lib.hid HT
  have M0 := Lib.hid HM
  have B0 := Lib.hid (Below.refl w.heap.size w)
  clear HT
  go_enter Tryz.func5, Tryz.ntmps5
  go_upto_region 1 with fail
  generalize hw : World.alloc _ _ = w1
  have kb : Below w.heap.size w w1 := by rw [← hw]; exact al_one _ _
  have hx : VBox w1 w.heap.size k := by rw [← hw]; exact vbox_new _ _
  clear hw
  have T1 := Lib.hid (T0.out.keep kb)
  have M1 := Lib.hid (M0.out.keep kb)
  have B1 := Lib.hid (below_then B0.out kb)
  have V1 := Lib.hid hx
  clear kb T0 M0 B0
  clear hx
  go_wp2_with fail
  refine (shown_any _ T1.out).mono ?_
  rintro e w2 ⟨rfl, bb⟩
  have T2 := Lib.hid (T1.out.keep bb)
  have M2 := Lib.hid (M1.out.keep bb)
  have V2 := Lib.hid (V1.out.keep bb)
  have B2 := Lib.hid (below_then B1.out bb)
  clear bb T1 M1 V1 B1
  clear T2
  obtain ⟨Y, hY⟩ : ∃ Y, vMay k L = Y := ⟨_, rfl⟩
  go_wp2_with (first | (refine wpList_vload (by rfl) _ rfl w.heap.size k rfl V2.out ?_))
  have HC := Lib.hid (rvmay_w k L w2 M2.out)
  rw [hY] at HC
  refine (HC.out).mono ?_
  rintro e w3 ⟨rfl, bb⟩
  clear HC
  have M3 := Lib.hid (M2.out.keep bb)
  have V3 := Lib.hid (V2.out.keep bb)
  have B3 := Lib.hid (below_then B2.out bb)
  clear bb M2 V2 B2
  cases Y with
  | false =>
    go_wp2_with fail
    go_ret
    exact ⟨rfl, B3.out⟩
  | true =>
    have hmay : vFew k L = true ∧ vRight k L = true := by unfold vMay at hY; rw [Bool.and_eq_true] at hY; exact hY
    have HF := Lib.hid hmay.1
    have HR := Lib.hid (conf_of hmay.2)
    have HRR := Lib.hid hmay.2
    have HL := Lib.hid HM.lens
    clear hY hmay
    by_cases h6 : (600 : Int) < ((strB s).size : Int)
    · go_wp2_with fail
      go_ret
      exact ⟨rfl, B3.out⟩
    have h7 : decide ((600 : Int) < ((strB s).size : Int)) = false := decide_eq_false h6
    have HS := Lib.hid (show s.length ≤ 600 by rw [strB_size] at h6; omega)
    have HLN := Lib.hid (fit_lens (fit_of HF.out HL.out) HL.out)
    obtain ⟨ca, hca⟩ : ∃ q, pushC L.d k.cd = q := ⟨_, rfl⟩
    have HCa := Lib.hid hca
    go_wp2_with (first | (refine wpList_vload (by rfl) _ rfl w.heap.size k rfl V3.out ?_))
    have HC := Lib.hid (vpush_use k L n w3 (by have := HLN.out; omega) M3.out)
    rw [hca] at HC
    clear hca
    refine (HC.out).mono ?_
    rintro e w4 ⟨ja, rfl, hv, hs, bb⟩
    have Sa := Lib.hid hs
    clear HC hs
    have M4 := Lib.hid (M3.out.keep bb)
    have V4 := Lib.hid (V3.out.keep bb)
    have B4 := Lib.hid (below_then B3.out bb)
    have Ma4 := Lib.hid hv
    clear bb M3 V3 B3
    clear hv
    go_upto_region 5 with (refine wpList_vstore (by rfl) _ _ rfl _ vm0 ja rfl rfl (vbox_zero _) ?_)
    generalize hw5 : World.setRow _ _ _ = w5
    have kb : Below w4.heap.size w4 w5 := by rw [← hw5]; exact below_setRow (al_one _ _) (Nat.le_refl _) _
    have hx : VBox w5 w4.heap.size ja := by rw [← hw5]; exact vrow (vbox_zero w4) ja
    clear hw5
    have M5 := Lib.hid (M4.out.keep kb)
    have V5 := Lib.hid (V4.out.keep kb)
    have Ma5 := Lib.hid (Ma4.out.keep kb)
    have B5 := Lib.hid (below_then B4.out kb)
    have Va5 := Lib.hid hx
    clear kb M4 V4 Ma4 B4
    clear hx
    clear h6 h7
    obtain ⟨cb, hcb⟩ : ∃ q, rpushC L.r k.cr = q := ⟨_, rfl⟩
    have HCb := Lib.hid hcb
    go_wp2_with (first | (refine wpList_vload (by rfl) _ rfl w.heap.size k rfl V5.out ?_))
    have HC := Lib.hid (vrpush_use k L n w5 (by have := HLN.out; omega) M5.out)
    rw [hcb] at HC
    clear hcb
    refine (HC.out).mono ?_
    rintro e w6 ⟨jb, rfl, hv, hs, bb⟩
    have Sb := Lib.hid hs
    clear HC hs
    have M6 := Lib.hid (M5.out.keep bb)
    have V6 := Lib.hid (V5.out.keep bb)
    have Ma6 := Lib.hid (Ma5.out.keep bb)
    have Va6 := Lib.hid (Va5.out.keep bb)
    have B6 := Lib.hid (below_then B5.out bb)
    have Mb6 := Lib.hid hv
    clear bb M5 V5 Ma5 Va5 B5
    clear hv
    go_upto_region 6 with (refine wpList_vstore (by rfl) _ _ rfl _ vm0 jb rfl rfl (vbox_zero _) ?_)
    generalize hw7 : World.setRow _ _ _ = w7
    have kb : Below w6.heap.size w6 w7 := by rw [← hw7]; exact below_setRow (al_one _ _) (Nat.le_refl _) _
    have hx : VBox w7 w6.heap.size jb := by rw [← hw7]; exact vrow (vbox_zero w6) jb
    clear hw7
    have M7 := Lib.hid (M6.out.keep kb)
    have V7 := Lib.hid (V6.out.keep kb)
    have Ma7 := Lib.hid (Ma6.out.keep kb)
    have Va7 := Lib.hid (Va6.out.keep kb)
    have Mb7 := Lib.hid (Mb6.out.keep kb)
    have B7 := Lib.hid (below_then B6.out kb)
    have Vb7 := Lib.hid hx
    clear kb M6 V6 Ma6 Va6 Mb6 B6
    clear hx
    obtain ⟨cc, hcc⟩ : ∃ q, printC L.o s k.co = q := ⟨_, rfl⟩
    have HCc := Lib.hid hcc
    go_wp2_with (first | (refine wpList_vload (by rfl) _ rfl w.heap.size k rfl V7.out ?_))
    have HC := Lib.hid (vprint_use k L s w7 (by have := HLN.out; omega) HR.out.2.2.1 HR.out.2.2.2.1 (by have := HS.out; omega) M7.out)
    rw [hcc] at HC
    clear hcc
    refine (HC.out).mono ?_
    rintro e w8 ⟨jc, rfl, hv, hs, bb⟩
    have Sc := Lib.hid hs
    clear HC hs
    have M8 := Lib.hid (M7.out.keep bb)
    have V8 := Lib.hid (V7.out.keep bb)
    have Ma8 := Lib.hid (Ma7.out.keep bb)
    have Va8 := Lib.hid (Va7.out.keep bb)
    have Mb8 := Lib.hid (Mb7.out.keep bb)
    have Vb8 := Lib.hid (Vb7.out.keep bb)
    have B8 := Lib.hid (below_then B7.out bb)
    have Mc8 := Lib.hid hv
    clear bb M7 V7 Ma7 Va7 Mb7 Vb7 B7
    clear hv
    go_upto_region 7 with (refine wpList_vstore (by rfl) _ _ rfl _ vm0 jc rfl rfl (vbox_zero _) ?_)
    generalize hw9 : World.setRow _ _ _ = w9
    have kb : Below w8.heap.size w8 w9 := by rw [← hw9]; exact below_setRow (al_one _ _) (Nat.le_refl _) _
    have hx : VBox w9 w8.heap.size jc := by rw [← hw9]; exact vrow (vbox_zero w8) jc
    clear hw9
    have M9 := Lib.hid (M8.out.keep kb)
    have V9 := Lib.hid (V8.out.keep kb)
    have Ma9 := Lib.hid (Ma8.out.keep kb)
    have Va9 := Lib.hid (Va8.out.keep kb)
    have Mb9 := Lib.hid (Mb8.out.keep kb)
    have Vb9 := Lib.hid (Vb8.out.keep kb)
    have Mc9 := Lib.hid (Mc8.out.keep kb)
    have B9 := Lib.hid (below_then B8.out kb)
    have Vc9 := Lib.hid hx
    clear kb M8 V8 Ma8 Va8 Mb8 Vb8 Mc8 B8
    clear hx
    try simp only [List.append_eq, List.cons_append, List.nil_append]
    go_wp2_with (first | (refine wpList_vload (by rfl) _ rfl w4.heap.size ja rfl Va9.out ?_))
    have HC := Lib.hid (rright_few Ma9.out (fit_push HF.out HL.out n) (right_push HRR.out Sa.out HL.out Ma9.out.lens))
    refine (HC.out).mono ?_
    rintro e w10 ⟨rfl, bb⟩
    clear HC
    have M10 := Lib.hid (M9.out.keep bb)
    have V10 := Lib.hid (V9.out.keep bb)
    have Ma10 := Lib.hid (Ma9.out.keep bb)
    have Va10 := Lib.hid (Va9.out.keep bb)
    have Mb10 := Lib.hid (Mb9.out.keep bb)
    have Vb10 := Lib.hid (Vb9.out.keep bb)
    have Mc10 := Lib.hid (Mc9.out.keep bb)
    have Vc10 := Lib.hid (Vc9.out.keep bb)
    have B10 := Lib.hid (below_then B9.out bb)
    clear bb M9 V9 Ma9 Va9 Mb9 Vb9 Mc9 Vc9 B9
    go_wp2_with (first | (refine wpList_vload (by rfl) _ rfl w6.heap.size jb rfl Vb10.out ?_))
    have HC := Lib.hid (rright_few Mb10.out (fit_rpush HF.out HL.out n) (right_rpush HRR.out Sb.out HL.out Mb10.out.lens))
    refine (HC.out).mono ?_
    rintro e w11 ⟨rfl, bb⟩
    clear HC
    have M11 := Lib.hid (M10.out.keep bb)
    have V11 := Lib.hid (V10.out.keep bb)
    have Ma11 := Lib.hid (Ma10.out.keep bb)
    have Va11 := Lib.hid (Va10.out.keep bb)
    have Mb11 := Lib.hid (Mb10.out.keep bb)
    have Vb11 := Lib.hid (Vb10.out.keep bb)
    have Mc11 := Lib.hid (Mc10.out.keep bb)
    have Vc11 := Lib.hid (Vc10.out.keep bb)
    have B11 := Lib.hid (below_then B10.out bb)
    clear bb M10 V10 Ma10 Va10 Mb10 Vb10 Mc10 Vc10 B10
    go_wp2_with (first | (refine wpList_vload (by rfl) _ rfl w8.heap.size jc rfl Vc11.out ?_))
    have HC := Lib.hid (rright_few Mc11.out (fit_print HF.out HL.out HS.out) (right_print HRR.out Sc.out HL.out Mc11.out.lens))
    refine (HC.out).mono ?_
    rintro e w12 ⟨rfl, bb⟩
    clear HC
    have M12 := Lib.hid (M11.out.keep bb)
    have V12 := Lib.hid (V11.out.keep bb)
    have Ma12 := Lib.hid (Ma11.out.keep bb)
    have Va12 := Lib.hid (Va11.out.keep bb)
    have Mb12 := Lib.hid (Mb11.out.keep bb)
    have Vb12 := Lib.hid (Vb11.out.keep bb)
    have Mc12 := Lib.hid (Mc11.out.keep bb)
    have Vc12 := Lib.hid (Vc11.out.keep bb)
    have B12 := Lib.hid (below_then B11.out bb)
    clear bb M11 V11 Ma11 Va11 Mb11 Vb11 Mc11 Vc11 B11
    have hLd : L.d.length = k.dn := HL.out.d
    have hLr : L.r.length = k.rn := HL.out.r
    have hLo : L.o.length = k.on := HL.out.o
    have hon : k.on ≤ 6000 := by have := HLN.out; omega
    have hsn : (strB s).size ≤ 600 := HS.out
    by_cases h : (L.d.length : Int) < k.cd
    · obtain rfl : ca = 0 := HCa.out.symm.trans ((push_room h n).2.1)
      clear HCa
      have hd0 := Lib.hid h
      have hd1 : (k.dn : Int) < k.cd := by have hss : (strB s).size = s.length := rfl; omega
      clear h
      by_cases h : (L.r.length : Int) < k.cr
      · obtain rfl : cb = 0 := HCb.out.symm.trans ((push_room h n).2.2)
        clear HCb
        have hr0 := Lib.hid h
        have hr1 : (k.rn : Int) < k.cr := by have hss : (strB s).size = s.length := rfl; omega
        clear h
        by_cases h : (L.o.length : Int) + (s.length : Int) ≤ k.co
        · obtain rfl : cc = 0 := HCc.out.symm.trans ((print_room h).2)
          clear HCc
          have hg0 := Lib.hid h
          have hg1 : (k.on : Int) + ((strB s).size : Int) ≤ k.co := by have hss : (strB s).size = s.length := rfl; omega
          have HPO := Lib.hid (print_room h).1
          clear h
          obtain ⟨pV0, pV1, pV2, pV3, pV4, pV5, pV6, pV7, pV8, pV9, pV10, pV11, pV12, pV13, pV14, pV15, pV16, pV17, pV18, pV19, pV20, pV21, pV22⟩ := V12.out.use
          clear pV0 pV3 pV5 pV6 pV7 pV10 pV11 pV12 pV14 pV15 pV16 pV17 pV18 pV19 pV20 pV21 pV22
          go_wp2_with (first | (refine wpList_vload (by rfl) _ rfl w4.heap.size ja rfl Va12.out ?_))
          have HC := Lib.hid (pop_push hd0.out Ma12.out (fit_push HF.out HL.out n))
          clear pV1 pV2 pV4 pV8 pV9 pV13
          refine (HC.out).mono ?_
          rintro e w13 ⟨jxa, rfl, hv, hs, bb⟩
          have Sxa := Lib.hid hs
          clear HC hs
          have M13 := Lib.hid (M12.out.keep bb)
          have V13 := Lib.hid (V12.out.keep bb)
          have Ma13 := Lib.hid (Ma12.out.keep bb)
          have Va13 := Lib.hid (Va12.out.keep bb)
          have Mb13 := Lib.hid (Mb12.out.keep bb)
          have Vb13 := Lib.hid (Vb12.out.keep bb)
          have Mc13 := Lib.hid (Mc12.out.keep bb)
          have Vc13 := Lib.hid (Vc12.out.keep bb)
          have B13 := Lib.hid (below_then B12.out bb)
          have Mxa13 := Lib.hid hv
          clear bb M12 V12 Ma12 Va12 Mb12 Vb12 Mc12 Vc12 B12
          clear hv
          go_upto_region 13 with (refine wpList_vstore (by rfl) _ _ rfl _ vm0 jxa rfl rfl (vbox_zero _) ?_)
          generalize hw14 : World.setRow _ _ _ = w14
          have kb : Below w13.heap.size w13 w14 := by rw [← hw14]; exact below_setRow (al_one _ _) (Nat.le_refl _) _
          have hx : VBox w14 w13.heap.size jxa := by rw [← hw14]; exact vrow (vbox_zero w13) jxa
          clear hw14
          have M14 := Lib.hid (M13.out.keep kb)
          have V14 := Lib.hid (V13.out.keep kb)
          have Ma14 := Lib.hid (Ma13.out.keep kb)
          have Va14 := Lib.hid (Va13.out.keep kb)
          have Mb14 := Lib.hid (Mb13.out.keep kb)
          have Vb14 := Lib.hid (Vb13.out.keep kb)
          have Mc14 := Lib.hid (Mc13.out.keep kb)
          have Vc14 := Lib.hid (Vc13.out.keep kb)
          have Mxa14 := Lib.hid (Mxa13.out.keep kb)
          have B14 := Lib.hid (below_then B13.out kb)
          have Vxa14 := Lib.hid hx
          clear kb M13 V13 Ma13 Va13 Mb13 Vb13 Mc13 Vc13 Mxa13 B13
          clear hx
          go_wp2_with (first | (refine wpList_vload (by rfl) _ rfl w13.heap.size jxa rfl Vxa14.out ?_) | (refine wpList_vload (by rfl) _ rfl w.heap.size k rfl V14.out ?_))
          have HC := Lib.hid (rsame_two Mxa14.out M14.out (Sxa.out.trans Sa.out) (fit_of HF.out HL.out))
          refine (HC.out).mono ?_
          rintro e w15 ⟨rfl, bb⟩
          clear HC
          have M15 := Lib.hid (M14.out.keep bb)
          have V15 := Lib.hid (V14.out.keep bb)
          have Ma15 := Lib.hid (Ma14.out.keep bb)
          have Va15 := Lib.hid (Va14.out.keep bb)
          have Mb15 := Lib.hid (Mb14.out.keep bb)
          have Vb15 := Lib.hid (Vb14.out.keep bb)
          have Mc15 := Lib.hid (Mc14.out.keep bb)
          have Vc15 := Lib.hid (Vc14.out.keep bb)
          have Mxa15 := Lib.hid (Mxa14.out.keep bb)
          have Vxa15 := Lib.hid (Vxa14.out.keep bb)
          have B15 := Lib.hid (below_then B14.out bb)
          clear bb M14 V14 Ma14 Va14 Mb14 Vb14 Mc14 Vc14 Mxa14 Vxa14 B14
          go_wp2_with (first | (refine wpList_vload (by rfl) _ rfl w6.heap.size jb rfl Vb15.out ?_))
          have HC := Lib.hid (rpop_rpush hr0.out Mb15.out (fit_rpush HF.out HL.out n))
          refine (HC.out).mono ?_
          rintro e w16 ⟨jxb, rfl, hv, hs, bb⟩
          have Sxb := Lib.hid hs
          clear HC hs
          have M16 := Lib.hid (M15.out.keep bb)
          have V16 := Lib.hid (V15.out.keep bb)
          have Ma16 := Lib.hid (Ma15.out.keep bb)
          have Va16 := Lib.hid (Va15.out.keep bb)
          have Mb16 := Lib.hid (Mb15.out.keep bb)
          have Vb16 := Lib.hid (Vb15.out.keep bb)
          have Mc16 := Lib.hid (Mc15.out.keep bb)
          have Vc16 := Lib.hid (Vc15.out.keep bb)
          have Mxa16 := Lib.hid (Mxa15.out.keep bb)
          have Vxa16 := Lib.hid (Vxa15.out.keep bb)
          have B16 := Lib.hid (below_then B15.out bb)
          have Mxb16 := Lib.hid hv
          clear bb M15 V15 Ma15 Va15 Mb15 Vb15 Mc15 Vc15 Mxa15 Vxa15 B15
          clear hv
          go_upto_region 17 with (refine wpList_vstore (by rfl) _ _ rfl _ vm0 jxb rfl rfl (vbox_zero _) ?_)
          generalize hw17 : World.setRow _ _ _ = w17
          have kb : Below w16.heap.size w16 w17 := by rw [← hw17]; exact below_setRow (al_one _ _) (Nat.le_refl _) _
          have hx : VBox w17 w16.heap.size jxb := by rw [← hw17]; exact vrow (vbox_zero w16) jxb
          clear hw17
          have M17 := Lib.hid (M16.out.keep kb)
          have V17 := Lib.hid (V16.out.keep kb)
          have Ma17 := Lib.hid (Ma16.out.keep kb)
          have Va17 := Lib.hid (Va16.out.keep kb)
          have Mb17 := Lib.hid (Mb16.out.keep kb)
          have Vb17 := Lib.hid (Vb16.out.keep kb)
          have Mc17 := Lib.hid (Mc16.out.keep kb)
          have Vc17 := Lib.hid (Vc16.out.keep kb)
          have Mxa17 := Lib.hid (Mxa16.out.keep kb)
          have Vxa17 := Lib.hid (Vxa16.out.keep kb)
          have Mxb17 := Lib.hid (Mxb16.out.keep kb)
          have B17 := Lib.hid (below_then B16.out kb)
          have Vxb17 := Lib.hid hx
          clear kb M16 V16 Ma16 Va16 Mb16 Vb16 Mc16 Vc16 Mxa16 Vxa16 Mxb16 B16
          clear hx
          go_wp2_with (first | (refine wpList_vload (by rfl) _ rfl w16.heap.size jxb rfl Vxb17.out ?_) | (refine wpList_vload (by rfl) _ rfl w.heap.size k rfl V17.out ?_))
          have HC := Lib.hid (rsame_two Mxb17.out M17.out (Sxb.out.trans Sb.out) (fit_of HF.out HL.out))
          refine (HC.out).mono ?_
          rintro e w18 ⟨rfl, bb⟩
          clear HC
          have M18 := Lib.hid (M17.out.keep bb)
          have V18 := Lib.hid (V17.out.keep bb)
          have Ma18 := Lib.hid (Ma17.out.keep bb)
          have Va18 := Lib.hid (Va17.out.keep bb)
          have Mb18 := Lib.hid (Mb17.out.keep bb)
          have Vb18 := Lib.hid (Vb17.out.keep bb)
          have Mc18 := Lib.hid (Mc17.out.keep bb)
          have Vc18 := Lib.hid (Vc17.out.keep bb)
          have Mxa18 := Lib.hid (Mxa17.out.keep bb)
          have Vxa18 := Lib.hid (Vxa17.out.keep bb)
          have Mxb18 := Lib.hid (Mxb17.out.keep bb)
          have Vxb18 := Lib.hid (Vxb17.out.keep bb)
          have B18 := Lib.hid (below_then B17.out bb)
          clear bb M17 V17 Ma17 Va17 Mb17 Vb17 Mc17 Vc17 Mxa17 Vxa17 Mxb17 Vxb17 B17
          obtain ⟨pV0, pV1, pV2, pV3, pV4, pV5, pV6, pV7, pV8, pV9, pV10, pV11, pV12, pV13, pV14, pV15, pV16, pV17, pV18, pV19, pV20, pV21, pV22⟩ := V18.out.use
          clear pV0 pV1 pV2 pV3 pV4 pV5 pV6 pV7 pV8 pV9 pV10 pV11 pV12 pV14 pV15 pV16 pV17 pV18 pV19 pV20 pV21 pV22
          obtain ⟨pVc0, pVc1, pVc2, pVc3, pVc4, pVc5, pVc6, pVc7, pVc8, pVc9, pVc10, pVc11, pVc12, pVc13, pVc14, pVc15, pVc16, pVc17, pVc18, pVc19, pVc20, pVc21, pVc22⟩ := Vc18.out.use
          clear pVc0 pVc1 pVc2 pVc3 pVc4 pVc5 pVc6 pVc7 pVc8 pVc9 pVc10 pVc11 pVc12 pVc14 pVc15 pVc16 pVc17 pVc18 pVc19 pVc20 pVc21 pVc22
          have cc := Mc18.out.o.conv
          rw [show (printV k L s).o = L.o ++ s from HPO.out] at cc
          have cv := M18.out.o.conv
          have ct := cat_ok (a := L.o) (b := s) (by have := HS.out; omega)
          have ce := strB_app L.o s
          go_wp2_with fail
          go_ret
          exact ⟨by simp [ce], B18.out⟩
        · obtain rfl : cc = -260 := HCc.out.symm.trans ((print_full h).2)
          clear HCc
          have hg0 := Lib.hid h
          have hg1 : decide ((k.on : Int) + ((strB s).size : Int) ≤ k.co) = false := decide_eq_false (by have hss : (strB s).size = s.length := rfl; omega)
          have HPc := Lib.hid (printV_full h)
          clear h
          obtain ⟨pV0, pV1, pV2, pV3, pV4, pV5, pV6, pV7, pV8, pV9, pV10, pV11, pV12, pV13, pV14, pV15, pV16, pV17, pV18, pV19, pV20, pV21, pV22⟩ := V12.out.use
          clear pV0 pV3 pV5 pV6 pV7 pV10 pV11 pV12 pV14 pV15 pV16 pV17 pV18 pV19 pV20 pV21 pV22
          go_wp2_with (first | (refine wpList_vload (by rfl) _ rfl w8.heap.size jc rfl Vc12.out ?_) | (refine wpList_vload (by rfl) _ rfl w.heap.size k rfl V12.out ?_))
          have HC := Lib.hid (rsame_two (by have := Mc12.out; rwa [HPc.out] at this) M12.out Sc.out (fit_of HF.out HL.out))
          refine (HC.out).mono ?_
          rintro e w13 ⟨rfl, bb⟩
          clear HC
          clear pV1 pV2 pV4 pV8 pV9 pV13
          have M13 := Lib.hid (M12.out.keep bb)
          have V13 := Lib.hid (V12.out.keep bb)
          have Ma13 := Lib.hid (Ma12.out.keep bb)
          have Va13 := Lib.hid (Va12.out.keep bb)
          have Mb13 := Lib.hid (Mb12.out.keep bb)
          have Vb13 := Lib.hid (Vb12.out.keep bb)
          have Mc13 := Lib.hid (Mc12.out.keep bb)
          have Vc13 := Lib.hid (Vc12.out.keep bb)
          have B13 := Lib.hid (below_then B12.out bb)
          clear bb M12 V12 Ma12 Va12 Mb12 Vb12 Mc12 Vc12 B12
          go_wp2_with (first | (refine wpList_vload (by rfl) _ rfl w4.heap.size ja rfl Va13.out ?_))
          have HC := Lib.hid (pop_push hd0.out Ma13.out (fit_push HF.out HL.out n))
          refine (HC.out).mono ?_
          rintro e w14 ⟨jxa, rfl, hv, hs, bb⟩
          have Sxa := Lib.hid hs
          clear HC hs
          have M14 := Lib.hid (M13.out.keep bb)
          have V14 := Lib.hid (V13.out.keep bb)
          have Ma14 := Lib.hid (Ma13.out.keep bb)
          have Va14 := Lib.hid (Va13.out.keep bb)
          have Mb14 := Lib.hid (Mb13.out.keep bb)
          have Vb14 := Lib.hid (Vb13.out.keep bb)
          have Mc14 := Lib.hid (Mc13.out.keep bb)
          have Vc14 := Lib.hid (Vc13.out.keep bb)
          have B14 := Lib.hid (below_then B13.out bb)
          have Mxa14 := Lib.hid hv
          clear bb M13 V13 Ma13 Va13 Mb13 Vb13 Mc13 Vc13 B13
          clear hv
          go_upto_region 13 with (refine wpList_vstore (by rfl) _ _ rfl _ vm0 jxa rfl rfl (vbox_zero _) ?_)
          generalize hw15 : World.setRow _ _ _ = w15
          have kb : Below w14.heap.size w14 w15 := by rw [← hw15]; exact below_setRow (al_one _ _) (Nat.le_refl _) _
          have hx : VBox w15 w14.heap.size jxa := by rw [← hw15]; exact vrow (vbox_zero w14) jxa
          clear hw15
          have M15 := Lib.hid (M14.out.keep kb)
          have V15 := Lib.hid (V14.out.keep kb)
          have Ma15 := Lib.hid (Ma14.out.keep kb)
          have Va15 := Lib.hid (Va14.out.keep kb)
          have Mb15 := Lib.hid (Mb14.out.keep kb)
          have Vb15 := Lib.hid (Vb14.out.keep kb)
          have Mc15 := Lib.hid (Mc14.out.keep kb)
          have Vc15 := Lib.hid (Vc14.out.keep kb)
          have Mxa15 := Lib.hid (Mxa14.out.keep kb)
          have B15 := Lib.hid (below_then B14.out kb)
          have Vxa15 := Lib.hid hx
          clear kb M14 V14 Ma14 Va14 Mb14 Vb14 Mc14 Vc14 Mxa14 B14
          clear hx
          go_wp2_with (first | (refine wpList_vload (by rfl) _ rfl w14.heap.size jxa rfl Vxa15.out ?_) | (refine wpList_vload (by rfl) _ rfl w.heap.size k rfl V15.out ?_))
          have HC := Lib.hid (rsame_two Mxa15.out M15.out (Sxa.out.trans Sa.out) (fit_of HF.out HL.out))
          refine (HC.out).mono ?_
          rintro e w16 ⟨rfl, bb⟩
          clear HC
          have M16 := Lib.hid (M15.out.keep bb)
          have V16 := Lib.hid (V15.out.keep bb)
          have Ma16 := Lib.hid (Ma15.out.keep bb)
          have Va16 := Lib.hid (Va15.out.keep bb)
          have Mb16 := Lib.hid (Mb15.out.keep bb)
          have Vb16 := Lib.hid (Vb15.out.keep bb)
          have Mc16 := Lib.hid (Mc15.out.keep bb)
          have Vc16 := Lib.hid (Vc15.out.keep bb)
          have Mxa16 := Lib.hid (Mxa15.out.keep bb)
          have Vxa16 := Lib.hid (Vxa15.out.keep bb)
          have B16 := Lib.hid (below_then B15.out bb)
          clear bb M15 V15 Ma15 Va15 Mb15 Vb15 Mc15 Vc15 Mxa15 Vxa15 B15
          go_wp2_with (first | (refine wpList_vload (by rfl) _ rfl w6.heap.size jb rfl Vb16.out ?_))
          have HC := Lib.hid (rpop_rpush hr0.out Mb16.out (fit_rpush HF.out HL.out n))
          refine (HC.out).mono ?_
          rintro e w17 ⟨jxb, rfl, hv, hs, bb⟩
          have Sxb := Lib.hid hs
          clear HC hs
          have M17 := Lib.hid (M16.out.keep bb)
          have V17 := Lib.hid (V16.out.keep bb)
          have Ma17 := Lib.hid (Ma16.out.keep bb)
          have Va17 := Lib.hid (Va16.out.keep bb)
          have Mb17 := Lib.hid (Mb16.out.keep bb)
          have Vb17 := Lib.hid (Vb16.out.keep bb)
          have Mc17 := Lib.hid (Mc16.out.keep bb)
          have Vc17 := Lib.hid (Vc16.out.keep bb)
          have Mxa17 := Lib.hid (Mxa16.out.keep bb)
          have Vxa17 := Lib.hid (Vxa16.out.keep bb)
          have B17 := Lib.hid (below_then B16.out bb)
          have Mxb17 := Lib.hid hv
          clear bb M16 V16 Ma16 Va16 Mb16 Vb16 Mc16 Vc16 Mxa16 Vxa16 B16
          clear hv
          go_upto_region 17 with (refine wpList_vstore (by rfl) _ _ rfl _ vm0 jxb rfl rfl (vbox_zero _) ?_)
          generalize hw18 : World.setRow _ _ _ = w18
          have kb : Below w17.heap.size w17 w18 := by rw [← hw18]; exact below_setRow (al_one _ _) (Nat.le_refl _) _
          have hx : VBox w18 w17.heap.size jxb := by rw [← hw18]; exact vrow (vbox_zero w17) jxb
          clear hw18
          have M18 := Lib.hid (M17.out.keep kb)
          have V18 := Lib.hid (V17.out.keep kb)
          have Ma18 := Lib.hid (Ma17.out.keep kb)
          have Va18 := Lib.hid (Va17.out.keep kb)
          have Mb18 := Lib.hid (Mb17.out.keep kb)
          have Vb18 := Lib.hid (Vb17.out.keep kb)
          have Mc18 := Lib.hid (Mc17.out.keep kb)
          have Vc18 := Lib.hid (Vc17.out.keep kb)
          have Mxa18 := Lib.hid (Mxa17.out.keep kb)
          have Vxa18 := Lib.hid (Vxa17.out.keep kb)
          have Mxb18 := Lib.hid (Mxb17.out.keep kb)
          have B18 := Lib.hid (below_then B17.out kb)
          have Vxb18 := Lib.hid hx
          clear kb M17 V17 Ma17 Va17 Mb17 Vb17 Mc17 Vc17 Mxa17 Vxa17 Mxb17 B17
          clear hx
          go_wp2_with (first | (refine wpList_vload (by rfl) _ rfl w17.heap.size jxb rfl Vxb18.out ?_) | (refine wpList_vload (by rfl) _ rfl w.heap.size k rfl V18.out ?_))
          have HC := Lib.hid (rsame_two Mxb18.out M18.out (Sxb.out.trans Sb.out) (fit_of HF.out HL.out))
          refine (HC.out).mono ?_
          rintro e w19 ⟨rfl, bb⟩
          clear HC
          have M19 := Lib.hid (M18.out.keep bb)
          have V19 := Lib.hid (V18.out.keep bb)
          have Ma19 := Lib.hid (Ma18.out.keep bb)
          have Va19 := Lib.hid (Va18.out.keep bb)
          have Mb19 := Lib.hid (Mb18.out.keep bb)
          have Vb19 := Lib.hid (Vb18.out.keep bb)
          have Mc19 := Lib.hid (Mc18.out.keep bb)
          have Vc19 := Lib.hid (Vc18.out.keep bb)
          have Mxa19 := Lib.hid (Mxa18.out.keep bb)
          have Vxa19 := Lib.hid (Vxa18.out.keep bb)
          have Mxb19 := Lib.hid (Mxb18.out.keep bb)
          have Vxb19 := Lib.hid (Vxb18.out.keep bb)
          have B19 := Lib.hid (below_then B18.out bb)
          clear bb M18 V18 Ma18 Va18 Mb18 Vb18 Mc18 Vc18 Mxa18 Vxa18 Mxb18 Vxb18 B18
          go_wp2_with fail
          go_ret
          exact ⟨rfl, B19.out⟩
      · obtain rfl : cb = -5 := HCb.out.symm.trans ((push_full h n).2.2)
        clear HCb
        have hr0 := Lib.hid h
        have hr1 : decide ((k.rn : Int) < k.cr) = false := decide_eq_false (by have hss : (strB s).size = s.length := rfl; omega)
        have HPb := Lib.hid (rpushV_full h n)
        clear h
        by_cases h : (L.o.length : Int) + (s.length : Int) ≤ k.co
        · obtain rfl : cc = 0 := HCc.out.symm.trans ((print_room h).2)
          clear HCc
          have hg0 := Lib.hid h
          have hg1 : (k.on : Int) + ((strB s).size : Int) ≤ k.co := by have hss : (strB s).size = s.length := rfl; omega
          have HPO := Lib.hid (print_room h).1
          clear h
          obtain ⟨pV0, pV1, pV2, pV3, pV4, pV5, pV6, pV7, pV8, pV9, pV10, pV11, pV12, pV13, pV14, pV15, pV16, pV17, pV18, pV19, pV20, pV21, pV22⟩ := V12.out.use
          clear pV0 pV3 pV5 pV6 pV7 pV10 pV11 pV12 pV14 pV15 pV16 pV17 pV18 pV19 pV20 pV21 pV22
          go_wp2_with (first | (refine wpList_vload (by rfl) _ rfl w6.heap.size jb rfl Vb12.out ?_) | (refine wpList_vload (by rfl) _ rfl w.heap.size k rfl V12.out ?_))
          have HC := Lib.hid (rsame_two (by have := Mb12.out; rwa [HPb.out] at this) M12.out Sb.out (fit_of HF.out HL.out))
          refine (HC.out).mono ?_
          rintro e w13 ⟨rfl, bb⟩
          clear HC
          clear pV1 pV2 pV4 pV8 pV9 pV13
          have M13 := Lib.hid (M12.out.keep bb)
          have V13 := Lib.hid (V12.out.keep bb)
          have Ma13 := Lib.hid (Ma12.out.keep bb)
          have Va13 := Lib.hid (Va12.out.keep bb)
          have Mb13 := Lib.hid (Mb12.out.keep bb)
          have Vb13 := Lib.hid (Vb12.out.keep bb)
          have Mc13 := Lib.hid (Mc12.out.keep bb)
          have Vc13 := Lib.hid (Vc12.out.keep bb)
          have B13 := Lib.hid (below_then B12.out bb)
          clear bb M12 V12 Ma12 Va12 Mb12 Vb12 Mc12 Vc12 B12
          go_wp2_with (first | (refine wpList_vload (by rfl) _ rfl w4.heap.size ja rfl Va13.out ?_))
          have HC := Lib.hid (pop_push hd0.out Ma13.out (fit_push HF.out HL.out n))
          refine (HC.out).mono ?_
          rintro e w14 ⟨jxa, rfl, hv, hs, bb⟩
          have Sxa := Lib.hid hs
          clear HC hs
          have M14 := Lib.hid (M13.out.keep bb)
          have V14 := Lib.hid (V13.out.keep bb)
          have Ma14 := Lib.hid (Ma13.out.keep bb)
          have Va14 := Lib.hid (Va13.out.keep bb)
          have Mb14 := Lib.hid (Mb13.out.keep bb)
          have Vb14 := Lib.hid (Vb13.out.keep bb)
          have Mc14 := Lib.hid (Mc13.out.keep bb)
          have Vc14 := Lib.hid (Vc13.out.keep bb)
          have B14 := Lib.hid (below_then B13.out bb)
          have Mxa14 := Lib.hid hv
          clear bb M13 V13 Ma13 Va13 Mb13 Vb13 Mc13 Vc13 B13
          clear hv
          go_upto_region 13 with (refine wpList_vstore (by rfl) _ _ rfl _ vm0 jxa rfl rfl (vbox_zero _) ?_)
          generalize hw15 : World.setRow _ _ _ = w15
          have kb : Below w14.heap.size w14 w15 := by rw [← hw15]; exact below_setRow (al_one _ _) (Nat.le_refl _) _
          have hx : VBox w15 w14.heap.size jxa := by rw [← hw15]; exact vrow (vbox_zero w14) jxa
          clear hw15
          have M15 := Lib.hid (M14.out.keep kb)
          have V15 := Lib.hid (V14.out.keep kb)
          have Ma15 := Lib.hid (Ma14.out.keep kb)
          have Va15 := Lib.hid (Va14.out.keep kb)
          have Mb15 := Lib.hid (Mb14.out.keep kb)
          have Vb15 := Lib.hid (Vb14.out.keep kb)
          have Mc15 := Lib.hid (Mc14.out.keep kb)
          have Vc15 := Lib.hid (Vc14.out.keep kb)
          have Mxa15 := Lib.hid (Mxa14.out.keep kb)
          have B15 := Lib.hid (below_then B14.out kb)
          have Vxa15 := Lib.hid hx
          clear kb M14 V14 Ma14 Va14 Mb14 Vb14 Mc14 Vc14 Mxa14 B14
          clear hx
          go_wp2_with (first | (refine wpList_vload (by rfl) _ rfl w14.heap.size jxa rfl Vxa15.out ?_) | (refine wpList_vload (by rfl) _ rfl w.heap.size k rfl V15.out ?_))
          have HC := Lib.hid (rsame_two Mxa15.out M15.out (Sxa.out.trans Sa.out) (fit_of HF.out HL.out))
          refine (HC.out).mono ?_
          rintro e w16 ⟨rfl, bb⟩
          clear HC
          have M16 := Lib.hid (M15.out.keep bb)
          have V16 := Lib.hid (V15.out.keep bb)
          have Ma16 := Lib.hid (Ma15.out.keep bb)
          have Va16 := Lib.hid (Va15.out.keep bb)
          have Mb16 := Lib.hid (Mb15.out.keep bb)
          have Vb16 := Lib.hid (Vb15.out.keep bb)
          have Mc16 := Lib.hid (Mc15.out.keep bb)
          have Vc16 := Lib.hid (Vc15.out.keep bb)
          have Mxa16 := Lib.hid (Mxa15.out.keep bb)
          have Vxa16 := Lib.hid (Vxa15.out.keep bb)
          have B16 := Lib.hid (below_then B15.out bb)
          clear bb M15 V15 Ma15 Va15 Mb15 Vb15 Mc15 Vc15 Mxa15 Vxa15 B15
          obtain ⟨pV0, pV1, pV2, pV3, pV4, pV5, pV6, pV7, pV8, pV9, pV10, pV11, pV12, pV13, pV14, pV15, pV16, pV17, pV18, pV19, pV20, pV21, pV22⟩ := V16.out.use
          clear pV0 pV1 pV2 pV3 pV4 pV5 pV6 pV7 pV8 pV9 pV10 pV11 pV12 pV14 pV15 pV16 pV17 pV18 pV19 pV20 pV21 pV22
          obtain ⟨pVc0, pVc1, pVc2, pVc3, pVc4, pVc5, pVc6, pVc7, pVc8, pVc9, pVc10, pVc11, pVc12, pVc13, pVc14, pVc15, pVc16, pVc17, pVc18, pVc19, pVc20, pVc21, pVc22⟩ := Vc16.out.use
          clear pVc0 pVc1 pVc2 pVc3 pVc4 pVc5 pVc6 pVc7 pVc8 pVc9 pVc10 pVc11 pVc12 pVc14 pVc15 pVc16 pVc17 pVc18 pVc19 pVc20 pVc21 pVc22
          have cc := Mc16.out.o.conv
          rw [show (printV k L s).o = L.o ++ s from HPO.out] at cc
          have cv := M16.out.o.conv
          have ct := cat_ok (a := L.o) (b := s) (by have := HS.out; omega)
          have ce := strB_app L.o s
          go_wp2_with fail
          go_ret
          exact ⟨by simp [ce], B16.out⟩
        · obtain rfl : cc = -260 := HCc.out.symm.trans ((print_full h).2)
          clear HCc
          have hg0 := Lib.hid h
          have hg1 : decide ((k.on : Int) + ((strB s).size : Int) ≤ k.co) = false := decide_eq_false (by have hss : (strB s).size = s.length := rfl; omega)
          have HPc := Lib.hid (printV_full h)
          clear h
          obtain ⟨pV0, pV1, pV2, pV3, pV4, pV5, pV6, pV7, pV8, pV9, pV10, pV11, pV12, pV13, pV14, pV15, pV16, pV17, pV18, pV19, pV20, pV21, pV22⟩ := V12.out.use
          clear pV0 pV3 pV5 pV6 pV7 pV10 pV11 pV12 pV14 pV15 pV16 pV17 pV18 pV19 pV20 pV21 pV22
          go_wp2_with (first | (refine wpList_vload (by rfl) _ rfl w6.heap.size jb rfl Vb12.out ?_) | (refine wpList_vload (by rfl) _ rfl w.heap.size k rfl V12.out ?_))
          have HC := Lib.hid (rsame_two (by have := Mb12.out; rwa [HPb.out] at this) M12.out Sb.out (fit_of HF.out HL.out))
          refine (HC.out).mono ?_
          rintro e w13 ⟨rfl, bb⟩
          clear HC
          clear pV1 pV2 pV4 pV8 pV9 pV13
          have M13 := Lib.hid (M12.out.keep bb)
          have V13 := Lib.hid (V12.out.keep bb)
          have Ma13 := Lib.hid (Ma12.out.keep bb)
          have Va13 := Lib.hid (Va12.out.keep bb)
          have Mb13 := Lib.hid (Mb12.out.keep bb)
          have Vb13 := Lib.hid (Vb12.out.keep bb)
          have Mc13 := Lib.hid (Mc12.out.keep bb)
          have Vc13 := Lib.hid (Vc12.out.keep bb)
          have B13 := Lib.hid (below_then B12.out bb)
          clear bb M12 V12 Ma12 Va12 Mb12 Vb12 Mc12 Vc12 B12
          go_wp2_with (first | (refine wpList_vload (by rfl) _ rfl w8.heap.size jc rfl Vc13.out ?_) | (refine wpList_vload (by rfl) _ rfl w.heap.size k rfl V13.out ?_))
          have HC := Lib.hid (rsame_two (by have := Mc13.out; rwa [HPc.out] at this) M13.out Sc.out (fit_of HF.out HL.out))
          refine (HC.out).mono ?_
          rintro e w14 ⟨rfl, bb⟩
          clear HC
          have M14 := Lib.hid (M13.out.keep bb)
          have V14 := Lib.hid (V13.out.keep bb)
          have Ma14 := Lib.hid (Ma13.out.keep bb)
          have Va14 := Lib.hid (Va13.out.keep bb)
          have Mb14 := Lib.hid (Mb13.out.keep bb)
          have Vb14 := Lib.hid (Vb13.out.keep bb)
          have Mc14 := Lib.hid (Mc13.out.keep bb)
          have Vc14 := Lib.hid (Vc13.out.keep bb)
          have B14 := Lib.hid (below_then B13.out bb)
          clear bb M13 V13 Ma13 Va13 Mb13 Vb13 Mc13 Vc13 B13
          go_wp2_with (first | (refine wpList_vload (by rfl) _ rfl w4.heap.size ja rfl Va14.out ?_))
          have HC := Lib.hid (pop_push hd0.out Ma14.out (fit_push HF.out HL.out n))
          refine (HC.out).mono ?_
          rintro e w15 ⟨jxa, rfl, hv, hs, bb⟩
          have Sxa := Lib.hid hs
          clear HC hs
          have M15 := Lib.hid (M14.out.keep bb)
          have V15 := Lib.hid (V14.out.keep bb)
          have Ma15 := Lib.hid (Ma14.out.keep bb)
          have Va15 := Lib.hid (Va14.out.keep bb)
          have Mb15 := Lib.hid (Mb14.out.keep bb)
          have Vb15 := Lib.hid (Vb14.out.keep bb)
          have Mc15 := Lib.hid (Mc14.out.keep bb)
          have Vc15 := Lib.hid (Vc14.out.keep bb)
          have B15 := Lib.hid (below_then B14.out bb)
          have Mxa15 := Lib.hid hv
          clear bb M14 V14 Ma14 Va14 Mb14 Vb14 Mc14 Vc14 B14
          clear hv
          go_upto_region 13 with (refine wpList_vstore (by rfl) _ _ rfl _ vm0 jxa rfl rfl (vbox_zero _) ?_)
          generalize hw16 : World.setRow _ _ _ = w16
          have kb : Below w15.heap.size w15 w16 := by rw [← hw16]; exact below_setRow (al_one _ _) (Nat.le_refl _) _
          have hx : VBox w16 w15.heap.size jxa := by rw [← hw16]; exact vrow (vbox_zero w15) jxa
          clear hw16
          have M16 := Lib.hid (M15.out.keep kb)
          have V16 := Lib.hid (V15.out.keep kb)
          have Ma16 := Lib.hid (Ma15.out.keep kb)
          have Va16 := Lib.hid (Va15.out.keep kb)
          have Mb16 := Lib.hid (Mb15.out.keep kb)
          have Vb16 := Lib.hid (Vb15.out.keep kb)
          have Mc16 := Lib.hid (Mc15.out.keep kb)
          have Vc16 := Lib.hid (Vc15.out.keep kb)
          have Mxa16 := Lib.hid (Mxa15.out.keep kb)
          have B16 := Lib.hid (below_then B15.out kb)
          have Vxa16 := Lib.hid hx
          clear kb M15 V15 Ma15 Va15 Mb15 Vb15 Mc15 Vc15 Mxa15 B15
          clear hx
          go_wp2_with (first | (refine wpList_vload (by rfl) _ rfl w15.heap.size jxa rfl Vxa16.out ?_) | (refine wpList_vload (by rfl) _ rfl w.heap.size k rfl V16.out ?_))
          have HC := Lib.hid (rsame_two Mxa16.out M16.out (Sxa.out.trans Sa.out) (fit_of HF.out HL.out))
          refine (HC.out).mono ?_
          rintro e w17 ⟨rfl, bb⟩
          clear HC
          have M17 := Lib.hid (M16.out.keep bb)
          have V17 := Lib.hid (V16.out.keep bb)
          have Ma17 := Lib.hid (Ma16.out.keep bb)
          have Va17 := Lib.hid (Va16.out.keep bb)
          have Mb17 := Lib.hid (Mb16.out.keep bb)
          have Vb17 := Lib.hid (Vb16.out.keep bb)
          have Mc17 := Lib.hid (Mc16.out.keep bb)
          have Vc17 := Lib.hid (Vc16.out.keep bb)
          have Mxa17 := Lib.hid (Mxa16.out.keep bb)
          have Vxa17 := Lib.hid (Vxa16.out.keep bb)
          have B17 := Lib.hid (below_then B16.out bb)
          clear bb M16 V16 Ma16 Va16 Mb16 Vb16 Mc16 Vc16 Mxa16 Vxa16 B16
          go_wp2_with fail
          go_ret
          exact ⟨rfl, B17.out⟩
    · obtain rfl : ca = -3 := HCa.out.symm.trans ((push_full h n).2.1)
      clear HCa
      have hd0 := Lib.hid h
      have hd1 : decide ((k.dn : Int) < k.cd) = false := decide_eq_false (by have hss : (strB s).size = s.length := rfl; omega)
      have HPa := Lib.hid (pushV_full h n)
      clear h
      by_cases h : (L.r.length : Int) < k.cr
      · obtain rfl : cb = 0 := HCb.out.symm.trans ((push_room h n).2.2)
        clear HCb
        have hr0 := Lib.hid h
        have hr1 : (k.rn : Int) < k.cr := by have hss : (strB s).size = s.length := rfl; omega
        clear h
        by_cases h : (L.o.length : Int) + (s.length : Int) ≤ k.co
        · obtain rfl : cc = 0 := HCc.out.symm.trans ((print_room h).2)
          clear HCc
          have hg0 := Lib.hid h
          have hg1 : (k.on : Int) + ((strB s).size : Int) ≤ k.co := by have hss : (strB s).size = s.length := rfl; omega
          have HPO := Lib.hid (print_room h).1
          clear h
          obtain ⟨pV0, pV1, pV2, pV3, pV4, pV5, pV6, pV7, pV8, pV9, pV10, pV11, pV12, pV13, pV14, pV15, pV16, pV17, pV18, pV19, pV20, pV21, pV22⟩ := V12.out.use
          clear pV0 pV3 pV5 pV6 pV7 pV10 pV11 pV12 pV14 pV15 pV16 pV17 pV18 pV19 pV20 pV21 pV22
          go_wp2_with (first | (refine wpList_vload (by rfl) _ rfl w4.heap.size ja rfl Va12.out ?_) | (refine wpList_vload (by rfl) _ rfl w.heap.size k rfl V12.out ?_))
          have HC := Lib.hid (rsame_two (by have := Ma12.out; rwa [HPa.out] at this) M12.out Sa.out (fit_of HF.out HL.out))
          refine (HC.out).mono ?_
          rintro e w13 ⟨rfl, bb⟩
          clear HC
          clear pV1 pV2 pV4 pV8 pV9 pV13
          have M13 := Lib.hid (M12.out.keep bb)
          have V13 := Lib.hid (V12.out.keep bb)
          have Ma13 := Lib.hid (Ma12.out.keep bb)
          have Va13 := Lib.hid (Va12.out.keep bb)
          have Mb13 := Lib.hid (Mb12.out.keep bb)
          have Vb13 := Lib.hid (Vb12.out.keep bb)
          have Mc13 := Lib.hid (Mc12.out.keep bb)
          have Vc13 := Lib.hid (Vc12.out.keep bb)
          have B13 := Lib.hid (below_then B12.out bb)
          clear bb M12 V12 Ma12 Va12 Mb12 Vb12 Mc12 Vc12 B12
          go_wp2_with (first | (refine wpList_vload (by rfl) _ rfl w6.heap.size jb rfl Vb13.out ?_))
          have HC := Lib.hid (rpop_rpush hr0.out Mb13.out (fit_rpush HF.out HL.out n))
          refine (HC.out).mono ?_
          rintro e w14 ⟨jxb, rfl, hv, hs, bb⟩
          have Sxb := Lib.hid hs
          clear HC hs
          have M14 := Lib.hid (M13.out.keep bb)
          have V14 := Lib.hid (V13.out.keep bb)
          have Ma14 := Lib.hid (Ma13.out.keep bb)
          have Va14 := Lib.hid (Va13.out.keep bb)
          have Mb14 := Lib.hid (Mb13.out.keep bb)
          have Vb14 := Lib.hid (Vb13.out.keep bb)
          have Mc14 := Lib.hid (Mc13.out.keep bb)
          have Vc14 := Lib.hid (Vc13.out.keep bb)
          have B14 := Lib.hid (below_then B13.out bb)
          have Mxb14 := Lib.hid hv
          clear bb M13 V13 Ma13 Va13 Mb13 Vb13 Mc13 Vc13 B13
          clear hv
          go_upto_region 17 with (refine wpList_vstore (by rfl) _ _ rfl _ vm0 jxb rfl rfl (vbox_zero _) ?_)
          generalize hw15 : World.setRow _ _ _ = w15
          have kb : Below w14.heap.size w14 w15 := by rw [← hw15]; exact below_setRow (al_one _ _) (Nat.le_refl _) _
          have hx : VBox w15 w14.heap.size jxb := by rw [← hw15]; exact vrow (vbox_zero w14) jxb
          clear hw15
          have M15 := Lib.hid (M14.out.keep kb)
          have V15 := Lib.hid (V14.out.keep kb)
          have Ma15 := Lib.hid (Ma14.out.keep kb)
          have Va15 := Lib.hid (Va14.out.keep kb)
          have Mb15 := Lib.hid (Mb14.out.keep kb)
          have Vb15 := Lib.hid (Vb14.out.keep kb)
          have Mc15 := Lib.hid (Mc14.out.keep kb)
          have Vc15 := Lib.hid (Vc14.out.keep kb)
          have Mxb15 := Lib.hid (Mxb14.out.keep kb)
          have B15 := Lib.hid (below_then B14.out kb)
          have Vxb15 := Lib.hid hx
          clear kb M14 V14 Ma14 Va14 Mb14 Vb14 Mc14 Vc14 Mxb14 B14
          clear hx
          go_wp2_with (first | (refine wpList_vload (by rfl) _ rfl w14.heap.size jxb rfl Vxb15.out ?_) | (refine wpList_vload (by rfl) _ rfl w.heap.size k rfl V15.out ?_))
          have HC := Lib.hid (rsame_two Mxb15.out M15.out (Sxb.out.trans Sb.out) (fit_of HF.out HL.out))
          refine (HC.out).mono ?_
          rintro e w16 ⟨rfl, bb⟩
          clear HC
          have M16 := Lib.hid (M15.out.keep bb)
          have V16 := Lib.hid (V15.out.keep bb)
          have Ma16 := Lib.hid (Ma15.out.keep bb)
          have Va16 := Lib.hid (Va15.out.keep bb)
          have Mb16 := Lib.hid (Mb15.out.keep bb)
          have Vb16 := Lib.hid (Vb15.out.keep bb)
          have Mc16 := Lib.hid (Mc15.out.keep bb)
          have Vc16 := Lib.hid (Vc15.out.keep bb)
          have Mxb16 := Lib.hid (Mxb15.out.keep bb)
          have Vxb16 := Lib.hid (Vxb15.out.keep bb)
          have B16 := Lib.hid (below_then B15.out bb)
          clear bb M15 V15 Ma15 Va15 Mb15 Vb15 Mc15 Vc15 Mxb15 Vxb15 B15
          obtain ⟨pV0, pV1, pV2, pV3, pV4, pV5, pV6, pV7, pV8, pV9, pV10, pV11, pV12, pV13, pV14, pV15, pV16, pV17, pV18, pV19, pV20, pV21, pV22⟩ := V16.out.use
          clear pV0 pV1 pV2 pV3 pV4 pV5 pV6 pV7 pV8 pV9 pV10 pV11 pV12 pV14 pV15 pV16 pV17 pV18 pV19 pV20 pV21 pV22
          obtain ⟨pVc0, pVc1, pVc2, pVc3, pVc4, pVc5, pVc6, pVc7, pVc8, pVc9, pVc10, pVc11, pVc12, pVc13, pVc14, pVc15, pVc16, pVc17, pVc18, pVc19, pVc20, pVc21, pVc22⟩ := Vc16.out.use
          clear pVc0 pVc1 pVc2 pVc3 pVc4 pVc5 pVc6 pVc7 pVc8 pVc9 pVc10 pVc11 pVc12 pVc14 pVc15 pVc16 pVc17 pVc18 pVc19 pVc20 pVc21 pVc22
          have cc := Mc16.out.o.conv
          rw [show (printV k L s).o = L.o ++ s from HPO.out] at cc
          have cv := M16.out.o.conv
          have ct := cat_ok (a := L.o) (b := s) (by have := HS.out; omega)
          have ce := strB_app L.o s
          go_wp2_with fail
          go_ret
          exact ⟨by simp [ce], B16.out⟩
        · obtain rfl : cc = -260 := HCc.out.symm.trans ((print_full h).2)
          clear HCc
          have hg0 := Lib.hid h
          have hg1 : decide ((k.on : Int) + ((strB s).size : Int) ≤ k.co) = false := decide_eq_false (by have hss : (strB s).size = s.length := rfl; omega)
          have HPc := Lib.hid (printV_full h)
          clear h
          obtain ⟨pV0, pV1, pV2, pV3, pV4, pV5, pV6, pV7, pV8, pV9, pV10, pV11, pV12, pV13, pV14, pV15, pV16, pV17, pV18, pV19, pV20, pV21, pV22⟩ := V12.out.use
          clear pV0 pV3 pV5 pV6 pV7 pV10 pV11 pV12 pV14 pV15 pV16 pV17 pV18 pV19 pV20 pV21 pV22
          go_wp2_with (first | (refine wpList_vload (by rfl) _ rfl w4.heap.size ja rfl Va12.out ?_) | (refine wpList_vload (by rfl) _ rfl w.heap.size k rfl V12.out ?_))
          have HC := Lib.hid (rsame_two (by have := Ma12.out; rwa [HPa.out] at this) M12.out Sa.out (fit_of HF.out HL.out))
          refine (HC.out).mono ?_
          rintro e w13 ⟨rfl, bb⟩
          clear HC
          clear pV1 pV2 pV4 pV8 pV9 pV13
          have M13 := Lib.hid (M12.out.keep bb)
          have V13 := Lib.hid (V12.out.keep bb)
          have Ma13 := Lib.hid (Ma12.out.keep bb)
          have Va13 := Lib.hid (Va12.out.keep bb)
          have Mb13 := Lib.hid (Mb12.out.keep bb)
          have Vb13 := Lib.hid (Vb12.out.keep bb)
          have Mc13 := Lib.hid (Mc12.out.keep bb)
          have Vc13 := Lib.hid (Vc12.out.keep bb)
          have B13 := Lib.hid (below_then B12.out bb)
          clear bb M12 V12 Ma12 Va12 Mb12 Vb12 Mc12 Vc12 B12
          go_wp2_with (first | (refine wpList_vload (by rfl) _ rfl w8.heap.size jc rfl Vc13.out ?_) | (refine wpList_vload (by rfl) _ rfl w.heap.size k rfl V13.out ?_))
          have HC := Lib.hid (rsame_two (by have := Mc13.out; rwa [HPc.out] at this) M13.out Sc.out (fit_of HF.out HL.out))
          refine (HC.out).mono ?_
          rintro e w14 ⟨rfl, bb⟩
          clear HC
          have M14 := Lib.hid (M13.out.keep bb)
          have V14 := Lib.hid (V13.out.keep bb)
          have Ma14 := Lib.hid (Ma13.out.keep bb)
          have Va14 := Lib.hid (Va13.out.keep bb)
          have Mb14 := Lib.hid (Mb13.out.keep bb)
          have Vb14 := Lib.hid (Vb13.out.keep bb)
          have Mc14 := Lib.hid (Mc13.out.keep bb)
          have Vc14 := Lib.hid (Vc13.out.keep bb)
          have B14 := Lib.hid (below_then B13.out bb)
          clear bb M13 V13 Ma13 Va13 Mb13 Vb13 Mc13 Vc13 B13
          go_wp2_with (first | (refine wpList_vload (by rfl) _ rfl w6.heap.size jb rfl Vb14.out ?_))
          have HC := Lib.hid (rpop_rpush hr0.out Mb14.out (fit_rpush HF.out HL.out n))
          refine (HC.out).mono ?_
          rintro e w15 ⟨jxb, rfl, hv, hs, bb⟩
          have Sxb := Lib.hid hs
          clear HC hs
          have M15 := Lib.hid (M14.out.keep bb)
          have V15 := Lib.hid (V14.out.keep bb)
          have Ma15 := Lib.hid (Ma14.out.keep bb)
          have Va15 := Lib.hid (Va14.out.keep bb)
          have Mb15 := Lib.hid (Mb14.out.keep bb)
          have Vb15 := Lib.hid (Vb14.out.keep bb)
          have Mc15 := Lib.hid (Mc14.out.keep bb)
          have Vc15 := Lib.hid (Vc14.out.keep bb)
          have B15 := Lib.hid (below_then B14.out bb)
          have Mxb15 := Lib.hid hv
          clear bb M14 V14 Ma14 Va14 Mb14 Vb14 Mc14 Vc14 B14
          clear hv
          go_upto_region 17 with (refine wpList_vstore (by rfl) _ _ rfl _ vm0 jxb rfl rfl (vbox_zero _) ?_)
          generalize hw16 : World.setRow _ _ _ = w16
          have kb : Below w15.heap.size w15 w16 := by rw [← hw16]; exact below_setRow (al_one _ _) (Nat.le_refl _) _
          have hx : VBox w16 w15.heap.size jxb := by rw [← hw16]; exact vrow (vbox_zero w15) jxb
          clear hw16
          have M16 := Lib.hid (M15.out.keep kb)
          have V16 := Lib.hid (V15.out.keep kb)
          have Ma16 := Lib.hid (Ma15.out.keep kb)
          have Va16 := Lib.hid (Va15.out.keep kb)
          have Mb16 := Lib.hid (Mb15.out.keep kb)
          have Vb16 := Lib.hid (Vb15.out.keep kb)
          have Mc16 := Lib.hid (Mc15.out.keep kb)
          have Vc16 := Lib.hid (Vc15.out.keep kb)
          have Mxb16 := Lib.hid (Mxb15.out.keep kb)
          have B16 := Lib.hid (below_then B15.out kb)
          have Vxb16 := Lib.hid hx
          clear kb M15 V15 Ma15 Va15 Mb15 Vb15 Mc15 Vc15 Mxb15 B15
          clear hx
          go_wp2_with (first | (refine wpList_vload (by rfl) _ rfl w15.heap.size jxb rfl Vxb16.out ?_) | (refine wpList_vload (by rfl) _ rfl w.heap.size k rfl V16.out ?_))
          have HC := Lib.hid (rsame_two Mxb16.out M16.out (Sxb.out.trans Sb.out) (fit_of HF.out HL.out))
          refine (HC.out).mono ?_
          rintro e w17 ⟨rfl, bb⟩
          clear HC
          have M17 := Lib.hid (M16.out.keep bb)
          have V17 := Lib.hid (V16.out.keep bb)
          have Ma17 := Lib.hid (Ma16.out.keep bb)
          have Va17 := Lib.hid (Va16.out.keep bb)
          have Mb17 := Lib.hid (Mb16.out.keep bb)
          have Vb17 := Lib.hid (Vb16.out.keep bb)
          have Mc17 := Lib.hid (Mc16.out.keep bb)
          have Vc17 := Lib.hid (Vc16.out.keep bb)
          have Mxb17 := Lib.hid (Mxb16.out.keep bb)
          have Vxb17 := Lib.hid (Vxb16.out.keep bb)
          have B17 := Lib.hid (below_then B16.out bb)
          clear bb M16 V16 Ma16 Va16 Mb16 Vb16 Mc16 Vc16 Mxb16 Vxb16 B16
          go_wp2_with fail
          go_ret
          exact ⟨rfl, B17.out⟩
      · obtain rfl : cb = -5 := HCb.out.symm.trans ((push_full h n).2.2)
        clear HCb
        have hr0 := Lib.hid h
        have hr1 : decide ((k.rn : Int) < k.cr) = false := decide_eq_false (by have hss : (strB s).size = s.length := rfl; omega)
        have HPb := Lib.hid (rpushV_full h n)
        clear h
        by_cases h : (L.o.length : Int) + (s.length : Int) ≤ k.co
        · obtain rfl : cc = 0 := HCc.out.symm.trans ((print_room h).2)
          clear HCc
          have hg0 := Lib.hid h
          have hg1 : (k.on : Int) + ((strB s).size : Int) ≤ k.co := by have hss : (strB s).size = s.length := rfl; omega
          have HPO := Lib.hid (print_room h).1
          clear h
          obtain ⟨pV0, pV1, pV2, pV3, pV4, pV5, pV6, pV7, pV8, pV9, pV10, pV11, pV12, pV13, pV14, pV15, pV16, pV17, pV18, pV19, pV20, pV21, pV22⟩ := V12.out.use
          clear pV0 pV3 pV5 pV6 pV7 pV10 pV11 pV12 pV14 pV15 pV16 pV17 pV18 pV19 pV20 pV21 pV22
          go_wp2_with (first | (refine wpList_vload (by rfl) _ rfl w4.heap.size ja rfl Va12.out ?_) | (refine wpList_vload (by rfl) _ rfl w.heap.size k rfl V12.out ?_))
          have HC := Lib.hid (rsame_two (by have := Ma12.out; rwa [HPa.out] at this) M12.out Sa.out (fit_of HF.out HL.out))
          refine (HC.out).mono ?_
          rintro e w13 ⟨rfl, bb⟩
          clear HC
          clear pV1 pV2 pV4 pV8 pV9 pV13
          have M13 := Lib.hid (M12.out.keep bb)
          have V13 := Lib.hid (V12.out.keep bb)
          have Ma13 := Lib.hid (Ma12.out.keep bb)
          have Va13 := Lib.hid (Va12.out.keep bb)
          have Mb13 := Lib.hid (Mb12.out.keep bb)
          have Vb13 := Lib.hid (Vb12.out.keep bb)
          have Mc13 := Lib.hid (Mc12.out.keep bb)
          have Vc13 := Lib.hid (Vc12.out.keep bb)
          have B13 := Lib.hid (below_then B12.out bb)
          clear bb M12 V12 Ma12 Va12 Mb12 Vb12 Mc12 Vc12 B12
          go_wp2_with (first | (refine wpList_vload (by rfl) _ rfl w6.heap.size jb rfl Vb13.out ?_) | (refine wpList_vload (by rfl) _ rfl w.heap.size k rfl V13.out ?_))
          have HC := Lib.hid (rsame_two (by have := Mb13.out; rwa [HPb.out] at this) M13.out Sb.out (fit_of HF.out HL.out))
          refine (HC.out).mono ?_
          rintro e w14 ⟨rfl, bb⟩
          clear HC
          have M14 := Lib.hid (M13.out.keep bb)
          have V14 := Lib.hid (V13.out.keep bb)
          have Ma14 := Lib.hid (Ma13.out.keep bb)
          have Va14 := Lib.hid (Va13.out.keep bb)
          have Mb14 := Lib.hid (Mb13.out.keep bb)
          have Vb14 := Lib.hid (Vb13.out.keep bb)
          have Mc14 := Lib.hid (Mc13.out.keep bb)
          have Vc14 := Lib.hid (Vc13.out.keep bb)
          have B14 := Lib.hid (below_then B13.out bb)
          clear bb M13 V13 Ma13 Va13 Mb13 Vb13 Mc13 Vc13 B13
          obtain ⟨pV0, pV1, pV2, pV3, pV4, pV5, pV6, pV7, pV8, pV9, pV10, pV11, pV12, pV13, pV14, pV15, pV16, pV17, pV18, pV19, pV20, pV21, pV22⟩ := V14.out.use
          clear pV0 pV1 pV2 pV3 pV4 pV5 pV6 pV7 pV8 pV9 pV10 pV11 pV12 pV14 pV15 pV16 pV17 pV18 pV19 pV20 pV21 pV22
          obtain ⟨pVc0, pVc1, pVc2, pVc3, pVc4, pVc5, pVc6, pVc7, pVc8, pVc9, pVc10, pVc11, pVc12, pVc13, pVc14, pVc15, pVc16, pVc17, pVc18, pVc19, pVc20, pVc21, pVc22⟩ := Vc14.out.use
          clear pVc0 pVc1 pVc2 pVc3 pVc4 pVc5 pVc6 pVc7 pVc8 pVc9 pVc10 pVc11 pVc12 pVc14 pVc15 pVc16 pVc17 pVc18 pVc19 pVc20 pVc21 pVc22
          have cc := Mc14.out.o.conv
          rw [show (printV k L s).o = L.o ++ s from HPO.out] at cc
          have cv := M14.out.o.conv
          have ct := cat_ok (a := L.o) (b := s) (by have := HS.out; omega)
          have ce := strB_app L.o s
          go_wp2_with fail
          go_ret
          exact ⟨by simp [ce], B14.out⟩
        · obtain rfl : cc = -260 := HCc.out.symm.trans ((print_full h).2)
          clear HCc
          have hg0 := Lib.hid h
          have hg1 : decide ((k.on : Int) + ((strB s).size : Int) ≤ k.co) = false := decide_eq_false (by have hss : (strB s).size = s.length := rfl; omega)
          have HPc := Lib.hid (printV_full h)
          clear h
          obtain ⟨pV0, pV1, pV2, pV3, pV4, pV5, pV6, pV7, pV8, pV9, pV10, pV11, pV12, pV13, pV14, pV15, pV16, pV17, pV18, pV19, pV20, pV21, pV22⟩ := V12.out.use
          clear pV0 pV3 pV5 pV6 pV7 pV10 pV11 pV12 pV14 pV15 pV16 pV17 pV18 pV19 pV20 pV21 pV22
          go_wp2_with (first | (refine wpList_vload (by rfl) _ rfl w4.heap.size ja rfl Va12.out ?_) | (refine wpList_vload (by rfl) _ rfl w.heap.size k rfl V12.out ?_))
          have HC := Lib.hid (rsame_two (by have := Ma12.out; rwa [HPa.out] at this) M12.out Sa.out (fit_of HF.out HL.out))
          refine (HC.out).mono ?_
          rintro e w13 ⟨rfl, bb⟩
          clear HC
          clear pV1 pV2 pV4 pV8 pV9 pV13
          have M13 := Lib.hid (M12.out.keep bb)
          have V13 := Lib.hid (V12.out.keep bb)
          have Ma13 := Lib.hid (Ma12.out.keep bb)
          have Va13 := Lib.hid (Va12.out.keep bb)
          have Mb13 := Lib.hid (Mb12.out.keep bb)
          have Vb13 := Lib.hid (Vb12.out.keep bb)
          have Mc13 := Lib.hid (Mc12.out.keep bb)
          have Vc13 := Lib.hid (Vc12.out.keep bb)
          have B13 := Lib.hid (below_then B12.out bb)
          clear bb M12 V12 Ma12 Va12 Mb12 Vb12 Mc12 Vc12 B12
          go_wp2_with (first | (refine wpList_vload (by rfl) _ rfl w6.heap.size jb rfl Vb13.out ?_) | (refine wpList_vload (by rfl) _ rfl w.heap.size k rfl V13.out ?_))
          have HC := Lib.hid (rsame_two (by have := Mb13.out; rwa [HPb.out] at this) M13.out Sb.out (fit_of HF.out HL.out))
          refine (HC.out).mono ?_
          rintro e w14 ⟨rfl, bb⟩
          clear HC
          have M14 := Lib.hid (M13.out.keep bb)
          have V14 := Lib.hid (V13.out.keep bb)
          have Ma14 := Lib.hid (Ma13.out.keep bb)
          have Va14 := Lib.hid (Va13.out.keep bb)
          have Mb14 := Lib.hid (Mb13.out.keep bb)
          have Vb14 := Lib.hid (Vb13.out.keep bb)
          have Mc14 := Lib.hid (Mc13.out.keep bb)
          have Vc14 := Lib.hid (Vc13.out.keep bb)
          have B14 := Lib.hid (below_then B13.out bb)
          clear bb M13 V13 Ma13 Va13 Mb13 Vb13 Mc13 Vc13 B13
          go_wp2_with (first | (refine wpList_vload (by rfl) _ rfl w8.heap.size jc rfl Vc14.out ?_) | (refine wpList_vload (by rfl) _ rfl w.heap.size k rfl V14.out ?_))
          have HC := Lib.hid (rsame_two (by have := Mc14.out; rwa [HPc.out] at this) M14.out Sc.out (fit_of HF.out HL.out))
          refine (HC.out).mono ?_
          rintro e w15 ⟨rfl, bb⟩
          clear HC
          have M15 := Lib.hid (M14.out.keep bb)
          have V15 := Lib.hid (V14.out.keep bb)
          have Ma15 := Lib.hid (Ma14.out.keep bb)
          have Va15 := Lib.hid (Va14.out.keep bb)
          have Mb15 := Lib.hid (Mb14.out.keep bb)
          have Vb15 := Lib.hid (Vb14.out.keep bb)
          have Mc15 := Lib.hid (Mc14.out.keep bb)
          have Vc15 := Lib.hid (Vc14.out.keep bb)
          have B15 := Lib.hid (below_then B14.out bb)
          clear bb M14 V14 Ma14 Va14 Mb14 Vb14 Mc14 Vc14 B14
          go_wp2_with fail
          go_ret
          exact ⟨rfl, B15.out⟩
end Go.Proofs.YtbighilgkmfemaaGreatDoor
