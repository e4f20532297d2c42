/- The head of all statements of layer 10: the document's example comes out. -/
import Derived.Test.YtbighilgkmfemaaDoorVmCodeU
namespace Go.Proofs.YtbighilgkmfemaaDoor
open Go.RowKit
set_option linter.unusedVariables false
set_option linter.unusedSimpArgs false

set_option maxRecDepth 100000 in
set_option maxHeartbeats 4000000 in
theorem conf_any (w : World) : Calls Tryd.prog 13 #[] w fun e w' => e = .returned (.agg #[.int .i64 2048, .int .i64 32, .int .i64 32, .int .i64 200, .int .i64 500]) ∧ Below w.heap.size w w' := by
  go_enter Tryd.func13, Tryd.ntmps13
  go_wp2
  refine bodyPost_ret (v := .agg #[.int .i64 2048, .int .i64 32, .int .i64 32, .int .i64 200, .int .i64 500]) ?_ rfl ?_
  · simp [results, Tryd.results13, go_sem]
  · exact ⟨rfl, al_one w _⟩
set_option maxRecDepth 100000 in
set_option maxHeartbeats 4000000 in
theorem shown_any (w : World) (HT : Tab w) : Calls Tryd.prog 4 #[] w fun e w' => e = .returned (.bool true) ∧ Below w.heap.size w w' := by
  have T0 := Lib.hid HT
  have B0 := Lib.hid (Below.refl w.heap.size w)
  clear HT
  go_enter Tryd.func4, Tryd.ntmps4
  go_wp2_with fail
  refine (conf_any _).mono ?_
  rintro e w1 ⟨rfl, bb⟩
  have T1 := Lib.hid (T0.out.keep bb)
  have B1 := Lib.hid (below_then B0.out bb)
  clear bb T0 B0
  go_wp2_with fail
  refine (vnew_use 2048 32 32 200 500 _ T1.out).mono ?_
  rintro e w2 ⟨k, C, rfl, h1, _, bb⟩
  obtain ⟨rfl, L, hL, hv, hs⟩ := h1 (by decide)
  obtain rfl : L = 2048 := by omega
  have HS := Lib.hid hs
  have hrn : vRight k (newL 2048) = true := right_new hv hs (by decide)
  have HRN := Lib.hid hrn
  clear h1 hL hs hrn
  have T2 := Lib.hid (T1.out.keep bb)
  have B2 := Lib.hid (below_then B1.out bb)
  have M2 := Lib.hid hv
  clear bb T1 B1
  clear hv
  go_upto_region 2 with (refine wpList_vstore (by rfl) _ _ rfl _ vm0 k rfl rfl (vbox_zero _) ?_)
  generalize hw3 : World.setRow _ _ _ = w3
  have kb : Below w2.heap.size w2 w3 := by rw [← hw3]; exact below_setRow (al_one _ _) (Nat.le_refl _) _
  have hx : VBox w3 w2.heap.size k := by rw [← hw3]; exact vrow (vbox_zero w2) k
  clear hw3
  have T3 := Lib.hid (T2.out.keep kb)
  have M3 := Lib.hid (M2.out.keep kb)
  have B3 := Lib.hid (below_then B2.out kb)
  have V3 := Lib.hid hx
  clear kb T2 M2 B2
  clear hx
  have HC := Lib.hid (kind_new (i := 23) (p := 216) M3.out (by decide) (by decide) (by decide) rfl)
  rw [show ((numN 23 : Nat) : Int) = 23 from rfl] at HC
  go_wp2_with (first | (refine wpList_vload (by rfl) _ rfl w2.heap.size k rfl V3.out ?_))
  refine (HC.out).mono ?_
  rintro e w4 ⟨rfl, bb⟩
  clear HC
  have T4 := Lib.hid (T3.out.keep bb)
  have M4 := Lib.hid (M3.out.keep bb)
  have V4 := Lib.hid (V3.out.keep bb)
  have B4 := Lib.hid (below_then B3.out bb)
  clear bb T3 M3 V3 B3
  obtain ⟨pV0, pV1, pV2, pV3, pV4, pV5, pV6, pV7, pV8, pV9, pV10, pV11, pV12, pV13, pV14, pV15, pV16, pV17, pV18, pV19, pV20, pV21, pV22⟩ := V4.out.use
  clear pV0 pV1 pV2 pV3 pV4 pV5 pV6 pV7 pV8 pV9 pV10 pV12 pV13 pV14 pV15 pV16 pV17 pV18 pV19 pV20 pV21 pV22
  go_wp2_with fail
  have HC := Lib.hid (rfind_any k.wA k.wn k.wc (newW 167) [100, 117, 112] _ M4.out.dict (by have := M4.out.dict.len; rw [← this]; decide) (fun q hq => ⟨(words_few q hq).1, (words_few q hq).2.1⟩) (fun q hq => Nat.le_trans (words_few q hq).2.2 (by decide)) (by decide))
  rw [find_dup] at HC
  obtain ⟨q, hq⟩ : ∃ q, gotW (newW 167) (some 23) = q := ⟨_, rfl⟩
  have hxt : q.xt = 216 := by rw [← hq]; decide +kernel
  have HXT := Lib.hid hxt
  rw [hq] at HC
  clear hq hxt
  refine (HC.out).mono ?_
  rintro e w5 ⟨rfl, bb⟩
  clear HC
  clear pV11
  have T5 := Lib.hid (T4.out.keep bb)
  have M5 := Lib.hid (M4.out.keep bb)
  have V5 := Lib.hid (V4.out.keep bb)
  have B5 := Lib.hid (below_then B4.out bb)
  clear bb T4 M4 V4 B4
  go_upto_region 4 with fail
  generalize hw : World.alloc _ _ = w6
  have kb : Below w5.heap.size w5 w6 := by rw [← hw]; exact al_one _ _
  have hx : WBox w6 w5.heap.size q := by rw [← hw]; exact wbox_new _ _
  clear hw
  have T6 := Lib.hid (T5.out.keep kb)
  have M6 := Lib.hid (M5.out.keep kb)
  have V6 := Lib.hid (V5.out.keep kb)
  have B6 := Lib.hid (below_then B5.out kb)
  have Q6 := Lib.hid hx
  clear kb T5 M5 V5 B5
  clear hx
  obtain ⟨pV0, pV1, pV2, pV3, pV4, pV5, pV6, pV7, pV8, pV9, pV10, pV11, pV12, pV13, pV14, pV15, pV16, pV17, pV18, pV19, pV20, pV21, pV22⟩ := V6.out.use
  clear pV0 pV1 pV2 pV3 pV4 pV7 pV8 pV9 pV10 pV11 pV12 pV13 pV14 pV15 pV16 pV17 pV18 pV19 pV20 pV21 pV22
  have hmn : k.mn = 2048 := by have := M6.out.m.len1; rw [← this]; exact rowN_len 2048 167
  have HC := Lib.hid (rfetch_at k.mA k.pA k.mn k.mc k.pn k.pc (rowN 2048 167, []) 0 _ (Lib.hid M6.out.m) (by omega))
  rw [fetch_base (by decide), hmn, show cellC 2048 0 = 0 from by decide] at HC
  clear hmn
  go_wp2_with fail
  have hmn : k.mn = 2048 := by have := M6.out.m.len1; rw [← this]; exact rowN_len 2048 167
  rw [hmn]
  clear hmn
  refine (HC.out).mono ?_
  rintro e w7 ⟨rfl, bb⟩
  clear HC
  clear pV5 pV6
  have T7 := Lib.hid (T6.out.keep bb)
  have M7 := Lib.hid (M6.out.keep bb)
  have V7 := Lib.hid (V6.out.keep bb)
  have Q7 := Lib.hid (Q6.out.keep bb)
  have B7 := Lib.hid (below_then B6.out bb)
  clear bb T6 M6 V6 Q6 B6
  have hcd : k.cd = 32 := HS.out.cd
  have hpc : pushC (newL 2048).d k.cd = 0 := by rw [hcd]; rfl
  have hpl : pushL (newL 2048).d 7 k.cd = [7] := by rw [hcd]; rfl
  have HPL := Lib.hid hpl
  have HC := Lib.hid (vpush_use k (newL 2048) 7 w7 (by have := M7.out.d.1; rw [← this]; decide) M7.out)
  rw [hpc] at HC
  clear hcd hpc hpl
  go_wp2_with (first | (refine wpList_vload (by rfl) _ rfl w2.heap.size k rfl V7.out ?_))
  refine (HC.out).mono ?_
  rintro e w8 ⟨kx, rfl, hv, hsx, bb⟩
  have HSX := Lib.hid hsx
  clear HC hsx
  have T8 := Lib.hid (T7.out.keep bb)
  have M8 := Lib.hid (M7.out.keep bb)
  have V8 := Lib.hid (V7.out.keep bb)
  have Q8 := Lib.hid (Q7.out.keep bb)
  have B8 := Lib.hid (below_then B7.out bb)
  have MX8 := Lib.hid hv
  clear bb T7 M7 V7 Q7 B7
  clear hv
  go_upto_region 6 with (refine wpList_vstore (by rfl) _ _ rfl _ vm0 kx rfl rfl (vbox_zero _) ?_)
  generalize hw9 : World.setRow _ _ _ = w9
  have kb : Below w8.heap.size w8 w9 := by rw [← hw9]; exact below_setRow (al_one _ _) (Nat.le_refl _) _
  have hx : VBox w9 w8.heap.size kx := by rw [← hw9]; exact vrow (vbox_zero w8) kx
  clear hw9
  have T9 := Lib.hid (T8.out.keep kb)
  have M9 := Lib.hid (M8.out.keep kb)
  have V9 := Lib.hid (V8.out.keep kb)
  have Q9 := Lib.hid (Q8.out.keep kb)
  have MX9 := Lib.hid (MX8.out.keep kb)
  have B9 := Lib.hid (below_then B8.out kb)
  have X9 := Lib.hid hx
  clear kb T8 M8 V8 Q8 MX8 B8
  clear hx
  have HC := Lib.hid (vpop_use kx (pushV k (newL 2048) 7) w9 (by have := MX9.out.d.1; rw [← this]; show (pushL _ _ _).length ≤ _; rw [HPL.out]; decide) MX9.out)
  have hpx : popX (pushV k (newL 2048) 7).d = 7 := by show popX (pushL _ _ _) = _; rw [HPL.out]; rfl
  have hpc : popC (pushV k (newL 2048) 7).d = 0 := by show popC (pushL _ _ _) = _; rw [HPL.out]; rfl
  have hpl : popV (pushV k (newL 2048) 7) = newL 2048 := by show ({ pushV k (newL 2048) 7 with d := popL (pushL (newL 2048).d 7 k.cd) } : VmL) = _; rw [HPL.out]; rfl
  rw [hpx, hpc, hpl] at HC
  clear hpx hpc hpl
  go_wp2_with (first | (refine wpList_vload (by rfl) _ rfl w8.heap.size kx rfl X9.out ?_))
  refine (HC.out).mono ?_
  rintro e w10 ⟨ky, rfl, hv, hsy, bb⟩
  have HSY := Lib.hid hsy
  clear HC hsy
  have T10 := Lib.hid (T9.out.keep bb)
  have M10 := Lib.hid (M9.out.keep bb)
  have V10 := Lib.hid (V9.out.keep bb)
  have Q10 := Lib.hid (Q9.out.keep bb)
  have MX10 := Lib.hid (MX9.out.keep bb)
  have X10 := Lib.hid (X9.out.keep bb)
  have B10 := Lib.hid (below_then B9.out bb)
  have MY10 := Lib.hid hv
  clear bb T9 M9 V9 Q9 MX9 X9 B9
  clear hv
  go_upto_region 7 with (refine wpList_vstore (by rfl) _ _ rfl _ vm0 ky rfl rfl (vbox_zero _) ?_)
  generalize hw11 : World.setRow _ _ _ = w11
  have kb : Below w10.heap.size w10 w11 := by rw [← hw11]; exact below_setRow (al_one _ _) (Nat.le_refl _) _
  have hx : VBox w11 w10.heap.size ky := by rw [← hw11]; exact vrow (vbox_zero w10) ky
  clear hw11
  have T11 := Lib.hid (T10.out.keep kb)
  have M11 := Lib.hid (M10.out.keep kb)
  have V11 := Lib.hid (V10.out.keep kb)
  have Q11 := Lib.hid (Q10.out.keep kb)
  have MX11 := Lib.hid (MX10.out.keep kb)
  have X11 := Lib.hid (X10.out.keep kb)
  have MY11 := Lib.hid (MY10.out.keep kb)
  have B11 := Lib.hid (below_then B10.out kb)
  have Y11 := Lib.hid hx
  clear kb T10 M10 V10 Q10 MX10 X10 MY10 B10
  clear hx
  have HC := Lib.hid (vrpop_use k (newL 2048) w11 (by have := M11.out.r.1; rw [← this]; decide) M11.out)
  rw [show rpopC (newL 2048).r = -6 from rfl] at HC
  go_wp2_with (first | (refine wpList_vload (by rfl) _ rfl w2.heap.size k rfl V11.out ?_))
  refine (HC.out).mono ?_
  rintro e w12 ⟨kz, rfl, hv, hsz, bb⟩
  clear HC hsz hv
  have T12 := Lib.hid (T11.out.keep bb)
  have M12 := Lib.hid (M11.out.keep bb)
  have V12 := Lib.hid (V11.out.keep bb)
  have Q12 := Lib.hid (Q11.out.keep bb)
  have MX12 := Lib.hid (MX11.out.keep bb)
  have X12 := Lib.hid (X11.out.keep bb)
  have MY12 := Lib.hid (MY11.out.keep bb)
  have Y12 := Lib.hid (Y11.out.keep bb)
  have B12 := Lib.hid (below_then B11.out bb)
  clear bb T11 M11 V11 Q11 MX11 X11 MY11 Y11 B11
  go_upto_region 8 with (refine wpList_vstore (by rfl) _ _ rfl _ vm0 kz rfl rfl (vbox_zero _) ?_)
  generalize hw13 : World.setRow _ _ _ = w13
  have kb : Below w12.heap.size w12 w13 := by rw [← hw13]; exact below_setRow (al_one _ _) (Nat.le_refl _) _
  have hx : VBox w13 w12.heap.size kz := by rw [← hw13]; exact vrow (vbox_zero w12) kz
  clear hw13
  have T13 := Lib.hid (T12.out.keep kb)
  have M13 := Lib.hid (M12.out.keep kb)
  have V13 := Lib.hid (V12.out.keep kb)
  have Q13 := Lib.hid (Q12.out.keep kb)
  have MX13 := Lib.hid (MX12.out.keep kb)
  have X13 := Lib.hid (X12.out.keep kb)
  have MY13 := Lib.hid (MY12.out.keep kb)
  have Y13 := Lib.hid (Y12.out.keep kb)
  have B13 := Lib.hid (below_then B12.out kb)
  have Z13 := Lib.hid hx
  clear kb T12 M12 V12 Q12 MX12 X12 MY12 Y12 B12
  clear hx
  have hco : k.co = 500 := HS.out.co
  have hpc : printC (newL 2048).o [104, 105] k.co = 0 := by rw [hco]; rfl
  have hpl : printL (newL 2048).o [104, 105] k.co = [104, 105] := by rw [hco]; rfl
  have HPO := Lib.hid hpl
  have HC := Lib.hid (vprint_use k (newL 2048) [104, 105] w13 (by have := M13.out.o.len; rw [← this]; decide) (by rw [hco]; decide) (by rw [hco]; decide) (by decide) M13.out)
  rw [hpc] at HC
  clear hco hpc hpl
  go_wp2_with (first | (refine wpList_vload (by rfl) _ rfl w2.heap.size k rfl V13.out ?_))
  refine (HC.out).mono ?_
  rintro e w14 ⟨kp, rfl, hv, hsp, bb⟩
  clear HC hsp
  have T14 := Lib.hid (T13.out.keep bb)
  have M14 := Lib.hid (M13.out.keep bb)
  have V14 := Lib.hid (V13.out.keep bb)
  have Q14 := Lib.hid (Q13.out.keep bb)
  have MX14 := Lib.hid (MX13.out.keep bb)
  have X14 := Lib.hid (X13.out.keep bb)
  have MY14 := Lib.hid (MY13.out.keep bb)
  have Y14 := Lib.hid (Y13.out.keep bb)
  have Z14 := Lib.hid (Z13.out.keep bb)
  have B14 := Lib.hid (below_then B13.out bb)
  have MP14 := Lib.hid hv
  clear bb T13 M13 V13 Q13 MX13 X13 MY13 Y13 Z13 B13
  clear hv
  go_upto_region 9 with (refine wpList_vstore (by rfl) _ _ rfl _ vm0 kp rfl rfl (vbox_zero _) ?_)
  generalize hw15 : World.setRow _ _ _ = w15
  have kb : Below w14.heap.size w14 w15 := by rw [← hw15]; exact below_setRow (al_one _ _) (Nat.le_refl _) _
  have hx : VBox w15 w14.heap.size kp := by rw [← hw15]; exact vrow (vbox_zero w14) kp
  clear hw15
  have T15 := Lib.hid (T14.out.keep kb)
  have M15 := Lib.hid (M14.out.keep kb)
  have V15 := Lib.hid (V14.out.keep kb)
  have Q15 := Lib.hid (Q14.out.keep kb)
  have MX15 := Lib.hid (MX14.out.keep kb)
  have X15 := Lib.hid (X14.out.keep kb)
  have MY15 := Lib.hid (MY14.out.keep kb)
  have Y15 := Lib.hid (Y14.out.keep kb)
  have Z15 := Lib.hid (Z14.out.keep kb)
  have MP15 := Lib.hid (MP14.out.keep kb)
  have B15 := Lib.hid (below_then B14.out kb)
  have P15 := Lib.hid hx
  clear kb T14 M14 V14 Q14 MX14 X14 MY14 Y14 Z14 MP14 B14
  clear hx
  simp only [List.append_eq, List.cons_append, List.nil_append]
  obtain ⟨cq0, cq1, cq2, cf0, cf1, cf2⟩ := Q15.out.use
  rw [HXT.out] at cq1
  clear cq0 cq2 cf0 cf1 cf2
  have HC := Lib.hid (vsame_any ky (newL 2048) k (newL 2048) w15 (Lib.hid (by have l := MY15.out.lens; rw [← l.d, ← l.r, ← l.f, ← l.dict, ← l.e, ← l.h]; decide)) MY15.out M15.out)
  rw [same_self (HSY.out.trans HSX.out)] at HC
  go_wp2_with (first | (refine wpList_vload (by rfl) _ rfl w10.heap.size ky rfl Y15.out ?_) | (refine wpList_vload (by rfl) _ rfl w2.heap.size k rfl V15.out ?_))
  refine (HC.out).mono ?_
  rintro e w16 ⟨rfl, bb⟩
  clear HC
  clear cq1
  have T16 := Lib.hid (T15.out.keep bb)
  have M16 := Lib.hid (M15.out.keep bb)
  have V16 := Lib.hid (V15.out.keep bb)
  have Q16 := Lib.hid (Q15.out.keep bb)
  have MX16 := Lib.hid (MX15.out.keep bb)
  have X16 := Lib.hid (X15.out.keep bb)
  have MY16 := Lib.hid (MY15.out.keep bb)
  have Y16 := Lib.hid (Y15.out.keep bb)
  have Z16 := Lib.hid (Z15.out.keep bb)
  have MP16 := Lib.hid (MP15.out.keep bb)
  have P16 := Lib.hid (P15.out.keep bb)
  have B16 := Lib.hid (below_then B15.out bb)
  clear bb T15 M15 V15 Q15 MX15 X15 MY15 Y15 Z15 MP15 P15 B15
  obtain ⟨pP0, pP1, pP2, pP3, pP4, pP5, pP6, pP7, pP8, pP9, pP10, pP11, pP12, pP13, pP14, pP15, pP16, pP17, pP18, pP19, pP20, pP21, pP22⟩ := P16.out.use
  clear pP0 pP1 pP2 pP3 pP4 pP5 pP6 pP7 pP8 pP9 pP10 pP11 pP12 pP14 pP15 pP16 pP17 pP18 pP19 pP20 pP21 pP22
  have cv := MP16.out.o.conv
  rw [show (printV k (newL 2048) [104, 105]).o = [104, 105] from HPO.out, show strB [104, 105] = { data := #[104, 105] } from rfl] at cv
  have HC := Lib.hid (vright_any k (newL 2048) w16 (Lib.hid (by have := M16.out.dict.len; rw [← this]; decide)) M16.out)
  rw [HRN.out] at HC
  go_wp2_with (first | (refine wpList_vload (by rfl) _ rfl w2.heap.size k rfl V16.out ?_))
  refine (HC.out).mono ?_
  rintro e w17 ⟨rfl, bb⟩
  clear HC
  clear pP13 cv
  have T17 := Lib.hid (T16.out.keep bb)
  have M17 := Lib.hid (M16.out.keep bb)
  have V17 := Lib.hid (V16.out.keep bb)
  have Q17 := Lib.hid (Q16.out.keep bb)
  have MX17 := Lib.hid (MX16.out.keep bb)
  have X17 := Lib.hid (X16.out.keep bb)
  have MY17 := Lib.hid (MY16.out.keep bb)
  have Y17 := Lib.hid (Y16.out.keep bb)
  have Z17 := Lib.hid (Z16.out.keep bb)
  have MP17 := Lib.hid (MP16.out.keep bb)
  have P17 := Lib.hid (P16.out.keep bb)
  have B17 := Lib.hid (below_then B16.out bb)
  clear bb T16 M16 V16 Q16 MX16 X16 MY16 Y16 Z16 MP16 P16 B16
  have HC := Lib.hid (vright_any vm0 noneL w17 (Lib.hid (by decide)) (isvm_zero _))
  rw [wrong_zero] at HC
  go_wp2_with (fail)
  refine (HC.out).mono ?_
  rintro e w18 ⟨rfl, bb⟩
  clear HC
  have T18 := Lib.hid (T17.out.keep bb)
  have M18 := Lib.hid (M17.out.keep bb)
  have V18 := Lib.hid (V17.out.keep bb)
  have Q18 := Lib.hid (Q17.out.keep bb)
  have MX18 := Lib.hid (MX17.out.keep bb)
  have X18 := Lib.hid (X17.out.keep bb)
  have MY18 := Lib.hid (MY17.out.keep bb)
  have Y18 := Lib.hid (Y17.out.keep bb)
  have Z18 := Lib.hid (Z17.out.keep bb)
  have MP18 := Lib.hid (MP17.out.keep bb)
  have P18 := Lib.hid (P17.out.keep bb)
  have B18 := Lib.hid (below_then B17.out bb)
  clear bb T17 M17 V17 Q17 MX17 X17 MY17 Y17 Z17 MP17 P17 B17
  have hno : vSame k (newL 2048) kx (pushV k (newL 2048) 7) = false := by
    have hd : sameB (newL 2048).d (pushV k (newL 2048) 7).d = false := by show sameB _ (pushL _ _ _) = _; rw [HPL.out]; rfl
    unfold vSame
    rw [hd]
    simp
  have HC := Lib.hid (vsame_any k (newL 2048) kx (pushV k (newL 2048) 7) w18 (Lib.hid (by have l := M18.out.lens; rw [← l.d, ← l.r, ← l.f, ← l.dict, ← l.e, ← l.h]; decide)) M18.out MX18.out)
  rw [hno] at HC
  clear hno
  go_wp2_with (first | (refine wpList_vload (by rfl) _ rfl w2.heap.size k rfl V18.out ?_) | (refine wpList_vload (by rfl) _ rfl w8.heap.size kx rfl X18.out ?_))
  refine (HC.out).mono ?_
  rintro e w19 ⟨rfl, bb⟩
  clear HC
  have T19 := Lib.hid (T18.out.keep bb)
  have M19 := Lib.hid (M18.out.keep bb)
  have V19 := Lib.hid (V18.out.keep bb)
  have Q19 := Lib.hid (Q18.out.keep bb)
  have MX19 := Lib.hid (MX18.out.keep bb)
  have X19 := Lib.hid (X18.out.keep bb)
  have MY19 := Lib.hid (MY18.out.keep bb)
  have Y19 := Lib.hid (Y18.out.keep bb)
  have Z19 := Lib.hid (Z18.out.keep bb)
  have MP19 := Lib.hid (MP18.out.keep bb)
  have P19 := Lib.hid (P18.out.keep bb)
  have B19 := Lib.hid (below_then B18.out bb)
  clear bb T18 M18 V18 Q18 MX18 X18 MY18 Y18 Z18 MP18 P18 B18
  go_wp2_with fail
  refine (start_any _).mono ?_
  rintro e w9 ⟨rfl, rfl⟩
  go_wp2_with fail
  refine (names_any _ T19.out).mono ?_
  rintro e w20 ⟨rfl, _, bb⟩
  have T20 := Lib.hid (T19.out.keep bb)
  have M20 := Lib.hid (M19.out.keep bb)
  have V20 := Lib.hid (V19.out.keep bb)
  have Q20 := Lib.hid (Q19.out.keep bb)
  have MX20 := Lib.hid (MX19.out.keep bb)
  have X20 := Lib.hid (X19.out.keep bb)
  have MY20 := Lib.hid (MY19.out.keep bb)
  have Y20 := Lib.hid (Y19.out.keep bb)
  have Z20 := Lib.hid (Z19.out.keep bb)
  have MP20 := Lib.hid (MP19.out.keep bb)
  have P20 := Lib.hid (P19.out.keep bb)
  have B20 := Lib.hid (below_then B19.out bb)
  clear bb T19 M19 V19 Q19 MX19 X19 MY19 Y19 Z19 MP19 P19 B19
  go_wp2_with fail
  refine (specials_any _ T20.out).mono ?_
  rintro e w21 ⟨rfl, _, bb⟩
  have T21 := Lib.hid (T20.out.keep bb)
  have M21 := Lib.hid (M20.out.keep bb)
  have V21 := Lib.hid (V20.out.keep bb)
  have Q21 := Lib.hid (Q20.out.keep bb)
  have MX21 := Lib.hid (MX20.out.keep bb)
  have X21 := Lib.hid (X20.out.keep bb)
  have MY21 := Lib.hid (MY20.out.keep bb)
  have Y21 := Lib.hid (Y20.out.keep bb)
  have Z21 := Lib.hid (Z20.out.keep bb)
  have MP21 := Lib.hid (MP20.out.keep bb)
  have P21 := Lib.hid (P20.out.keep bb)
  have B21 := Lib.hid (below_then B20.out bb)
  clear bb T20 M20 V20 Q20 MX20 X20 MY20 Y20 Z20 MP20 P20 B20
  go_wp2_with fail
  refine (conf_any _).mono ?_
  rintro e w22 ⟨rfl, bb⟩
  have T22 := Lib.hid (T21.out.keep bb)
  have M22 := Lib.hid (M21.out.keep bb)
  have V22 := Lib.hid (V21.out.keep bb)
  have Q22 := Lib.hid (Q21.out.keep bb)
  have MX22 := Lib.hid (MX21.out.keep bb)
  have X22 := Lib.hid (X21.out.keep bb)
  have MY22 := Lib.hid (MY21.out.keep bb)
  have Y22 := Lib.hid (Y21.out.keep bb)
  have Z22 := Lib.hid (Z21.out.keep bb)
  have MP22 := Lib.hid (MP21.out.keep bb)
  have P22 := Lib.hid (P21.out.keep bb)
  have B22 := Lib.hid (below_then B21.out bb)
  clear bb T21 M21 V21 Q21 MX21 X21 MY21 Y21 Z21 MP21 P21 B21
  have HF := Lib.hid (fits_any 2048 32 32 200 500)
  rw [show fitsB 2048 32 32 200 500 = true from by decide] at HF
  go_wp2_with fail
  refine (HF.out _).mono ?_
  rintro e w23 ⟨rfl, bb⟩
  have T23 := Lib.hid (T22.out.keep bb)
  have M23 := Lib.hid (M22.out.keep bb)
  have V23 := Lib.hid (V22.out.keep bb)
  have Q23 := Lib.hid (Q22.out.keep bb)
  have MX23 := Lib.hid (MX22.out.keep bb)
  have X23 := Lib.hid (X22.out.keep bb)
  have MY23 := Lib.hid (MY22.out.keep bb)
  have Y23 := Lib.hid (Y22.out.keep bb)
  have Z23 := Lib.hid (Z22.out.keep bb)
  have MP23 := Lib.hid (MP22.out.keep bb)
  have P23 := Lib.hid (P22.out.keep bb)
  have B23 := Lib.hid (below_then B22.out bb)
  clear bb T22 M22 V22 Q22 MX22 X22 MY22 Y22 Z22 MP22 P22 B22
  go_wp2_with fail
  go_ret
  exact ⟨rfl, B23.out⟩
end Go.Proofs.YtbighilgkmfemaaDoor
