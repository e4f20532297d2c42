/- Part 13. -/
import Derived.Test.YtlgnijhemfkflaaGreatDoorPqAL
import Derived.Shelf.Strings.Fields
import Derived.LaidMore
import Derived.Lib.LaidTab
import Derived.Stop.Joined
import Derived.JoinedOf
set_option linter.unusedVariables false
set_option linter.unusedSimpArgs false
set_option maxRecDepth 100000
set_option maxHeartbeats 4000000

namespace Go.Proofs.YtlgnijhemfkflaaGreatDoor
open Go.RowKit


def confSame (k j : VmK) : Bool:=decide (k.cm = j.cm ∧ k.cd = j.cd ∧ k.cr = j.cr ∧ k.cw = j.cw ∧ k.co = j.co)
def numsSame (k j : VmK) : Bool:=decide (k.here = j.here ∧ k.last = j.last ∧ k.free = j.free ∧ k.next = j.next ∧ k.arg = j.arg ∧ k.self = j.self ∧ k.now = j.now)
def vSame (k : VmK) (L : VmL) (j : VmK) (M : VmL) : Bool:=decide (L.m = M.m) && (sameB L.d M.d && (sameB L.r M.r && (fmSame L.f M.f && (dSame L.dict M.dict && (pSame k.qo L.q j.qo M.q && (rqSame L.e M.e && (hnSame L.h M.h && (confSame k j && (decide (L.o = M.o) && (numsSame k j))))))))))
def V2 (w : World) (b : Nat) (k j : VmK) : Prop:=VBox w b k ∧ VBox w (b + 1) j
theorem v2_new (w : World) (k j : VmK) : Below w.heap.size w ((w.alloc (.cells #[.int .i64 k.cm,.int .i64 k.cd,.int .i64 k.cr,.int .i64 k.cw,.int .i64 k.co,.slice k.mA k.mn k.mc,.slice k.pA k.pn k.pc,.int .i64 k.here,.slice k.dA k.dn k.dc,.slice k.rA k.rn k.rc,.slice k.fA k.fn k.fc,.slice k.wA k.wn k.wc,.int .i64 k.last,.slice k.oA k.on k.oc,.slice k.qA k.qn k.qc,.bool k.qo,.slice k.eA k.en k.ec,.int .i64 k.free,.int .i64 k.next,.int .i64 k.arg,.int .i64 k.self,.int .i64 k.now,.slice k.hA k.hn k.hc] 36)).alloc (.cells #[.int .i64 j.cm,.int .i64 j.cd,.int .i64 j.cr,.int .i64 j.cw,.int .i64 j.co,.slice j.mA j.mn j.mc,.slice j.pA j.pn j.pc,.int .i64 j.here,.slice j.dA j.dn j.dc,.slice j.rA j.rn j.rc,.slice j.fA j.fn j.fc,.slice j.wA j.wn j.wc,.int .i64 j.last,.slice j.oA j.on j.oc,.slice j.qA j.qn j.qc,.bool j.qo,.slice j.eA j.en j.ec,.int .i64 j.free,.int .i64 j.next,.int .i64 j.arg,.int .i64 j.self,.int .i64 j.now,.slice j.hA j.hn j.hc] 36)) ∧ VBox ((w.alloc (.cells #[.int .i64 k.cm,.int .i64 k.cd,.int .i64 k.cr,.int .i64 k.cw,.int .i64 k.co,.slice k.mA k.mn k.mc,.slice k.pA k.pn k.pc,.int .i64 k.here,.slice k.dA k.dn k.dc,.slice k.rA k.rn k.rc,.slice k.fA k.fn k.fc,.slice k.wA k.wn k.wc,.int .i64 k.last,.slice k.oA k.on k.oc,.slice k.qA k.qn k.qc,.bool k.qo,.slice k.eA k.en k.ec,.int .i64 k.free,.int .i64 k.next,.int .i64 k.arg,.int .i64 k.self,.int .i64 k.now,.slice k.hA k.hn k.hc] 36)).alloc (.cells #[.int .i64 j.cm,.int .i64 j.cd,.int .i64 j.cr,.int .i64 j.cw,.int .i64 j.co,.slice j.mA j.mn j.mc,.slice j.pA j.pn j.pc,.int .i64 j.here,.slice j.dA j.dn j.dc,.slice j.rA j.rn j.rc,.slice j.fA j.fn j.fc,.slice j.wA j.wn j.wc,.int .i64 j.last,.slice j.oA j.on j.oc,.slice j.qA j.qn j.qc,.bool j.qo,.slice j.eA j.en j.ec,.int .i64 j.free,.int .i64 j.next,.int .i64 j.arg,.int .i64 j.self,.int .i64 j.now,.slice j.hA j.hn j.hc] 36)) w.heap.size k ∧ VBox ((w.alloc (.cells #[.int .i64 k.cm,.int .i64 k.cd,.int .i64 k.cr,.int .i64 k.cw,.int .i64 k.co,.slice k.mA k.mn k.mc,.slice k.pA k.pn k.pc,.int .i64 k.here,.slice k.dA k.dn k.dc,.slice k.rA k.rn k.rc,.slice k.fA k.fn k.fc,.slice k.wA k.wn k.wc,.int .i64 k.last,.slice k.oA k.on k.oc,.slice k.qA k.qn k.qc,.bool k.qo,.slice k.eA k.en k.ec,.int .i64 k.free,.int .i64 k.next,.int .i64 k.arg,.int .i64 k.self,.int .i64 k.now,.slice k.hA k.hn k.hc] 36)).alloc (.cells #[.int .i64 j.cm,.int .i64 j.cd,.int .i64 j.cr,.int .i64 j.cw,.int .i64 j.co,.slice j.mA j.mn j.mc,.slice j.pA j.pn j.pc,.int .i64 j.here,.slice j.dA j.dn j.dc,.slice j.rA j.rn j.rc,.slice j.fA j.fn j.fc,.slice j.wA j.wn j.wc,.int .i64 j.last,.slice j.oA j.on j.oc,.slice j.qA j.qn j.qc,.bool j.qo,.slice j.eA j.en j.ec,.int .i64 j.free,.int .i64 j.next,.int .i64 j.arg,.int .i64 j.self,.int .i64 j.now,.slice j.hA j.hn j.hc] 36)) (w.heap.size + 1) j:=by
  refine ⟨((Below.refl _ _).alloc (Nat.le_refl _) _).alloc (by simp) _,?_,?_⟩
  · exact (vbox_new w k).keep ((Below.refl _ _).alloc (Nat.le_refl _) _)
  · have:=vbox_new (w.alloc (.cells #[.int .i64 k.cm,.int .i64 k.cd,.int .i64 k.cr,.int .i64 k.cw,.int .i64 k.co,.slice k.mA k.mn k.mc,.slice k.pA k.pn k.pc,.int .i64 k.here,.slice k.dA k.dn k.dc,.slice k.rA k.rn k.rc,.slice k.fA k.fn k.fc,.slice k.wA k.wn k.wc,.int .i64 k.last,.slice k.oA k.on k.oc,.slice k.qA k.qn k.qc,.bool k.qo,.slice k.eA k.en k.ec,.int .i64 k.free,.int .i64 k.next,.int .i64 k.arg,.int .i64 k.self,.int .i64 k.now,.slice k.hA k.hn k.hc] 36)) j
    rw [World.size_alloc] at this;exact this
set_option maxHeartbeats 8000000 in
theorem rvsame_any (k : VmK) (L : VmL) (j : VmK) (M : VmL) (w : World) (HN : Hid (k.dn ≤ 65536 ∧ k.rn ≤ 65536 ∧ j.dn ≤ 65536 ∧ j.rn ≤ 65536 ∧ k.fn ≤ 1000000 ∧ k.wn ≤ 1000000 ∧ k.en ≤ 1000000 ∧ k.hn ≤ 1000000)) (h : IsVm w k L) (h' : IsVm w j M) :
    Calls Tryz.prog 18 #[vmV k,vmV j] w fun e w' => e = .returned (.bool (vSame k L j M)) ∧ Below w.heap.size w w':=by
  obtain ⟨kk,hx,hy⟩:=v2_new w k j;have B0:=zqh kk;have V0:=zqh (h.keep kk);have U0:=zqh (h'.keep kk);have X0:=zqh hx;have Y0:=zqh hy;obtain ⟨F,hF⟩ : ∃ F,vSame k L j M = F:=⟨_,rfl⟩;have HF : Hid (F = vSame k L j M):=hF.symm;rw [hF];clear h h' hF kk hx hy;go_enter Tryz.func18,Tryz.ntmps18;have HC:=zqh (rsame_at k.mA k.pA j.mA j.pA k.mn k.mc k.pn k.pc j.mn j.mc j.pn j.pc L.m M.m _ (zqh V0.out.m) (zqh U0.out.m));obtain ⟨F1,ef⟩ : ∃ F,decide (L.m = M.m) = F:=⟨_,rfl⟩;rw [ef] at HC;have H1:=zqh ef;clear ef;obtain ⟨p0,p1,p2,p3,p4,p5,p6,p7,p8,p9,p10,p11,p12,p13,p14,p15,p16,p17,p18,p19,p20,p21,p22⟩:=X0.out.use;obtain ⟨q0,q1,q2,q3,q4,q5,q6,q7,q8,q9,q10,q11,q12,q13,q14,q15,q16,q17,q18,q19,q20,q21,q22⟩:=Y0.out.use;clear p0 p1 p2 p3 p4 p7 p8 p9 p10 p11 p12 p13 p14 p15 p16 p17 p18 p19 p20 p21 p22 q0 q1 q2 q3 q4 q7 q8 q9 q10 q11 q12 q13 q14 q15 q16 q17 q18 q19 q20 q21 q22;(go_wp2_with fail);refine HC.out.mono ?_;rintro e w1 ⟨rfl,bb⟩;have X1:=zqh (X0.out.keep bb);have Y1:=zqh (Y0.out.keep bb);have V1:=zqh (V0.out.keep bb);have U1:=zqh (U0.out.keep bb);have B1:=zqh (below_then B0.out bb);clear bb HC X0 Y0 V0 U0 B0 p5 q5 p6 q6;have HC:=zqh (same_atS k.dA j.dA k.dn k.dc j.dn j.dc L.d M.d _ (by have:=HN.out; omega) (by have:=HN.out; omega) (zqh V1.out.d) (zqh U1.out.d));obtain ⟨F2,ef⟩ : ∃ F,sameB L.d M.d = F:=⟨_,rfl⟩;rw [ef] at HC;have H2:=zqh ef;clear ef;obtain ⟨p0,p1,p2,p3,p4,p5,p6,p7,p8,p9,p10,p11,p12,p13,p14,p15,p16,p17,p18,p19,p20,p21,p22⟩:=X1.out.use
  obtain ⟨q0,q1,q2,q3,q4,q5,q6,q7,q8,q9,q10,q11,q12,q13,q14,q15,q16,q17,q18,q19,q20,q21,q22⟩:=Y1.out.use;clear p0 p1 p2 p3 p4 p5 p6 p7 p9 p10 p11 p12 p13 p14 p15 p16 p17 p18 p19 p20 p21 p22 q0 q1 q2 q3 q4 q5 q6 q7 q9 q10 q11 q12 q13 q14 q15 q16 q17 q18 q19 q20 q21 q22;(go_wp2_with fail);refine HC.out.mono ?_;rintro e w2 ⟨rfl,bb⟩;have X2:=zqh (X1.out.keep bb);have Y2:=zqh (Y1.out.keep bb);have V2:=zqh (V1.out.keep bb);have U2:=zqh (U1.out.keep bb);have B2:=zqh (below_then B1.out bb);clear bb HC X1 Y1 V1 U1 B1 p8 q8;have HC:=zqh (same_atS k.rA j.rA k.rn k.rc j.rn j.rc L.r M.r _ (by have:=HN.out; omega) (by have:=HN.out; omega) (zqh V2.out.r) (zqh U2.out.r));obtain ⟨F3,ef⟩ : ∃ F,sameB L.r M.r = F:=⟨_,rfl⟩;rw [ef] at HC;have H3:=zqh ef;clear ef;obtain ⟨p0,p1,p2,p3,p4,p5,p6,p7,p8,p9,p10,p11,p12,p13,p14,p15,p16,p17,p18,p19,p20,p21,p22⟩:=X2.out.use;obtain ⟨q0,q1,q2,q3,q4,q5,q6,q7,q8,q9,q10,q11,q12,q13,q14,q15,q16,q17,q18,q19,q20,q21,q22⟩:=Y2.out.use;clear p0 p1 p2 p3 p4 p5 p6 p7 p8 p10 p11 p12 p13 p14 p15 p16 p17 p18 p19 p20 p21 p22 q0 q1 q2 q3 q4 q5 q6 q7 q8 q10 q11 q12 q13 q14 q15 q16 q17 q18 q19 q20 q21 q22;(go_wp2_with fail);refine HC.out.mono ?_;rintro e w3 ⟨rfl,bb⟩;have X3:=zqh (X2.out.keep bb);have Y3:=zqh (Y2.out.keep bb);have V3:=zqh (V2.out.keep bb);have U3:=zqh (U2.out.keep bb);have B3:=zqh (below_then B2.out bb);clear bb HC X2 Y2 V2 U2 B2 p9 q9;have HC:=zqh (rfmsame_any k.fA j.fA k.fn k.fc j.fn j.fc L.f M.f _ V3.out.f U3.out.f (by have:=HN.out; have:=V3.out.f.len; omega))
  obtain ⟨F4,ef⟩ : ∃ F,fmSame L.f M.f = F:=⟨_,rfl⟩;rw [ef] at HC;have H4:=zqh ef;clear ef;obtain ⟨p0,p1,p2,p3,p4,p5,p6,p7,p8,p9,p10,p11,p12,p13,p14,p15,p16,p17,p18,p19,p20,p21,p22⟩:=X3.out.use;obtain ⟨q0,q1,q2,q3,q4,q5,q6,q7,q8,q9,q10,q11,q12,q13,q14,q15,q16,q17,q18,q19,q20,q21,q22⟩:=Y3.out.use;clear p0 p1 p2 p3 p4 p5 p6 p7 p8 p9 p11 p12 p13 p14 p15 p16 p17 p18 p19 p20 p21 p22 q0 q1 q2 q3 q4 q5 q6 q7 q8 q9 q11 q12 q13 q14 q15 q16 q17 q18 q19 q20 q21 q22;(go_wp2_with fail);refine HC.out.mono ?_;rintro e w4 ⟨rfl,bb⟩;have X4:=zqh (X3.out.keep bb);have Y4:=zqh (Y3.out.keep bb);have V4:=zqh (V3.out.keep bb);have U4:=zqh (U3.out.keep bb);have B4:=zqh (below_then B3.out bb);clear bb HC X3 Y3 V3 U3 B3 p10 q10;have HC:=zqh (rsame9_any k.wA j.wA k.wn k.wc j.wn j.wc L.dict M.dict _ V4.out.dict U4.out.dict (by have:=HN.out; have:=V4.out.dict.len; omega));obtain ⟨F5,ef⟩ : ∃ F,dSame L.dict M.dict = F:=⟨_,rfl⟩;rw [ef] at HC;have H5:=zqh ef;clear ef;obtain ⟨p0,p1,p2,p3,p4,p5,p6,p7,p8,p9,p10,p11,p12,p13,p14,p15,p16,p17,p18,p19,p20,p21,p22⟩:=X4.out.use;obtain ⟨q0,q1,q2,q3,q4,q5,q6,q7,q8,q9,q10,q11,q12,q13,q14,q15,q16,q17,q18,q19,q20,q21,q22⟩:=Y4.out.use;clear p0 p1 p2 p3 p4 p5 p6 p7 p8 p9 p10 p12 p13 p14 p15 p16 p17 p18 p19 p20 p21 p22 q0 q1 q2 q3 q4 q5 q6 q7 q8 q9 q10 q12 q13 q14 q15 q16 q17 q18 q19 q20 q21 q22;(go_wp2_with fail);refine HC.out.mono ?_;rintro e w5 ⟨rfl,bb⟩
  have X5:=zqh (X4.out.keep bb);have Y5:=zqh (Y4.out.keep bb);have V5:=zqh (V4.out.keep bb);have U5:=zqh (U4.out.keep bb);have B5:=zqh (below_then B4.out bb);clear bb HC X4 Y4 V4 U4 B4 p11 q11;have HC:=zqh (rsame_any k.qA j.qA k.qn k.qc j.qn j.qc k.qo j.qo L.q M.q _ V5.out.q U5.out.q);obtain ⟨F6,ef⟩ : ∃ F,pSame k.qo L.q j.qo M.q = F:=⟨_,rfl⟩;rw [ef] at HC;have H6:=zqh ef;clear ef;obtain ⟨p0,p1,p2,p3,p4,p5,p6,p7,p8,p9,p10,p11,p12,p13,p14,p15,p16,p17,p18,p19,p20,p21,p22⟩:=X5.out.use;obtain ⟨q0,q1,q2,q3,q4,q5,q6,q7,q8,q9,q10,q11,q12,q13,q14,q15,q16,q17,q18,q19,q20,q21,q22⟩:=Y5.out.use;clear p0 p1 p2 p3 p4 p5 p6 p7 p8 p9 p10 p11 p12 p13 p16 p17 p18 p19 p20 p21 p22 q0 q1 q2 q3 q4 q5 q6 q7 q8 q9 q10 q11 q12 q13 q16 q17 q18 q19 q20 q21 q22;(go_wp2_with fail);refine HC.out.mono ?_;rintro e w6 ⟨rfl,bb⟩;have X6:=zqh (X5.out.keep bb);have Y6:=zqh (Y5.out.keep bb);have V6:=zqh (V5.out.keep bb);have U6:=zqh (U5.out.keep bb);have B6:=zqh (below_then B5.out bb);clear bb HC X5 Y5 V5 U5 B5 p14 q14 p15 q15;have HC:=zqh (rrqsame_any k.eA j.eA k.en k.ec j.en j.ec L.e M.e _ V6.out.e U6.out.e (by have:=HN.out; have:=V6.out.e.len; omega));obtain ⟨F7,ef⟩ : ∃ F,rqSame L.e M.e = F:=⟨_,rfl⟩;rw [ef] at HC;have H7:=zqh ef;clear ef;obtain ⟨p0,p1,p2,p3,p4,p5,p6,p7,p8,p9,p10,p11,p12,p13,p14,p15,p16,p17,p18,p19,p20,p21,p22⟩:=X6.out.use;obtain ⟨q0,q1,q2,q3,q4,q5,q6,q7,q8,q9,q10,q11,q12,q13,q14,q15,q16,q17,q18,q19,q20,q21,q22⟩:=Y6.out.use
  clear p0 p1 p2 p3 p4 p5 p6 p7 p8 p9 p10 p11 p12 p13 p14 p15 p17 p18 p19 p20 p21 p22 q0 q1 q2 q3 q4 q5 q6 q7 q8 q9 q10 q11 q12 q13 q14 q15 q17 q18 q19 q20 q21 q22;(go_wp2_with fail);refine HC.out.mono ?_;rintro e w7 ⟨rfl,bb⟩;have X7:=zqh (X6.out.keep bb);have Y7:=zqh (Y6.out.keep bb);have V7:=zqh (V6.out.keep bb);have U7:=zqh (U6.out.keep bb);have B7:=zqh (below_then B6.out bb);clear bb HC X6 Y6 V6 U6 B6 p16 q16;have HC:=zqh (rhnsame_any k.hA j.hA k.hn k.hc j.hn j.hc L.h M.h _ V7.out.h U7.out.h (by have:=HN.out; have:=V7.out.h.len; omega));obtain ⟨F8,ef⟩ : ∃ F,hnSame L.h M.h = F:=⟨_,rfl⟩;rw [ef] at HC;have H8:=zqh ef;clear ef;obtain ⟨p0,p1,p2,p3,p4,p5,p6,p7,p8,p9,p10,p11,p12,p13,p14,p15,p16,p17,p18,p19,p20,p21,p22⟩:=X7.out.use;obtain ⟨q0,q1,q2,q3,q4,q5,q6,q7,q8,q9,q10,q11,q12,q13,q14,q15,q16,q17,q18,q19,q20,q21,q22⟩:=Y7.out.use;clear p0 p1 p2 p3 p4 p5 p6 p7 p8 p9 p10 p11 p12 p13 p14 p15 p16 p17 p18 p19 p20 p21 q0 q1 q2 q3 q4 q5 q6 q7 q8 q9 q10 q11 q12 q13 q14 q15 q16 q17 q18 q19 q20 q21;(go_wp2_with fail);refine HC.out.mono ?_;rintro e w8 ⟨rfl,bb⟩;have X8:=zqh (X7.out.keep bb);have Y8:=zqh (Y7.out.keep bb);have V8:=zqh (V7.out.keep bb);have U8:=zqh (U7.out.keep bb);have B8:=zqh (below_then B7.out bb);clear bb HC X7 Y7 V7 U7 B7 p22 q22;obtain ⟨p0,p1,p2,p3,p4,p5,p6,p7,p8,p9,p10,p11,p12,p13,p14,p15,p16,p17,p18,p19,p20,p21,p22⟩:=X8.out.use;obtain ⟨q0,q1,q2,q3,q4,q5,q6,q7,q8,q9,q10,q11,q12,q13,q14,q15,q16,q17,q18,q19,q20,q21,q22⟩:=Y8.out.use
  clear p5 p6 p8 p9 p10 p11 p14 p15 p16 p22 q5 q6 q8 q9 q10 q11 q14 q15 q16 q22;have cv1:=conv_any V8.out.o;have cv2:=conv_any U8.out.o;cases F1 with
  | false =>
    (go_wp2_with fail);go_ret;exact ⟨ret_bool (by rw [HF.out]; unfold vSame; rw [H1.out]; rfl),B8.out⟩
  | true =>
    cases F2 with
    | false =>
      (go_wp2_with fail);go_ret;exact ⟨ret_bool (by rw [HF.out]; unfold vSame; rw [H1.out,H2.out]; rfl),B8.out⟩
    | true =>
      cases F3 with
      | false =>
        (go_wp2_with fail);go_ret;exact ⟨ret_bool (by rw [HF.out]; unfold vSame; rw [H1.out,H2.out,H3.out]; rfl),B8.out⟩
      | true =>
        cases F4 with
        | false =>
          (go_wp2_with fail);go_ret;exact ⟨ret_bool (by rw [HF.out]; unfold vSame; rw [H1.out,H2.out,H3.out,H4.out]; rfl),B8.out⟩
        | true =>
          cases F5 with
          | false =>
            (go_wp2_with fail);go_ret;exact ⟨ret_bool (by rw [HF.out]; unfold vSame; rw [H1.out,H2.out,H3.out,H4.out,H5.out]; rfl),B8.out⟩
          | true =>
            cases F6 with
            | false =>
              (go_wp2_with fail);go_ret;exact ⟨ret_bool (by rw [HF.out]; unfold vSame; rw [H1.out,H2.out,H3.out,H4.out,H5.out,H6.out]; rfl),B8.out⟩
            | true =>
              cases F7 with
              | false =>
                (go_wp2_with fail);go_ret;exact ⟨ret_bool (by rw [HF.out]; unfold vSame; rw [H1.out,H2.out,H3.out,H4.out,H5.out,H6.out,H7.out]; rfl),B8.out⟩
              | true =>
                cases F8 with
                | false =>
                  (go_wp2_with fail);go_ret;exact ⟨ret_bool (by rw [HF.out]; unfold vSame; rw [H1.out,H2.out,H3.out,H4.out,H5.out,H6.out,H7.out,H8.out]; rfl),B8.out⟩
                | true =>
                  by_cases hcm : k.cm = j.cm
                  · rw [← hcm] at q0
                    by_cases hcd : k.cd = j.cd
                    · rw [← hcd] at q1
                      by_cases hcr : k.cr = j.cr
                      · rw [← hcr] at q2
                        by_cases hcw : k.cw = j.cw
                        · rw [← hcw] at q3
                          by_cases hco : k.co = j.co
                          · rw [← hco] at q4
                            have hc : confSame k j = true:=by unfold confSame; rw [decide_eq_true_eq]; exact ⟨hcm,hcd,hcr,hcw,hco⟩
                            have HC:=zqh hc;clear hc
                            by_cases ho : L.o = M.o
                            · have HO : Hid (decide (L.o = M.o) = true):=by show _ = _; simpa using ho
                              rw [← ho] at cv2;clear ho
                              by_cases hhere : k.here = j.here
                              · rw [← hhere] at q7
                                by_cases hlast : k.last = j.last
                                · rw [← hlast] at q12
                                  by_cases hfree : k.free = j.free
                                  · rw [← hfree] at q17
                                    by_cases hnext : k.next = j.next
                                    · rw [← hnext] at q18
                                      by_cases harg : k.arg = j.arg
                                      · rw [← harg] at q19
                                        by_cases hself : k.self = j.self
                                        · rw [← hself] at q20
                                          by_cases hnow : k.now = j.now
                                          · rw [← hnow] at q21
                                            have hq : numsSame k j = true:=by unfold numsSame; rw [decide_eq_true_eq]; exact ⟨hhere,hlast,hfree,hnext,harg,hself,hnow⟩
                                            have HQ:=zqh hq;clear hq;(go_wp2_with fail);go_ret;exact ⟨ret_bool (by rw [HF.out]; unfold vSame; rw [H1.out,H2.out,H3.out,H4.out,H5.out,H6.out,H7.out,H8.out,HC.out,HO.out,HQ.out]; rfl),B8.out⟩
                                          · have hq : numsSame k j = false:=by unfold numsSame; rw [decide_eq_false_iff_not]; intro x; exact hnow x.2.2.2.2.2.2
                                            have HQ:=zqh hq;have n1 : ((k.now : Int) != j.now) = true:=by simpa using hnow
                                            have n2 : ((k.now : Int) == j.now) = false:=by simpa using hnow
                                            clear hq;(go_wp2_with fail);go_ret;exact ⟨ret_bool (by rw [HF.out]; unfold vSame; rw [H1.out,H2.out,H3.out,H4.out,H5.out,H6.out,H7.out,H8.out,HC.out,HO.out,HQ.out]; rfl),B8.out⟩
                                        · have hq : numsSame k j = false:=by unfold numsSame; rw [decide_eq_false_iff_not]; intro x; exact hself x.2.2.2.2.2.1
                                          have HQ:=zqh hq;have n1 : ((k.self : Int) != j.self) = true:=by simpa using hself
                                          have n2 : ((k.self : Int) == j.self) = false:=by simpa using hself
                                          clear hq;(go_wp2_with fail);go_ret;exact ⟨ret_bool (by rw [HF.out]; unfold vSame; rw [H1.out,H2.out,H3.out,H4.out,H5.out,H6.out,H7.out,H8.out,HC.out,HO.out,HQ.out]; rfl),B8.out⟩
                                      · have hq : numsSame k j = false:=by unfold numsSame; rw [decide_eq_false_iff_not]; intro x; exact harg x.2.2.2.2.1
                                        have HQ:=zqh hq;have n1 : ((k.arg : Int) != j.arg) = true:=by simpa using harg
                                        have n2 : ((k.arg : Int) == j.arg) = false:=by simpa using harg
                                        clear hq;(go_wp2_with fail);go_ret;exact ⟨ret_bool (by rw [HF.out]; unfold vSame; rw [H1.out,H2.out,H3.out,H4.out,H5.out,H6.out,H7.out,H8.out,HC.out,HO.out,HQ.out]; rfl),B8.out⟩
                                    · have hq : numsSame k j = false:=by unfold numsSame; rw [decide_eq_false_iff_not]; intro x; exact hnext x.2.2.2.1
                                      have HQ:=zqh hq;have n1 : ((k.next : Int) != j.next) = true:=by simpa using hnext
                                      have n2 : ((k.next : Int) == j.next) = false:=by simpa using hnext
                                      clear hq;(go_wp2_with fail);go_ret;exact ⟨ret_bool (by rw [HF.out]; unfold vSame; rw [H1.out,H2.out,H3.out,H4.out,H5.out,H6.out,H7.out,H8.out,HC.out,HO.out,HQ.out]; rfl),B8.out⟩
                                  · have hq : numsSame k j = false:=by unfold numsSame; rw [decide_eq_false_iff_not]; intro x; exact hfree x.2.2.1
                                    have HQ:=zqh hq;have n1 : ((k.free : Int) != j.free) = true:=by simpa using hfree
                                    have n2 : ((k.free : Int) == j.free) = false:=by simpa using hfree
                                    clear hq;(go_wp2_with fail);go_ret;exact ⟨ret_bool (by rw [HF.out]; unfold vSame; rw [H1.out,H2.out,H3.out,H4.out,H5.out,H6.out,H7.out,H8.out,HC.out,HO.out,HQ.out]; rfl),B8.out⟩
                                · have hq : numsSame k j = false:=by unfold numsSame; rw [decide_eq_false_iff_not]; intro x; exact hlast x.2.1
                                  have HQ:=zqh hq;have n1 : ((k.last : Int) != j.last) = true:=by simpa using hlast
                                  have n2 : ((k.last : Int) == j.last) = false:=by simpa using hlast
                                  clear hq;(go_wp2_with fail);go_ret;exact ⟨ret_bool (by rw [HF.out]; unfold vSame; rw [H1.out,H2.out,H3.out,H4.out,H5.out,H6.out,H7.out,H8.out,HC.out,HO.out,HQ.out]; rfl),B8.out⟩
                              · have hq : numsSame k j = false:=by unfold numsSame; rw [decide_eq_false_iff_not]; intro x; exact hhere x.1
                                have HQ:=zqh hq;have n1 : ((k.here : Int) != j.here) = true:=by simpa using hhere
                                have n2 : ((k.here : Int) == j.here) = false:=by simpa using hhere
                                clear hq;(go_wp2_with fail);go_ret;exact ⟨ret_bool (by rw [HF.out]; unfold vSame; rw [H1.out,H2.out,H3.out,H4.out,H5.out,H6.out,H7.out,H8.out,HC.out,HO.out,HQ.out]; rfl),B8.out⟩
                            · have HO : Hid (decide (L.o = M.o) = false):=by show _ = _; simpa using ho
                              have hne:=str_ne (a:=strB L.o) (b:=strB M.o) (fun e => ho (strB_inj e));have hne2:=str_neq (a:=strB L.o) (b:=strB M.o) (fun e => ho (strB_inj e));clear ho;(go_wp2_with fail);go_ret;exact ⟨ret_bool (by rw [HF.out]; unfold vSame; rw [H1.out,H2.out,H3.out,H4.out,H5.out,H6.out,H7.out,H8.out,HC.out,HO.out]; rfl),B8.out⟩
                          · have hc : confSame k j = false:=by unfold confSame; rw [decide_eq_false_iff_not]; intro x; exact hco x.2.2.2.2
                            have HC:=zqh hc;have n1 : ((k.co : Int) != j.co) = true:=by simpa using hco
                            have n2 : ((k.co : Int) == j.co) = false:=by simpa using hco
                            clear hc;(go_wp2_with fail);go_ret;exact ⟨ret_bool (by rw [HF.out]; unfold vSame; rw [H1.out,H2.out,H3.out,H4.out,H5.out,H6.out,H7.out,H8.out,HC.out]; rfl),B8.out⟩
                        · have hc : confSame k j = false:=by unfold confSame; rw [decide_eq_false_iff_not]; intro x; exact hcw x.2.2.2.1
                          have HC:=zqh hc;have n1 : ((k.cw : Int) != j.cw) = true:=by simpa using hcw
                          have n2 : ((k.cw : Int) == j.cw) = false:=by simpa using hcw
                          clear hc;(go_wp2_with fail);go_ret;exact ⟨ret_bool (by rw [HF.out]; unfold vSame; rw [H1.out,H2.out,H3.out,H4.out,H5.out,H6.out,H7.out,H8.out,HC.out]; rfl),B8.out⟩
                      · have hc : confSame k j = false:=by unfold confSame; rw [decide_eq_false_iff_not]; intro x; exact hcr x.2.2.1
                        have HC:=zqh hc;have n1 : ((k.cr : Int) != j.cr) = true:=by simpa using hcr
                        have n2 : ((k.cr : Int) == j.cr) = false:=by simpa using hcr
                        clear hc;(go_wp2_with fail);go_ret;exact ⟨ret_bool (by rw [HF.out]; unfold vSame; rw [H1.out,H2.out,H3.out,H4.out,H5.out,H6.out,H7.out,H8.out,HC.out]; rfl),B8.out⟩
                    · have hc : confSame k j = false:=by unfold confSame; rw [decide_eq_false_iff_not]; intro x; exact hcd x.2.1
                      have HC:=zqh hc;have n1 : ((k.cd : Int) != j.cd) = true:=by simpa using hcd
                      have n2 : ((k.cd : Int) == j.cd) = false:=by simpa using hcd
                      clear hc;(go_wp2_with fail);go_ret;exact ⟨ret_bool (by rw [HF.out]; unfold vSame; rw [H1.out,H2.out,H3.out,H4.out,H5.out,H6.out,H7.out,H8.out,HC.out]; rfl),B8.out⟩
                  · have hc : confSame k j = false:=by unfold confSame; rw [decide_eq_false_iff_not]; intro x; exact hcm x.1
                    have HC:=zqh hc;have n1 : ((k.cm : Int) != j.cm) = true:=by simpa using hcm
                    have n2 : ((k.cm : Int) == j.cm) = false:=by simpa using hcm
                    clear hc;(go_wp2_with fail);go_ret;exact ⟨ret_bool (by rw [HF.out]; unfold vSame; rw [H1.out,H2.out,H3.out,H4.out,H5.out,H6.out,H7.out,H8.out,HC.out]; rfl),B8.out⟩
end Go.Proofs.YtlgnijhemfkflaaGreatDoor

namespace Go.Proofs
open Go.Shelf
def Tryz.fields_ren : Go.Shelf.Ren:=⟨fun | 157 => 44 | 199 => 75 | 229 => 74 | 261 => 197 | 311 => 260 | 312 => 261 | n => n,fun | 0 => 0 | 3 => 3 | 4 => 4 | 5 => 5 | 9 => 9 | 21 => 21 | 31 => 50 | 40 => 125 | 46 => 267 | 49 => 54 | 51 => 207 | 119 => 123 | 141 => 209 | 152 => 204 | 154 => 206 | 193 => 251 | 194 => 252 | 196 => 254 | 198 => 256 | 201 => 259 | 226 => 290 | 227 => 291 | n => n,fun | 0 => 0 | 6 => 1 | n => n⟩
theorem Tryz.fields_lays : Go.Proofs.Lays.n157 Tryz.prog Tryz.fields_ren:={
  mixed:=by kernel_rfl
  f157:=Tryz.func44.trans (congrArg some (by kernel_rfl))
  f199:=Tryz.func75.trans (congrArg some (by kernel_rfl))
  f229:=Tryz.func74.trans (congrArg some (by kernel_rfl))
  f261:=Tryz.func197.trans (congrArg some (by kernel_rfl))
  f311:=Tryz.func260.trans (congrArg some (by kernel_rfl))
  f312:=Tryz.func261.trans (congrArg some (by kernel_rfl))
  t0:=Tryz.underlying0
  a0:=Tryz.isAgg0
  z0:=Tryz.sizeOf0
  v0:=Tryz.zeroValue0
  t3:=Tryz.underlying3
  a3:=Tryz.isAgg3
  z3:=Tryz.sizeOf3
  v3:=Tryz.zeroValue3
  t4:=Tryz.underlying4
  a4:=Tryz.isAgg4
  z4:=Tryz.sizeOf4
  v4:=Tryz.zeroValue4
  t5:=Tryz.underlying5
  a5:=Tryz.isAgg5
  z5:=Tryz.sizeOf5
  v5:=Tryz.zeroValue5
  t9:=Tryz.underlying9
  a9:=Tryz.isAgg9
  z9:=Tryz.sizeOf9
  v9:=Tryz.zeroValue9
  t21:=Tryz.underlying21
  a21:=Tryz.isAgg21
  z21:=Tryz.sizeOf21
  v21:=Tryz.zeroValue21
  t31:=Tryz.underlying50
  a31:=Tryz.isAgg50
  z31:=Tryz.sizeOf50
  v31:=Tryz.zeroValue50
  t40:=Tryz.underlying125
  a40:=Tryz.isAgg125
  z40:=Tryz.sizeOf125
  v40:=Tryz.zeroValue125
  t46:=Tryz.underlying267
  a46:=Tryz.isAgg267
  z46:=Tryz.sizeOf267
  v46:=Tryz.zeroValue267
  t49:=Tryz.underlying54
  a49:=Tryz.isAgg54
  z49:=Tryz.sizeOf54
  v49:=Tryz.zeroValue54
  t51:=Tryz.underlying207
  a51:=Tryz.isAgg207
  z51:=Tryz.sizeOf207
  v51:=Tryz.zeroValue207
  t119:=Tryz.underlying123
  a119:=Tryz.isAgg123
  z119:=Tryz.sizeOf123
  t141:=Tryz.underlying209
  a141:=Tryz.isAgg209
  z141:=Tryz.sizeOf209
  v141:=Tryz.zeroValue209
  t152:=Tryz.underlying204
  a152:=Tryz.isAgg204
  z152:=Tryz.sizeOf204
  v152:=Tryz.zeroValue204
  t154:=Tryz.underlying206
  a154:=Tryz.isAgg206
  z154:=Tryz.sizeOf206
  v154:=Tryz.zeroValue206
  t193:=Tryz.underlying251
  a193:=Tryz.isAgg251
  z193:=Tryz.sizeOf251
  v193:=Tryz.zeroValue251
  t194:=Tryz.underlying252
  a194:=Tryz.isAgg252
  z194:=Tryz.sizeOf252
  v194:=Tryz.zeroValue252
  t196:=Tryz.underlying254
  a196:=Tryz.isAgg254
  z196:=Tryz.sizeOf254
  v196:=Tryz.zeroValue254
  t198:=Tryz.underlying256
  a198:=Tryz.isAgg256
  z198:=Tryz.sizeOf256
  v198:=Tryz.zeroValue256
  t201:=Tryz.underlying259
  a201:=Tryz.isAgg259
  z201:=Tryz.sizeOf259
  v201:=Tryz.zeroValue259
  t226:=Tryz.underlying290
  a226:=Tryz.isAgg290
  z226:=Tryz.sizeOf290
  v226:=Tryz.zeroValue290
  t227:=Tryz.underlying291
  a227:=Tryz.isAgg291
  z227:=Tryz.sizeOf291
  v227:=Tryz.zeroValue291
  g0:=by kernel_rfl
  g6:=by kernel_rfl }
end Go.Proofs
namespace Go.Proofs.YtlgnijhemfkflaaGreatDoor
open Go.RowKit Go.Lib Go.Shelf


def Tab (w : World) : Prop:=∀ c : Nat,c < 256 → w.cell? ⟨0,c,none⟩ = some (.int .u8 (if Lib.isSp (UInt8.ofNat c) then 1 else 0))
theorem Tab.keep {w w' : World} (h : Tab w) (b : Below w.heap.size w w') : Tab w':=fun c hc => (b.cell (p:=⟨0,c,none⟩) (World.block_lt_of_cell? _ _ (h c hc))).trans (h c hc)
theorem fields_hi : (Tryz.prog.info? (Tryz.fields_ren.t 9)).map (fun i => (i.zero,i.size,i.bytes)) = some (some (.string ByteArray.empty),1,16):=by kernel_rfl
theorem fields_any (l : List UInt8) (w : World) (hl : l.length < 4294967281) (ha : l.all (fun b => decide (b.toNat < 128)) = true) (ht : Tab w) (ls : List (List UInt8)) (hls : Lib.fields l = ls) :
    Calls Tryz.prog 44 #[.string (strB l)] w fun e w' => e = .returned (.slice (some ⟨w.heap.size,0,none⟩) ls.length ls.length) ∧ w' = w.alloc (.cells (sts ls).toArray 9):=by
  have h:=Any.strings_Fields_core Tryz.fields_lays fields_hi (strB l) w (by rw [strB_size]; exact hl) (fun j b hb => by
    have : b ∈ l:=by
      have e : (strB l).data.toList = l:=by simp [strB]
      rw [e] at hb;exact List.mem_of_getElem? hb
    simpa using List.all_eq_true.1 ha b this) ht
  have e : (strB l).data.toList = l:=by simp [strB]
  rw [e,hls] at h;exact h
end Go.Proofs.YtlgnijhemfkflaaGreatDoor

namespace Go.Proofs.YtlgnijhemfkflaaGreatDoor
open Go.RowKit Go.Lib Go.ChangeShapes Go.WideShapes Go.ChangeAt


abbrev laidL : List (String × DataW Unit) := [("unicode.White_Space", Rows.laid_unicode_White_Space), ("strings.asciiSpace", Rows.laid_strings_asciiSpace)]
theorem gSpace : Tryz.prog.globalNamed "strings.asciiSpace" = some 0 := by kernel_rfl
theorem gSpaceType : (Tryz.prog.globals[0]?).map (·.type) = some 123:=by kernel_rfl
theorem cells_u8 : Tryz.prog.cellsOf 5 = 1:=by kernel_rfl
theorem cells_tab : Tryz.prog.cellsOf 123 = 256:=by kernel_rfl
theorem laid_is : (Rows.laid_strings_asciiSpace : DataW Unit) = tabData .u8 asciiSpaceTab:=by kernel_rfl
theorem tab_of {W : World} (h : laidMetH Tryz.prog laidL W) : Tab W:=by
  rw [MakeChecks.laidMetH_plain _ _ _ (by kernel_rfl)] at h;obtain ⟨ps, ⟨g0, t0, cs0, f0, p0, q0, hg0, ht0, hv0, hd0, ⟨g1, t1, cs1, f1, p1, q1, hg1, ht1, hv1, hd1, _, _⟩, _⟩, _, _⟩ := h;obtain rfl := Option.some.inj (gSpace.symm.trans hg1);obtain rfl := Option.some.inj (gSpaceType.symm.trans ht1);have hT : TabIs Tryz.prog W "strings.asciiSpace" .u8 asciiSpaceTab := by
    unfold TabIs;rw [laid_is] at hd1;rw [hv1,← cells_of_tab Tryz.underlying123 Tryz.underlying5 cells_u8 cells_tab hd1]
  intro c hc;rw [hT.cell gSpace c (by rw [asciiSpaceTab_length]; exact hc),asciiSpaceTab_at c hc]
theorem door_met (os : Os) (args : Array Value) : laidMetH Tryz.prog laidL ((World.doorLaid Tryz.prog 2000 os).forCall (fun _ _ => 0) ⟨#[],args,[]⟩).memory :=
  laidMetH_of_parts3 (fuel:=8) (laidMet_of_run' 8 (by kernel_rfl) (by kernel_rfl)) (by kernel_rfl) (by kernel_rfl)
end Go.Proofs.YtlgnijhemfkflaaGreatDoor

namespace Go.Proofs.YtlgnijhemfkflaaGreatDoor


theorem and2 {a b : Bool} (ha : a = true) (hb : b = true) : (a && b) = true:=by rw [ha,hb]; rfl
theorem joined_of {P : Program} {f : FuncId} {fn : Func} {s : ChangeSpec} {c : OpenClaim} (h1 : (c.wf (OpenSpec.ofChange s)) = true) (h2 : (laidOutB P) = true) (h3 : (mapsRowed P) = true) (h4 : (fn.params.all (P.readableRec ·)) = true) (h5 : (namedTie P c.named s.vars) = true) (h6 : ((c.stops == [])) = true) (h7 : ((P.stops == [])) = true) (h8 : ((c.knobs == [])) = true) (h9 : ((P.stopKnobs == [])) = true) (h10 : ((c.inPlace == P.inPlace f)) = true) (h11 : ((c.unfollowed == P.unfollowed f)) = true) (h12 : ((c.recurses == P.recurses f)) = true) (h13 : ((c.named == P.varsNamed f)) = true) (h14 : ((c.maps == (fn.params.toList ++ s.plain.varTypes P).any (P.mapsRec ·))) = true) (h15 : ((c.ifaces == (fn.params.toList ++ s.plain.varTypes P).any (P.ifacesRec ·))) = true) (h16 : ((c.mapsOut == P.mapsAmong fn.resultTypes.toList)) = true) (h17 : ((c.loops == (fn.params.toList ++ s.plain.varTypes P).any (P.loopsFrom ·))) = true) (h18 : ((c.wideKeys == (fn.params.toList ++ s.plain.varTypes P ++ fn.resultTypes.toList).any (P.wideKeysFrom ·))) = true) (h19 : (s.vars.all (P.varReadable ·)) = true) (h20 : (fn.resultTypes.all (fun t => P.readableRec t && decide (t < P.types.size))) = true) (h21 : ((c.ifacesOut == fn.resultTypes.toList.any (P.ifacesRec ·))) = true) (h22 : ((c.loopsOut == fn.resultTypes.toList.any (P.loopsFrom ·))) = true) (h23 : ((c.plainKeys == P.plainKeys)) = true) (h24 : (c.shortTexts.isNone) = true) (h25 : (P.stopsHeard) = true) (h26 : (P.mayEnter) = true) (h27 : ((c.lifted == P.liftsFinal)) = true) (h28 : ((P.make == some c.make)) = true) (h29 : ((c.kinds == (if c.domain.isEmpty then [] else fn.params.toList.map fun t => match P.underlying t with | some (.int k) => some k | _ => none))) = true) (h30 : ((c.pinned == c.pinnedBy)) = true) (h31 : ((c.veiled == (fn.params.toList ++ s.plain.varTypes P ++ fn.resultTypes.toList).any (P.veiledRec ·))) = true) (h32 : (c.veiledFits P fn.params.toList (fn.params.toList ++ s.plain.varTypes P ++ fn.resultTypes.toList)) = true) : joinedFacts P f fn s c = true:=by
  unfold joinedFacts;exact (and2 (and2 (and2 (and2 (and2 (and2 (and2 (and2 (and2 (and2 (and2 (and2 (and2 (and2 (and2 (and2 (and2 (and2 (and2 (and2 (and2 (and2 (and2 (and2 (and2 (and2 (and2 (and2 (and2 (and2 (and2 h1 h2) h3) h4) h5) h6) h7) h8) h9) h10) h11) h12) h13) h14) h15) h16) h17) h18) h19) h20) h21) h22) h23) h24) h25) h26) h27) h28) h29) h30) h31) h32)
theorem closed_h2 : (laidOutB Tryz.pinned.checked.prog) = true:=by kernel_rfl
theorem closed_h3 : (mapsRowed Tryz.pinned.checked.prog) = true:=by kernel_rfl
theorem closed_h7 : ((Tryz.pinned.checked.prog.stops == [])) = true:=by kernel_rfl
theorem closed_h9 : ((Tryz.pinned.checked.prog.stopKnobs == [])) = true:=by kernel_rfl
theorem closed_h25 : (Tryz.pinned.checked.prog.stopsHeard) = true:=by kernel_rfl
theorem closed_h26 : (Tryz.pinned.checked.prog.mayEnter) = true:=by kernel_rfl
end Go.Proofs.YtlgnijhemfkflaaGreatDoor
