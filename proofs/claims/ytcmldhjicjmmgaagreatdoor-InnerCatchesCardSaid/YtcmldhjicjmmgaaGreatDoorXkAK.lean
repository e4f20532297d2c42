/- Part 11. -/
import Derived.Lib.QuietBelow
import Derived.Test.YtcmldhjicjmmgaaGreatDoorXkAJ
import Derived.WideShapes
set_option linter.unusedVariables false
set_option linter.unusedSimpArgs false
set_option maxRecDepth 100000
set_option maxHeartbeats 4000000

namespace Go.Proofs.YtcmldhjicjmmgaaGreatDoor
open Go.RowKit Go.Sort


theorem equal_bel (A B : Option Addr) (n c k d : Nat) (l1 l2 : List UInt8) (w : World) (h1 : Byt w (.slice A n c) l1) (h2 : Byt w (.slice B k d) l2) :
    Calls Tryz.prog 52 #[.slice A n c,.slice B k d] w fun e w' => e = .returned (.bool (decide (l1 = l2))) ∧ Below w.heap.size w w' :=
  (equal_any A B n c k d l1 l2 w h1 h2).mono fun _ _ ⟨he,hw⟩ => ⟨he,by rw [← hw]; exact Below.refl _ _⟩
theorem quiet_vload {o : Oper} {a : Act} {K : Act → Prop} {W : World} (x : Operand) (ho : o.op = .load 37 x) (b : Nat) (k : VmK) (hx : a.eval x = .pointer (some ⟨b,0,none⟩)) (hb : VBox W b k) (h : K (a.put o.dst (vmV k))) :
    o.quiet Tryz.prog a (fun w' => ∃ p : Regrown,w' = grow (redrawn W p.d) p.os) K :=
  ⟨vmV k,fun w' hw' => by
    obtain ⟨p,rfl⟩:=hw';have hl:=vm_load (hb.keep (below_regrown W p.d p.os));unfold Oper.quietAt execOp;simp only [ho,hx,Instr.loadAt,Instr.sureAddr,Sem.run_bind,Sem.run_pure,Result.andThen_ok,hl]
    exact ⟨rfl,rfl⟩,h⟩
theorem vsame_any (k : VmK) (L : VmL) (j : VmK) (M : VmL) (w : World) (HN : Hid (k.dn ≤ 65536 ∧ k.rn ≤ 65536 ∧ k.fn ≤ 65536 ∧ k.wn ≤ 65536 ∧ k.en ≤ 65536 ∧ k.hn ≤ 65536)) (h : IsVm w k L) (h' : IsVm w j M) :
    Calls Tryz.prog 31 #[vmV k,vmV j] w fun e w' => e = .returned (.bool (vSame k L j M)) ∧ Below w.heap.size w w':=by
  obtain ⟨kk,hx,hy⟩:=v2_new w k j;obtain ⟨F,hF⟩ : ∃ F,vSame k L j M = F:=⟨_,rfl⟩;have HF : Hid (F = vSame k L j M):=hF.symm;unfold vSame at HF;rw [hF];go_enter Tryz.func31,Tryz.ntmps31;go_upto_region 1 with fail
  simp only [List.append_eq,List.cons_append,List.nil_append];obtain ⟨W,hW⟩ : ∃ W,W = (w.alloc (.cells #[.int .i64 k.cm,.int .i64 k.cd,.int .i64 k.cr,.int .i64 k.cw,.int .i64 k.co,.slice k.mA k.mn k.mc,.slice k.pA k.pn k.pc,.int .i64 k.here,.slice k.dA k.dn k.dc,.slice k.rA k.rn k.rc,.slice k.fA k.fn k.fc,.slice k.wA k.wn k.wc,.int .i64 k.last,.slice k.oA k.on k.oc,.slice k.qA k.qn k.qc,.bool k.qo,.slice k.eA k.en k.ec,.int .i64 k.free,.int .i64 k.next,.int .i64 k.arg,.int .i64 k.self,.int .i64 k.now,.slice k.hA k.hn k.hc] 37)).alloc (.cells #[.int .i64 j.cm,.int .i64 j.cd,.int .i64 j.cr,.int .i64 j.cw,.int .i64 j.co,.slice j.mA j.mn j.mc,.slice j.pA j.pn j.pc,.int .i64 j.here,.slice j.dA j.dn j.dc,.slice j.rA j.rn j.rc,.slice j.fA j.fn j.fc,.slice j.wA j.wn j.wc,.int .i64 j.last,.slice j.oA j.on j.oc,.slice j.qA j.qn j.qc,.bool j.qo,.slice j.eA j.en j.ec,.int .i64 j.free,.int .i64 j.next,.int .i64 j.arg,.int .i64 j.self,.int .i64 j.now,.slice j.hA j.hn j.hc] 37):=⟨_,rfl⟩;rw [← hW] at kk hx hy ⊢;have B0:=zqh kk;have V0:=zqh (h.keep kk);have U0:=zqh (h'.keep kk);have X0:=zqh hx;have Y0:=zqh hy;have hq:=conf_eql k j;have hr:=nums_eql k j;obtain ⟨Fm,em⟩ : ∃ F,decide (L.m = M.m) = F:=⟨_,rfl⟩;obtain ⟨Fd,ed⟩ : ∃ F,sameB L.d M.d = F:=⟨_,rfl⟩;obtain ⟨Fr,er⟩ : ∃ F,sameB L.r M.r = F:=⟨_,rfl⟩;obtain ⟨Ff,ef⟩ : ∃ F,fmSame L.f M.f = F:=⟨_,rfl⟩;obtain ⟨Fw,ew⟩ : ∃ F,dSame L.dict M.dict = F:=⟨_,rfl⟩;obtain ⟨Fp,ep⟩ : ∃ F,pSame k.qo L.q j.qo M.q = F:=⟨_,rfl⟩
  obtain ⟨Fe,ee⟩ : ∃ F,rqSame L.e M.e = F:=⟨_,rfl⟩;obtain ⟨Fh,eh⟩ : ∃ F,hnSame L.h M.h = F:=⟨_,rfl⟩;obtain ⟨Fc,ec⟩ : ∃ F,confSame k j = F:=⟨_,rfl⟩;obtain ⟨Fo,eo⟩ : ∃ F,decide (L.o = M.o) = F:=⟨_,rfl⟩;obtain ⟨Fn,en⟩ : ∃ F,numsSame k j = F:=⟨_,rfl⟩;rw [em,ed,er,ef,ew,ep,ee,eh,ec,eo,en] at HF;rw [ec] at hq;rw [en] at hr;have Cm:=zqh (fun (a : World) (b : Below W.heap.size W a) => same_at k.mA k.pA j.mA j.pA k.mn k.mc k.pn k.pc j.mn j.mc j.pn j.pc L.m M.m a (zqh (V0.out.m.keep b)) (zqh (U0.out.m.keep b)));rw [em] at Cm;have Cw:=zqh (fun (a : World) (b : Below W.heap.size W a) => dsame_any k.wA j.wA k.wn k.wc j.wn j.wc L.dict M.dict a (V0.out.dict.keep b) (U0.out.dict.keep b) (by have:=HN.out; have:=V0.out.dict.len; omega));rw [ew] at Cw;have Cp:=zqh (fun (a : World) (b : Below W.heap.size W a) => same_any k.qA j.qA k.qn k.qc j.qn j.qc k.qo j.qo L.q M.q a (V0.out.q.keep b) (U0.out.q.keep b));rw [ep] at Cp;have Cd:=zqh (fun (a : World) (b : Below W.heap.size W a) => iequal_any k.dA j.dA k.dn k.dc j.dn j.dc L.d M.d a (V0.out.d.keep b) (U0.out.d.keep b) (by have:=HN.out; omega));rw [ed] at Cd;have Cr:=zqh (fun (a : World) (b : Below W.heap.size W a) => iequal_any k.rA j.rA k.rn k.rc j.rn j.rc L.r M.r a (V0.out.r.keep b) (U0.out.r.keep b) (by have:=HN.out; omega));rw [er] at Cr;have Cf:=zqh (fun (a : World) (b : Below W.heap.size W a) => fmequal_any k.fA j.fA k.fn k.fc j.fn j.fc L.f M.f a (V0.out.f.keep b) (U0.out.f.keep b) (by have:=HN.out; omega))
  rw [ef] at Cf;have Co:=zqh (fun (a : World) (b : Below W.heap.size W a) => equal_bel k.oA j.oA k.on k.oc j.on j.oc L.o M.o a (V0.out.o.keep b) (U0.out.o.keep b));rw [eo] at Co;have Ce:=zqh (fun (a : World) (b : Below W.heap.size W a) => rqequal_any k.eA j.eA k.en k.ec j.en j.ec L.e M.e a (V0.out.e.keep b) (U0.out.e.keep b) (by have:=HN.out; omega));rw [ee] at Ce;have Ch:=zqh (fun (a : World) (b : Below W.heap.size W a) => hnequal_any k.hA j.hA k.hn k.hc j.hn j.hc L.h M.h a (V0.out.h.keep b) (U0.out.h.keep b) (by have:=HN.out; omega));rw [eh] at Ch;clear em ed er ef ew ep ee eh ec eo en h h' hF kk hx hy hW;obtain ⟨p0,p1,p2,p3,p4,p5,p6,p7,p8,p9,p10,p11,p12,p13,p14,p15,p16,p17,p18,p19,p20,p21,p22⟩:=X0.out.use;obtain ⟨q0,q1,q2,q3,q4,q5,q6,q7,q8,q9,q10,q11,q12,q13,q14,q15,q16,q17,q18,q19,q20,q21,q22⟩:=Y0.out.use;have P0:=fun d os => cell_regrown p0 d os
  have Q0:=fun d os => cell_regrown q0 d os
  have P1:=fun d os => cell_regrown p1 d os
  have Q1:=fun d os => cell_regrown q1 d os
  have P2:=fun d os => cell_regrown p2 d os
  have Q2:=fun d os => cell_regrown q2 d os
  have P3:=fun d os => cell_regrown p3 d os
  have Q3:=fun d os => cell_regrown q3 d os
  have P4:=fun d os => cell_regrown p4 d os
  have Q4:=fun d os => cell_regrown q4 d os
  have P5:=fun d os => cell_regrown p5 d os
  have Q5:=fun d os => cell_regrown q5 d os
  have P6:=fun d os => cell_regrown p6 d os
  have Q6:=fun d os => cell_regrown q6 d os
  have P8:=fun d os => cell_regrown p8 d os
  have Q8:=fun d os => cell_regrown q8 d os
  have P9:=fun d os => cell_regrown p9 d os
  have Q9:=fun d os => cell_regrown q9 d os
  have P10:=fun d os => cell_regrown p10 d os
  have Q10:=fun d os => cell_regrown q10 d os
  have P11:=fun d os => cell_regrown p11 d os
  have Q11:=fun d os => cell_regrown q11 d os
  have P13:=fun d os => cell_regrown p13 d os
  have Q13:=fun d os => cell_regrown q13 d os
  have P14:=fun d os => cell_regrown p14 d os
  have Q14:=fun d os => cell_regrown q14 d os
  have P15:=fun d os => cell_regrown p15 d os
  have Q15:=fun d os => cell_regrown q15 d os
  have P16:=fun d os => cell_regrown p16 d os
  have Q16:=fun d os => cell_regrown q16 d os
  have P22:=fun d os => cell_regrown p22 d os
  have Q22:=fun d os => cell_regrown q22 d os
  clear p0 q0 p1 q1 p2 q2 p3 q3 p4 q4 p5 q5 p6 q6 p7 q7 p8 q8 p9 q9 p10 q10 p11 q11 p12 q12 p13 q13 p14 q14 p15 q15 p16 q16 p17 q17 p18 q18 p19 q19 p20 q20 p21 q21 p22 q22;refine wp_region_quiet_below (by kernel_rfl) (by kernel_rfl) ?_
  iterate 6 (first | go_big_quiet_skip | (go_big_quiet_want; first | (refine quiet_vload _ rfl w.heap.size k rfl X0.out ?_; go_big_quiet_on; (try simp only [zq,Act.put])) | (refine quiet_vload _ rfl (w.heap.size + 1) j rfl Y0.out ?_; go_big_quiet_on; (try simp only [zq,Act.put])) | (go_big_quiet_op; first | go_big_quiet_on | go_big_quiet_call (fail))))
  cases Fc with
  | false =>
    iterate 90 (try (first | go_big_quiet_skip | (go_big_quiet_want; first | (refine quiet_vload _ rfl w.heap.size k rfl X0.out ?_; go_big_quiet_on; (try simp only [zq,Act.put])) | (refine quiet_vload _ rfl (w.heap.size + 1) j rfl Y0.out ?_; go_big_quiet_on; (try simp only [zq,Act.put])) | (go_big_quiet_op; first | go_big_quiet_on | go_big_quiet_call (fail)))))
    refine wpQuiet_nil ?_;intro _ hw';obtain ⟨⟨dq,osq⟩,hw''⟩:=hw';subst hw'';(go_wp2_with fail);go_ret;exact ⟨by rw [HF.out]; simp,below_then B0.out (below_regrown W dq osq)⟩
  | true =>
    iterate 2 (first | go_big_quiet_skip | (go_big_quiet_want; first | (refine quiet_vload _ rfl w.heap.size k rfl X0.out ?_; go_big_quiet_on; (try simp only [zq,Act.put])) | (refine quiet_vload _ rfl (w.heap.size + 1) j rfl Y0.out ?_; go_big_quiet_on; (try simp only [zq,Act.put])) | (go_big_quiet_op; first | go_big_quiet_on | go_big_quiet_call (exact Calls.regrown_of (vnums_any k _)))))
    iterate 2 (first | go_big_quiet_skip | (go_big_quiet_want; first | (refine quiet_vload _ rfl w.heap.size k rfl X0.out ?_; go_big_quiet_on; (try simp only [zq,Act.put])) | (refine quiet_vload _ rfl (w.heap.size + 1) j rfl Y0.out ?_; go_big_quiet_on; (try simp only [zq,Act.put])) | (go_big_quiet_op; first | go_big_quiet_on | go_big_quiet_call (exact Calls.regrown_of (vnums_any j _)))))
    iterate 3 (first | go_big_quiet_skip | (go_big_quiet_want; first | (refine quiet_vload _ rfl w.heap.size k rfl X0.out ?_; go_big_quiet_on; (try simp only [zq,Act.put])) | (refine quiet_vload _ rfl (w.heap.size + 1) j rfl Y0.out ?_; go_big_quiet_on; (try simp only [zq,Act.put])) | (go_big_quiet_op; first | go_big_quiet_on | go_big_quiet_call (fail))))
    cases Fn with
    | false =>
      iterate 90 (try (first | go_big_quiet_skip | (go_big_quiet_want; first | (refine quiet_vload _ rfl w.heap.size k rfl X0.out ?_; go_big_quiet_on; (try simp only [zq,Act.put])) | (refine quiet_vload _ rfl (w.heap.size + 1) j rfl Y0.out ?_; go_big_quiet_on; (try simp only [zq,Act.put])) | (go_big_quiet_op; first | go_big_quiet_on | go_big_quiet_call (fail)))))
      refine wpQuiet_nil ?_;intro _ hw';obtain ⟨⟨dq,osq⟩,hw''⟩:=hw';subst hw'';(go_wp2_with fail);go_ret;exact ⟨by rw [HF.out]; simp,below_then B0.out (below_regrown W dq osq)⟩
    | true =>
      iterate 7 (first | go_big_quiet_skip | (go_big_quiet_want; first | (refine quiet_vload _ rfl w.heap.size k rfl X0.out ?_; go_big_quiet_on; (try simp only [zq,Act.put])) | (refine quiet_vload _ rfl (w.heap.size + 1) j rfl Y0.out ?_; go_big_quiet_on; (try simp only [zq,Act.put])) | (go_big_quiet_op; first | go_big_quiet_on | go_big_quiet_call (exact Calls.regrown_of (Cm.out _ (below_regrown _ _ _))))))
      cases Fm with
      | false =>
        iterate 90 (try (first | go_big_quiet_skip | (go_big_quiet_want; first | (refine quiet_vload _ rfl w.heap.size k rfl X0.out ?_; go_big_quiet_on; (try simp only [zq,Act.put])) | (refine quiet_vload _ rfl (w.heap.size + 1) j rfl Y0.out ?_; go_big_quiet_on; (try simp only [zq,Act.put])) | (go_big_quiet_op; first | go_big_quiet_on | go_big_quiet_call (fail)))))
        refine wpQuiet_nil ?_;intro _ hw';obtain ⟨⟨dq,osq⟩,hw''⟩:=hw';subst hw'';(go_wp2_with fail);go_ret;exact ⟨by rw [HF.out]; simp,below_then B0.out (below_regrown W dq osq)⟩
      | true =>
        iterate 7 (first | go_big_quiet_skip | (go_big_quiet_want; first | (refine quiet_vload _ rfl w.heap.size k rfl X0.out ?_; go_big_quiet_on; (try simp only [zq,Act.put])) | (refine quiet_vload _ rfl (w.heap.size + 1) j rfl Y0.out ?_; go_big_quiet_on; (try simp only [zq,Act.put])) | (go_big_quiet_op; first | go_big_quiet_on | go_big_quiet_call (exact Calls.regrown_of (Cw.out _ (below_regrown _ _ _))))))
        cases Fw with
        | false =>
          iterate 90 (try (first | go_big_quiet_skip | (go_big_quiet_want; first | (refine quiet_vload _ rfl w.heap.size k rfl X0.out ?_; go_big_quiet_on; (try simp only [zq,Act.put])) | (refine quiet_vload _ rfl (w.heap.size + 1) j rfl Y0.out ?_; go_big_quiet_on; (try simp only [zq,Act.put])) | (go_big_quiet_op; first | go_big_quiet_on | go_big_quiet_call (fail)))))
          refine wpQuiet_nil ?_;intro _ hw';obtain ⟨⟨dq,osq⟩,hw''⟩:=hw';subst hw'';(go_wp2_with fail);go_ret;exact ⟨by rw [HF.out]; simp,below_then B0.out (below_regrown W dq osq)⟩
        | true =>
          iterate 7 (first | go_big_quiet_skip | (go_big_quiet_want; first | (refine quiet_vload _ rfl w.heap.size k rfl X0.out ?_; go_big_quiet_on; (try simp only [zq,Act.put])) | (refine quiet_vload _ rfl (w.heap.size + 1) j rfl Y0.out ?_; go_big_quiet_on; (try simp only [zq,Act.put])) | (go_big_quiet_op; first | go_big_quiet_on | go_big_quiet_call (exact Calls.regrown_of (Cp.out _ (below_regrown _ _ _))))))
          cases Fp with
          | false =>
            iterate 90 (try (first | go_big_quiet_skip | (go_big_quiet_want; first | (refine quiet_vload _ rfl w.heap.size k rfl X0.out ?_; go_big_quiet_on; (try simp only [zq,Act.put])) | (refine quiet_vload _ rfl (w.heap.size + 1) j rfl Y0.out ?_; go_big_quiet_on; (try simp only [zq,Act.put])) | (go_big_quiet_op; first | go_big_quiet_on | go_big_quiet_call (fail)))))
            refine wpQuiet_nil ?_;intro _ hw';obtain ⟨⟨dq,osq⟩,hw''⟩:=hw';subst hw'';(go_wp2_with fail);go_ret;exact ⟨by rw [HF.out]; simp,below_then B0.out (below_regrown W dq osq)⟩
          | true =>
            iterate 7 (first | go_big_quiet_skip | (go_big_quiet_want; first | (refine quiet_vload _ rfl w.heap.size k rfl X0.out ?_; go_big_quiet_on; (try simp only [zq,Act.put])) | (refine quiet_vload _ rfl (w.heap.size + 1) j rfl Y0.out ?_; go_big_quiet_on; (try simp only [zq,Act.put])) | (go_big_quiet_op; first | go_big_quiet_on | go_big_quiet_call (exact Calls.regrown_of (Cd.out _ (below_regrown _ _ _))))))
            cases Fd with
            | false =>
              iterate 90 (try (first | go_big_quiet_skip | (go_big_quiet_want; first | (refine quiet_vload _ rfl w.heap.size k rfl X0.out ?_; go_big_quiet_on; (try simp only [zq,Act.put])) | (refine quiet_vload _ rfl (w.heap.size + 1) j rfl Y0.out ?_; go_big_quiet_on; (try simp only [zq,Act.put])) | (go_big_quiet_op; first | go_big_quiet_on | go_big_quiet_call (fail)))))
              refine wpQuiet_nil ?_;intro _ hw';obtain ⟨⟨dq,osq⟩,hw''⟩:=hw';subst hw'';(go_wp2_with fail);go_ret;exact ⟨by rw [HF.out]; simp,below_then B0.out (below_regrown W dq osq)⟩
            | true =>
              iterate 7 (first | go_big_quiet_skip | (go_big_quiet_want; first | (refine quiet_vload _ rfl w.heap.size k rfl X0.out ?_; go_big_quiet_on; (try simp only [zq,Act.put])) | (refine quiet_vload _ rfl (w.heap.size + 1) j rfl Y0.out ?_; go_big_quiet_on; (try simp only [zq,Act.put])) | (go_big_quiet_op; first | go_big_quiet_on | go_big_quiet_call (exact Calls.regrown_of (Cr.out _ (below_regrown _ _ _))))))
              cases Fr with
              | false =>
                iterate 90 (try (first | go_big_quiet_skip | (go_big_quiet_want; first | (refine quiet_vload _ rfl w.heap.size k rfl X0.out ?_; go_big_quiet_on; (try simp only [zq,Act.put])) | (refine quiet_vload _ rfl (w.heap.size + 1) j rfl Y0.out ?_; go_big_quiet_on; (try simp only [zq,Act.put])) | (go_big_quiet_op; first | go_big_quiet_on | go_big_quiet_call (fail)))))
                refine wpQuiet_nil ?_;intro _ hw';obtain ⟨⟨dq,osq⟩,hw''⟩:=hw';subst hw'';(go_wp2_with fail);go_ret;exact ⟨by rw [HF.out]; simp,below_then B0.out (below_regrown W dq osq)⟩
              | true =>
                iterate 7 (first | go_big_quiet_skip | (go_big_quiet_want; first | (refine quiet_vload _ rfl w.heap.size k rfl X0.out ?_; go_big_quiet_on; (try simp only [zq,Act.put])) | (refine quiet_vload _ rfl (w.heap.size + 1) j rfl Y0.out ?_; go_big_quiet_on; (try simp only [zq,Act.put])) | (go_big_quiet_op; first | go_big_quiet_on | go_big_quiet_call (exact Calls.regrown_of (Cf.out _ (below_regrown _ _ _))))))
                cases Ff with
                | false =>
                  iterate 90 (try (first | go_big_quiet_skip | (go_big_quiet_want; first | (refine quiet_vload _ rfl w.heap.size k rfl X0.out ?_; go_big_quiet_on; (try simp only [zq,Act.put])) | (refine quiet_vload _ rfl (w.heap.size + 1) j rfl Y0.out ?_; go_big_quiet_on; (try simp only [zq,Act.put])) | (go_big_quiet_op; first | go_big_quiet_on | go_big_quiet_call (fail)))))
                  refine wpQuiet_nil ?_;intro _ hw';obtain ⟨⟨dq,osq⟩,hw''⟩:=hw';subst hw'';(go_wp2_with fail);go_ret;exact ⟨by rw [HF.out]; simp,below_then B0.out (below_regrown W dq osq)⟩
                | true =>
                  iterate 7 (first | go_big_quiet_skip | (go_big_quiet_want; first | (refine quiet_vload _ rfl w.heap.size k rfl X0.out ?_; go_big_quiet_on; (try simp only [zq,Act.put])) | (refine quiet_vload _ rfl (w.heap.size + 1) j rfl Y0.out ?_; go_big_quiet_on; (try simp only [zq,Act.put])) | (go_big_quiet_op; first | go_big_quiet_on | go_big_quiet_call (exact Calls.regrown_of (Co.out _ (below_regrown _ _ _))))))
                  cases Fo with
                  | false =>
                    iterate 90 (try (first | go_big_quiet_skip | (go_big_quiet_want; first | (refine quiet_vload _ rfl w.heap.size k rfl X0.out ?_; go_big_quiet_on; (try simp only [zq,Act.put])) | (refine quiet_vload _ rfl (w.heap.size + 1) j rfl Y0.out ?_; go_big_quiet_on; (try simp only [zq,Act.put])) | (go_big_quiet_op; first | go_big_quiet_on | go_big_quiet_call (fail)))))
                    refine wpQuiet_nil ?_;intro _ hw';obtain ⟨⟨dq,osq⟩,hw''⟩:=hw';subst hw'';(go_wp2_with fail);go_ret;exact ⟨by rw [HF.out]; simp,below_then B0.out (below_regrown W dq osq)⟩
                  | true =>
                    iterate 7 (first | go_big_quiet_skip | (go_big_quiet_want; first | (refine quiet_vload _ rfl w.heap.size k rfl X0.out ?_; go_big_quiet_on; (try simp only [zq,Act.put])) | (refine quiet_vload _ rfl (w.heap.size + 1) j rfl Y0.out ?_; go_big_quiet_on; (try simp only [zq,Act.put])) | (go_big_quiet_op; first | go_big_quiet_on | go_big_quiet_call (exact Calls.regrown_of (Ce.out _ (below_regrown _ _ _))))))
                    cases Fe with
                    | false =>
                      iterate 90 (try (first | go_big_quiet_skip | (go_big_quiet_want; first | (refine quiet_vload _ rfl w.heap.size k rfl X0.out ?_; go_big_quiet_on; (try simp only [zq,Act.put])) | (refine quiet_vload _ rfl (w.heap.size + 1) j rfl Y0.out ?_; go_big_quiet_on; (try simp only [zq,Act.put])) | (go_big_quiet_op; first | go_big_quiet_on | go_big_quiet_call (fail)))))
                      refine wpQuiet_nil ?_;intro _ hw';obtain ⟨⟨dq,osq⟩,hw''⟩:=hw';subst hw'';(go_wp2_with fail);go_ret;exact ⟨by rw [HF.out]; simp,below_then B0.out (below_regrown W dq osq)⟩
                    | true =>
                      iterate 7 (first | go_big_quiet_skip | (go_big_quiet_want; first | (refine quiet_vload _ rfl w.heap.size k rfl X0.out ?_; go_big_quiet_on; (try simp only [zq,Act.put])) | (refine quiet_vload _ rfl (w.heap.size + 1) j rfl Y0.out ?_; go_big_quiet_on; (try simp only [zq,Act.put])) | (go_big_quiet_op; first | go_big_quiet_on | go_big_quiet_call (exact Calls.regrown_of (Ch.out _ (below_regrown _ _ _))))))
                      refine wpQuiet_nil ?_;intro _ hw';obtain ⟨⟨dq,osq⟩,hw''⟩:=hw';subst hw'';(go_wp2_with fail);go_ret;exact ⟨by rw [HF.out]; simp,below_then B0.out (below_regrown W dq osq)⟩
open Go.RowKit


theorem wpList_vstore {ops : Array Oper} {rest : List Oper} {o : Oper} {a : Act} {Q : Exit → Act → World → Prop} {w : World} (hw : Region.wanted o (yielded ops a.tmps) = true) (x y : Operand) (ho : o.op = .store 37 x y)
    (b : Nat) (j k : VmK) (hx : a.eval x = .pointer (some ⟨b,0,none⟩)) (hy : a.eval y = vmV k) (hb : VBox w b j) (h : wpList Tryz.prog ops Q rest (a.put o.dst undef) (w.setRow b (vmC k))) : wpList Tryz.prog ops Q (o :: rest) a w :=
  wpList_step fun K hK => by
    rw [if_pos hw];exact wp_store_row 37 x y ho b (vmC k) hx hy _ _ hb vm_info rfl (vm_one k) (hK _ _ h)


def CfBox (w : World) (b : Nat) (m d r v o : Int) : Prop:=w.heap[b]? = some (.cells #[.int .i64 m,.int .i64 d,.int .i64 r,.int .i64 v,.int .i64 o] 25 (0,0))
theorem CfBox.lt {w : World} {b : Nat} {m d r v o : Int} (h : CfBox w b m d r v o) : b < w.heap.size:=(Array.getElem?_eq_some_iff.1 h).1
theorem CfBox.keep {w w' : World} {b : Nat} {m d r v o : Int} (h : CfBox w b m d r v o) (x : Below w.heap.size w w') : CfBox w' b m d r v o:=(x.block b h.lt).trans h
theorem CfBox.use {w : World} {b : Nat} {m d r v o : Int} (h : CfBox w b m d r v o) : w.cell? ⟨b,0,none⟩ = some (.int .i64 m) ∧ w.cell? ⟨b,1,none⟩ = some (.int .i64 d) ∧ w.cell? ⟨b,2,none⟩ = some (.int .i64 r) ∧ w.cell? ⟨b,3,none⟩ = some (.int .i64 v) ∧ w.cell? ⟨b,4,none⟩ = some (.int .i64 o):=by
  unfold CfBox at h;refine ⟨?_,?_,?_,?_,?_⟩ <;> simp [World.cell?,h]


def movB (L : Nat) (low here n : Int) : Bool:=decide (low - here ≤ n ∧ n ≤ (L : Int) - here)
def movP (L : Nat) (low here n : Int) : Int:=if movB L low here n = true then here + n else here
def movC (L : Nat) (low here n : Int) : Int:=if movB L low here n = true then 0 else -8
def roomBC (L : Nat) (p : Int) (k : Nat) : Bool:=decide ((k : Int) ≤ (L : Int) - p)
def layM (m : PM) (p : Int) (b : List UInt8) : PM:=if roomBC m.1.length p b.length = true then writeF m p b else m
def layP (L : Nat) (p : Int) (k : Nat) : Int:=if roomBC L p k = true then p + k else p
def layC (L : Nat) (p : Int) (k : Nat) : Int:=if roomBC L p k = true then 0 else -8
def misN (p : Int) : Nat:=((8 - p % 8) % 8).toNat
def comM (m : PM) (p n : Int) : PM:=if p % 8 = 0 then layM m p (cellBytes n) else m
def comP (L : Nat) (p : Int) : Int:=if p % 8 = 0 then layP L p 8 else p
def comC (L : Nat) (p : Int) : Int:=if p % 8 = 0 then layC L p 8 else -23
def upB (p : Int) : List UInt8:=List.replicate (misN p) 0


def AllJ (o : Bool) (l : List UInt8) (lo hi b : Int) (l' : List UInt8) (low high : Int) (more : Bool) : Prop :=
  (more = true ∧ l'.length ≤ 1000 ∧ AllInv o l lo hi b (digL o l' low high b) (pairN (digLo o l' low high b) (digHi o l' low high b)) (digC o l' b)) ∨ (more = false ∧ AllInv o l lo hi b l' 0 0)
theorem AllJ.len {o : Bool} {l l' : List UInt8} {lo hi b low high : Int} (h : AllJ o l lo hi b l' low high true) : l'.length ≤ 1000:=by
  rcases h with ⟨_,h,_⟩ | ⟨h,_⟩
  · exact h
  · cases h
theorem AllJ.done {o : Bool} {l l' : List UInt8} {lo hi b low high : Int} (h : AllJ o l lo hi b l' low high false) : l' = allL o l lo hi b ∧ allC o l lo hi b = 0:=by
  rcases h with ⟨h,_⟩ | ⟨_,h⟩
  · cases h
  · exact AllInv.done h
theorem AllJ.more {o : Bool} {l l' : List UInt8} {lo hi b low high : Int} (h : AllInv o l lo hi b l' (pairN low high) 0) (h0 : pairN low high ≠ 0) : AllJ o l lo hi b l' low high true:=.inl ⟨rfl,h.len,h.next h0⟩
theorem AllJ.last {o : Bool} {l l' : List UInt8} {lo hi b : Int} (h : AllInv o l lo hi b l' (pairN 0 0) 0) : AllJ o l lo hi b l' 0 0 false:=.inr ⟨rfl,h⟩


def shl (a b : Int) : Int:=if un b ≤ 63 then wrap64 (a * 2 ^ un b) else 0
def shr (a b : Int) : Int:=if un b ≤ 63 then wrap64 ((un a / 2 ^ un b : Nat) : Int) else 0
def tellN (is : Bool) (x y : Int) : Int:=if is = true then x else y
def yes (is : Bool) : Int:=tellN is (-1) 0
def turnedF (l : List UInt8) (a : Int) : Option Int :=
  if l = [65,66,83] then some (if a < 0 then wrap64 (-a) else a) else
  if l = [78,69,71,65,84,69] then some (wrap64 (-a)) else
  if l = [73,78,86,69,82,84] then some (-1 - a) else
  if l = [49,43] then some (wrap64 (a + 1)) else
  if l = [49,45] then some (wrap64 (a - 1)) else
  if l = [67,69,76,76,83] then some (wrap64 (8 * a)) else
  if l = [50,42] then some (wrap64 (a + a)) else
  if l = [50,47] then some (a / 2) else
  if l = [67,69,76,76,43] then some (wrap64 (a + 8)) else
  if l = [65,76,73,71,78,69,68] then some (wrap64 ((a + 7) / 8 * 8)) else
  none
def asked1F (l : List UInt8) (a : Int) : Option Int :=
  if l = [48,60,62] then some (yes (a != 0)) else
  if l = [48,61] then some (yes (a == 0)) else
  if l = [48,60] then some (yes (decide (a < 0))) else
  if l = [48,62] then some (yes (decide (0 < a))) else
  none
def oneF (l : List UInt8) (a : Int) : Option Int:=(turnedF l a).or (asked1F l a)
def divF (l : List UInt8) (a b : Int) : Option Int :=
  if l = [47] then some (dq a b) else
  if l = [77,79,68] then some (dr a b) else
  none
def divC (l : List UInt8) (b : Int) : Int:=if l = [47] ∨ l = [77,79,68] then dc b else 0
def joinedF (l : List UInt8) (a b : Int) : Option Int :=
  if l = [45] then some (wrap64 (a - b)) else
  if l = [43] then some (wrap64 (a + b)) else
  if l = [42] then some (wrap64 (a * b)) else
  if l = [65,78,68] then some (bits .and .i64 a b) else
  if l = [79,82] then some (bits .or .i64 a b) else
  if l = [88,79,82] then some (bits .xor .i64 a b) else
  if l = [76,83,72,73,70,84] then some (shl a b) else
  if l = [82,83,72,73,70,84] then some (shr a b) else
  if l = [77,73,78] then some (if b < a then b else a) else
  if l = [77,65,88] then some (if a < b then b else a) else
  none
def asked2F (l : List UInt8) (a b : Int) : Option Int :=
  if l = [60,62] then some (yes (a != b)) else
  if l = [61] then some (yes (a == b)) else
  if l = [62] then some (yes (decide (b < a))) else
  if l = [60] then some (yes (decide (a < b))) else
  if l = [62,61] then some (yes (decide (b ≤ a))) else
  if l = [60,61] then some (yes (decide (a ≤ b))) else
  if l = [85,62] then some (yes (decide (un b < un a))) else
  if l = [85,60] then some (yes (decide (un a < un b))) else
  none
def twoF (l : List UInt8) (a b : Int) : Option Int:=(divF l a b).or ((joinedF l a b).or (asked2F l a b))


theorem sub_eq (a b : Int) : wrap64 (a + wrap64 (-b)) = wrap64 (a - b):=by unfold wrap64; omega
theorem wrap_mod64 {x y : Int} (h : (x - y) % 18446744073709551616 = 0) : wrap64 x = wrap64 y:=by unfold wrap64; omega
theorem shl_eq (a b : Int) : wrap64 (IntKind.u64.wrap (IntKind.u64.wrap a * 2 ^ min (IntKind.u64.wrap b).toNat 64)) = shl a b:=by
  have e : (IntKind.u64.wrap b).toNat = un b:=rfl;rw [e,IntKind.wrap_u64,IntKind.wrap_u64];unfold shl
  split
  · rename_i h
    rw [Nat.min_eq_left (by omega)];refine wrap_mod64 ?_;have h1 : a % 18446744073709551616 * 2 ^ un b = a * 2 ^ un b - 18446744073709551616 * (a / 18446744073709551616 * 2 ^ un b):=by
      rw [Int.emod_def,Int.sub_mul,Int.mul_assoc]
    rw [h1];omega
  · rw [Nat.min_eq_right (by omega),show (2 : Int) ^ 64 = 18446744073709551616 by decide]
    unfold wrap64;omega
theorem shr_eq (a b : Int) : wrap64 (IntKind.u64.wrap a / 2 ^ min (IntKind.u64.wrap b).toNat 64) = shr a b:=by
  have e : (IntKind.u64.wrap b).toNat = un b:=rfl;rw [e,un_cast];unfold shr
  split
  · rename_i h
    rw [Nat.min_eq_left (by omega),Int.natCast_ediv,Int.natCast_pow];rfl
  · have:=un_lt a
    rw [Nat.min_eq_right (by omega),show (2 : Int) ^ 64 = 18446744073709551616 by decide];unfold wrap64;omega


theorem ret_intA {k : IntKind} {a b : Int} (h : a = b) : Ending.returned (.int k a) = .returned (.int k b):=by rw [h]
theorem ret_boolA {a b : Bool} (h : a = b) : Ending.returned (.bool a) = .returned (.bool b):=by rw [h]
theorem ret_threeA {k l m : IntKind} {a b c d e f : Int} (h : a = d) (g : b = e) (i : c = f) : Ending.returned (.tuple #[.int k a,.int l b,.int m c]) = .returned (.tuple #[.int k d,.int l e,.int m f]):=by rw [h,g,i]
theorem ret_ibA {k : IntKind} {a c : Int} {b d : Bool} (h : a = c) (g : b = d) : Ending.returned (.tuple #[.int k a,.bool b]) = .returned (.tuple #[.int k c,.bool d]):=by rw [h,g]
theorem drew_belowA (w : World) (n : Nat) : Below w.heap.size w (w.drewN n):=⟨rfl,rfl,rfl,Nat.le_refl _,fun _ _ => rfl⟩
theorem uless_anyA (a b : Int) (w : World) :
    Calls Tryz.prog 227 #[.int .i64 a,.int .i64 b] w fun e w' => e = .returned (.bool (decide (un a < un b))) ∧ w = w':=by
  go_enter Tryz.func227,Tryz.ntmps227;go_wp2;go_ret;exact ⟨ret_boolA (by rw [un_cast,un_cast]; simp),rfl⟩
theorem leansUp_anyA (a b : Int) (w : World) :
    Calls Tryz.prog 219 #[.int .i64 a,.int .i64 b] w fun e w' => e = .returned (.bool (leans a b)) ∧ w = w':=by
  go_enter Tryz.func219,Tryz.ntmps219;go_wp2
  all_goals go_ret
  · exact ⟨ret_boolA (by subst_vars; simp [leans]),rfl⟩
  · exact ⟨ret_boolA (by simp [leans,bne]),rfl⟩
theorem div_anyA (a b : Int) (w : World) (ha : cellR a) (hb : cellR b) :
    Calls Tryz.prog 128 #[.int .i64 a,.int .i64 b] w fun e w' => e = .returned (.tuple #[.int .i64 (dq a b),.int .i64 (dr a b),.int .i64 (dc b)]) ∧ Below w.heap.size w w':=by
  have HA:=zqh ha;have HB:=zqh hb;clear ha hb
  by_cases h : b = 0
  · have hb0 : (b == 0) = true:=by simp [h]
    have H:=zqh h;clear h;go_enter Tryz.func128,Tryz.ntmps128;go_wp2
    go_ret3
    exact ⟨ret_threeA (by simp [dq,H.out]) (by simp [dr,H.out]) (by simp [dc,H.out]),Below.refl _ _⟩
  · have hb0 : (b == 0) = false:=by simp [h]
    by_cases hl : leans (a.tmod b) b = true
    · go_enter Tryz.func128,Tryz.ntmps128
      go_wp2
      go_quiet (fail)
      (go_wp2_with (go_at_call 219; refine (leansUp_anyA _ _ _).mono ?_; rintro e w' ⟨rfl,rfl⟩))
      go_ret3
      exact ⟨ret_threeA (by simp [dq,h,hl]) (by rw [wrap_in (leans_sum a b h HB.out hl)]; simp [dr,h,hl]) (by simp [dc,h]),drew_belowA _ _⟩
    · replace hl : leans (a.tmod b) b = false:=by simpa using hl
      go_enter Tryz.func128,Tryz.ntmps128;go_wp2
      go_quiet (fail)
      (go_wp2_with (go_at_call 219; refine (leansUp_anyA _ _ _).mono ?_; rintro e w' ⟨rfl,rfl⟩))
      go_ret3
      exact ⟨ret_threeA (by simp [dq,h,hl]) (by simp [dr,h,hl]) (by simp [dc,h]),drew_belowA _ _⟩


theorem str_of {s : ByteArray} {l : List UInt8} (h : s.data.toList = l) : s = ⟨l.toArray⟩:=Go.WideShapes.bytes_inj (by rw [h])
theorem str_noA {s : ByteArray} {l : List UInt8} (h : ¬ s.data.toList = l) : (s.toList == l) = false:=by rw [ByteArray.toList_eq]; simpa using h


theorem tell_not (is : Bool) : tellN is 0 (-1) = yes (!is):=by cases is <;> rfl
theorem below_thenA {w w1 w2 : World} (h : Below w.heap.size w w1) (k : Below w1.heap.size w1 w2) : Below w.heap.size w w2:=h.trans (k.mono h.size)
theorem teller_any (x y : Int) (w : World) :
    Calls Tryz.prog 269 #[.int .i64 x,.int .i64 y] w fun e w' => ∃ p q : Addr,e = .returned (.func (.func 290) #[] #[.pointer (some p),.pointer (some q)]) ∧ w'.cell? p = some (.int .i64 x) ∧ w'.cell? q = some (.int .i64 y) ∧ (p.block < w'.heap.size ∧ q.block < w'.heap.size) ∧ Below w.heap.size w w':=by
  have hmf : ∀ (fn : Fn) (first cap : Array Value) (w : World),(Instr.makeFunc fn first cap).run Tryz.prog w = .ok (.func fn first cap) w:=fun _ _ _ _ => rfl
  go_enter Tryz.func269,Tryz.ntmps269;go_wp2;go_ret;exact ⟨_,_,rfl,by simp,by simp,⟨by simp; omega,by simp⟩,((Below.refl _ _).alloc (Nat.le_refl _) _).alloc (by simp) _⟩
theorem tell_any (is : Bool) (p q : Addr) (x y : Int) (w : World) (hx : w.cell? p = some (.int .i64 x)) (hy : w.cell? q = some (.int .i64 y)) :
    Calls Tryz.prog 290 #[.bool is,.pointer (some p),.pointer (some q)] w fun e w' => e = .returned (.int .i64 (tellN is x y)) ∧ w = w':=by
  cases is
  all_goals
    go_enter Tryz.func290,Tryz.ntmps290;go_wp2;go_ret;exact ⟨ret_intA (by simp [tellN]),rfl⟩
end Go.Proofs.YtcmldhjicjmmgaaGreatDoor
