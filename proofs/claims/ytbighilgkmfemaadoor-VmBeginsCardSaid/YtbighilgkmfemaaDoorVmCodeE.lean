/- The contract of the program's Same: all of it. -/
import Derived.Test.YtbighilgkmfemaaDoorVmCodeD
import Derived.Lib.QuietBelow
import Derived.BigQuiet
namespace Go.Proofs.YtbighilgkmfemaaDoor
open Go.RowKit Go.Sort
set_option linter.unusedVariables false
set_option linter.unusedSimpArgs false

theorem equal_bel (A B : Option Addr) (n c k d : Nat) (l1 l2 : List UInt8) (w : World) (h1 : Byt w (.slice A n c) l1) (h2 : Byt w (.slice B k d) l2) :
    Calls Tryd.prog 44 #[.slice A n c, .slice B k d] w fun e w' => e = .returned (.bool (decide (l1 = l2))) ∧ Below w.heap.size w w' :=
  (equal_any A B n c k d l1 l2 w h1 h2).mono fun _ _ ⟨he, hw⟩ => ⟨he, by rw [← hw]; exact Below.refl _ _⟩
theorem quiet_vload {o : Oper} {a : Act} {K : Act → Prop} {W : World} (x : Operand) (ho : o.op = .load 37 x) (b : Nat) (k : VmK) (hx : a.eval x = .pointer (some ⟨b, 0, none⟩)) (hb : VBox W b k) (h : K (a.put o.dst (vmV k))) :
    o.quiet Tryd.prog a (fun w' => ∃ p : Regrown, w' = grow (redrawn W p.d) p.os) K :=
  ⟨vmV k, fun w' hw' => by
    obtain ⟨p, rfl⟩ := hw'
    have hl := vm_load (hb.keep (below_regrown W p.d p.os))
    unfold Oper.quietAt execOp
    simp only [ho, hx, Instr.loadAt, Instr.sureAddr, Sem.run_bind, Sem.run_pure, Result.andThen_ok, hl]
    exact ⟨rfl, rfl⟩, h⟩
set_option maxRecDepth 100000 in
set_option maxHeartbeats 4000000 in
theorem vsame_any (k : VmK) (L : VmL) (j : VmK) (M : VmL) (w : World) (HN : Hid (k.dn ≤ 65536 ∧ k.rn ≤ 65536 ∧ k.fn ≤ 65536 ∧ k.wn ≤ 65536 ∧ k.en ≤ 65536 ∧ k.hn ≤ 65536)) (h : IsVm w k L) (h' : IsVm w j M) :
    Calls Tryd.prog 19 #[vmV k, vmV j] w fun e w' => e = .returned (.bool (vSame k L j M)) ∧ Below w.heap.size w w' := by
  obtain ⟨kk, hx, hy⟩ := v2_new w k j
  obtain ⟨F, hF⟩ : ∃ F, vSame k L j M = F := ⟨_, rfl⟩
  have HF : Hid (F = vSame k L j M) := hF.symm
  unfold vSame at HF
  rw [hF]
  go_enter Tryd.func19, Tryd.ntmps19
  go_upto_region 1 with fail
  simp only [List.append_eq, List.cons_append, List.nil_append]
  obtain ⟨W, hW⟩ : ∃ W, W = (w.alloc (.cells #[.int .i64 k.cm, .int .i64 k.cd, .int .i64 k.cr, .int .i64 k.cw, .int .i64 k.co, .slice k.mA k.mn k.mc, .slice k.pA k.pn k.pc, .int .i64 k.here, .slice k.dA k.dn k.dc, .slice k.rA k.rn k.rc, .slice k.fA k.fn k.fc, .slice k.wA k.wn k.wc, .int .i64 k.last, .slice k.oA k.on k.oc, .slice k.qA k.qn k.qc, .bool k.qo, .slice k.eA k.en k.ec, .int .i64 k.free, .int .i64 k.next, .int .i64 k.arg, .int .i64 k.self, .int .i64 k.now, .slice k.hA k.hn k.hc] 37)).alloc (.cells #[.int .i64 j.cm, .int .i64 j.cd, .int .i64 j.cr, .int .i64 j.cw, .int .i64 j.co, .slice j.mA j.mn j.mc, .slice j.pA j.pn j.pc, .int .i64 j.here, .slice j.dA j.dn j.dc, .slice j.rA j.rn j.rc, .slice j.fA j.fn j.fc, .slice j.wA j.wn j.wc, .int .i64 j.last, .slice j.oA j.on j.oc, .slice j.qA j.qn j.qc, .bool j.qo, .slice j.eA j.en j.ec, .int .i64 j.free, .int .i64 j.next, .int .i64 j.arg, .int .i64 j.self, .int .i64 j.now, .slice j.hA j.hn j.hc] 37) := ⟨_, rfl⟩
  rw [← hW] at kk hx hy ⊢
  have B0 := Lib.hid kk
  have V0 := Lib.hid (h.keep kk)
  have U0 := Lib.hid (h'.keep kk)
  have X0 := Lib.hid hx
  have Y0 := Lib.hid hy
  have hq := conf_eql k j
  have hr := nums_eql k j
  obtain ⟨Fm, em⟩ : ∃ F, decide (L.m = M.m) = F := ⟨_, rfl⟩
  obtain ⟨Fd, ed⟩ : ∃ F, sameB L.d M.d = F := ⟨_, rfl⟩
  obtain ⟨Fr, er⟩ : ∃ F, sameB L.r M.r = F := ⟨_, rfl⟩
  obtain ⟨Ff, ef⟩ : ∃ F, fmSame L.f M.f = F := ⟨_, rfl⟩
  obtain ⟨Fw, ew⟩ : ∃ F, dSame L.dict M.dict = F := ⟨_, rfl⟩
  obtain ⟨Fp, ep⟩ : ∃ F, pSame k.qo L.q j.qo M.q = F := ⟨_, rfl⟩
  obtain ⟨Fe, ee⟩ : ∃ F, rqSame L.e M.e = F := ⟨_, rfl⟩
  obtain ⟨Fh, eh⟩ : ∃ F, hnSame L.h M.h = F := ⟨_, rfl⟩
  obtain ⟨Fc, ec⟩ : ∃ F, confSame k j = F := ⟨_, rfl⟩
  obtain ⟨Fo, eo⟩ : ∃ F, decide (L.o = M.o) = F := ⟨_, rfl⟩
  obtain ⟨Fn, en⟩ : ∃ F, numsSame k j = F := ⟨_, rfl⟩
  rw [em, ed, er, ef, ew, ep, ee, eh, ec, eo, en] at HF
  rw [ec] at hq
  rw [en] at hr
  have Cm := Lib.hid (fun (a : World) (b : Below W.heap.size W a) => same_at k.mA k.pA j.mA j.pA k.mn k.mc k.pn k.pc j.mn j.mc j.pn j.pc L.m M.m a (Lib.hid (V0.out.m.keep b)) (Lib.hid (U0.out.m.keep b)))
  rw [em] at Cm
  have Cw := Lib.hid (fun (a : World) (b : Below W.heap.size W a) => dsame_any k.wA j.wA k.wn k.wc j.wn j.wc L.dict M.dict a (V0.out.dict.keep b) (U0.out.dict.keep b) (by have := HN.out; have := V0.out.dict.len; omega))
  rw [ew] at Cw
  have Cp := Lib.hid (fun (a : World) (b : Below W.heap.size W a) => same_any k.qA j.qA k.qn k.qc j.qn j.qc k.qo j.qo L.q M.q a (V0.out.q.keep b) (U0.out.q.keep b))
  rw [ep] at Cp
  have Cd := Lib.hid (fun (a : World) (b : Below W.heap.size W a) => iequal_any k.dA j.dA k.dn k.dc j.dn j.dc L.d M.d a (V0.out.d.keep b) (U0.out.d.keep b) (by have := HN.out; omega))
  rw [ed] at Cd
  have Cr := Lib.hid (fun (a : World) (b : Below W.heap.size W a) => iequal_any k.rA j.rA k.rn k.rc j.rn j.rc L.r M.r a (V0.out.r.keep b) (U0.out.r.keep b) (by have := HN.out; omega))
  rw [er] at Cr
  have Cf := Lib.hid (fun (a : World) (b : Below W.heap.size W a) => fmequal_any k.fA j.fA k.fn k.fc j.fn j.fc L.f M.f a (V0.out.f.keep b) (U0.out.f.keep b) (by have := HN.out; omega))
  rw [ef] at Cf
  have Co := Lib.hid (fun (a : World) (b : Below W.heap.size W a) => equal_bel k.oA j.oA k.on k.oc j.on j.oc L.o M.o a (V0.out.o.keep b) (U0.out.o.keep b))
  rw [eo] at Co
  have Ce := Lib.hid (fun (a : World) (b : Below W.heap.size W a) => rqequal_any k.eA j.eA k.en k.ec j.en j.ec L.e M.e a (V0.out.e.keep b) (U0.out.e.keep b) (by have := HN.out; omega))
  rw [ee] at Ce
  have Ch := Lib.hid (fun (a : World) (b : Below W.heap.size W a) => hnequal_any k.hA j.hA k.hn k.hc j.hn j.hc L.h M.h a (V0.out.h.keep b) (U0.out.h.keep b) (by have := HN.out; omega))
  rw [eh] at Ch
  clear em ed er ef ew ep ee eh ec eo en h h' hF kk hx hy hW
  obtain ⟨p0, p1, p2, p3, p4, p5, p6, p7, p8, p9, p10, p11, p12, p13, p14, p15, p16, p17, p18, p19, p20, p21, p22⟩ := X0.out.use
  obtain ⟨q0, q1, q2, q3, q4, q5, q6, q7, q8, q9, q10, q11, q12, q13, q14, q15, q16, q17, q18, q19, q20, q21, q22⟩ := Y0.out.use
  have P0 := fun d os => cell_regrown p0 d os
  have Q0 := fun d os => cell_regrown q0 d os
  have P1 := fun d os => cell_regrown p1 d os
  have Q1 := fun d os => cell_regrown q1 d os
  have P2 := fun d os => cell_regrown p2 d os
  have Q2 := fun d os => cell_regrown q2 d os
  have P3 := fun d os => cell_regrown p3 d os
  have Q3 := fun d os => cell_regrown q3 d os
  have P4 := fun d os => cell_regrown p4 d os
  have Q4 := fun d os => cell_regrown q4 d os
  have P5 := fun d os => cell_regrown p5 d os
  have Q5 := fun d os => cell_regrown q5 d os
  have P6 := fun d os => cell_regrown p6 d os
  have Q6 := fun d os => cell_regrown q6 d os
  have P8 := fun d os => cell_regrown p8 d os
  have Q8 := fun d os => cell_regrown q8 d os
  have P9 := fun d os => cell_regrown p9 d os
  have Q9 := fun d os => cell_regrown q9 d os
  have P10 := fun d os => cell_regrown p10 d os
  have Q10 := fun d os => cell_regrown q10 d os
  have P11 := fun d os => cell_regrown p11 d os
  have Q11 := fun d os => cell_regrown q11 d os
  have P13 := fun d os => cell_regrown p13 d os
  have Q13 := fun d os => cell_regrown q13 d os
  have P14 := fun d os => cell_regrown p14 d os
  have Q14 := fun d os => cell_regrown q14 d os
  have P15 := fun d os => cell_regrown p15 d os
  have Q15 := fun d os => cell_regrown q15 d os
  have P16 := fun d os => cell_regrown p16 d os
  have Q16 := fun d os => cell_regrown q16 d os
  have P22 := fun d os => cell_regrown p22 d os
  have Q22 := fun d os => cell_regrown q22 d os
  clear p0 q0 p1 q1 p2 q2 p3 q3 p4 q4 p5 q5 p6 q6 p7 q7 p8 q8 p9 q9 p10 q10 p11 q11 p12 q12 p13 q13 p14 q14 p15 q15 p16 q16 p17 q17 p18 q18 p19 q19 p20 q20 p21 q21 p22 q22
  refine wp_region_quiet_below (by kernel_rfl) (by kernel_rfl) ?_
  iterate 6 (first | go_big_quiet_skip | (go_big_quiet_want; first | (refine quiet_vload _ rfl w.heap.size k rfl X0.out ?_; go_big_quiet_on; (try simp only [List.getElem_toArray, List.getElem_cons_succ, List.getElem_cons_zero, Act.put, List.setIfInBounds_toArray, List.set_cons_zero, List.set_cons_succ])) | (refine quiet_vload _ rfl (w.heap.size + 1) j rfl Y0.out ?_; go_big_quiet_on; (try simp only [List.getElem_toArray, List.getElem_cons_succ, List.getElem_cons_zero, Act.put, List.setIfInBounds_toArray, List.set_cons_zero, List.set_cons_succ])) | (go_big_quiet_op; first | go_big_quiet_on | go_big_quiet_call (fail))))
  cases Fc with
  | false =>
    iterate 90 (try (first | go_big_quiet_skip | (go_big_quiet_want; first | (refine quiet_vload _ rfl w.heap.size k rfl X0.out ?_; go_big_quiet_on; (try simp only [List.getElem_toArray, List.getElem_cons_succ, List.getElem_cons_zero, Act.put, List.setIfInBounds_toArray, List.set_cons_zero, List.set_cons_succ])) | (refine quiet_vload _ rfl (w.heap.size + 1) j rfl Y0.out ?_; go_big_quiet_on; (try simp only [List.getElem_toArray, List.getElem_cons_succ, List.getElem_cons_zero, Act.put, List.setIfInBounds_toArray, List.set_cons_zero, List.set_cons_succ])) | (go_big_quiet_op; first | go_big_quiet_on | go_big_quiet_call (fail)))))
    refine wpQuiet_nil ?_
    intro _ hw'
    obtain ⟨⟨dq, osq⟩, hw''⟩ := hw'
    subst hw''
    go_wp2_with fail
    go_ret
    exact ⟨by rw [HF.out]; simp, below_then B0.out (below_regrown W dq osq)⟩
  | true =>
    iterate 2 (first | go_big_quiet_skip | (go_big_quiet_want; first | (refine quiet_vload _ rfl w.heap.size k rfl X0.out ?_; go_big_quiet_on; (try simp only [List.getElem_toArray, List.getElem_cons_succ, List.getElem_cons_zero, Act.put, List.setIfInBounds_toArray, List.set_cons_zero, List.set_cons_succ])) | (refine quiet_vload _ rfl (w.heap.size + 1) j rfl Y0.out ?_; go_big_quiet_on; (try simp only [List.getElem_toArray, List.getElem_cons_succ, List.getElem_cons_zero, Act.put, List.setIfInBounds_toArray, List.set_cons_zero, List.set_cons_succ])) | (go_big_quiet_op; first | go_big_quiet_on | go_big_quiet_call (exact Calls.regrown_of (vnums_any k _)))))
    iterate 2 (first | go_big_quiet_skip | (go_big_quiet_want; first | (refine quiet_vload _ rfl w.heap.size k rfl X0.out ?_; go_big_quiet_on; (try simp only [List.getElem_toArray, List.getElem_cons_succ, List.getElem_cons_zero, Act.put, List.setIfInBounds_toArray, List.set_cons_zero, List.set_cons_succ])) | (refine quiet_vload _ rfl (w.heap.size + 1) j rfl Y0.out ?_; go_big_quiet_on; (try simp only [List.getElem_toArray, List.getElem_cons_succ, List.getElem_cons_zero, Act.put, List.setIfInBounds_toArray, List.set_cons_zero, List.set_cons_succ])) | (go_big_quiet_op; first | go_big_quiet_on | go_big_quiet_call (exact Calls.regrown_of (vnums_any j _)))))
    iterate 3 (first | go_big_quiet_skip | (go_big_quiet_want; first | (refine quiet_vload _ rfl w.heap.size k rfl X0.out ?_; go_big_quiet_on; (try simp only [List.getElem_toArray, List.getElem_cons_succ, List.getElem_cons_zero, Act.put, List.setIfInBounds_toArray, List.set_cons_zero, List.set_cons_succ])) | (refine quiet_vload _ rfl (w.heap.size + 1) j rfl Y0.out ?_; go_big_quiet_on; (try simp only [List.getElem_toArray, List.getElem_cons_succ, List.getElem_cons_zero, Act.put, List.setIfInBounds_toArray, List.set_cons_zero, List.set_cons_succ])) | (go_big_quiet_op; first | go_big_quiet_on | go_big_quiet_call (fail))))
    cases Fn with
    | false =>
      iterate 90 (try (first | go_big_quiet_skip | (go_big_quiet_want; first | (refine quiet_vload _ rfl w.heap.size k rfl X0.out ?_; go_big_quiet_on; (try simp only [List.getElem_toArray, List.getElem_cons_succ, List.getElem_cons_zero, Act.put, List.setIfInBounds_toArray, List.set_cons_zero, List.set_cons_succ])) | (refine quiet_vload _ rfl (w.heap.size + 1) j rfl Y0.out ?_; go_big_quiet_on; (try simp only [List.getElem_toArray, List.getElem_cons_succ, List.getElem_cons_zero, Act.put, List.setIfInBounds_toArray, List.set_cons_zero, List.set_cons_succ])) | (go_big_quiet_op; first | go_big_quiet_on | go_big_quiet_call (fail)))))
      refine wpQuiet_nil ?_
      intro _ hw'
      obtain ⟨⟨dq, osq⟩, hw''⟩ := hw'
      subst hw''
      go_wp2_with fail
      go_ret
      exact ⟨by rw [HF.out]; simp, below_then B0.out (below_regrown W dq osq)⟩
    | true =>
      iterate 7 (first | go_big_quiet_skip | (go_big_quiet_want; first | (refine quiet_vload _ rfl w.heap.size k rfl X0.out ?_; go_big_quiet_on; (try simp only [List.getElem_toArray, List.getElem_cons_succ, List.getElem_cons_zero, Act.put, List.setIfInBounds_toArray, List.set_cons_zero, List.set_cons_succ])) | (refine quiet_vload _ rfl (w.heap.size + 1) j rfl Y0.out ?_; go_big_quiet_on; (try simp only [List.getElem_toArray, List.getElem_cons_succ, List.getElem_cons_zero, Act.put, List.setIfInBounds_toArray, List.set_cons_zero, List.set_cons_succ])) | (go_big_quiet_op; first | go_big_quiet_on | go_big_quiet_call (exact Calls.regrown_of (Cm.out _ (below_regrown _ _ _))))))
      cases Fm with
      | false =>
        iterate 90 (try (first | go_big_quiet_skip | (go_big_quiet_want; first | (refine quiet_vload _ rfl w.heap.size k rfl X0.out ?_; go_big_quiet_on; (try simp only [List.getElem_toArray, List.getElem_cons_succ, List.getElem_cons_zero, Act.put, List.setIfInBounds_toArray, List.set_cons_zero, List.set_cons_succ])) | (refine quiet_vload _ rfl (w.heap.size + 1) j rfl Y0.out ?_; go_big_quiet_on; (try simp only [List.getElem_toArray, List.getElem_cons_succ, List.getElem_cons_zero, Act.put, List.setIfInBounds_toArray, List.set_cons_zero, List.set_cons_succ])) | (go_big_quiet_op; first | go_big_quiet_on | go_big_quiet_call (fail)))))
        refine wpQuiet_nil ?_
        intro _ hw'
        obtain ⟨⟨dq, osq⟩, hw''⟩ := hw'
        subst hw''
        go_wp2_with fail
        go_ret
        exact ⟨by rw [HF.out]; simp, below_then B0.out (below_regrown W dq osq)⟩
      | true =>
        iterate 7 (first | go_big_quiet_skip | (go_big_quiet_want; first | (refine quiet_vload _ rfl w.heap.size k rfl X0.out ?_; go_big_quiet_on; (try simp only [List.getElem_toArray, List.getElem_cons_succ, List.getElem_cons_zero, Act.put, List.setIfInBounds_toArray, List.set_cons_zero, List.set_cons_succ])) | (refine quiet_vload _ rfl (w.heap.size + 1) j rfl Y0.out ?_; go_big_quiet_on; (try simp only [List.getElem_toArray, List.getElem_cons_succ, List.getElem_cons_zero, Act.put, List.setIfInBounds_toArray, List.set_cons_zero, List.set_cons_succ])) | (go_big_quiet_op; first | go_big_quiet_on | go_big_quiet_call (exact Calls.regrown_of (Cw.out _ (below_regrown _ _ _))))))
        cases Fw with
        | false =>
          iterate 90 (try (first | go_big_quiet_skip | (go_big_quiet_want; first | (refine quiet_vload _ rfl w.heap.size k rfl X0.out ?_; go_big_quiet_on; (try simp only [List.getElem_toArray, List.getElem_cons_succ, List.getElem_cons_zero, Act.put, List.setIfInBounds_toArray, List.set_cons_zero, List.set_cons_succ])) | (refine quiet_vload _ rfl (w.heap.size + 1) j rfl Y0.out ?_; go_big_quiet_on; (try simp only [List.getElem_toArray, List.getElem_cons_succ, List.getElem_cons_zero, Act.put, List.setIfInBounds_toArray, List.set_cons_zero, List.set_cons_succ])) | (go_big_quiet_op; first | go_big_quiet_on | go_big_quiet_call (fail)))))
          refine wpQuiet_nil ?_
          intro _ hw'
          obtain ⟨⟨dq, osq⟩, hw''⟩ := hw'
          subst hw''
          go_wp2_with fail
          go_ret
          exact ⟨by rw [HF.out]; simp, below_then B0.out (below_regrown W dq osq)⟩
        | true =>
          iterate 7 (first | go_big_quiet_skip | (go_big_quiet_want; first | (refine quiet_vload _ rfl w.heap.size k rfl X0.out ?_; go_big_quiet_on; (try simp only [List.getElem_toArray, List.getElem_cons_succ, List.getElem_cons_zero, Act.put, List.setIfInBounds_toArray, List.set_cons_zero, List.set_cons_succ])) | (refine quiet_vload _ rfl (w.heap.size + 1) j rfl Y0.out ?_; go_big_quiet_on; (try simp only [List.getElem_toArray, List.getElem_cons_succ, List.getElem_cons_zero, Act.put, List.setIfInBounds_toArray, List.set_cons_zero, List.set_cons_succ])) | (go_big_quiet_op; first | go_big_quiet_on | go_big_quiet_call (exact Calls.regrown_of (Cp.out _ (below_regrown _ _ _))))))
          cases Fp with
          | false =>
            iterate 90 (try (first | go_big_quiet_skip | (go_big_quiet_want; first | (refine quiet_vload _ rfl w.heap.size k rfl X0.out ?_; go_big_quiet_on; (try simp only [List.getElem_toArray, List.getElem_cons_succ, List.getElem_cons_zero, Act.put, List.setIfInBounds_toArray, List.set_cons_zero, List.set_cons_succ])) | (refine quiet_vload _ rfl (w.heap.size + 1) j rfl Y0.out ?_; go_big_quiet_on; (try simp only [List.getElem_toArray, List.getElem_cons_succ, List.getElem_cons_zero, Act.put, List.setIfInBounds_toArray, List.set_cons_zero, List.set_cons_succ])) | (go_big_quiet_op; first | go_big_quiet_on | go_big_quiet_call (fail)))))
            refine wpQuiet_nil ?_
            intro _ hw'
            obtain ⟨⟨dq, osq⟩, hw''⟩ := hw'
            subst hw''
            go_wp2_with fail
            go_ret
            exact ⟨by rw [HF.out]; simp, below_then B0.out (below_regrown W dq osq)⟩
          | true =>
            iterate 7 (first | go_big_quiet_skip | (go_big_quiet_want; first | (refine quiet_vload _ rfl w.heap.size k rfl X0.out ?_; go_big_quiet_on; (try simp only [List.getElem_toArray, List.getElem_cons_succ, List.getElem_cons_zero, Act.put, List.setIfInBounds_toArray, List.set_cons_zero, List.set_cons_succ])) | (refine quiet_vload _ rfl (w.heap.size + 1) j rfl Y0.out ?_; go_big_quiet_on; (try simp only [List.getElem_toArray, List.getElem_cons_succ, List.getElem_cons_zero, Act.put, List.setIfInBounds_toArray, List.set_cons_zero, List.set_cons_succ])) | (go_big_quiet_op; first | go_big_quiet_on | go_big_quiet_call (exact Calls.regrown_of (Cd.out _ (below_regrown _ _ _))))))
            cases Fd with
            | false =>
              iterate 90 (try (first | go_big_quiet_skip | (go_big_quiet_want; first | (refine quiet_vload _ rfl w.heap.size k rfl X0.out ?_; go_big_quiet_on; (try simp only [List.getElem_toArray, List.getElem_cons_succ, List.getElem_cons_zero, Act.put, List.setIfInBounds_toArray, List.set_cons_zero, List.set_cons_succ])) | (refine quiet_vload _ rfl (w.heap.size + 1) j rfl Y0.out ?_; go_big_quiet_on; (try simp only [List.getElem_toArray, List.getElem_cons_succ, List.getElem_cons_zero, Act.put, List.setIfInBounds_toArray, List.set_cons_zero, List.set_cons_succ])) | (go_big_quiet_op; first | go_big_quiet_on | go_big_quiet_call (fail)))))
              refine wpQuiet_nil ?_
              intro _ hw'
              obtain ⟨⟨dq, osq⟩, hw''⟩ := hw'
              subst hw''
              go_wp2_with fail
              go_ret
              exact ⟨by rw [HF.out]; simp, below_then B0.out (below_regrown W dq osq)⟩
            | true =>
              iterate 7 (first | go_big_quiet_skip | (go_big_quiet_want; first | (refine quiet_vload _ rfl w.heap.size k rfl X0.out ?_; go_big_quiet_on; (try simp only [List.getElem_toArray, List.getElem_cons_succ, List.getElem_cons_zero, Act.put, List.setIfInBounds_toArray, List.set_cons_zero, List.set_cons_succ])) | (refine quiet_vload _ rfl (w.heap.size + 1) j rfl Y0.out ?_; go_big_quiet_on; (try simp only [List.getElem_toArray, List.getElem_cons_succ, List.getElem_cons_zero, Act.put, List.setIfInBounds_toArray, List.set_cons_zero, List.set_cons_succ])) | (go_big_quiet_op; first | go_big_quiet_on | go_big_quiet_call (exact Calls.regrown_of (Cr.out _ (below_regrown _ _ _))))))
              cases Fr with
              | false =>
                iterate 90 (try (first | go_big_quiet_skip | (go_big_quiet_want; first | (refine quiet_vload _ rfl w.heap.size k rfl X0.out ?_; go_big_quiet_on; (try simp only [List.getElem_toArray, List.getElem_cons_succ, List.getElem_cons_zero, Act.put, List.setIfInBounds_toArray, List.set_cons_zero, List.set_cons_succ])) | (refine quiet_vload _ rfl (w.heap.size + 1) j rfl Y0.out ?_; go_big_quiet_on; (try simp only [List.getElem_toArray, List.getElem_cons_succ, List.getElem_cons_zero, Act.put, List.setIfInBounds_toArray, List.set_cons_zero, List.set_cons_succ])) | (go_big_quiet_op; first | go_big_quiet_on | go_big_quiet_call (fail)))))
                refine wpQuiet_nil ?_
                intro _ hw'
                obtain ⟨⟨dq, osq⟩, hw''⟩ := hw'
                subst hw''
                go_wp2_with fail
                go_ret
                exact ⟨by rw [HF.out]; simp, below_then B0.out (below_regrown W dq osq)⟩
              | true =>
                iterate 7 (first | go_big_quiet_skip | (go_big_quiet_want; first | (refine quiet_vload _ rfl w.heap.size k rfl X0.out ?_; go_big_quiet_on; (try simp only [List.getElem_toArray, List.getElem_cons_succ, List.getElem_cons_zero, Act.put, List.setIfInBounds_toArray, List.set_cons_zero, List.set_cons_succ])) | (refine quiet_vload _ rfl (w.heap.size + 1) j rfl Y0.out ?_; go_big_quiet_on; (try simp only [List.getElem_toArray, List.getElem_cons_succ, List.getElem_cons_zero, Act.put, List.setIfInBounds_toArray, List.set_cons_zero, List.set_cons_succ])) | (go_big_quiet_op; first | go_big_quiet_on | go_big_quiet_call (exact Calls.regrown_of (Cf.out _ (below_regrown _ _ _))))))
                cases Ff with
                | false =>
                  iterate 90 (try (first | go_big_quiet_skip | (go_big_quiet_want; first | (refine quiet_vload _ rfl w.heap.size k rfl X0.out ?_; go_big_quiet_on; (try simp only [List.getElem_toArray, List.getElem_cons_succ, List.getElem_cons_zero, Act.put, List.setIfInBounds_toArray, List.set_cons_zero, List.set_cons_succ])) | (refine quiet_vload _ rfl (w.heap.size + 1) j rfl Y0.out ?_; go_big_quiet_on; (try simp only [List.getElem_toArray, List.getElem_cons_succ, List.getElem_cons_zero, Act.put, List.setIfInBounds_toArray, List.set_cons_zero, List.set_cons_succ])) | (go_big_quiet_op; first | go_big_quiet_on | go_big_quiet_call (fail)))))
                  refine wpQuiet_nil ?_
                  intro _ hw'
                  obtain ⟨⟨dq, osq⟩, hw''⟩ := hw'
                  subst hw''
                  go_wp2_with fail
                  go_ret
                  exact ⟨by rw [HF.out]; simp, below_then B0.out (below_regrown W dq osq)⟩
                | true =>
                  iterate 7 (first | go_big_quiet_skip | (go_big_quiet_want; first | (refine quiet_vload _ rfl w.heap.size k rfl X0.out ?_; go_big_quiet_on; (try simp only [List.getElem_toArray, List.getElem_cons_succ, List.getElem_cons_zero, Act.put, List.setIfInBounds_toArray, List.set_cons_zero, List.set_cons_succ])) | (refine quiet_vload _ rfl (w.heap.size + 1) j rfl Y0.out ?_; go_big_quiet_on; (try simp only [List.getElem_toArray, List.getElem_cons_succ, List.getElem_cons_zero, Act.put, List.setIfInBounds_toArray, List.set_cons_zero, List.set_cons_succ])) | (go_big_quiet_op; first | go_big_quiet_on | go_big_quiet_call (exact Calls.regrown_of (Co.out _ (below_regrown _ _ _))))))
                  cases Fo with
                  | false =>
                    iterate 90 (try (first | go_big_quiet_skip | (go_big_quiet_want; first | (refine quiet_vload _ rfl w.heap.size k rfl X0.out ?_; go_big_quiet_on; (try simp only [List.getElem_toArray, List.getElem_cons_succ, List.getElem_cons_zero, Act.put, List.setIfInBounds_toArray, List.set_cons_zero, List.set_cons_succ])) | (refine quiet_vload _ rfl (w.heap.size + 1) j rfl Y0.out ?_; go_big_quiet_on; (try simp only [List.getElem_toArray, List.getElem_cons_succ, List.getElem_cons_zero, Act.put, List.setIfInBounds_toArray, List.set_cons_zero, List.set_cons_succ])) | (go_big_quiet_op; first | go_big_quiet_on | go_big_quiet_call (fail)))))
                    refine wpQuiet_nil ?_
                    intro _ hw'
                    obtain ⟨⟨dq, osq⟩, hw''⟩ := hw'
                    subst hw''
                    go_wp2_with fail
                    go_ret
                    exact ⟨by rw [HF.out]; simp, below_then B0.out (below_regrown W dq osq)⟩
                  | true =>
                    iterate 7 (first | go_big_quiet_skip | (go_big_quiet_want; first | (refine quiet_vload _ rfl w.heap.size k rfl X0.out ?_; go_big_quiet_on; (try simp only [List.getElem_toArray, List.getElem_cons_succ, List.getElem_cons_zero, Act.put, List.setIfInBounds_toArray, List.set_cons_zero, List.set_cons_succ])) | (refine quiet_vload _ rfl (w.heap.size + 1) j rfl Y0.out ?_; go_big_quiet_on; (try simp only [List.getElem_toArray, List.getElem_cons_succ, List.getElem_cons_zero, Act.put, List.setIfInBounds_toArray, List.set_cons_zero, List.set_cons_succ])) | (go_big_quiet_op; first | go_big_quiet_on | go_big_quiet_call (exact Calls.regrown_of (Ce.out _ (below_regrown _ _ _))))))
                    cases Fe with
                    | false =>
                      iterate 90 (try (first | go_big_quiet_skip | (go_big_quiet_want; first | (refine quiet_vload _ rfl w.heap.size k rfl X0.out ?_; go_big_quiet_on; (try simp only [List.getElem_toArray, List.getElem_cons_succ, List.getElem_cons_zero, Act.put, List.setIfInBounds_toArray, List.set_cons_zero, List.set_cons_succ])) | (refine quiet_vload _ rfl (w.heap.size + 1) j rfl Y0.out ?_; go_big_quiet_on; (try simp only [List.getElem_toArray, List.getElem_cons_succ, List.getElem_cons_zero, Act.put, List.setIfInBounds_toArray, List.set_cons_zero, List.set_cons_succ])) | (go_big_quiet_op; first | go_big_quiet_on | go_big_quiet_call (fail)))))
                      refine wpQuiet_nil ?_
                      intro _ hw'
                      obtain ⟨⟨dq, osq⟩, hw''⟩ := hw'
                      subst hw''
                      go_wp2_with fail
                      go_ret
                      exact ⟨by rw [HF.out]; simp, below_then B0.out (below_regrown W dq osq)⟩
                    | true =>
                      iterate 7 (first | go_big_quiet_skip | (go_big_quiet_want; first | (refine quiet_vload _ rfl w.heap.size k rfl X0.out ?_; go_big_quiet_on; (try simp only [List.getElem_toArray, List.getElem_cons_succ, List.getElem_cons_zero, Act.put, List.setIfInBounds_toArray, List.set_cons_zero, List.set_cons_succ])) | (refine quiet_vload _ rfl (w.heap.size + 1) j rfl Y0.out ?_; go_big_quiet_on; (try simp only [List.getElem_toArray, List.getElem_cons_succ, List.getElem_cons_zero, Act.put, List.setIfInBounds_toArray, List.set_cons_zero, List.set_cons_succ])) | (go_big_quiet_op; first | go_big_quiet_on | go_big_quiet_call (exact Calls.regrown_of (Ch.out _ (below_regrown _ _ _))))))
                      refine wpQuiet_nil ?_
                      intro _ hw'
                      obtain ⟨⟨dq, osq⟩, hw''⟩ := hw'
                      subst hw''
                      go_wp2_with fail
                      go_ret
                      exact ⟨by rw [HF.out]; simp, below_then B0.out (below_regrown W dq osq)⟩
end Go.Proofs.YtbighilgkmfemaaDoor
