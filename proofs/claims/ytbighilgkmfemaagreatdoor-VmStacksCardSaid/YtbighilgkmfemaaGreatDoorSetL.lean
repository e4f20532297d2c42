/- What the laws of this stage lean on, part 12: VmCodeE, VmCodeF, VmCodeG, VmCodeU, VmShown, VmLaws. -/
import Derived.Test.YtbighilgkmfemaaGreatDoorSetK
import Derived.Lib.QuietBelow
import Derived.BigQuiet
import Derived.Test.YtbighilgkmfemaaGreatDoorSetF
import Derived.Test.YtbighilgkmfemaaGreatDoorSetH
import Derived.Test.YtbighilgkmfemaaGreatDoorSetJ

/- The contract of the program's Same: all of it. -/
namespace Go.Proofs.YtbighilgkmfemaaGreatDoor
open Go.RowKit Go.Sort
set_option linter.unusedVariables false
set_option linter.unusedSimpArgs false

theorem equal_bel (A B : Option Addr) (n c k d : Nat) (l1 l2 : List UInt8) (w : World) (h1 : Byt w (.slice A n c) l1) (h2 : Byt w (.slice B k d) l2) :
    Calls Tryz.prog 67 #[.slice A n c, .slice B k d] w fun e w' => e = .returned (.bool (decide (l1 = l2))) ∧ Below w.heap.size w w' :=
  (equal_any A B n c k d l1 l2 w h1 h2).mono fun _ _ ⟨he, hw⟩ => ⟨he, by rw [← hw]; exact Below.refl _ _⟩
theorem quiet_vload {o : Oper} {a : Act} {K : Act → Prop} {W : World} (x : Operand) (ho : o.op = .load 36 x) (b : Nat) (k : VmK) (hx : a.eval x = .pointer (some ⟨b, 0, none⟩)) (hb : VBox W b k) (h : K (a.put o.dst (vmV k))) :
    o.quiet Tryz.prog a (fun w' => ∃ p : Regrown, w' = grow (redrawn W p.d) p.os) K :=
  ⟨vmV k, fun w' hw' => by
    obtain ⟨p, rfl⟩ := hw'
    have hl := vm_load (hb.keep (below_regrown W p.d p.os))
    unfold Oper.quietAt execOp
    simp only [ho, hx, Instr.loadAt, Instr.sureAddr, Sem.run_bind, Sem.run_pure, Result.andThen_ok, hl]
    exact ⟨rfl, rfl⟩, h⟩
set_option maxRecDepth 100000 in
set_option maxHeartbeats 4000000 in
theorem vsame_any (k : VmK) (L : VmL) (j : VmK) (M : VmL) (w : World) (HN : Hid (k.dn ≤ 65536 ∧ k.rn ≤ 65536 ∧ k.fn ≤ 65536 ∧ k.wn ≤ 65536 ∧ k.en ≤ 65536 ∧ k.hn ≤ 65536)) (h : IsVm w k L) (h' : IsVm w j M) :
    Calls Tryz.prog 22 #[vmV k, vmV j] w fun e w' => e = .returned (.bool (vSame k L j M)) ∧ Below w.heap.size w w' := by
  obtain ⟨kk, hx, hy⟩ := v2_new w k j
  obtain ⟨F, hF⟩ : ∃ F, vSame k L j M = F := ⟨_, rfl⟩
  have HF : Hid (F = vSame k L j M) := hF.symm
  unfold vSame at HF
  rw [hF]
  go_enter Tryz.func22, Tryz.ntmps22
  go_upto_region 1 with fail
  simp only [List.append_eq, List.cons_append, List.nil_append]
  obtain ⟨W, hW⟩ : ∃ W, W = (w.alloc (.cells #[.int .i64 k.cm, .int .i64 k.cd, .int .i64 k.cr, .int .i64 k.cw, .int .i64 k.co, .slice k.mA k.mn k.mc, .slice k.pA k.pn k.pc, .int .i64 k.here, .slice k.dA k.dn k.dc, .slice k.rA k.rn k.rc, .slice k.fA k.fn k.fc, .slice k.wA k.wn k.wc, .int .i64 k.last, .slice k.oA k.on k.oc, .slice k.qA k.qn k.qc, .bool k.qo, .slice k.eA k.en k.ec, .int .i64 k.free, .int .i64 k.next, .int .i64 k.arg, .int .i64 k.self, .int .i64 k.now, .slice k.hA k.hn k.hc] 36)).alloc (.cells #[.int .i64 j.cm, .int .i64 j.cd, .int .i64 j.cr, .int .i64 j.cw, .int .i64 j.co, .slice j.mA j.mn j.mc, .slice j.pA j.pn j.pc, .int .i64 j.here, .slice j.dA j.dn j.dc, .slice j.rA j.rn j.rc, .slice j.fA j.fn j.fc, .slice j.wA j.wn j.wc, .int .i64 j.last, .slice j.oA j.on j.oc, .slice j.qA j.qn j.qc, .bool j.qo, .slice j.eA j.en j.ec, .int .i64 j.free, .int .i64 j.next, .int .i64 j.arg, .int .i64 j.self, .int .i64 j.now, .slice j.hA j.hn j.hc] 36) := ⟨_, rfl⟩
  rw [← hW] at kk hx hy ⊢
  have B0 := Lib.hid kk
  have V0 := Lib.hid (h.keep kk)
  have U0 := Lib.hid (h'.keep kk)
  have X0 := Lib.hid hx
  have Y0 := Lib.hid hy
  have hq := conf_eql k j
  have hr := nums_eql k j
  obtain ⟨Fm, em⟩ : ∃ F, decide (L.m = M.m) = F := ⟨_, rfl⟩
  obtain ⟨Fd, ed⟩ : ∃ F, sameB L.d M.d = F := ⟨_, rfl⟩
  obtain ⟨Fr, er⟩ : ∃ F, sameB L.r M.r = F := ⟨_, rfl⟩
  obtain ⟨Ff, ef⟩ : ∃ F, fmSame L.f M.f = F := ⟨_, rfl⟩
  obtain ⟨Fw, ew⟩ : ∃ F, dSame L.dict M.dict = F := ⟨_, rfl⟩
  obtain ⟨Fp, ep⟩ : ∃ F, pSame k.qo L.q j.qo M.q = F := ⟨_, rfl⟩
  obtain ⟨Fe, ee⟩ : ∃ F, rqSame L.e M.e = F := ⟨_, rfl⟩
  obtain ⟨Fh, eh⟩ : ∃ F, hnSame L.h M.h = F := ⟨_, rfl⟩
  obtain ⟨Fc, ec⟩ : ∃ F, confSame k j = F := ⟨_, rfl⟩
  obtain ⟨Fo, eo⟩ : ∃ F, decide (L.o = M.o) = F := ⟨_, rfl⟩
  obtain ⟨Fn, en⟩ : ∃ F, numsSame k j = F := ⟨_, rfl⟩
  rw [em, ed, er, ef, ew, ep, ee, eh, ec, eo, en] at HF
  rw [ec] at hq
  rw [en] at hr
  have Cm := Lib.hid (fun (a : World) (b : Below W.heap.size W a) => same_at k.mA k.pA j.mA j.pA k.mn k.mc k.pn k.pc j.mn j.mc j.pn j.pc L.m M.m a (Lib.hid (V0.out.m.keep b)) (Lib.hid (U0.out.m.keep b)))
  rw [em] at Cm
  have Cw := Lib.hid (fun (a : World) (b : Below W.heap.size W a) => dsame_any k.wA j.wA k.wn k.wc j.wn j.wc L.dict M.dict a (V0.out.dict.keep b) (U0.out.dict.keep b) (by have := HN.out; have := V0.out.dict.len; omega))
  rw [ew] at Cw
  have Cp := Lib.hid (fun (a : World) (b : Below W.heap.size W a) => same_any k.qA j.qA k.qn k.qc j.qn j.qc k.qo j.qo L.q M.q a (V0.out.q.keep b) (U0.out.q.keep b))
  rw [ep] at Cp
  have Cd := Lib.hid (fun (a : World) (b : Below W.heap.size W a) => iequal_any k.dA j.dA k.dn k.dc j.dn j.dc L.d M.d a (V0.out.d.keep b) (U0.out.d.keep b) (by have := HN.out; omega))
  rw [ed] at Cd
  have Cr := Lib.hid (fun (a : World) (b : Below W.heap.size W a) => iequal_any k.rA j.rA k.rn k.rc j.rn j.rc L.r M.r a (V0.out.r.keep b) (U0.out.r.keep b) (by have := HN.out; omega))
  rw [er] at Cr
  have Cf := Lib.hid (fun (a : World) (b : Below W.heap.size W a) => fmequal_any k.fA j.fA k.fn k.fc j.fn j.fc L.f M.f a (V0.out.f.keep b) (U0.out.f.keep b) (by have := HN.out; omega))
  rw [ef] at Cf
  have Co := Lib.hid (fun (a : World) (b : Below W.heap.size W a) => equal_bel k.oA j.oA k.on k.oc j.on j.oc L.o M.o a (V0.out.o.keep b) (U0.out.o.keep b))
  rw [eo] at Co
  have Ce := Lib.hid (fun (a : World) (b : Below W.heap.size W a) => rqequal_any k.eA j.eA k.en k.ec j.en j.ec L.e M.e a (V0.out.e.keep b) (U0.out.e.keep b) (by have := HN.out; omega))
  rw [ee] at Ce
  have Ch := Lib.hid (fun (a : World) (b : Below W.heap.size W a) => hnequal_any k.hA j.hA k.hn k.hc j.hn j.hc L.h M.h a (V0.out.h.keep b) (U0.out.h.keep b) (by have := HN.out; omega))
  rw [eh] at Ch
  clear em ed er ef ew ep ee eh ec eo en h h' hF kk hx hy hW
  obtain ⟨p0, p1, p2, p3, p4, p5, p6, p7, p8, p9, p10, p11, p12, p13, p14, p15, p16, p17, p18, p19, p20, p21, p22⟩ := X0.out.use
  obtain ⟨q0, q1, q2, q3, q4, q5, q6, q7, q8, q9, q10, q11, q12, q13, q14, q15, q16, q17, q18, q19, q20, q21, q22⟩ := Y0.out.use
  have P0 := fun d os => cell_regrown p0 d os
  have Q0 := fun d os => cell_regrown q0 d os
  have P1 := fun d os => cell_regrown p1 d os
  have Q1 := fun d os => cell_regrown q1 d os
  have P2 := fun d os => cell_regrown p2 d os
  have Q2 := fun d os => cell_regrown q2 d os
  have P3 := fun d os => cell_regrown p3 d os
  have Q3 := fun d os => cell_regrown q3 d os
  have P4 := fun d os => cell_regrown p4 d os
  have Q4 := fun d os => cell_regrown q4 d os
  have P5 := fun d os => cell_regrown p5 d os
  have Q5 := fun d os => cell_regrown q5 d os
  have P6 := fun d os => cell_regrown p6 d os
  have Q6 := fun d os => cell_regrown q6 d os
  have P8 := fun d os => cell_regrown p8 d os
  have Q8 := fun d os => cell_regrown q8 d os
  have P9 := fun d os => cell_regrown p9 d os
  have Q9 := fun d os => cell_regrown q9 d os
  have P10 := fun d os => cell_regrown p10 d os
  have Q10 := fun d os => cell_regrown q10 d os
  have P11 := fun d os => cell_regrown p11 d os
  have Q11 := fun d os => cell_regrown q11 d os
  have P13 := fun d os => cell_regrown p13 d os
  have Q13 := fun d os => cell_regrown q13 d os
  have P14 := fun d os => cell_regrown p14 d os
  have Q14 := fun d os => cell_regrown q14 d os
  have P15 := fun d os => cell_regrown p15 d os
  have Q15 := fun d os => cell_regrown q15 d os
  have P16 := fun d os => cell_regrown p16 d os
  have Q16 := fun d os => cell_regrown q16 d os
  have P22 := fun d os => cell_regrown p22 d os
  have Q22 := fun d os => cell_regrown q22 d os
  clear p0 q0 p1 q1 p2 q2 p3 q3 p4 q4 p5 q5 p6 q6 p7 q7 p8 q8 p9 q9 p10 q10 p11 q11 p12 q12 p13 q13 p14 q14 p15 q15 p16 q16 p17 q17 p18 q18 p19 q19 p20 q20 p21 q21 p22 q22
  refine wp_region_quiet_below (by kernel_rfl) (by kernel_rfl) ?_
  iterate 6 (first | go_big_quiet_skip | (go_big_quiet_want; first | (refine quiet_vload _ rfl w.heap.size k rfl X0.out ?_; go_big_quiet_on; (try simp only [List.getElem_toArray, List.getElem_cons_succ, List.getElem_cons_zero, Act.put, List.setIfInBounds_toArray, List.set_cons_zero, List.set_cons_succ])) | (refine quiet_vload _ rfl (w.heap.size + 1) j rfl Y0.out ?_; go_big_quiet_on; (try simp only [List.getElem_toArray, List.getElem_cons_succ, List.getElem_cons_zero, Act.put, List.setIfInBounds_toArray, List.set_cons_zero, List.set_cons_succ])) | (go_big_quiet_op; first | go_big_quiet_on | go_big_quiet_call (fail))))
  cases Fc with
  | false =>
    iterate 90 (try (first | go_big_quiet_skip | (go_big_quiet_want; first | (refine quiet_vload _ rfl w.heap.size k rfl X0.out ?_; go_big_quiet_on; (try simp only [List.getElem_toArray, List.getElem_cons_succ, List.getElem_cons_zero, Act.put, List.setIfInBounds_toArray, List.set_cons_zero, List.set_cons_succ])) | (refine quiet_vload _ rfl (w.heap.size + 1) j rfl Y0.out ?_; go_big_quiet_on; (try simp only [List.getElem_toArray, List.getElem_cons_succ, List.getElem_cons_zero, Act.put, List.setIfInBounds_toArray, List.set_cons_zero, List.set_cons_succ])) | (go_big_quiet_op; first | go_big_quiet_on | go_big_quiet_call (fail)))))
    refine wpQuiet_nil ?_
    intro _ hw'
    obtain ⟨⟨dq, osq⟩, hw''⟩ := hw'
    subst hw''
    go_wp2_with fail
    go_ret
    exact ⟨by rw [HF.out]; simp, below_then B0.out (below_regrown W dq osq)⟩
  | true =>
    iterate 2 (first | go_big_quiet_skip | (go_big_quiet_want; first | (refine quiet_vload _ rfl w.heap.size k rfl X0.out ?_; go_big_quiet_on; (try simp only [List.getElem_toArray, List.getElem_cons_succ, List.getElem_cons_zero, Act.put, List.setIfInBounds_toArray, List.set_cons_zero, List.set_cons_succ])) | (refine quiet_vload _ rfl (w.heap.size + 1) j rfl Y0.out ?_; go_big_quiet_on; (try simp only [List.getElem_toArray, List.getElem_cons_succ, List.getElem_cons_zero, Act.put, List.setIfInBounds_toArray, List.set_cons_zero, List.set_cons_succ])) | (go_big_quiet_op; first | go_big_quiet_on | go_big_quiet_call (exact Calls.regrown_of (vnums_any k _)))))
    iterate 2 (first | go_big_quiet_skip | (go_big_quiet_want; first | (refine quiet_vload _ rfl w.heap.size k rfl X0.out ?_; go_big_quiet_on; (try simp only [List.getElem_toArray, List.getElem_cons_succ, List.getElem_cons_zero, Act.put, List.setIfInBounds_toArray, List.set_cons_zero, List.set_cons_succ])) | (refine quiet_vload _ rfl (w.heap.size + 1) j rfl Y0.out ?_; go_big_quiet_on; (try simp only [List.getElem_toArray, List.getElem_cons_succ, List.getElem_cons_zero, Act.put, List.setIfInBounds_toArray, List.set_cons_zero, List.set_cons_succ])) | (go_big_quiet_op; first | go_big_quiet_on | go_big_quiet_call (exact Calls.regrown_of (vnums_any j _)))))
    iterate 3 (first | go_big_quiet_skip | (go_big_quiet_want; first | (refine quiet_vload _ rfl w.heap.size k rfl X0.out ?_; go_big_quiet_on; (try simp only [List.getElem_toArray, List.getElem_cons_succ, List.getElem_cons_zero, Act.put, List.setIfInBounds_toArray, List.set_cons_zero, List.set_cons_succ])) | (refine quiet_vload _ rfl (w.heap.size + 1) j rfl Y0.out ?_; go_big_quiet_on; (try simp only [List.getElem_toArray, List.getElem_cons_succ, List.getElem_cons_zero, Act.put, List.setIfInBounds_toArray, List.set_cons_zero, List.set_cons_succ])) | (go_big_quiet_op; first | go_big_quiet_on | go_big_quiet_call (fail))))
    cases Fn with
    | false =>
      iterate 90 (try (first | go_big_quiet_skip | (go_big_quiet_want; first | (refine quiet_vload _ rfl w.heap.size k rfl X0.out ?_; go_big_quiet_on; (try simp only [List.getElem_toArray, List.getElem_cons_succ, List.getElem_cons_zero, Act.put, List.setIfInBounds_toArray, List.set_cons_zero, List.set_cons_succ])) | (refine quiet_vload _ rfl (w.heap.size + 1) j rfl Y0.out ?_; go_big_quiet_on; (try simp only [List.getElem_toArray, List.getElem_cons_succ, List.getElem_cons_zero, Act.put, List.setIfInBounds_toArray, List.set_cons_zero, List.set_cons_succ])) | (go_big_quiet_op; first | go_big_quiet_on | go_big_quiet_call (fail)))))
      refine wpQuiet_nil ?_
      intro _ hw'
      obtain ⟨⟨dq, osq⟩, hw''⟩ := hw'
      subst hw''
      go_wp2_with fail
      go_ret
      exact ⟨by rw [HF.out]; simp, below_then B0.out (below_regrown W dq osq)⟩
    | true =>
      iterate 7 (first | go_big_quiet_skip | (go_big_quiet_want; first | (refine quiet_vload _ rfl w.heap.size k rfl X0.out ?_; go_big_quiet_on; (try simp only [List.getElem_toArray, List.getElem_cons_succ, List.getElem_cons_zero, Act.put, List.setIfInBounds_toArray, List.set_cons_zero, List.set_cons_succ])) | (refine quiet_vload _ rfl (w.heap.size + 1) j rfl Y0.out ?_; go_big_quiet_on; (try simp only [List.getElem_toArray, List.getElem_cons_succ, List.getElem_cons_zero, Act.put, List.setIfInBounds_toArray, List.set_cons_zero, List.set_cons_succ])) | (go_big_quiet_op; first | go_big_quiet_on | go_big_quiet_call (exact Calls.regrown_of (Cm.out _ (below_regrown _ _ _))))))
      cases Fm with
      | false =>
        iterate 90 (try (first | go_big_quiet_skip | (go_big_quiet_want; first | (refine quiet_vload _ rfl w.heap.size k rfl X0.out ?_; go_big_quiet_on; (try simp only [List.getElem_toArray, List.getElem_cons_succ, List.getElem_cons_zero, Act.put, List.setIfInBounds_toArray, List.set_cons_zero, List.set_cons_succ])) | (refine quiet_vload _ rfl (w.heap.size + 1) j rfl Y0.out ?_; go_big_quiet_on; (try simp only [List.getElem_toArray, List.getElem_cons_succ, List.getElem_cons_zero, Act.put, List.setIfInBounds_toArray, List.set_cons_zero, List.set_cons_succ])) | (go_big_quiet_op; first | go_big_quiet_on | go_big_quiet_call (fail)))))
        refine wpQuiet_nil ?_
        intro _ hw'
        obtain ⟨⟨dq, osq⟩, hw''⟩ := hw'
        subst hw''
        go_wp2_with fail
        go_ret
        exact ⟨by rw [HF.out]; simp, below_then B0.out (below_regrown W dq osq)⟩
      | true =>
        iterate 7 (first | go_big_quiet_skip | (go_big_quiet_want; first | (refine quiet_vload _ rfl w.heap.size k rfl X0.out ?_; go_big_quiet_on; (try simp only [List.getElem_toArray, List.getElem_cons_succ, List.getElem_cons_zero, Act.put, List.setIfInBounds_toArray, List.set_cons_zero, List.set_cons_succ])) | (refine quiet_vload _ rfl (w.heap.size + 1) j rfl Y0.out ?_; go_big_quiet_on; (try simp only [List.getElem_toArray, List.getElem_cons_succ, List.getElem_cons_zero, Act.put, List.setIfInBounds_toArray, List.set_cons_zero, List.set_cons_succ])) | (go_big_quiet_op; first | go_big_quiet_on | go_big_quiet_call (exact Calls.regrown_of (Cw.out _ (below_regrown _ _ _))))))
        cases Fw with
        | false =>
          iterate 90 (try (first | go_big_quiet_skip | (go_big_quiet_want; first | (refine quiet_vload _ rfl w.heap.size k rfl X0.out ?_; go_big_quiet_on; (try simp only [List.getElem_toArray, List.getElem_cons_succ, List.getElem_cons_zero, Act.put, List.setIfInBounds_toArray, List.set_cons_zero, List.set_cons_succ])) | (refine quiet_vload _ rfl (w.heap.size + 1) j rfl Y0.out ?_; go_big_quiet_on; (try simp only [List.getElem_toArray, List.getElem_cons_succ, List.getElem_cons_zero, Act.put, List.setIfInBounds_toArray, List.set_cons_zero, List.set_cons_succ])) | (go_big_quiet_op; first | go_big_quiet_on | go_big_quiet_call (fail)))))
          refine wpQuiet_nil ?_
          intro _ hw'
          obtain ⟨⟨dq, osq⟩, hw''⟩ := hw'
          subst hw''
          go_wp2_with fail
          go_ret
          exact ⟨by rw [HF.out]; simp, below_then B0.out (below_regrown W dq osq)⟩
        | true =>
          iterate 7 (first | go_big_quiet_skip | (go_big_quiet_want; first | (refine quiet_vload _ rfl w.heap.size k rfl X0.out ?_; go_big_quiet_on; (try simp only [List.getElem_toArray, List.getElem_cons_succ, List.getElem_cons_zero, Act.put, List.setIfInBounds_toArray, List.set_cons_zero, List.set_cons_succ])) | (refine quiet_vload _ rfl (w.heap.size + 1) j rfl Y0.out ?_; go_big_quiet_on; (try simp only [List.getElem_toArray, List.getElem_cons_succ, List.getElem_cons_zero, Act.put, List.setIfInBounds_toArray, List.set_cons_zero, List.set_cons_succ])) | (go_big_quiet_op; first | go_big_quiet_on | go_big_quiet_call (exact Calls.regrown_of (Cp.out _ (below_regrown _ _ _))))))
          cases Fp with
          | false =>
            iterate 90 (try (first | go_big_quiet_skip | (go_big_quiet_want; first | (refine quiet_vload _ rfl w.heap.size k rfl X0.out ?_; go_big_quiet_on; (try simp only [List.getElem_toArray, List.getElem_cons_succ, List.getElem_cons_zero, Act.put, List.setIfInBounds_toArray, List.set_cons_zero, List.set_cons_succ])) | (refine quiet_vload _ rfl (w.heap.size + 1) j rfl Y0.out ?_; go_big_quiet_on; (try simp only [List.getElem_toArray, List.getElem_cons_succ, List.getElem_cons_zero, Act.put, List.setIfInBounds_toArray, List.set_cons_zero, List.set_cons_succ])) | (go_big_quiet_op; first | go_big_quiet_on | go_big_quiet_call (fail)))))
            refine wpQuiet_nil ?_
            intro _ hw'
            obtain ⟨⟨dq, osq⟩, hw''⟩ := hw'
            subst hw''
            go_wp2_with fail
            go_ret
            exact ⟨by rw [HF.out]; simp, below_then B0.out (below_regrown W dq osq)⟩
          | true =>
            iterate 7 (first | go_big_quiet_skip | (go_big_quiet_want; first | (refine quiet_vload _ rfl w.heap.size k rfl X0.out ?_; go_big_quiet_on; (try simp only [List.getElem_toArray, List.getElem_cons_succ, List.getElem_cons_zero, Act.put, List.setIfInBounds_toArray, List.set_cons_zero, List.set_cons_succ])) | (refine quiet_vload _ rfl (w.heap.size + 1) j rfl Y0.out ?_; go_big_quiet_on; (try simp only [List.getElem_toArray, List.getElem_cons_succ, List.getElem_cons_zero, Act.put, List.setIfInBounds_toArray, List.set_cons_zero, List.set_cons_succ])) | (go_big_quiet_op; first | go_big_quiet_on | go_big_quiet_call (exact Calls.regrown_of (Cd.out _ (below_regrown _ _ _))))))
            cases Fd with
            | false =>
              iterate 90 (try (first | go_big_quiet_skip | (go_big_quiet_want; first | (refine quiet_vload _ rfl w.heap.size k rfl X0.out ?_; go_big_quiet_on; (try simp only [List.getElem_toArray, List.getElem_cons_succ, List.getElem_cons_zero, Act.put, List.setIfInBounds_toArray, List.set_cons_zero, List.set_cons_succ])) | (refine quiet_vload _ rfl (w.heap.size + 1) j rfl Y0.out ?_; go_big_quiet_on; (try simp only [List.getElem_toArray, List.getElem_cons_succ, List.getElem_cons_zero, Act.put, List.setIfInBounds_toArray, List.set_cons_zero, List.set_cons_succ])) | (go_big_quiet_op; first | go_big_quiet_on | go_big_quiet_call (fail)))))
              refine wpQuiet_nil ?_
              intro _ hw'
              obtain ⟨⟨dq, osq⟩, hw''⟩ := hw'
              subst hw''
              go_wp2_with fail
              go_ret
              exact ⟨by rw [HF.out]; simp, below_then B0.out (below_regrown W dq osq)⟩
            | true =>
              iterate 7 (first | go_big_quiet_skip | (go_big_quiet_want; first | (refine quiet_vload _ rfl w.heap.size k rfl X0.out ?_; go_big_quiet_on; (try simp only [List.getElem_toArray, List.getElem_cons_succ, List.getElem_cons_zero, Act.put, List.setIfInBounds_toArray, List.set_cons_zero, List.set_cons_succ])) | (refine quiet_vload _ rfl (w.heap.size + 1) j rfl Y0.out ?_; go_big_quiet_on; (try simp only [List.getElem_toArray, List.getElem_cons_succ, List.getElem_cons_zero, Act.put, List.setIfInBounds_toArray, List.set_cons_zero, List.set_cons_succ])) | (go_big_quiet_op; first | go_big_quiet_on | go_big_quiet_call (exact Calls.regrown_of (Cr.out _ (below_regrown _ _ _))))))
              cases Fr with
              | false =>
                iterate 90 (try (first | go_big_quiet_skip | (go_big_quiet_want; first | (refine quiet_vload _ rfl w.heap.size k rfl X0.out ?_; go_big_quiet_on; (try simp only [List.getElem_toArray, List.getElem_cons_succ, List.getElem_cons_zero, Act.put, List.setIfInBounds_toArray, List.set_cons_zero, List.set_cons_succ])) | (refine quiet_vload _ rfl (w.heap.size + 1) j rfl Y0.out ?_; go_big_quiet_on; (try simp only [List.getElem_toArray, List.getElem_cons_succ, List.getElem_cons_zero, Act.put, List.setIfInBounds_toArray, List.set_cons_zero, List.set_cons_succ])) | (go_big_quiet_op; first | go_big_quiet_on | go_big_quiet_call (fail)))))
                refine wpQuiet_nil ?_
                intro _ hw'
                obtain ⟨⟨dq, osq⟩, hw''⟩ := hw'
                subst hw''
                go_wp2_with fail
                go_ret
                exact ⟨by rw [HF.out]; simp, below_then B0.out (below_regrown W dq osq)⟩
              | true =>
                iterate 7 (first | go_big_quiet_skip | (go_big_quiet_want; first | (refine quiet_vload _ rfl w.heap.size k rfl X0.out ?_; go_big_quiet_on; (try simp only [List.getElem_toArray, List.getElem_cons_succ, List.getElem_cons_zero, Act.put, List.setIfInBounds_toArray, List.set_cons_zero, List.set_cons_succ])) | (refine quiet_vload _ rfl (w.heap.size + 1) j rfl Y0.out ?_; go_big_quiet_on; (try simp only [List.getElem_toArray, List.getElem_cons_succ, List.getElem_cons_zero, Act.put, List.setIfInBounds_toArray, List.set_cons_zero, List.set_cons_succ])) | (go_big_quiet_op; first | go_big_quiet_on | go_big_quiet_call (exact Calls.regrown_of (Cf.out _ (below_regrown _ _ _))))))
                cases Ff with
                | false =>
                  iterate 90 (try (first | go_big_quiet_skip | (go_big_quiet_want; first | (refine quiet_vload _ rfl w.heap.size k rfl X0.out ?_; go_big_quiet_on; (try simp only [List.getElem_toArray, List.getElem_cons_succ, List.getElem_cons_zero, Act.put, List.setIfInBounds_toArray, List.set_cons_zero, List.set_cons_succ])) | (refine quiet_vload _ rfl (w.heap.size + 1) j rfl Y0.out ?_; go_big_quiet_on; (try simp only [List.getElem_toArray, List.getElem_cons_succ, List.getElem_cons_zero, Act.put, List.setIfInBounds_toArray, List.set_cons_zero, List.set_cons_succ])) | (go_big_quiet_op; first | go_big_quiet_on | go_big_quiet_call (fail)))))
                  refine wpQuiet_nil ?_
                  intro _ hw'
                  obtain ⟨⟨dq, osq⟩, hw''⟩ := hw'
                  subst hw''
                  go_wp2_with fail
                  go_ret
                  exact ⟨by rw [HF.out]; simp, below_then B0.out (below_regrown W dq osq)⟩
                | true =>
                  iterate 7 (first | go_big_quiet_skip | (go_big_quiet_want; first | (refine quiet_vload _ rfl w.heap.size k rfl X0.out ?_; go_big_quiet_on; (try simp only [List.getElem_toArray, List.getElem_cons_succ, List.getElem_cons_zero, Act.put, List.setIfInBounds_toArray, List.set_cons_zero, List.set_cons_succ])) | (refine quiet_vload _ rfl (w.heap.size + 1) j rfl Y0.out ?_; go_big_quiet_on; (try simp only [List.getElem_toArray, List.getElem_cons_succ, List.getElem_cons_zero, Act.put, List.setIfInBounds_toArray, List.set_cons_zero, List.set_cons_succ])) | (go_big_quiet_op; first | go_big_quiet_on | go_big_quiet_call (exact Calls.regrown_of (Co.out _ (below_regrown _ _ _))))))
                  cases Fo with
                  | false =>
                    iterate 90 (try (first | go_big_quiet_skip | (go_big_quiet_want; first | (refine quiet_vload _ rfl w.heap.size k rfl X0.out ?_; go_big_quiet_on; (try simp only [List.getElem_toArray, List.getElem_cons_succ, List.getElem_cons_zero, Act.put, List.setIfInBounds_toArray, List.set_cons_zero, List.set_cons_succ])) | (refine quiet_vload _ rfl (w.heap.size + 1) j rfl Y0.out ?_; go_big_quiet_on; (try simp only [List.getElem_toArray, List.getElem_cons_succ, List.getElem_cons_zero, Act.put, List.setIfInBounds_toArray, List.set_cons_zero, List.set_cons_succ])) | (go_big_quiet_op; first | go_big_quiet_on | go_big_quiet_call (fail)))))
                    refine wpQuiet_nil ?_
                    intro _ hw'
                    obtain ⟨⟨dq, osq⟩, hw''⟩ := hw'
                    subst hw''
                    go_wp2_with fail
                    go_ret
                    exact ⟨by rw [HF.out]; simp, below_then B0.out (below_regrown W dq osq)⟩
                  | true =>
                    iterate 7 (first | go_big_quiet_skip | (go_big_quiet_want; first | (refine quiet_vload _ rfl w.heap.size k rfl X0.out ?_; go_big_quiet_on; (try simp only [List.getElem_toArray, List.getElem_cons_succ, List.getElem_cons_zero, Act.put, List.setIfInBounds_toArray, List.set_cons_zero, List.set_cons_succ])) | (refine quiet_vload _ rfl (w.heap.size + 1) j rfl Y0.out ?_; go_big_quiet_on; (try simp only [List.getElem_toArray, List.getElem_cons_succ, List.getElem_cons_zero, Act.put, List.setIfInBounds_toArray, List.set_cons_zero, List.set_cons_succ])) | (go_big_quiet_op; first | go_big_quiet_on | go_big_quiet_call (exact Calls.regrown_of (Ce.out _ (below_regrown _ _ _))))))
                    cases Fe with
                    | false =>
                      iterate 90 (try (first | go_big_quiet_skip | (go_big_quiet_want; first | (refine quiet_vload _ rfl w.heap.size k rfl X0.out ?_; go_big_quiet_on; (try simp only [List.getElem_toArray, List.getElem_cons_succ, List.getElem_cons_zero, Act.put, List.setIfInBounds_toArray, List.set_cons_zero, List.set_cons_succ])) | (refine quiet_vload _ rfl (w.heap.size + 1) j rfl Y0.out ?_; go_big_quiet_on; (try simp only [List.getElem_toArray, List.getElem_cons_succ, List.getElem_cons_zero, Act.put, List.setIfInBounds_toArray, List.set_cons_zero, List.set_cons_succ])) | (go_big_quiet_op; first | go_big_quiet_on | go_big_quiet_call (fail)))))
                      refine wpQuiet_nil ?_
                      intro _ hw'
                      obtain ⟨⟨dq, osq⟩, hw''⟩ := hw'
                      subst hw''
                      go_wp2_with fail
                      go_ret
                      exact ⟨by rw [HF.out]; simp, below_then B0.out (below_regrown W dq osq)⟩
                    | true =>
                      iterate 7 (first | go_big_quiet_skip | (go_big_quiet_want; first | (refine quiet_vload _ rfl w.heap.size k rfl X0.out ?_; go_big_quiet_on; (try simp only [List.getElem_toArray, List.getElem_cons_succ, List.getElem_cons_zero, Act.put, List.setIfInBounds_toArray, List.set_cons_zero, List.set_cons_succ])) | (refine quiet_vload _ rfl (w.heap.size + 1) j rfl Y0.out ?_; go_big_quiet_on; (try simp only [List.getElem_toArray, List.getElem_cons_succ, List.getElem_cons_zero, Act.put, List.setIfInBounds_toArray, List.set_cons_zero, List.set_cons_succ])) | (go_big_quiet_op; first | go_big_quiet_on | go_big_quiet_call (exact Calls.regrown_of (Ch.out _ (below_regrown _ _ _))))))
                      refine wpQuiet_nil ?_
                      intro _ hw'
                      obtain ⟨⟨dq, osq⟩, hw''⟩ := hw'
                      subst hw''
                      go_wp2_with fail
                      go_ret
                      exact ⟨by rw [HF.out]; simp, below_then B0.out (below_regrown W dq osq)⟩
end Go.Proofs.YtbighilgkmfemaaGreatDoor

/- Contracts of the program's isMemoryRight, areStacksRight, areHandsRight. -/
namespace Go.Proofs.YtbighilgkmfemaaGreatDoor
open Go.RowKit
set_option linter.unusedVariables false
set_option linter.unusedSimpArgs false

theorem isfrom_is (n a b : Int) (B : Bool) (h : decide (a ≤ n ∧ n ≤ b) = B) (w : World) : Calls Tryz.prog 45 #[.int .i64 n, .int .i64 a, .int .i64 b] w fun e w' => e = .returned (.bool B) ∧ w = w' := by
  rw [← h]
  exact isfrom_any n a b w
set_option maxRecDepth 100000 in
set_option maxHeartbeats 4000000 in
theorem memright_any (k : VmK) (L : VmL) (w : World) (h : IsVm w k L) :
    Calls Tryz.prog 53 #[vmV k] w fun e w' => e = .returned (.bool (rightB L.m && headB k)) ∧ Below w.heap.size w w' := by
  have kk := al_one w (.cells #[.int .i64 k.cm, .int .i64 k.cd, .int .i64 k.cr, .int .i64 k.cw, .int .i64 k.co, .slice k.mA k.mn k.mc, .slice k.pA k.pn k.pc, .int .i64 k.here, .slice k.dA k.dn k.dc, .slice k.rA k.rn k.rc, .slice k.fA k.fn k.fc, .slice k.wA k.wn k.wc, .int .i64 k.last, .slice k.oA k.on k.oc, .slice k.qA k.qn k.qc, .bool k.qo, .slice k.eA k.en k.ec, .int .i64 k.free, .int .i64 k.next, .int .i64 k.arg, .int .i64 k.self, .int .i64 k.now, .slice k.hA k.hn k.hc] 36)
  have B0 := Lib.hid kk
  have X0 := Lib.hid (vbox_new w k)
  have HC := Lib.hid (right_at k.mA k.pA k.mn k.mc k.pn k.pc L.m _ (Lib.hid (h.m.keep kk)))
  obtain ⟨F, hF⟩ : ∃ F, (rightB L.m && headB k) = F := ⟨_, rfl⟩
  have HF : Hid (F = (rightB L.m && headB k)) := hF.symm
  rw [hF]
  obtain ⟨F1, e1⟩ : ∃ F, rightB L.m = F := ⟨_, rfl⟩
  rw [e1] at HF HC
  clear hF e1 h kk
  go_enter Tryz.func53, Tryz.ntmps53
  go_wp2_with fail
  refine HC.out.mono ?_
  rintro e w1 ⟨rfl, bb⟩
  have XP := Lib.hid (X0.out.keep bb)
  have B1 := Lib.hid (below_then B0.out bb)
  clear bb HC
  obtain ⟨p0, p1, p2, p3, p4, p5, p6, p7, p8, p9, p10, p11, p12, p13, p14, p15, p16, p17, p18, p19, p20, p21, p22⟩ := XP.out.use
  clear p1 p2 p3 p4 p8 p9 p10 p11 p12 p13 p14 p15 p16 p17 p18 p19 p20 p21 p22
  cases F1 with
  | false =>
    go_wp2_with fail
    go_ret
    exact ⟨by rw [HF.out]; rfl, B1.out⟩
  | true =>
    by_cases t0 : (k.mn : Int) = k.cm
    · have t1 : ((k.mn : Int) == k.cm) = true := by simpa using t0
      have H2 : Hid (F = decide (1368 ≤ k.here ∧ k.here ≤ k.cm)) := by
        show _ = _
        rw [HF.out]
        unfold headB
        rw [Bool.eq_iff_iff]
        simp [t0]
      obtain ⟨G, hG⟩ : ∃ G, decide (1368 ≤ k.here ∧ k.here ≤ k.cm) = G := ⟨_, rfl⟩
      have HI := Lib.hid (isfrom_is k.here 1368 k.cm G hG)
      rw [hG] at H2
      clear t0 hG HF
      go_wp2_with (go_at_call 45; refine (HI.out _).mono ?_; rintro e w' ⟨rfl, rfl⟩)
      go_ret
      exact ⟨by rw [H2.out]; rfl, B1.out⟩
    · have t1 : ((k.mn : Int) == k.cm) = false := by simpa using t0
      have H2 : Hid (F = false) := by show _ = _; rw [HF.out]; unfold headB; simp [t0]
      clear t0 HF
      go_wp2_with fail
      go_ret
      exact ⟨by rw [H2.out]; rfl, B1.out⟩
set_option maxRecDepth 100000 in
set_option maxHeartbeats 4000000 in
theorem stacksright_any (k : VmK) (L : VmL) (w : World) (h : IsVm w k L) :
    Calls Tryz.prog 54 #[vmV k] w fun e w' => e = .returned (.bool (L.f.all frB && decide ((k.dn : Int) ≤ k.cd ∧ (k.rn : Int) ≤ k.cr ∧ k.fn ≤ 64))) ∧ Below w.heap.size w w' := by
  have kk := al_one w (.cells #[.int .i64 k.cm, .int .i64 k.cd, .int .i64 k.cr, .int .i64 k.cw, .int .i64 k.co, .slice k.mA k.mn k.mc, .slice k.pA k.pn k.pc, .int .i64 k.here, .slice k.dA k.dn k.dc, .slice k.rA k.rn k.rc, .slice k.fA k.fn k.fc, .slice k.wA k.wn k.wc, .int .i64 k.last, .slice k.oA k.on k.oc, .slice k.qA k.qn k.qc, .bool k.qo, .slice k.eA k.en k.ec, .int .i64 k.free, .int .i64 k.next, .int .i64 k.arg, .int .i64 k.self, .int .i64 k.now, .slice k.hA k.hn k.hc] 36)
  have B0 := Lib.hid kk
  have V0 := Lib.hid (h.keep kk)
  have X0 := Lib.hid (vbox_new w k)
  have HLF := Lib.hid h.f.len
  have hfb := rws_small h.f
  obtain ⟨F, hF⟩ : ∃ F, (L.f.all frB && decide ((k.dn : Int) ≤ k.cd ∧ (k.rn : Int) ≤ k.cr ∧ k.fn ≤ 64)) = F := ⟨_, rfl⟩
  have HF : Hid (F = (L.f.all frB && decide ((k.dn : Int) ≤ k.cd ∧ (k.rn : Int) ≤ k.cr ∧ k.fn ≤ 64))) := hF.symm
  rw [hF]
  obtain ⟨W, hW⟩ : ∃ W, W = w.alloc (.cells #[.int .i64 k.cm, .int .i64 k.cd, .int .i64 k.cr, .int .i64 k.cw, .int .i64 k.co, .slice k.mA k.mn k.mc, .slice k.pA k.pn k.pc, .int .i64 k.here, .slice k.dA k.dn k.dc, .slice k.rA k.rn k.rc, .slice k.fA k.fn k.fc, .slice k.wA k.wn k.wc, .int .i64 k.last, .slice k.oA k.on k.oc, .slice k.qA k.qn k.qc, .bool k.qo, .slice k.eA k.en k.ec, .int .i64 k.free, .int .i64 k.next, .int .i64 k.arg, .int .i64 k.self, .int .i64 k.now, .slice k.hA k.hn k.hc] 36) := ⟨_, rfl⟩
  rw [← hW] at B0 V0 X0
  have HW0 := Lib.hid hW
  clear hF h kk hW
  go_enter Tryz.func54, Tryz.ntmps54
  go_upto_region 1 with fail
  rw [← HW0.out]
  obtain ⟨p0, p1, p2, p3, p4, p5, p6, p7, p8, p9, p10, p11, p12, p13, p14, p15, p16, p17, p18, p19, p20, p21, p22⟩ := X0.out.use
  clear p0 p1 p2 p3 p4 p5 p6 p7 p8 p9 p11 p12 p13 p14 p15 p16 p17 p18 p19 p20 p21 p22
  obtain ⟨fa, hfa⟩ : ∃ fa, k.fA = fa := ⟨_, rfl⟩
  rw [hfa] at p10
  have HFM : Hid (Fms W (.slice fa k.fn k.fc) L.f) := by show Fms _ _ _; rw [← hfa]; exact V0.out.f
  clear hfa
  go_wp2_with fail
  clear p10
  go_loopw [8] (fun s7 wr => ∃ (i : Nat), s7 = .int .i64 (i : Int) ∧ i ≤ k.fn ∧ Hid ((L.f.take i).all frB = true) ∧ Hid (Below W.heap.size W wr)) (fun s7 _ => k.fn - (intOf s7).toNat)
  case atStart => exact ⟨0, rfl, Nat.zero_le _, Lib.hid rfl, Lib.hid (Below.refl _ _)⟩
  case round =>
    obtain ⟨i, rfl, hi, HT, HW⟩ := hrel
    have XR := Lib.hid (X0.out.keep HW.out)
    obtain ⟨p0, p1, p2, p3, p4, p5, p6, p7, p8, p9, p10, p11, p12, p13, p14, p15, p16, p17, p18, p19, p20, p21, p22⟩ := XR.out.use
    by_cases hif : i < k.fn
    · have hif' : (i : Int) < (k.fn : Int) := by omega
      obtain ⟨g, o, hA, c1, c2, c3⟩ := fm_cells (HFM.out.keep HW.out) (k := i) (by have := HLF.out; omega)
      have hq : L.f[i]? = some (L.f[i]'(by have := HLF.out; omega)) := List.getElem?_eq_getElem _
      obtain ⟨q, eq⟩ : ∃ q, L.f[i]'(by have := HLF.out; omega) = q := ⟨_, rfl⟩
      rw [eq] at c1 c2 c3 hq
      clear p0 p1 p2 p3 p4 p5 p6 p7 p8 p9 p10 p11 p12 p13 p14 p15 p16 p17 p18 p19 p20 p21 p22
      subst hA
      have HQ := Lib.hid hq
      have HBW := Lib.hid (below_then B0.out HW.out)
      have HA := Lib.hid (al_one wr (.cells #[.int .i64 q.d, .int .i64 q.r, .int .i64 q.ip] 89))
      obtain ⟨G, hG⟩ : ∃ G, decide (0 ≤ q.d ∧ q.d ≤ 256) = G := ⟨_, rfl⟩
      obtain ⟨K, hK⟩ : ∃ K, decide (0 ≤ q.r ∧ q.r ≤ 256) = K := ⟨_, rfl⟩
      have HG := Lib.hid (isfrom_is q.d 0 256 G hG)
      have HK := Lib.hid (isfrom_is q.r 0 256 K hK)
      have HB : Hid (frB q = (G && K)) := by
        show _ = _
        rw [← hG, ← hK]
        unfold frB
        rw [Bool.eq_iff_iff]
        simp only [decide_eq_true_eq, Bool.and_eq_true]
        omega
      clear hq eq hG hK
      cases G with
      | false =>
        have H6 : Hid (F = false) := by show _ = _; rw [HF.out, vall_no HQ.out HB.out]; rfl
        go_wp2_with fail
        refine (HG.out _).mono ?_
        rintro e w9 ⟨rfl, rfl⟩
        go_wp2_with fail
        go_ret
        exact ⟨by rw [H6.out]; rfl, below_then HBW.out HA.out⟩
      | true =>
        cases K with
        | false =>
          have H6 : Hid (F = false) := by show _ = _; rw [HF.out, vall_no HQ.out HB.out]; rfl
          go_wp2_with fail
          refine (HG.out _).mono ?_
          rintro e w9 ⟨rfl, rfl⟩
          go_wp2_with fail
          refine (HK.out _).mono ?_
          rintro e w8 ⟨rfl, rfl⟩
          go_wp2_with fail
          go_ret
          exact ⟨by rw [H6.out]; rfl, below_then HBW.out HA.out⟩
        | true =>
          have HT2 := Lib.hid (vall_take HT.out HQ.out HB.out)
          go_wp2_with fail
          refine (HG.out _).mono ?_
          rintro e w9 ⟨rfl, rfl⟩
          go_wp2_with fail
          refine (HK.out _).mono ?_
          rintro e w8 ⟨rfl, rfl⟩
          go_wp2_with fail
          go_roundw
          case rel => exact ⟨i + 1, by simp, by omega, HT2, Lib.hid (below_then HW.out HA.out)⟩
          case measure => simp [intOf]; omega
    · obtain rfl : i = k.fn := by omega
      rw [show L.f.take k.fn = L.f by rw [← HLF.out, List.take_length]] at HT
      have H6 : Hid (F = decide ((k.dn : Int) ≤ k.cd ∧ (k.rn : Int) ≤ k.cr ∧ k.fn ≤ 64)) := by show _ = _; rw [HF.out, HT.out]; rfl
      have B5 := Lib.hid (below_then B0.out HW.out)
      clear hif hi HF HT
      clear p0 p3 p4 p5 p6 p7 p11 p12 p13 p14 p15 p16 p17 p18 p19 p20 p21 p22
      by_cases t0 : (k.dn : Int) ≤ k.cd
      · by_cases t1 : (k.rn : Int) ≤ k.cr
        · have H7 : Hid (F = decide ((k.fn : Int) ≤ 64)) := by show _ = _; rw [H6.out, decide_eq_decide]; omega
          go_wp2_with fail
          go_ret
          exact ⟨by rw [H7.out]; rfl, B5.out⟩
        · have H7 : Hid (F = false) := by show _ = _; rw [H6.out, decide_eq_false_iff_not]; omega
          have u1 : decide ((k.rn : Int) ≤ k.cr) = false := by simp; omega
          clear t1
          go_wp2_with fail
          go_ret
          exact ⟨by rw [H7.out]; rfl, B5.out⟩
      · have H7 : Hid (F = false) := by show _ = _; rw [H6.out, decide_eq_false_iff_not]; omega
        have u1 : decide ((k.dn : Int) ≤ k.cd) = false := by simp; omega
        clear t0
        go_wp2_with fail
        go_ret
        exact ⟨by rw [H7.out]; rfl, B5.out⟩
set_option maxRecDepth 100000 in
set_option maxHeartbeats 4000000 in
theorem handsright_any (A : Option Addr) (n c : Nat) (l : List Hn) (w : World) (h : Hns w (.slice A n c) l) :
    Calls Tryz.prog 57 #[.slice A n c] w fun e w' => e = .returned (.bool (l.all hnB && decide (n ≤ 64))) ∧ Below w.heap.size w w' := by
  have V0 := Lib.hid h
  have HLH := Lib.hid h.len
  have hhb := rws_small h
  obtain ⟨F, hF⟩ : ∃ F, (l.all hnB && decide (n ≤ 64)) = F := ⟨_, rfl⟩
  have HF : Hid (F = (l.all hnB && decide (n ≤ 64))) := hF.symm
  rw [hF]
  clear hF h
  go_enter Tryz.func57, Tryz.ntmps57
  go_wp2_with fail
  go_loopw [7] (fun s7 wr => ∃ (i : Nat), s7 = .int .i64 (i : Int) ∧ i ≤ n ∧ Hid ((l.take i).all hnB = true) ∧ Hid (Below w.heap.size w wr)) (fun s7 _ => n - (intOf s7).toNat)
  case atStart => exact ⟨0, rfl, Nat.zero_le _, Lib.hid rfl, Lib.hid (Below.refl _ _)⟩
  case round =>
    obtain ⟨i, rfl, hi, HT, HW⟩ := hrel
    by_cases hif : i < n
    · have hif' : (i : Int) < (n : Int) := by omega
      obtain ⟨g, o, hA, c1, c2, c3, c4⟩ := hn_cells (V0.out.keep HW.out) (k := i) (by have := HLH.out; omega)
      have hq : l[i]? = some (l[i]'(by have := HLH.out; omega)) := List.getElem?_eq_getElem _
      obtain ⟨q, eq⟩ : ∃ q, l[i]'(by have := HLH.out; omega) = q := ⟨_, rfl⟩
      rw [eq] at c1 c2 c3 c4 hq
      subst hA
      have HQ := Lib.hid hq
      have HA := Lib.hid (al_one wr (.cells #[.int .i64 q.xt, .int .i64 q.fuel, .int .i64 q.strikes, .bool q.out] 91))
      clear hq eq
      by_cases m0 : q.fuel < 0
      · have H6 : Hid (F = false) := by show _ = _; rw [HF.out, vall_no HQ.out (by unfold hnB; rw [decide_eq_false_iff_not]; omega)]; rfl
        go_wp2_with fail
        go_ret
        exact ⟨by rw [H6.out]; rfl, below_then HW.out HA.out⟩
      · have n0 : decide (q.fuel < 0) = false := by simp; omega
        have HT2 := Lib.hid (vall_take HT.out HQ.out (by unfold hnB; rw [decide_eq_true_eq]; omega))
        clear m0
        go_wp2_with fail
        go_roundw
        case rel => exact ⟨i + 1, by simp, by omega, HT2, Lib.hid (below_then HW.out HA.out)⟩
        case measure => simp [intOf]; omega
    · obtain rfl : i = n := by omega
      rw [show l.take i = l by rw [← HLH.out, List.take_length]] at HT
      have H6 : Hid (F = decide ((i : Int) ≤ 64)) := by show _ = _; rw [HF.out, HT.out, Bool.true_and, decide_eq_decide]; omega
      clear hif hi HF HT
      go_wp2_with fail
      go_ret
      exact ⟨by rw [H6.out]; rfl, HW.out⟩
end Go.Proofs.YtbighilgkmfemaaGreatDoor

/- The contract of the program's Right. -/
namespace Go.Proofs.YtbighilgkmfemaaGreatDoor
open Go.RowKit
set_option linter.unusedVariables false
set_option linter.unusedSimpArgs false

set_option maxRecDepth 100000 in
set_option maxHeartbeats 4000000 in
theorem vright_any (k : VmK) (L : VmL) (w : World) (HN : Hid (k.wn ≤ 100000)) (h : IsVm w k L) :
    Calls Tryz.prog 20 #[vmV k] w fun e w' => e = .returned (.bool (vRight k L)) ∧ Below w.heap.size w w' := by
  have kk := al_one w (.cells #[.int .i64 k.cm, .int .i64 k.cd, .int .i64 k.cr, .int .i64 k.cw, .int .i64 k.co, .slice k.mA k.mn k.mc, .slice k.pA k.pn k.pc, .int .i64 k.here, .slice k.dA k.dn k.dc, .slice k.rA k.rn k.rc, .slice k.fA k.fn k.fc, .slice k.wA k.wn k.wc, .int .i64 k.last, .slice k.oA k.on k.oc, .slice k.qA k.qn k.qc, .bool k.qo, .slice k.eA k.en k.ec, .int .i64 k.free, .int .i64 k.next, .int .i64 k.arg, .int .i64 k.self, .int .i64 k.now, .slice k.hA k.hn k.hc] 36)
  have B0 := Lib.hid kk
  have V0 := Lib.hid (h.keep kk)
  have X0 := Lib.hid (vbox_new w k)
  obtain ⟨F, hF⟩ : ∃ F, vRight k L = F := ⟨_, rfl⟩
  have HF : Hid (F = (fitsV k && ((rightB L.m && headB k) && ((L.f.all frB && decide ((k.dn : Int) ≤ k.cd ∧ (k.rn : Int) ≤ k.cr ∧ k.fn ≤ 64)) && (dRight L.dict && (decide ((k.wn : Int) ≤ k.cw) && (decide ((k.on : Int) ≤ k.co) && (pRight k.qo L.q && (decide ((k.en : Int) ≤ 16) && (decide (0 ≤ k.free ∧ k.free ≤ 64) && (decide (0 ≤ k.next ∧ k.next ≤ 4611686018427387904) && (L.h.all hnB && decide (k.hn ≤ 64))))))))))))) := by
    show _ = _
    rw [← hF]
    unfold vRight tailB
    rw [Bool.eq_iff_iff]
    simp only [Bool.and_eq_true, decide_eq_true_eq]
    constructor
    · rintro ⟨a, b, c, d, e, f, g, h1, h2, h3, h4, h5, h6, h7, h8, h9, h10, h11⟩
      exact ⟨a, ⟨b, e⟩, ⟨f, h1, h2, h3⟩, c, h4, h5, d, by omega, ⟨h7, h8⟩, ⟨h9, h10⟩, g, h11⟩
    · rintro ⟨a, ⟨b, e⟩, ⟨f, h1, h2, h3⟩, c, h4, h5, d, h6, ⟨h7, h8⟩, ⟨h9, h10⟩, g, h11⟩
      exact ⟨a, b, c, d, e, f, g, h1, h2, h3, h4, h5, by omega, h7, h8, h9, h10, h11⟩
  rw [hF]
  unfold fitsV at HF
  obtain ⟨F0, e0⟩ : ∃ F, fitsB k.cm k.cd k.cr k.cw k.co = F := ⟨_, rfl⟩
  rw [e0] at HF
  obtain ⟨F1, e1⟩ : ∃ F, (rightB L.m && headB k) = F := ⟨_, rfl⟩
  rw [e1] at HF
  obtain ⟨F2, e2⟩ : ∃ F, (L.f.all frB && decide ((k.dn : Int) ≤ k.cd ∧ (k.rn : Int) ≤ k.cr ∧ k.fn ≤ 64)) = F := ⟨_, rfl⟩
  rw [e2] at HF
  obtain ⟨F3, e3⟩ : ∃ F, dRight L.dict = F := ⟨_, rfl⟩
  rw [e3] at HF
  obtain ⟨F4, e4⟩ : ∃ F, decide ((k.wn : Int) ≤ k.cw) = F := ⟨_, rfl⟩
  rw [e4] at HF
  obtain ⟨F5, e5⟩ : ∃ F, decide ((k.on : Int) ≤ k.co) = F := ⟨_, rfl⟩
  rw [e5] at HF
  obtain ⟨F6, e6⟩ : ∃ F, pRight k.qo L.q = F := ⟨_, rfl⟩
  rw [e6] at HF
  obtain ⟨F7, e7⟩ : ∃ F, decide ((k.en : Int) ≤ 16) = F := ⟨_, rfl⟩
  rw [e7] at HF
  obtain ⟨F8, e8⟩ : ∃ F, decide (0 ≤ k.free ∧ k.free ≤ 64) = F := ⟨_, rfl⟩
  rw [e8] at HF
  obtain ⟨F9, e9⟩ : ∃ F, decide (0 ≤ k.next ∧ k.next ≤ 4611686018427387904) = F := ⟨_, rfl⟩
  rw [e9] at HF
  obtain ⟨F10, e10⟩ : ∃ F, (L.h.all hnB && decide (k.hn ≤ 64)) = F := ⟨_, rfl⟩
  rw [e10] at HF
  have E0 := Lib.hid e0
  have E1 := Lib.hid e1
  have E2 := Lib.hid e2
  have E3 := Lib.hid e3
  have E6 := Lib.hid e6
  have E8 := Lib.hid e8
  have E9 := Lib.hid e9
  have E10 := Lib.hid e10
  clear e0 e1 e2 e3 e6 e8 e9 e10 h hF kk
  go_enter Tryz.func20, Tryz.ntmps20
  obtain ⟨p0, p1, p2, p3, p4, p5, p6, p7, p8, p9, p10, p11, p12, p13, p14, p15, p16, p17, p18, p19, p20, p21, p22⟩ := X0.out.use
  clear p5 p6 p7 p8 p9 p10 p11 p12 p13 p14 p15 p16 p17 p18 p19 p20 p21 p22
  have HC := Lib.hid (fits_any k.cm k.cd k.cr k.cw k.co (w.alloc (.cells #[.int .i64 k.cm, .int .i64 k.cd, .int .i64 k.cr, .int .i64 k.cw, .int .i64 k.co, .slice k.mA k.mn k.mc, .slice k.pA k.pn k.pc, .int .i64 k.here, .slice k.dA k.dn k.dc, .slice k.rA k.rn k.rc, .slice k.fA k.fn k.fc, .slice k.wA k.wn k.wc, .int .i64 k.last, .slice k.oA k.on k.oc, .slice k.qA k.qn k.qc, .bool k.qo, .slice k.eA k.en k.ec, .int .i64 k.free, .int .i64 k.next, .int .i64 k.arg, .int .i64 k.self, .int .i64 k.now, .slice k.hA k.hn k.hc] 36)))
  rw [E0.out] at HC
  go_wp2_with fail
  refine HC.out.mono ?_
  rintro e w1 ⟨rfl, bb⟩
  have X1 := Lib.hid (X0.out.keep bb)
  have V1 := Lib.hid (V0.out.keep bb)
  have B1 := Lib.hid (below_then B0.out bb)
  clear bb HC X0 V0 B0 p0 p1 p2 p3 p4
  cases F0 with
  | false =>
    go_wp2_with fail
    go_ret
    exact ⟨by rw [HF.out]; simp, B1.out⟩
  | true =>
    have HC := Lib.hid (memright_any k L _ V1.out)
    rw [E1.out] at HC
    go_wp2_with (refine wpList_vload (by rfl) _ rfl w.heap.size k rfl X1.out ?_)
    refine HC.out.mono ?_
    rintro e w2 ⟨rfl, bb⟩
    have X2 := Lib.hid (X1.out.keep bb)
    have V2 := Lib.hid (V1.out.keep bb)
    have B2 := Lib.hid (below_then B1.out bb)
    clear bb HC X1 V1 B1 
    cases F1 with
    | false =>
      go_wp2_with fail
      go_ret
      exact ⟨by rw [HF.out]; simp, B2.out⟩
    | true =>
      have HC := Lib.hid (stacksright_any k L _ V2.out)
      rw [E2.out] at HC
      go_wp2_with (refine wpList_vload (by rfl) _ rfl w.heap.size k rfl X2.out ?_)
      refine HC.out.mono ?_
      rintro e w3 ⟨rfl, bb⟩
      have X3 := Lib.hid (X2.out.keep bb)
      have V3 := Lib.hid (V2.out.keep bb)
      have B3 := Lib.hid (below_then B2.out bb)
      clear bb HC X2 V2 B2 
      cases F2 with
      | false =>
        go_wp2_with fail
        go_ret
        exact ⟨by rw [HF.out]; simp, B3.out⟩
      | true =>
        obtain ⟨p0, p1, p2, p3, p4, p5, p6, p7, p8, p9, p10, p11, p12, p13, p14, p15, p16, p17, p18, p19, p20, p21, p22⟩ := X3.out.use
        clear p0 p1 p2 p3 p4 p5 p6 p7 p8 p9 p10 p12 p13 p14 p15 p16 p17 p18 p19 p20 p21 p22
        have HC := Lib.hid (dright_any k.wA k.wn k.wc L.dict _ V3.out.dict HN.out)
        rw [E3.out] at HC
        go_wp2_with fail
        refine HC.out.mono ?_
        rintro e w4 ⟨rfl, bb⟩
        have X4 := Lib.hid (X3.out.keep bb)
        have V4 := Lib.hid (V3.out.keep bb)
        have B4 := Lib.hid (below_then B3.out bb)
        clear bb HC X3 V3 B3 p11
        cases F3 with
        | false =>
          go_wp2_with fail
          go_ret
          exact ⟨by rw [HF.out]; simp, B4.out⟩
        | true =>
          obtain ⟨p0, p1, p2, p3, p4, p5, p6, p7, p8, p9, p10, p11, p12, p13, p14, p15, p16, p17, p18, p19, p20, p21, p22⟩ := X4.out.use
          clear p0 p1 p2 p5 p6 p7 p8 p9 p10 p12 p16 p17 p18 p19 p20 p21 p22
          cases F4 with
          | false =>
            go_wp2_with fail
            go_ret
            exact ⟨by rw [HF.out]; simp, B4.out⟩
          | true =>
            have n4 : (k.wn : Int) ≤ k.cw := of_decide_eq_true e4
            cases F5 with
            | false =>
              go_wp2_with fail
              go_ret
              exact ⟨by rw [HF.out]; simp, B4.out⟩
            | true =>
              have n5 : (k.on : Int) ≤ k.co := of_decide_eq_true e5
              have HC := Lib.hid (right_any k.qA k.qn k.qc k.qo L.q _ V4.out.q)
              rw [E6.out] at HC
              go_wp2_with fail
              refine HC.out.mono ?_
              rintro e w5 ⟨rfl, bb⟩
              have X5 := Lib.hid (X4.out.keep bb)
              have V5 := Lib.hid (V4.out.keep bb)
              have B5 := Lib.hid (below_then B4.out bb)
              clear bb HC X4 V4 B4 p3 p4 p11 p13 p14 p15
              cases F6 with
              | false =>
                go_wp2_with fail
                go_ret
                exact ⟨by rw [HF.out]; simp, B5.out⟩
              | true =>
                obtain ⟨p0, p1, p2, p3, p4, p5, p6, p7, p8, p9, p10, p11, p12, p13, p14, p15, p16, p17, p18, p19, p20, p21, p22⟩ := X5.out.use
                clear p0 p1 p2 p3 p4 p5 p6 p7 p8 p9 p10 p11 p12 p13 p14 p15 p19 p20 p21
                cases F7 with
                | false =>
                  go_wp2_with fail
                  go_ret
                  exact ⟨by rw [HF.out]; simp, B5.out⟩
                | true =>
                  have n7 : (k.en : Int) ≤ 16 := of_decide_eq_true e7
                  have HI := Lib.hid (isfrom_is k.free 0 64 F8 E8.out)
                  have HJ := Lib.hid (isfrom_is k.next 0 4611686018427387904 F9 E9.out)
                  have HC := Lib.hid (handsright_any k.hA k.hn k.hc L.h _ V5.out.h)
                  rw [E10.out] at HC
                  go_wp2_with fail
                  refine (HI.out _).mono ?_
                  rintro e w9 ⟨rfl, rfl⟩
                  cases F8 with
                  | false =>
                    go_wp2_with fail
                    go_ret
                    exact ⟨by rw [HF.out]; simp, B5.out⟩
                  | true =>
                    go_wp2_with fail
                    refine (HJ.out _).mono ?_
                    rintro e w9 ⟨rfl, rfl⟩
                    cases F9 with
                    | false =>
                      go_wp2_with fail
                      go_ret
                      exact ⟨by rw [HF.out]; simp, B5.out⟩
                    | true =>
                      go_wp2_with fail
                      refine HC.out.mono ?_
                      rintro e w9 ⟨rfl, bb⟩
                      have B6 := Lib.hid (below_then B5.out bb)
                      clear bb
                      go_wp2_with fail
                      go_ret
                      exact ⟨by rw [HF.out]; simp, B6.out⟩
end Go.Proofs.YtbighilgkmfemaaGreatDoor

/- What the program's calls leave that answer a machine; New. -/
namespace Go.Proofs.YtbighilgkmfemaaGreatDoor
open Go.RowKit
set_option linter.unusedVariables false
set_option linter.unusedSimpArgs false

theorem vpush_use (k : VmK) (L : VmL) (x : Int) (w : World) (hn : k.dn ≤ 65536) (h : IsVm w k L) :
    Calls Tryz.prog 26 #[vmV k, .int .i64 x] w (POut k (pushV k L x) (pushC L.d k.cd) w) := by
  refine (vpush_any k L.d x w hn (Lib.hid h.d)).mono ?_
  rintro e w1 ⟨B, m, d, rfl, hr, b⟩
  have g := h.keep b
  exact ⟨_, rfl, ⟨g.m, hr, g.r, g.f, g.dict, g.o, g.q, g.e, g.h⟩, ⟨rfl, rfl, rfl, rfl, rfl, rfl, rfl, rfl, rfl, rfl, rfl, rfl, rfl⟩, b⟩
theorem vpop_use (k : VmK) (L : VmL) (w : World) (hn : k.dn ≤ 65536) (h : IsVm w k L) :
    Calls Tryz.prog 28 #[vmV k] w (QOut (popX L.d) k (popV L) (popC L.d) w) := by
  refine (vpop_any k L.d w hn (Lib.hid h.d)).mono ?_
  rintro e w1 ⟨B, m, d, rfl, hr, b⟩
  have g := h.keep b
  exact ⟨_, rfl, ⟨g.m, hr, g.r, g.f, g.dict, g.o, g.q, g.e, g.h⟩, ⟨rfl, rfl, rfl, rfl, rfl, rfl, rfl, rfl, rfl, rfl, rfl, rfl, rfl⟩, b⟩
theorem vrpush_use (k : VmK) (L : VmL) (x : Int) (w : World) (hn : k.rn ≤ 65536) (h : IsVm w k L) :
    Calls Tryz.prog 30 #[vmV k, .int .i64 x] w (POut k (rpushV k L x) (rpushC L.r k.cr) w) := by
  refine (vrpush_any k L.r x w hn (Lib.hid h.r)).mono ?_
  rintro e w1 ⟨B, m, d, rfl, hr, b⟩
  have g := h.keep b
  exact ⟨_, rfl, ⟨g.m, g.d, hr, g.f, g.dict, g.o, g.q, g.e, g.h⟩, ⟨rfl, rfl, rfl, rfl, rfl, rfl, rfl, rfl, rfl, rfl, rfl, rfl, rfl⟩, b⟩
theorem vrpop_use (k : VmK) (L : VmL) (w : World) (hn : k.rn ≤ 65536) (h : IsVm w k L) :
    Calls Tryz.prog 32 #[vmV k] w (QOut (popX L.r) k (rpopV L) (rpopC L.r) w) := by
  refine (vrpop_any k L.r w hn (Lib.hid h.r)).mono ?_
  rintro e w1 ⟨B, m, d, rfl, hr, b⟩
  have g := h.keep b
  exact ⟨_, rfl, ⟨g.m, g.d, hr, g.f, g.dict, g.o, g.q, g.e, g.h⟩, ⟨rfl, rfl, rfl, rfl, rfl, rfl, rfl, rfl, rfl, rfl, rfl, rfl, rfl⟩, b⟩
theorem vprint_use (k : VmK) (L : VmL) (s : List UInt8) (w : World) (hn : k.on ≤ 65536) (h0 : 0 ≤ k.co) (h6 : k.co ≤ 65536) (hs : s.length ≤ 100000) (h : IsVm w k L) :
    Calls Tryz.prog 34 #[vmV k, .string (strB s)] w (POut k (printV k L s) (printC L.o s k.co) w) := by
  refine (vprint_any k L.o s w hn h0 h6 hs (Lib.hid h.o)).mono ?_
  rintro e w1 ⟨B, m, d, rfl, hr, b⟩
  have g := h.keep b
  exact ⟨_, rfl, ⟨g.m, g.d, g.r, g.f, g.dict, hr, g.q, g.e, g.h⟩, ⟨rfl, rfl, rfl, rfl, rfl, rfl, rfl, rfl, rfl, rfl, rfl, rfl, rfl⟩, b⟩
/-- What New leaves. -/
def NewUse (m d r v o : Int) (w : World) (e : Ending) (w' : World) : Prop :=
  ∃ k C, e = .returned (.tuple #[vmV k, .int .i64 C]) ∧ (fitsB m d r v o = true → C = 0 ∧ ∃ L : Nat, m = (L : Int) ∧ IsVm w' k (newL L) ∧ Sc k (confK m d r v o)) ∧ (fitsB m d r v o = false → C = -24 ∧ k = vm0) ∧ Below w.heap.size w w'
theorem vnew_use (m d r v o : Int) (w : World) (HT : Tab w) : Calls Tryz.prog 8 #[.agg #[.int .i64 m, .int .i64 d, .int .i64 r, .int .i64 v, .int .i64 o]] w (NewUse m d r v o w) := by
  refine (new_any2 m d r v o w HT).mono ?_
  rintro e w1 ⟨h1, h2, b⟩
  cases hf : fitsB m d r v o with
  | true =>
    obtain ⟨L, A1, c1, A2, c2, rfl, rfl, hv⟩ := h1 hf
    exact ⟨_, _, rfl, fun _ => ⟨rfl, L, rfl, hv, sc_new _ _ _ _ _ _ _ _ _⟩, fun e => absurd (hf.symm.trans e) (by decide), b⟩
  | false =>
    exact ⟨vm0, -24, h2 hf, fun e => absurd (hf.symm.trans e) (by decide), fun _ => ⟨rfl, rfl⟩, b⟩
theorem kind_new {w : World} {k : VmK} {L i : Nat} {p : Int} (h : IsVm w k (newL L)) (hL : 1368 ≤ L) (h6 : L ≤ 65536) (hi : i < 167) (hp : p = ((32 + 8 * i : Nat) : Int)) :
    Calls Tryz.prog 24 #[vmV k, .int .i64 p] w fun e w' => e = .returned (.tuple #[.int .i64 ((numN i : Nat) : Int), .int .i64 0]) ∧ Below w.heap.size w w' := by
  subst hp
  have hm : k.mn = L := by have := h.m.len1; rw [← this]; exact rowN_len L 167
  have hc := vkind_any k (newL L).m ((32 + 8 * i : Nat) : Int) w (Lib.hid h.m) (by omega)
  obtain ⟨e1, e2⟩ := kind_num hL hi
  rw [hm] at hc
  rw [show (newL L).m = (rowN L 167, []) from rfl, e1, e2] at hc
  exact hc
theorem wpList_vstore {ops : Array Oper} {rest : List Oper} {o : Oper} {a : Act} {Q : Exit → Act → World → Prop} {w : World} (hw : Region.wanted o (yielded ops a.tmps) = true) (x y : Operand) (ho : o.op = .store 36 x y)
    (b : Nat) (j k : VmK) (hx : a.eval x = .pointer (some ⟨b, 0, none⟩)) (hy : a.eval y = vmV k) (hb : VBox w b j) (h : wpList Tryz.prog ops Q rest (a.put o.dst undef) (w.setRow b (vmC k))) : wpList Tryz.prog ops Q (o :: rest) a w :=
  wpList_step fun K hK => by
    rw [if_pos hw]
    exact wp_store_row 36 x y ho b (vmC k) hx hy _ _ hb vm_info rfl (vm_one k) (hK _ _ h)
/-- A machine laid in a box of its own. -/
theorem vlay (w : World) (k : VmK) : Below w.heap.size w ((w.alloc (.cells (vmC vm0) 36)).setRow w.heap.size (vmC k)) ∧ VBox ((w.alloc (.cells (vmC vm0) 36)).setRow w.heap.size (vmC k)) w.heap.size k :=
  ⟨below_setRow (al_one _ _) (Nat.le_refl _) _, vrow (vbox_zero w) k⟩
end Go.Proofs.YtbighilgkmfemaaGreatDoor

/- The head of all statements of layer 10: the document's example comes out. -/
namespace Go.Proofs.YtbighilgkmfemaaGreatDoor
open Go.RowKit
set_option linter.unusedVariables false
set_option linter.unusedSimpArgs false

set_option maxRecDepth 100000 in
set_option maxHeartbeats 4000000 in
theorem conf_any (w : World) : Calls Tryz.prog 36 #[] w fun e w' => e = .returned (.agg #[.int .i64 2048, .int .i64 32, .int .i64 32, .int .i64 200, .int .i64 500]) ∧ Below w.heap.size w w' := by
  go_enter Tryz.func36, Tryz.ntmps36
  go_wp2
  refine bodyPost_ret (v := .agg #[.int .i64 2048, .int .i64 32, .int .i64 32, .int .i64 200, .int .i64 500]) ?_ rfl ?_
  · simp [results, Tryz.results36, go_sem]
  · exact ⟨rfl, al_one w _⟩
set_option maxRecDepth 100000 in
set_option maxHeartbeats 4000000 in
theorem shown_any (w : World) (HT : Tab w) : Calls Tryz.prog 6 #[] w fun e w' => e = .returned (.bool true) ∧ Below w.heap.size w w' := by
  have T0 := Lib.hid HT
  have B0 := Lib.hid (Below.refl w.heap.size w)
  clear HT
  go_enter Tryz.func6, Tryz.ntmps6
  go_wp2_with fail
  refine (conf_any _).mono ?_
  rintro e w1 ⟨rfl, bb⟩
  have T1 := Lib.hid (T0.out.keep bb)
  have B1 := Lib.hid (below_then B0.out bb)
  clear bb T0 B0
  go_wp2_with fail
  refine (vnew_use 2048 32 32 200 500 _ T1.out).mono ?_
  rintro e w2 ⟨k, C, rfl, h1, _, bb⟩
  obtain ⟨rfl, L, hL, hv, hs⟩ := h1 (by decide)
  obtain rfl : L = 2048 := by omega
  have HS := Lib.hid hs
  have hrn : vRight k (newL 2048) = true := right_new hv hs (by decide)
  have HRN := Lib.hid hrn
  clear h1 hL hs hrn
  have T2 := Lib.hid (T1.out.keep bb)
  have B2 := Lib.hid (below_then B1.out bb)
  have M2 := Lib.hid hv
  clear bb T1 B1
  clear hv
  go_upto_region 2 with (refine wpList_vstore (by rfl) _ _ rfl _ vm0 k rfl rfl (vbox_zero _) ?_)
  generalize hw3 : World.setRow _ _ _ = w3
  have kb : Below w2.heap.size w2 w3 := by rw [← hw3]; exact below_setRow (al_one _ _) (Nat.le_refl _) _
  have hx : VBox w3 w2.heap.size k := by rw [← hw3]; exact vrow (vbox_zero w2) k
  clear hw3
  have T3 := Lib.hid (T2.out.keep kb)
  have M3 := Lib.hid (M2.out.keep kb)
  have B3 := Lib.hid (below_then B2.out kb)
  have V3 := Lib.hid hx
  clear kb T2 M2 B2
  clear hx
  have HC := Lib.hid (kind_new (i := 23) (p := 216) M3.out (by decide) (by decide) (by decide) rfl)
  rw [show ((numN 23 : Nat) : Int) = 23 from rfl] at HC
  go_wp2_with (first | (refine wpList_vload (by rfl) _ rfl w2.heap.size k rfl V3.out ?_))
  refine (HC.out).mono ?_
  rintro e w4 ⟨rfl, bb⟩
  clear HC
  have T4 := Lib.hid (T3.out.keep bb)
  have M4 := Lib.hid (M3.out.keep bb)
  have V4 := Lib.hid (V3.out.keep bb)
  have B4 := Lib.hid (below_then B3.out bb)
  clear bb T3 M3 V3 B3
  obtain ⟨pV0, pV1, pV2, pV3, pV4, pV5, pV6, pV7, pV8, pV9, pV10, pV11, pV12, pV13, pV14, pV15, pV16, pV17, pV18, pV19, pV20, pV21, pV22⟩ := V4.out.use
  clear pV0 pV1 pV2 pV3 pV4 pV5 pV6 pV7 pV8 pV9 pV10 pV12 pV13 pV14 pV15 pV16 pV17 pV18 pV19 pV20 pV21 pV22
  go_wp2_with fail
  have HC := Lib.hid (rfind_any k.wA k.wn k.wc (newW 167) [100, 117, 112] _ M4.out.dict (by have := M4.out.dict.len; rw [← this]; decide) (fun q hq => ⟨(words_few q hq).1, (words_few q hq).2.1⟩) (fun q hq => Nat.le_trans (words_few q hq).2.2 (by decide)) (by decide))
  rw [find_dup] at HC
  obtain ⟨q, hq⟩ : ∃ q, gotW (newW 167) (some 23) = q := ⟨_, rfl⟩
  have hxt : q.xt = 216 := by rw [← hq]; decide +kernel
  have HXT := Lib.hid hxt
  rw [hq] at HC
  clear hq hxt
  refine (HC.out).mono ?_
  rintro e w5 ⟨rfl, bb⟩
  clear HC
  clear pV11
  have T5 := Lib.hid (T4.out.keep bb)
  have M5 := Lib.hid (M4.out.keep bb)
  have V5 := Lib.hid (V4.out.keep bb)
  have B5 := Lib.hid (below_then B4.out bb)
  clear bb T4 M4 V4 B4
  go_upto_region 4 with fail
  generalize hw : World.alloc _ _ = w6
  have kb : Below w5.heap.size w5 w6 := by rw [← hw]; exact al_one _ _
  have hx : WBox w6 w5.heap.size q := by rw [← hw]; exact wbox_new _ _
  clear hw
  have T6 := Lib.hid (T5.out.keep kb)
  have M6 := Lib.hid (M5.out.keep kb)
  have V6 := Lib.hid (V5.out.keep kb)
  have B6 := Lib.hid (below_then B5.out kb)
  have Q6 := Lib.hid hx
  clear kb T5 M5 V5 B5
  clear hx
  obtain ⟨pV0, pV1, pV2, pV3, pV4, pV5, pV6, pV7, pV8, pV9, pV10, pV11, pV12, pV13, pV14, pV15, pV16, pV17, pV18, pV19, pV20, pV21, pV22⟩ := V6.out.use
  clear pV0 pV1 pV2 pV3 pV4 pV7 pV8 pV9 pV10 pV11 pV12 pV13 pV14 pV15 pV16 pV17 pV18 pV19 pV20 pV21 pV22
  have hmn : k.mn = 2048 := by have := M6.out.m.len1; rw [← this]; exact rowN_len 2048 167
  have HC := Lib.hid (rfetch_at k.mA k.pA k.mn k.mc k.pn k.pc (rowN 2048 167, []) 0 _ (Lib.hid M6.out.m) (by omega))
  rw [fetch_base (by decide), hmn, show cellC 2048 0 = 0 from by decide] at HC
  clear hmn
  go_wp2_with fail
  have hmn : k.mn = 2048 := by have := M6.out.m.len1; rw [← this]; exact rowN_len 2048 167
  rw [hmn]
  clear hmn
  refine (HC.out).mono ?_
  rintro e w7 ⟨rfl, bb⟩
  clear HC
  clear pV5 pV6
  have T7 := Lib.hid (T6.out.keep bb)
  have M7 := Lib.hid (M6.out.keep bb)
  have V7 := Lib.hid (V6.out.keep bb)
  have Q7 := Lib.hid (Q6.out.keep bb)
  have B7 := Lib.hid (below_then B6.out bb)
  clear bb T6 M6 V6 Q6 B6
  have hcd : k.cd = 32 := HS.out.cd
  have hpc : pushC (newL 2048).d k.cd = 0 := by rw [hcd]; rfl
  have hpl : pushL (newL 2048).d 7 k.cd = [7] := by rw [hcd]; rfl
  have HPL := Lib.hid hpl
  have HC := Lib.hid (vpush_use k (newL 2048) 7 w7 (by have := M7.out.d.1; rw [← this]; decide) M7.out)
  rw [hpc] at HC
  clear hcd hpc hpl
  go_wp2_with (first | (refine wpList_vload (by rfl) _ rfl w2.heap.size k rfl V7.out ?_))
  refine (HC.out).mono ?_
  rintro e w8 ⟨kx, rfl, hv, hsx, bb⟩
  have HSX := Lib.hid hsx
  clear HC hsx
  have T8 := Lib.hid (T7.out.keep bb)
  have M8 := Lib.hid (M7.out.keep bb)
  have V8 := Lib.hid (V7.out.keep bb)
  have Q8 := Lib.hid (Q7.out.keep bb)
  have B8 := Lib.hid (below_then B7.out bb)
  have MX8 := Lib.hid hv
  clear bb T7 M7 V7 Q7 B7
  clear hv
  go_upto_region 6 with (refine wpList_vstore (by rfl) _ _ rfl _ vm0 kx rfl rfl (vbox_zero _) ?_)
  generalize hw9 : World.setRow _ _ _ = w9
  have kb : Below w8.heap.size w8 w9 := by rw [← hw9]; exact below_setRow (al_one _ _) (Nat.le_refl _) _
  have hx : VBox w9 w8.heap.size kx := by rw [← hw9]; exact vrow (vbox_zero w8) kx
  clear hw9
  have T9 := Lib.hid (T8.out.keep kb)
  have M9 := Lib.hid (M8.out.keep kb)
  have V9 := Lib.hid (V8.out.keep kb)
  have Q9 := Lib.hid (Q8.out.keep kb)
  have MX9 := Lib.hid (MX8.out.keep kb)
  have B9 := Lib.hid (below_then B8.out kb)
  have X9 := Lib.hid hx
  clear kb T8 M8 V8 Q8 MX8 B8
  clear hx
  have HC := Lib.hid (vpop_use kx (pushV k (newL 2048) 7) w9 (by have := MX9.out.d.1; rw [← this]; show (pushL _ _ _).length ≤ _; rw [HPL.out]; decide) MX9.out)
  have hpx : popX (pushV k (newL 2048) 7).d = 7 := by show popX (pushL _ _ _) = _; rw [HPL.out]; rfl
  have hpc : popC (pushV k (newL 2048) 7).d = 0 := by show popC (pushL _ _ _) = _; rw [HPL.out]; rfl
  have hpl : popV (pushV k (newL 2048) 7) = newL 2048 := by show ({ pushV k (newL 2048) 7 with d := popL (pushL (newL 2048).d 7 k.cd) } : VmL) = _; rw [HPL.out]; rfl
  rw [hpx, hpc, hpl] at HC
  clear hpx hpc hpl
  go_wp2_with (first | (refine wpList_vload (by rfl) _ rfl w8.heap.size kx rfl X9.out ?_))
  refine (HC.out).mono ?_
  rintro e w10 ⟨ky, rfl, hv, hsy, bb⟩
  have HSY := Lib.hid hsy
  clear HC hsy
  have T10 := Lib.hid (T9.out.keep bb)
  have M10 := Lib.hid (M9.out.keep bb)
  have V10 := Lib.hid (V9.out.keep bb)
  have Q10 := Lib.hid (Q9.out.keep bb)
  have MX10 := Lib.hid (MX9.out.keep bb)
  have X10 := Lib.hid (X9.out.keep bb)
  have B10 := Lib.hid (below_then B9.out bb)
  have MY10 := Lib.hid hv
  clear bb T9 M9 V9 Q9 MX9 X9 B9
  clear hv
  go_upto_region 7 with (refine wpList_vstore (by rfl) _ _ rfl _ vm0 ky rfl rfl (vbox_zero _) ?_)
  generalize hw11 : World.setRow _ _ _ = w11
  have kb : Below w10.heap.size w10 w11 := by rw [← hw11]; exact below_setRow (al_one _ _) (Nat.le_refl _) _
  have hx : VBox w11 w10.heap.size ky := by rw [← hw11]; exact vrow (vbox_zero w10) ky
  clear hw11
  have T11 := Lib.hid (T10.out.keep kb)
  have M11 := Lib.hid (M10.out.keep kb)
  have V11 := Lib.hid (V10.out.keep kb)
  have Q11 := Lib.hid (Q10.out.keep kb)
  have MX11 := Lib.hid (MX10.out.keep kb)
  have X11 := Lib.hid (X10.out.keep kb)
  have MY11 := Lib.hid (MY10.out.keep kb)
  have B11 := Lib.hid (below_then B10.out kb)
  have Y11 := Lib.hid hx
  clear kb T10 M10 V10 Q10 MX10 X10 MY10 B10
  clear hx
  have HC := Lib.hid (vrpop_use k (newL 2048) w11 (by have := M11.out.r.1; rw [← this]; decide) M11.out)
  rw [show rpopC (newL 2048).r = -6 from rfl] at HC
  go_wp2_with (first | (refine wpList_vload (by rfl) _ rfl w2.heap.size k rfl V11.out ?_))
  refine (HC.out).mono ?_
  rintro e w12 ⟨kz, rfl, hv, hsz, bb⟩
  clear HC hsz hv
  have T12 := Lib.hid (T11.out.keep bb)
  have M12 := Lib.hid (M11.out.keep bb)
  have V12 := Lib.hid (V11.out.keep bb)
  have Q12 := Lib.hid (Q11.out.keep bb)
  have MX12 := Lib.hid (MX11.out.keep bb)
  have X12 := Lib.hid (X11.out.keep bb)
  have MY12 := Lib.hid (MY11.out.keep bb)
  have Y12 := Lib.hid (Y11.out.keep bb)
  have B12 := Lib.hid (below_then B11.out bb)
  clear bb T11 M11 V11 Q11 MX11 X11 MY11 Y11 B11
  go_upto_region 8 with (refine wpList_vstore (by rfl) _ _ rfl _ vm0 kz rfl rfl (vbox_zero _) ?_)
  generalize hw13 : World.setRow _ _ _ = w13
  have kb : Below w12.heap.size w12 w13 := by rw [← hw13]; exact below_setRow (al_one _ _) (Nat.le_refl _) _
  have hx : VBox w13 w12.heap.size kz := by rw [← hw13]; exact vrow (vbox_zero w12) kz
  clear hw13
  have T13 := Lib.hid (T12.out.keep kb)
  have M13 := Lib.hid (M12.out.keep kb)
  have V13 := Lib.hid (V12.out.keep kb)
  have Q13 := Lib.hid (Q12.out.keep kb)
  have MX13 := Lib.hid (MX12.out.keep kb)
  have X13 := Lib.hid (X12.out.keep kb)
  have MY13 := Lib.hid (MY12.out.keep kb)
  have Y13 := Lib.hid (Y12.out.keep kb)
  have B13 := Lib.hid (below_then B12.out kb)
  have Z13 := Lib.hid hx
  clear kb T12 M12 V12 Q12 MX12 X12 MY12 Y12 B12
  clear hx
  have hco : k.co = 500 := HS.out.co
  have hpc : printC (newL 2048).o [104, 105] k.co = 0 := by rw [hco]; rfl
  have hpl : printL (newL 2048).o [104, 105] k.co = [104, 105] := by rw [hco]; rfl
  have HPO := Lib.hid hpl
  have HC := Lib.hid (vprint_use k (newL 2048) [104, 105] w13 (by have := M13.out.o.len; rw [← this]; decide) (by rw [hco]; decide) (by rw [hco]; decide) (by decide) M13.out)
  rw [hpc] at HC
  clear hco hpc hpl
  go_wp2_with (first | (refine wpList_vload (by rfl) _ rfl w2.heap.size k rfl V13.out ?_))
  refine (HC.out).mono ?_
  rintro e w14 ⟨kp, rfl, hv, hsp, bb⟩
  clear HC hsp
  have T14 := Lib.hid (T13.out.keep bb)
  have M14 := Lib.hid (M13.out.keep bb)
  have V14 := Lib.hid (V13.out.keep bb)
  have Q14 := Lib.hid (Q13.out.keep bb)
  have MX14 := Lib.hid (MX13.out.keep bb)
  have X14 := Lib.hid (X13.out.keep bb)
  have MY14 := Lib.hid (MY13.out.keep bb)
  have Y14 := Lib.hid (Y13.out.keep bb)
  have Z14 := Lib.hid (Z13.out.keep bb)
  have B14 := Lib.hid (below_then B13.out bb)
  have MP14 := Lib.hid hv
  clear bb T13 M13 V13 Q13 MX13 X13 MY13 Y13 Z13 B13
  clear hv
  go_upto_region 9 with (refine wpList_vstore (by rfl) _ _ rfl _ vm0 kp rfl rfl (vbox_zero _) ?_)
  generalize hw15 : World.setRow _ _ _ = w15
  have kb : Below w14.heap.size w14 w15 := by rw [← hw15]; exact below_setRow (al_one _ _) (Nat.le_refl _) _
  have hx : VBox w15 w14.heap.size kp := by rw [← hw15]; exact vrow (vbox_zero w14) kp
  clear hw15
  have T15 := Lib.hid (T14.out.keep kb)
  have M15 := Lib.hid (M14.out.keep kb)
  have V15 := Lib.hid (V14.out.keep kb)
  have Q15 := Lib.hid (Q14.out.keep kb)
  have MX15 := Lib.hid (MX14.out.keep kb)
  have X15 := Lib.hid (X14.out.keep kb)
  have MY15 := Lib.hid (MY14.out.keep kb)
  have Y15 := Lib.hid (Y14.out.keep kb)
  have Z15 := Lib.hid (Z14.out.keep kb)
  have MP15 := Lib.hid (MP14.out.keep kb)
  have B15 := Lib.hid (below_then B14.out kb)
  have P15 := Lib.hid hx
  clear kb T14 M14 V14 Q14 MX14 X14 MY14 Y14 Z14 MP14 B14
  clear hx
  simp only [List.append_eq, List.cons_append, List.nil_append]
  obtain ⟨cq0, cq1, cq2, cf0, cf1, cf2⟩ := Q15.out.use
  rw [HXT.out] at cq1
  clear cq0 cq2 cf0 cf1 cf2
  have HC := Lib.hid (vsame_any ky (newL 2048) k (newL 2048) w15 (Lib.hid (by have l := MY15.out.lens; rw [← l.d, ← l.r, ← l.f, ← l.dict, ← l.e, ← l.h]; decide)) MY15.out M15.out)
  rw [same_self (HSY.out.trans HSX.out)] at HC
  go_wp2_with (first | (refine wpList_vload (by rfl) _ rfl w10.heap.size ky rfl Y15.out ?_) | (refine wpList_vload (by rfl) _ rfl w2.heap.size k rfl V15.out ?_))
  refine (HC.out).mono ?_
  rintro e w16 ⟨rfl, bb⟩
  clear HC
  clear cq1
  have T16 := Lib.hid (T15.out.keep bb)
  have M16 := Lib.hid (M15.out.keep bb)
  have V16 := Lib.hid (V15.out.keep bb)
  have Q16 := Lib.hid (Q15.out.keep bb)
  have MX16 := Lib.hid (MX15.out.keep bb)
  have X16 := Lib.hid (X15.out.keep bb)
  have MY16 := Lib.hid (MY15.out.keep bb)
  have Y16 := Lib.hid (Y15.out.keep bb)
  have Z16 := Lib.hid (Z15.out.keep bb)
  have MP16 := Lib.hid (MP15.out.keep bb)
  have P16 := Lib.hid (P15.out.keep bb)
  have B16 := Lib.hid (below_then B15.out bb)
  clear bb T15 M15 V15 Q15 MX15 X15 MY15 Y15 Z15 MP15 P15 B15
  obtain ⟨pP0, pP1, pP2, pP3, pP4, pP5, pP6, pP7, pP8, pP9, pP10, pP11, pP12, pP13, pP14, pP15, pP16, pP17, pP18, pP19, pP20, pP21, pP22⟩ := P16.out.use
  clear pP0 pP1 pP2 pP3 pP4 pP5 pP6 pP7 pP8 pP9 pP10 pP11 pP12 pP14 pP15 pP16 pP17 pP18 pP19 pP20 pP21 pP22
  have cv := MP16.out.o.conv
  rw [show (printV k (newL 2048) [104, 105]).o = [104, 105] from HPO.out, show strB [104, 105] = { data := #[104, 105] } from rfl] at cv
  have HC := Lib.hid (vright_any k (newL 2048) w16 (Lib.hid (by have := M16.out.dict.len; rw [← this]; decide)) M16.out)
  rw [HRN.out] at HC
  go_wp2_with (first | (refine wpList_vload (by rfl) _ rfl w2.heap.size k rfl V16.out ?_))
  refine (HC.out).mono ?_
  rintro e w17 ⟨rfl, bb⟩
  clear HC
  clear pP13 cv
  have T17 := Lib.hid (T16.out.keep bb)
  have M17 := Lib.hid (M16.out.keep bb)
  have V17 := Lib.hid (V16.out.keep bb)
  have Q17 := Lib.hid (Q16.out.keep bb)
  have MX17 := Lib.hid (MX16.out.keep bb)
  have X17 := Lib.hid (X16.out.keep bb)
  have MY17 := Lib.hid (MY16.out.keep bb)
  have Y17 := Lib.hid (Y16.out.keep bb)
  have Z17 := Lib.hid (Z16.out.keep bb)
  have MP17 := Lib.hid (MP16.out.keep bb)
  have P17 := Lib.hid (P16.out.keep bb)
  have B17 := Lib.hid (below_then B16.out bb)
  clear bb T16 M16 V16 Q16 MX16 X16 MY16 Y16 Z16 MP16 P16 B16
  have HC := Lib.hid (vright_any vm0 noneL w17 (Lib.hid (by decide)) (isvm_zero _))
  rw [wrong_zero] at HC
  go_wp2_with (fail)
  refine (HC.out).mono ?_
  rintro e w18 ⟨rfl, bb⟩
  clear HC
  have T18 := Lib.hid (T17.out.keep bb)
  have M18 := Lib.hid (M17.out.keep bb)
  have V18 := Lib.hid (V17.out.keep bb)
  have Q18 := Lib.hid (Q17.out.keep bb)
  have MX18 := Lib.hid (MX17.out.keep bb)
  have X18 := Lib.hid (X17.out.keep bb)
  have MY18 := Lib.hid (MY17.out.keep bb)
  have Y18 := Lib.hid (Y17.out.keep bb)
  have Z18 := Lib.hid (Z17.out.keep bb)
  have MP18 := Lib.hid (MP17.out.keep bb)
  have P18 := Lib.hid (P17.out.keep bb)
  have B18 := Lib.hid (below_then B17.out bb)
  clear bb T17 M17 V17 Q17 MX17 X17 MY17 Y17 Z17 MP17 P17 B17
  have hno : vSame k (newL 2048) kx (pushV k (newL 2048) 7) = false := by
    have hd : sameB (newL 2048).d (pushV k (newL 2048) 7).d = false := by show sameB _ (pushL _ _ _) = _; rw [HPL.out]; rfl
    unfold vSame
    rw [hd]
    simp
  have HC := Lib.hid (vsame_any k (newL 2048) kx (pushV k (newL 2048) 7) w18 (Lib.hid (by have l := M18.out.lens; rw [← l.d, ← l.r, ← l.f, ← l.dict, ← l.e, ← l.h]; decide)) M18.out MX18.out)
  rw [hno] at HC
  clear hno
  go_wp2_with (first | (refine wpList_vload (by rfl) _ rfl w2.heap.size k rfl V18.out ?_) | (refine wpList_vload (by rfl) _ rfl w8.heap.size kx rfl X18.out ?_))
  refine (HC.out).mono ?_
  rintro e w19 ⟨rfl, bb⟩
  clear HC
  have T19 := Lib.hid (T18.out.keep bb)
  have M19 := Lib.hid (M18.out.keep bb)
  have V19 := Lib.hid (V18.out.keep bb)
  have Q19 := Lib.hid (Q18.out.keep bb)
  have MX19 := Lib.hid (MX18.out.keep bb)
  have X19 := Lib.hid (X18.out.keep bb)
  have MY19 := Lib.hid (MY18.out.keep bb)
  have Y19 := Lib.hid (Y18.out.keep bb)
  have Z19 := Lib.hid (Z18.out.keep bb)
  have MP19 := Lib.hid (MP18.out.keep bb)
  have P19 := Lib.hid (P18.out.keep bb)
  have B19 := Lib.hid (below_then B18.out bb)
  clear bb T18 M18 V18 Q18 MX18 X18 MY18 Y18 Z18 MP18 P18 B18
  go_wp2_with fail
  refine (start_any _).mono ?_
  rintro e w9 ⟨rfl, rfl⟩
  go_wp2_with fail
  refine (names_any _ T19.out).mono ?_
  rintro e w20 ⟨rfl, _, bb⟩
  have T20 := Lib.hid (T19.out.keep bb)
  have M20 := Lib.hid (M19.out.keep bb)
  have V20 := Lib.hid (V19.out.keep bb)
  have Q20 := Lib.hid (Q19.out.keep bb)
  have MX20 := Lib.hid (MX19.out.keep bb)
  have X20 := Lib.hid (X19.out.keep bb)
  have MY20 := Lib.hid (MY19.out.keep bb)
  have Y20 := Lib.hid (Y19.out.keep bb)
  have Z20 := Lib.hid (Z19.out.keep bb)
  have MP20 := Lib.hid (MP19.out.keep bb)
  have P20 := Lib.hid (P19.out.keep bb)
  have B20 := Lib.hid (below_then B19.out bb)
  clear bb T19 M19 V19 Q19 MX19 X19 MY19 Y19 Z19 MP19 P19 B19
  go_wp2_with fail
  refine (specials_any _ T20.out).mono ?_
  rintro e w21 ⟨rfl, _, bb⟩
  have T21 := Lib.hid (T20.out.keep bb)
  have M21 := Lib.hid (M20.out.keep bb)
  have V21 := Lib.hid (V20.out.keep bb)
  have Q21 := Lib.hid (Q20.out.keep bb)
  have MX21 := Lib.hid (MX20.out.keep bb)
  have X21 := Lib.hid (X20.out.keep bb)
  have MY21 := Lib.hid (MY20.out.keep bb)
  have Y21 := Lib.hid (Y20.out.keep bb)
  have Z21 := Lib.hid (Z20.out.keep bb)
  have MP21 := Lib.hid (MP20.out.keep bb)
  have P21 := Lib.hid (P20.out.keep bb)
  have B21 := Lib.hid (below_then B20.out bb)
  clear bb T20 M20 V20 Q20 MX20 X20 MY20 Y20 Z20 MP20 P20 B20
  go_wp2_with fail
  refine (conf_any _).mono ?_
  rintro e w22 ⟨rfl, bb⟩
  have T22 := Lib.hid (T21.out.keep bb)
  have M22 := Lib.hid (M21.out.keep bb)
  have V22 := Lib.hid (V21.out.keep bb)
  have Q22 := Lib.hid (Q21.out.keep bb)
  have MX22 := Lib.hid (MX21.out.keep bb)
  have X22 := Lib.hid (X21.out.keep bb)
  have MY22 := Lib.hid (MY21.out.keep bb)
  have Y22 := Lib.hid (Y21.out.keep bb)
  have Z22 := Lib.hid (Z21.out.keep bb)
  have MP22 := Lib.hid (MP21.out.keep bb)
  have P22 := Lib.hid (P21.out.keep bb)
  have B22 := Lib.hid (below_then B21.out bb)
  clear bb T21 M21 V21 Q21 MX21 X21 MY21 Y21 Z21 MP21 P21 B21
  have HF := Lib.hid (fits_any 2048 32 32 200 500)
  rw [show fitsB 2048 32 32 200 500 = true from by decide] at HF
  go_wp2_with fail
  refine (HF.out _).mono ?_
  rintro e w23 ⟨rfl, bb⟩
  have T23 := Lib.hid (T22.out.keep bb)
  have M23 := Lib.hid (M22.out.keep bb)
  have V23 := Lib.hid (V22.out.keep bb)
  have Q23 := Lib.hid (Q22.out.keep bb)
  have MX23 := Lib.hid (MX22.out.keep bb)
  have X23 := Lib.hid (X22.out.keep bb)
  have MY23 := Lib.hid (MY22.out.keep bb)
  have Y23 := Lib.hid (Y22.out.keep bb)
  have Z23 := Lib.hid (Z22.out.keep bb)
  have MP23 := Lib.hid (MP22.out.keep bb)
  have P23 := Lib.hid (P22.out.keep bb)
  have B23 := Lib.hid (below_then B22.out bb)
  clear bb T22 M22 V22 Q22 MX22 X22 MY22 Y22 Z22 MP22 P22 B22
  go_wp2_with fail
  go_ret
  exact ⟨rfl, B23.out⟩
end Go.Proofs.YtbighilgkmfemaaGreatDoor

/- What the laws of layer 10 share: May without a bound; what is few; two machines that hold the same. -/
namespace Go.Proofs.YtbighilgkmfemaaGreatDoor
open Go.RowKit
set_option linter.unusedVariables false
set_option linter.unusedSimpArgs false

/-- How many of each a machine of not too much holds. -/
structure LFit (L : VmL) : Prop where
  m : L.m.1.length ≤ 8192
  d : L.d.length ≤ 301
  r : L.r.length ≤ 301
  f : L.f.length ≤ 70
  dict : L.dict.length ≤ 300
  o : L.o.length ≤ 6000
  e : L.e.length ≤ 20
  h : L.h.length ≤ 70
theorem few_of {k : VmK} {L : VmL} (h : vFew k L = true) (l : Lens k L) : L.m.1.length ≤ 8192 ∧ L.d.length ≤ 300 ∧ L.r.length ≤ 300 ∧ L.f.length ≤ 70 ∧ L.dict.length ≤ 300 ∧ L.o.length ≤ 5000 ∧ L.e.length ≤ 20 ∧ L.h.length ≤ 70 := by
  unfold vFew at h
  simp only [Bool.and_eq_true] at h
  obtain ⟨h1, h2, h3⟩ := h
  unfold fewB at h1
  simp only [Bool.and_eq_true, decide_eq_true_eq] at h1
  unfold dFew at h2
  simp only [Bool.and_eq_true, decide_eq_true_eq] at h2
  unfold lensB at h3
  rw [decide_eq_true_eq] at h3
  have := l.d; have := l.r; have := l.f; have := l.o; have := l.e; have := l.h
  refine ⟨h1.1.1, ?_, ?_, ?_, ?_, ?_, ?_, ?_⟩ <;> omega
theorem fit_of {k : VmK} {L : VmL} (h : vFew k L = true) (l : Lens k L) : LFit L := by
  obtain ⟨h1, h2, h3, h4, h5, h6, h7, h8⟩ := few_of h l
  exact ⟨h1, by omega, by omega, h4, h5, by omega, h7, h8⟩
theorem fit_new {L : Nat} (h : L ≤ 8192) : LFit (newL L) := ⟨by rw [show (newL L).m.1.length = L from rowN_len L 167]; exact h, by rw [show (newL L).d = [] from rfl]; decide, by rw [show (newL L).r = [] from rfl]; decide, by rw [show (newL L).f = [] from rfl]; decide, by rw [show (newL L).dict = newW 167 from rfl]; decide +kernel, by rw [show (newL L).o = [] from rfl]; decide, by rw [show (newL L).e = [] from rfl]; decide, by rw [show (newL L).h = [] from rfl]; decide⟩
theorem pushL_len (l : List Int) (x c : Int) : (pushL l x c).length ≤ l.length + 1 := by
  unfold pushL
  split
  · omega
  · simp
theorem popL_len (l : List Int) : (popL l).length ≤ l.length := by
  unfold popL
  simp [List.length_take]
theorem printL_len (l s : List UInt8) (c : Int) : (printL l s c).length ≤ l.length + s.length := by
  unfold printL
  split
  · omega
  · simp
theorem fit_push {k : VmK} {L : VmL} (h : vFew k L = true) (l : Lens k L) (n : Int) : LFit (pushV k L n) := by
  obtain ⟨h1, h2, h3, h4, h5, h6, h7, h8⟩ := few_of h l
  exact ⟨h1, Nat.le_trans (pushL_len _ _ _) (by omega), by show L.r.length ≤ _; omega, h4, h5, by show L.o.length ≤ _; omega, h7, h8⟩
theorem fit_pop {k : VmK} {L : VmL} (h : vFew k L = true) (l : Lens k L) : LFit (popV L) := by
  obtain ⟨h1, h2, h3, h4, h5, h6, h7, h8⟩ := few_of h l
  exact ⟨h1, Nat.le_trans (popL_len _) (by omega), by show L.r.length ≤ _; omega, h4, h5, by show L.o.length ≤ _; omega, h7, h8⟩
theorem fit_rpush {k : VmK} {L : VmL} (h : vFew k L = true) (l : Lens k L) (n : Int) : LFit (rpushV k L n) := by
  obtain ⟨h1, h2, h3, h4, h5, h6, h7, h8⟩ := few_of h l
  exact ⟨h1, by show L.d.length ≤ _; omega, Nat.le_trans (pushL_len _ _ _) (by omega), h4, h5, by show L.o.length ≤ _; omega, h7, h8⟩
theorem fit_rpop {k : VmK} {L : VmL} (h : vFew k L = true) (l : Lens k L) : LFit (rpopV L) := by
  obtain ⟨h1, h2, h3, h4, h5, h6, h7, h8⟩ := few_of h l
  exact ⟨h1, by show L.d.length ≤ _; omega, Nat.le_trans (popL_len _) (by omega), h4, h5, by show L.o.length ≤ _; omega, h7, h8⟩
theorem fit_print {k : VmK} {L : VmL} (h : vFew k L = true) (l : Lens k L) {s : List UInt8} (hs : s.length ≤ 600) : LFit (printV k L s) := by
  obtain ⟨h1, h2, h3, h4, h5, h6, h7, h8⟩ := few_of h l
  exact ⟨h1, by show L.d.length ≤ _; omega, by show L.r.length ≤ _; omega, h4, h5, Nat.le_trans (printL_len _ _ _) (by omega), h7, h8⟩
theorem fit_lens {k : VmK} {L : VmL} (f : LFit L) (l : Lens k L) : k.mn ≤ 8192 ∧ k.dn ≤ 301 ∧ k.rn ≤ 301 ∧ k.fn ≤ 70 ∧ k.wn ≤ 300 ∧ k.on ≤ 6000 ∧ k.en ≤ 20 ∧ k.hn ≤ 70 := by
  rw [← l.m, ← l.d, ← l.r, ← l.f, ← l.dict, ← l.o, ← l.e, ← l.h]
  exact ⟨f.m, f.d, f.r, f.f, f.dict, f.o, f.e, f.h⟩
/-- The document's Same of any two that are few; of two that hold the same. -/
theorem rsame_few {w : World} {k : VmK} {L : VmL} {j : VmK} {M : VmL} (h : IsVm w k L) (h' : IsVm w j M) (f : LFit L) (g : LFit M) :
    Calls Tryz.prog 19 #[vmV k, vmV j] w fun e w' => e = .returned (.bool (vSame k L j M)) ∧ Below w.heap.size w w' := by
  obtain ⟨a1, a2, a3, a4, a5, a6, a7, a8⟩ := fit_lens f h.lens
  obtain ⟨b1, b2, b3, b4, b5, b6, b7, b8⟩ := fit_lens g h'.lens
  exact rvsame_any k L j M w (Lib.hid (by omega)) h h'
theorem rsame_two {w : World} {k j : VmK} {L : VmL} (h : IsVm w k L) (h' : IsVm w j L) (s : Sc k j) (f : LFit L) :
    Calls Tryz.prog 19 #[vmV k, vmV j] w fun e w' => e = .returned (.bool true) ∧ Below w.heap.size w w' := by
  have := rsame_few h h' f f
  rw [same_self s] at this
  exact this
/-- What right asks of the configuration. -/
theorem conf_of {k : VmK} {L : VmL} (h : vRight k L = true) : 2048 ≤ k.cm ∧ k.cm ≤ 65536 ∧ 0 ≤ k.co ∧ k.co ≤ 65536 ∧ 1 ≤ k.cd ∧ k.cd ≤ 256 ∧ 1 ≤ k.cr ∧ k.cr ≤ 256 := by
  unfold vRight fitsV at h
  simp only [Bool.and_eq_true] at h
  obtain ⟨a1, a2, a3, a4, a5, a6, a7, a8, a9, a10, a11⟩ := (fits_iff _ _ _ _ _).1 h.1
  omega
set_option maxRecDepth 100000 in
set_option maxHeartbeats 4000000 in
theorem rvmay_w (k : VmK) (L : VmL) (w : World) (h : IsVm w k L) :
    Calls Tryz.prog 23 #[vmV k] w fun e w' => e = .returned (.bool (vMay k L)) ∧ Below w.heap.size w w' := by
  have h0 := h.lens
  have kk := al_one w (.cells (vmC k) 36)
  have B0 := Lib.hid kk
  have X0 := Lib.hid (vbox_new w k)
  have V0 := Lib.hid (h.keep kk)
  have HF := Lib.hid (rvfew_any k L _ (h.keep kk))
  clear h kk
  obtain ⟨F1, e1⟩ : ∃ b, vFew k L = b := ⟨_, rfl⟩
  rw [e1] at HF
  have HM : Hid (vMay k L = (F1 && vRight k L)) := by show _ = _; unfold vMay; rw [e1]
  have E1 := Lib.hid e1
  have L1 := Lib.hid h0
  clear e1 h0
  go_enter Tryz.func23, Tryz.ntmps23
  go_wp2_with (refine wpList_vload (by rfl) _ rfl w.heap.size k rfl X0.out ?_)
  refine HF.out.mono ?_
  rintro e w1 ⟨rfl, bb⟩
  have X1 := Lib.hid (X0.out.keep bb)
  have V1 := Lib.hid (V0.out.keep bb)
  have B1 := Lib.hid (below_then B0.out bb)
  clear bb
  cases F1 with
  | false =>
    go_wp2_with fail
    go_ret
    exact ⟨by rw [HM.out]; rfl, B1.out⟩
  | true =>
    have HC := Lib.hid (rvright_any k L w1 (Lib.hid (by have := few_of E1.out L1.out; have := L1.out.dict; omega)) V1.out)
    clear E1 L1
    go_wp2_with (refine wpList_vload (by rfl) _ rfl w.heap.size k rfl X1.out ?_)
    refine HC.out.mono ?_
    rintro e w2 ⟨rfl, bb⟩
    have B2 := Lib.hid (below_then B1.out bb)
    clear bb
    go_wp2_with fail
    go_ret
    exact ⟨by rw [HM.out]; rfl, B2.out⟩
end Go.Proofs.YtbighilgkmfemaaGreatDoor
