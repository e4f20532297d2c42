/- Part 12. -/
import Derived.Test.YtcmldhjicjmmgaaGreatDoorXlAK
import Derived.ChangeKeysEq
import Derived.Lib.QuietBelow
set_option linter.unusedVariables false
set_option linter.unusedSimpArgs false
set_option maxRecDepth 100000
set_option maxHeartbeats 4000000

namespace Go.Proofs.YtcmldhjicjmmgaaGreatDoor
open Go.RowKit


def AllInv (o : Bool) (l : List UInt8) (lo hi b : Int) (l' : List UInt8) (u : Nat) (bad : Int) : Prop :=
  (bad = 0 ∧ o = true ∧ baseB b = true ∧ l'.length ≤ 130 ∧ ∃ laid,l' = l ++ laid ∧ (u = 0 → figs lo hi b = laid.reverse) ∧ (u ≠ 0 → figs lo hi b = usF b.toNat u ++ laid.reverse)) ∨ (bad ≠ 0 ∧ l'.length ≤ 1000 ∧ allL o l lo hi b = l ∧ bad = allC o l lo hi b)
theorem base_nat {b : Int} (h : baseB b = true) : 2 ≤ b.toNat ∧ b.toNat ≤ 36:=by have:=(baseB_iff b).1 h; omega
theorem us_one (b u : Nat) : 1 ≤ (usF b u).length:=by
  have:=@us_ne b u;cases h : usF b u with
  | nil => exact absurd h this
  | cons a t => simp
theorem pall_no {o : Bool} {l : List UInt8} {lo hi b : Int} (h : allOK o l lo hi b = false) : allL o l lo hi b = l:=by unfold allL; rw [if_neg (by simp [h])]
theorem div_lt (P k : Nat) (h : P < 340282366920938463463374607431768211456) : P / k < 340282366920938463463374607431768211456:=Nat.lt_of_le_of_lt (Nat.div_le_self _ _) h
theorem digOK_yes {o : Bool} {l : List UInt8} {b : Int} (hb : baseB b = true) (hk : pOpen o l = true) : digOK o l b = true:=by unfold digOK; rw [hb,hk]; rfl
theorem inv_step {o : Bool} {l l' laid : List UInt8} {lo hi b low high : Int} (hb : baseB b = true) (ho : o = true) (hl : l' = l ++ laid) (hl' : l'.length ≤ 130)
    (hf : figs lo hi b = usF b.toNat (pairN low high) ++ laid.reverse) : AllInv o l lo hi b (digL o l' low high b) (pairN (digLo o l' low high b) (digHi o l' low high b)) (digC o l' b):=by
  obtain ⟨h2,h36⟩:=base_nat hb;cases hk : pOpen o l' with
  | true =>
    have hlt:=((pOpen_iff _ _).1 hk).2;refine .inl ⟨?_,ho,hb,?_,laid ++ [digU low high b],?_,?_,?_⟩
    · unfold digC holdC; rw [if_pos hb,if_pos hk]
    · unfold digL; rw [if_pos (digOK_yes hb hk)]; simp; omega
    · unfold digL; rw [if_pos (digOK_yes hb hk),hl]; simp
    all_goals
      unfold digLo digHi;rw [if_pos (digOK_yes hb hk),if_pos (digOK_yes hb hk),pair_back (div_lt _ _ (pairN_lt _ _)),hf];intro h
    · have hlt : pairN low high < b.toNat:=(Nat.div_eq_zero_iff_lt (by omega)).1 h
      rw [usF_low hlt];unfold digU;rw [Nat.mod_eq_of_lt hlt];simp
    · have hge : b.toNat ≤ pairN low high:=by
        rcases Nat.lt_or_ge (pairN low high) b.toNat with h' | h'
        · exact absurd ((Nat.div_eq_zero_iff_lt (by omega)).2 h') h
        · exact h'
      rw [usF_big h2 hge];unfold digU;simp
  | false =>
    have hge : 130 ≤ l'.length:=by have:=(pOpen_no _ _).1 hk; simp [ho] at this; omega
    have hno : allOK o l lo hi b = false:=by
      unfold allOK;rw [hb,hf];have:=us_one b.toNat (pairN low high);rw [hl] at hge;simp at hge ⊢;intro _;omega
    refine .inr ⟨?_,?_,pall_no hno,?_⟩
    · unfold digC holdC; rw [if_pos hb,if_neg (by simp [hk])]; omega
    · unfold digL digOK; rw [hb,hk,if_neg (by simp)]; omega
    · unfold digC holdC allC; rw [if_pos hb,if_pos hb,if_neg (by simp [hk]),hno,if_neg (by simp)]
theorem AllInv.next {o : Bool} {l l' : List UInt8} {lo hi b low high : Int} (h : AllInv o l lo hi b l' (pairN low high) 0) (h0 : pairN low high ≠ 0) : AllInv o l lo hi b (digL o l' low high b) (pairN (digLo o l' low high b) (digHi o l' low high b)) (digC o l' b):=by
  rcases h with ⟨_,ho,hb,hl',laid,hl,_,hf⟩ | ⟨h,_⟩
  · exact inv_step hb ho hl hl' (hf h0)
  · exact absurd rfl h
theorem AllInv.done {o : Bool} {l l' : List UInt8} {lo hi b : Int} (h : AllInv o l lo hi b l' 0 0) : l' = allL o l lo hi b ∧ allC o l lo hi b = 0:=by
  rcases h with ⟨_,ho,hb,hl',laid,hl,hf,_⟩ | ⟨h,_⟩
  · have hf:=hf rfl
    have hok : allOK o l lo hi b = true:=by
      unfold allOK;rw [hb,hf,ho];rw [hl] at hl';simp at hl' ⊢;exact hl'
    refine ⟨?_,?_⟩
    · unfold allL; rw [if_pos hok,hf,hl]; simp
    · unfold allC; rw [if_pos hb,if_pos hok]
  · exact absurd rfl h
theorem AllInv.len {o : Bool} {l l' : List UInt8} {lo hi b bad : Int} {u : Nat} (h : AllInv o l lo hi b l' u bad) : l'.length ≤ 1000:=by
  rcases h with ⟨_,_,_,h,_⟩ | ⟨_,h,_⟩
  · omega
  · exact h


theorem same_any (A A' : Option Addr) (n c n' c' : Nat) (o o' : Bool) (l l' : List UInt8) (w : World) (h : Byt w (.slice A n c) l) (h' : Byt w (.slice A' n' c') l') :
    Calls Tryz.prog 49 #[.agg #[.slice A n c,.bool o],.agg #[.slice A' n' c',.bool o']] w fun e w' => e = .returned (.bool (pSame o l o' l')) ∧ Below w.heap.size w w':=by
  by_cases ho : o = o'
  · subst ho
    have H : Hid (pSame o l o l' = decide (l = l')):=by show _ = _; unfold pSame; simp
    rw [H.out];obtain ⟨d,hd⟩ : ∃ d,decide (l = l') = d:=⟨_,rfl⟩;have k1:=al_two w (.cells #[.slice A n c,.bool o] 33) (.cells #[.slice A' n' c',.bool o] 33);have HE:=zqh (equal_any A A' n c n' c' l l' _ (h.keep k1) (h'.keep k1));rw [hd] at HE;rw [hd];have K:=zqh k1;have hb : PBox _ _ _ _ _ _ ∧ PBox _ _ _ _ _ _:=box_two w (.slice A n c) (.bool o) (.slice A' n' c') (.bool o) 33 33;obtain ⟨b1,b2,_,_⟩:=hb.1.use;obtain ⟨b3,b4,_,_⟩:=hb.2.use;clear h h' k1 hb hd;go_enter Tryz.func49,Tryz.ntmps49;(go_wp2_with fail);refine HE.out.mono ?_;rintro e w1 ⟨rfl,rfl⟩;(go_wp2_with fail);go_ret;exact ⟨rfl,K.out⟩
  · have H : Hid (pSame o l o' l' = false):=by show _ = _; unfold pSame; simp [ho]
    rw [H.out];have ho' : (o == o') = false:=by simpa using ho
    clear h h' ho;go_enter Tryz.func49,Tryz.ntmps49;go_wp2;go_ret;exact ⟨rfl,al_two w (.cells #[.slice A n c,.bool o] 33) (.cells #[.slice A' n' c',.bool o'] 33)⟩


theorem conf_eql (k j : VmK) (w : World) : (binOp .eql 25 (.agg #[.int .i64 k.cm,.int .i64 k.cd,.int .i64 k.cr,.int .i64 k.cw,.int .i64 k.co]) (.agg #[.int .i64 j.cm,.int .i64 j.cd,.int .i64 j.cr,.int .i64 j.cw,.int .i64 j.co])).run Tryz.prog w = .ok (.bool (confSame k j)) w:=by
  have u3:=Tryz.underlying3;have a3:=Tryz.isAgg3;have z3:=Tryz.sizeOf3;have hS : Tryz.prog.underlying 25 = some (.struct (Tryz.prog.fieldsOf 25)):=by kernel_rfl
  have hp : Tryz.prog.stoodInHeld 25 = false:=by kernel_rfl
  rw [run_eql_struct,show (10000 : Nat) = 9999 + 1 from rfl,run_equalIn_agg w 9999 25 _ _ hS hp];simp only [Program.fieldsOf,Tryz.underlying25];unfold confSame
  by_cases h0 : k.cm = j.cm
  · skip
    by_cases h1 : k.cd = j.cd
    · skip
      by_cases h2 : k.cr = j.cr
      · skip
        by_cases h3 : k.cw = j.cw
        · skip
          by_cases h4 : k.co = j.co
          · skip
            go_simp
          · go_simp
        · go_simp
      · go_simp
    · go_simp
  · go_simp
theorem nums_eql (k j : VmK) (w : World) : (binOp .eql 110 (.agg #[.int .i64 k.here,.int .i64 k.last,.int .i64 k.free,.int .i64 k.next,.int .i64 k.arg,.int .i64 k.self,.int .i64 k.now]) (.agg #[.int .i64 j.here,.int .i64 j.last,.int .i64 j.free,.int .i64 j.next,.int .i64 j.arg,.int .i64 j.self,.int .i64 j.now])).run Tryz.prog w = .ok (.bool (numsSame k j)) w:=by
  have u3:=Tryz.underlying3;have a3:=Tryz.isAgg3;have z3:=Tryz.sizeOf3;obtain ⟨i,hi⟩ : ∃ i,Tryz.prog.info? 3 = some i:=⟨_,by rfl⟩;have hc : Tryz.prog.cellsOf 3 = 1:=by kernel_rfl
  rw [run_eql_struct,show (10000 : Nat) = 9999 + 1 from rfl,run_equalIn_array w 9999 _ _ Tryz.underlying110 hi,hc];rw [show List.range 7 = [0,1,2,3,4,5,6] from rfl];simp only [Op.eqItems];unfold numsSame
  by_cases h0 : k.here = j.here
  · skip
    by_cases h1 : k.last = j.last
    · skip
      by_cases h2 : k.free = j.free
      · skip
        by_cases h3 : k.next = j.next
        · skip
          by_cases h4 : k.arg = j.arg
          · skip
            by_cases h5 : k.self = j.self
            · skip
              by_cases h6 : k.now = j.now
              · skip
                go_simp
              · go_simp
            · go_simp
          · go_simp
        · go_simp
      · go_simp
    · go_simp
  · go_simp
theorem vnums_any (k : VmK) (w : World) : Calls Tryz.prog 46 #[vmV k] w fun e w' => e = .returned (.agg #[.int .i64 k.here,.int .i64 k.last,.int .i64 k.free,.int .i64 k.next,.int .i64 k.arg,.int .i64 k.self,.int .i64 k.now]) ∧ Below w.heap.size w w':=by
  go_enter Tryz.func46,Tryz.ntmps46;go_wp2;refine bodyPost_ret (v:=.agg #[.int .i64 k.here,.int .i64 k.last,.int .i64 k.free,.int .i64 k.next,.int .i64 k.arg,.int .i64 k.self,.int .i64 k.now]) ?_ rfl ?_
  · simp [results,Tryz.results46,go_sem]
  · exact ⟨rfl,al_two w _ _⟩
open Go.RowKit Go.Sort


theorem equal_bel (A B : Option Addr) (n c k d : Nat) (l1 l2 : List UInt8) (w : World) (h1 : Byt w (.slice A n c) l1) (h2 : Byt w (.slice B k d) l2) :
    Calls Tryz.prog 52 #[.slice A n c,.slice B k d] w fun e w' => e = .returned (.bool (decide (l1 = l2))) ∧ Below w.heap.size w w' :=
  (equal_any A B n c k d l1 l2 w h1 h2).mono fun _ _ ⟨he,hw⟩ => ⟨he,by rw [← hw]; exact Below.refl _ _⟩
theorem quiet_vload {o : Oper} {a : Act} {K : Act → Prop} {W : World} (x : Operand) (ho : o.op = .load 37 x) (b : Nat) (k : VmK) (hx : a.eval x = .pointer (some ⟨b,0,none⟩)) (hb : VBox W b k) (h : K (a.put o.dst (vmV k))) :
    o.quiet Tryz.prog a (fun w' => ∃ p : Regrown,w' = grow (redrawn W p.d) p.os) K :=
  ⟨vmV k,fun w' hw' => by
    obtain ⟨p,rfl⟩:=hw';have hl:=vm_load (hb.keep (below_regrown W p.d p.os));unfold Oper.quietAt execOp;simp only [ho,hx,Instr.loadAt,Instr.sureAddr,Sem.run_bind,Sem.run_pure,Result.andThen_ok,hl]
    exact ⟨rfl,rfl⟩,h⟩
theorem vsame_any (k : VmK) (L : VmL) (j : VmK) (M : VmL) (w : World) (HN : Hid (k.dn ≤ 65536 ∧ k.rn ≤ 65536 ∧ k.fn ≤ 65536 ∧ k.wn ≤ 65536 ∧ k.en ≤ 65536 ∧ k.hn ≤ 65536)) (h : IsVm w k L) (h' : IsVm w j M) :
    Calls Tryz.prog 31 #[vmV k,vmV j] w fun e w' => e = .returned (.bool (vSame k L j M)) ∧ Below w.heap.size w w':=by
  obtain ⟨kk,hx,hy⟩:=v2_new w k j;obtain ⟨F,hF⟩ : ∃ F,vSame k L j M = F:=⟨_,rfl⟩;have HF : Hid (F = vSame k L j M):=hF.symm;unfold vSame at HF;rw [hF];go_enter Tryz.func31,Tryz.ntmps31;go_upto_region 1 with fail
  simp only [List.append_eq,List.cons_append,List.nil_append];obtain ⟨W,hW⟩ : ∃ W,W = (w.alloc (.cells #[.int .i64 k.cm,.int .i64 k.cd,.int .i64 k.cr,.int .i64 k.cw,.int .i64 k.co,.slice k.mA k.mn k.mc,.slice k.pA k.pn k.pc,.int .i64 k.here,.slice k.dA k.dn k.dc,.slice k.rA k.rn k.rc,.slice k.fA k.fn k.fc,.slice k.wA k.wn k.wc,.int .i64 k.last,.slice k.oA k.on k.oc,.slice k.qA k.qn k.qc,.bool k.qo,.slice k.eA k.en k.ec,.int .i64 k.free,.int .i64 k.next,.int .i64 k.arg,.int .i64 k.self,.int .i64 k.now,.slice k.hA k.hn k.hc] 37)).alloc (.cells #[.int .i64 j.cm,.int .i64 j.cd,.int .i64 j.cr,.int .i64 j.cw,.int .i64 j.co,.slice j.mA j.mn j.mc,.slice j.pA j.pn j.pc,.int .i64 j.here,.slice j.dA j.dn j.dc,.slice j.rA j.rn j.rc,.slice j.fA j.fn j.fc,.slice j.wA j.wn j.wc,.int .i64 j.last,.slice j.oA j.on j.oc,.slice j.qA j.qn j.qc,.bool j.qo,.slice j.eA j.en j.ec,.int .i64 j.free,.int .i64 j.next,.int .i64 j.arg,.int .i64 j.self,.int .i64 j.now,.slice j.hA j.hn j.hc] 37):=⟨_,rfl⟩;rw [← hW] at kk hx hy ⊢;have B0:=zqh kk;have V0:=zqh (h.keep kk);have U0:=zqh (h'.keep kk);have X0:=zqh hx;have Y0:=zqh hy;have hq:=conf_eql k j;have hr:=nums_eql k j;obtain ⟨Fm,em⟩ : ∃ F,decide (L.m = M.m) = F:=⟨_,rfl⟩;obtain ⟨Fd,ed⟩ : ∃ F,sameB L.d M.d = F:=⟨_,rfl⟩;obtain ⟨Fr,er⟩ : ∃ F,sameB L.r M.r = F:=⟨_,rfl⟩;obtain ⟨Ff,ef⟩ : ∃ F,fmSame L.f M.f = F:=⟨_,rfl⟩;obtain ⟨Fw,ew⟩ : ∃ F,dSame L.dict M.dict = F:=⟨_,rfl⟩;obtain ⟨Fp,ep⟩ : ∃ F,pSame k.qo L.q j.qo M.q = F:=⟨_,rfl⟩
  obtain ⟨Fe,ee⟩ : ∃ F,rqSame L.e M.e = F:=⟨_,rfl⟩;obtain ⟨Fh,eh⟩ : ∃ F,hnSame L.h M.h = F:=⟨_,rfl⟩;obtain ⟨Fc,ec⟩ : ∃ F,confSame k j = F:=⟨_,rfl⟩;obtain ⟨Fo,eo⟩ : ∃ F,decide (L.o = M.o) = F:=⟨_,rfl⟩;obtain ⟨Fn,en⟩ : ∃ F,numsSame k j = F:=⟨_,rfl⟩;rw [em,ed,er,ef,ew,ep,ee,eh,ec,eo,en] at HF;rw [ec] at hq;rw [en] at hr;have Cm:=zqh (fun (a : World) (b : Below W.heap.size W a) => same_at k.mA k.pA j.mA j.pA k.mn k.mc k.pn k.pc j.mn j.mc j.pn j.pc L.m M.m a (zqh (V0.out.m.keep b)) (zqh (U0.out.m.keep b)));rw [em] at Cm;have Cw:=zqh (fun (a : World) (b : Below W.heap.size W a) => dsame_any k.wA j.wA k.wn k.wc j.wn j.wc L.dict M.dict a (V0.out.dict.keep b) (U0.out.dict.keep b) (by have:=HN.out; have:=V0.out.dict.len; omega));rw [ew] at Cw;have Cp:=zqh (fun (a : World) (b : Below W.heap.size W a) => same_any k.qA j.qA k.qn k.qc j.qn j.qc k.qo j.qo L.q M.q a (V0.out.q.keep b) (U0.out.q.keep b));rw [ep] at Cp;have Cd:=zqh (fun (a : World) (b : Below W.heap.size W a) => iequal_any k.dA j.dA k.dn k.dc j.dn j.dc L.d M.d a (V0.out.d.keep b) (U0.out.d.keep b) (by have:=HN.out; omega));rw [ed] at Cd;have Cr:=zqh (fun (a : World) (b : Below W.heap.size W a) => iequal_any k.rA j.rA k.rn k.rc j.rn j.rc L.r M.r a (V0.out.r.keep b) (U0.out.r.keep b) (by have:=HN.out; omega));rw [er] at Cr;have Cf:=zqh (fun (a : World) (b : Below W.heap.size W a) => fmequal_any k.fA j.fA k.fn k.fc j.fn j.fc L.f M.f a (V0.out.f.keep b) (U0.out.f.keep b) (by have:=HN.out; omega))
  rw [ef] at Cf;have Co:=zqh (fun (a : World) (b : Below W.heap.size W a) => equal_bel k.oA j.oA k.on k.oc j.on j.oc L.o M.o a (V0.out.o.keep b) (U0.out.o.keep b));rw [eo] at Co;have Ce:=zqh (fun (a : World) (b : Below W.heap.size W a) => rqequal_any k.eA j.eA k.en k.ec j.en j.ec L.e M.e a (V0.out.e.keep b) (U0.out.e.keep b) (by have:=HN.out; omega));rw [ee] at Ce;have Ch:=zqh (fun (a : World) (b : Below W.heap.size W a) => hnequal_any k.hA j.hA k.hn k.hc j.hn j.hc L.h M.h a (V0.out.h.keep b) (U0.out.h.keep b) (by have:=HN.out; omega));rw [eh] at Ch;clear em ed er ef ew ep ee eh ec eo en h h' hF kk hx hy hW;obtain ⟨p0,p1,p2,p3,p4,p5,p6,p7,p8,p9,p10,p11,p12,p13,p14,p15,p16,p17,p18,p19,p20,p21,p22⟩:=X0.out.use;obtain ⟨q0,q1,q2,q3,q4,q5,q6,q7,q8,q9,q10,q11,q12,q13,q14,q15,q16,q17,q18,q19,q20,q21,q22⟩:=Y0.out.use;have P0:=fun d os => cell_regrown p0 d os
  have Q0:=fun d os => cell_regrown q0 d os
  have P1:=fun d os => cell_regrown p1 d os
  have Q1:=fun d os => cell_regrown q1 d os
  have P2:=fun d os => cell_regrown p2 d os
  have Q2:=fun d os => cell_regrown q2 d os
  have P3:=fun d os => cell_regrown p3 d os
  have Q3:=fun d os => cell_regrown q3 d os
  have P4:=fun d os => cell_regrown p4 d os
  have Q4:=fun d os => cell_regrown q4 d os
  have P5:=fun d os => cell_regrown p5 d os
  have Q5:=fun d os => cell_regrown q5 d os
  have P6:=fun d os => cell_regrown p6 d os
  have Q6:=fun d os => cell_regrown q6 d os
  have P8:=fun d os => cell_regrown p8 d os
  have Q8:=fun d os => cell_regrown q8 d os
  have P9:=fun d os => cell_regrown p9 d os
  have Q9:=fun d os => cell_regrown q9 d os
  have P10:=fun d os => cell_regrown p10 d os
  have Q10:=fun d os => cell_regrown q10 d os
  have P11:=fun d os => cell_regrown p11 d os
  have Q11:=fun d os => cell_regrown q11 d os
  have P13:=fun d os => cell_regrown p13 d os
  have Q13:=fun d os => cell_regrown q13 d os
  have P14:=fun d os => cell_regrown p14 d os
  have Q14:=fun d os => cell_regrown q14 d os
  have P15:=fun d os => cell_regrown p15 d os
  have Q15:=fun d os => cell_regrown q15 d os
  have P16:=fun d os => cell_regrown p16 d os
  have Q16:=fun d os => cell_regrown q16 d os
  have P22:=fun d os => cell_regrown p22 d os
  have Q22:=fun d os => cell_regrown q22 d os
  clear p0 q0 p1 q1 p2 q2 p3 q3 p4 q4 p5 q5 p6 q6 p7 q7 p8 q8 p9 q9 p10 q10 p11 q11 p12 q12 p13 q13 p14 q14 p15 q15 p16 q16 p17 q17 p18 q18 p19 q19 p20 q20 p21 q21 p22 q22;refine wp_region_quiet_below (by kernel_rfl) (by kernel_rfl) ?_
  iterate 6 (first | go_big_quiet_skip | (go_big_quiet_want; first | (refine quiet_vload _ rfl w.heap.size k rfl X0.out ?_; go_big_quiet_on; (try simp only [zq,Act.put])) | (refine quiet_vload _ rfl (w.heap.size + 1) j rfl Y0.out ?_; go_big_quiet_on; (try simp only [zq,Act.put])) | (go_big_quiet_op; first | go_big_quiet_on | go_big_quiet_call (fail))))
  cases Fc with
  | false =>
    iterate 90 (try (first | go_big_quiet_skip | (go_big_quiet_want; first | (refine quiet_vload _ rfl w.heap.size k rfl X0.out ?_; go_big_quiet_on; (try simp only [zq,Act.put])) | (refine quiet_vload _ rfl (w.heap.size + 1) j rfl Y0.out ?_; go_big_quiet_on; (try simp only [zq,Act.put])) | (go_big_quiet_op; first | go_big_quiet_on | go_big_quiet_call (fail)))))
    refine wpQuiet_nil ?_;intro _ hw';obtain ⟨⟨dq,osq⟩,hw''⟩:=hw';subst hw'';(go_wp2_with fail);go_ret;exact ⟨by rw [HF.out]; simp,below_then B0.out (below_regrown W dq osq)⟩
  | true =>
    iterate 2 (first | go_big_quiet_skip | (go_big_quiet_want; first | (refine quiet_vload _ rfl w.heap.size k rfl X0.out ?_; go_big_quiet_on; (try simp only [zq,Act.put])) | (refine quiet_vload _ rfl (w.heap.size + 1) j rfl Y0.out ?_; go_big_quiet_on; (try simp only [zq,Act.put])) | (go_big_quiet_op; first | go_big_quiet_on | go_big_quiet_call (exact Calls.regrown_of (vnums_any k _)))))
    iterate 2 (first | go_big_quiet_skip | (go_big_quiet_want; first | (refine quiet_vload _ rfl w.heap.size k rfl X0.out ?_; go_big_quiet_on; (try simp only [zq,Act.put])) | (refine quiet_vload _ rfl (w.heap.size + 1) j rfl Y0.out ?_; go_big_quiet_on; (try simp only [zq,Act.put])) | (go_big_quiet_op; first | go_big_quiet_on | go_big_quiet_call (exact Calls.regrown_of (vnums_any j _)))))
    iterate 3 (first | go_big_quiet_skip | (go_big_quiet_want; first | (refine quiet_vload _ rfl w.heap.size k rfl X0.out ?_; go_big_quiet_on; (try simp only [zq,Act.put])) | (refine quiet_vload _ rfl (w.heap.size + 1) j rfl Y0.out ?_; go_big_quiet_on; (try simp only [zq,Act.put])) | (go_big_quiet_op; first | go_big_quiet_on | go_big_quiet_call (fail))))
    cases Fn with
    | false =>
      iterate 90 (try (first | go_big_quiet_skip | (go_big_quiet_want; first | (refine quiet_vload _ rfl w.heap.size k rfl X0.out ?_; go_big_quiet_on; (try simp only [zq,Act.put])) | (refine quiet_vload _ rfl (w.heap.size + 1) j rfl Y0.out ?_; go_big_quiet_on; (try simp only [zq,Act.put])) | (go_big_quiet_op; first | go_big_quiet_on | go_big_quiet_call (fail)))))
      refine wpQuiet_nil ?_;intro _ hw';obtain ⟨⟨dq,osq⟩,hw''⟩:=hw';subst hw'';(go_wp2_with fail);go_ret;exact ⟨by rw [HF.out]; simp,below_then B0.out (below_regrown W dq osq)⟩
    | true =>
      iterate 7 (first | go_big_quiet_skip | (go_big_quiet_want; first | (refine quiet_vload _ rfl w.heap.size k rfl X0.out ?_; go_big_quiet_on; (try simp only [zq,Act.put])) | (refine quiet_vload _ rfl (w.heap.size + 1) j rfl Y0.out ?_; go_big_quiet_on; (try simp only [zq,Act.put])) | (go_big_quiet_op; first | go_big_quiet_on | go_big_quiet_call (exact Calls.regrown_of (Cm.out _ (below_regrown _ _ _))))))
      cases Fm with
      | false =>
        iterate 90 (try (first | go_big_quiet_skip | (go_big_quiet_want; first | (refine quiet_vload _ rfl w.heap.size k rfl X0.out ?_; go_big_quiet_on; (try simp only [zq,Act.put])) | (refine quiet_vload _ rfl (w.heap.size + 1) j rfl Y0.out ?_; go_big_quiet_on; (try simp only [zq,Act.put])) | (go_big_quiet_op; first | go_big_quiet_on | go_big_quiet_call (fail)))))
        refine wpQuiet_nil ?_;intro _ hw';obtain ⟨⟨dq,osq⟩,hw''⟩:=hw';subst hw'';(go_wp2_with fail);go_ret;exact ⟨by rw [HF.out]; simp,below_then B0.out (below_regrown W dq osq)⟩
      | true =>
        iterate 7 (first | go_big_quiet_skip | (go_big_quiet_want; first | (refine quiet_vload _ rfl w.heap.size k rfl X0.out ?_; go_big_quiet_on; (try simp only [zq,Act.put])) | (refine quiet_vload _ rfl (w.heap.size + 1) j rfl Y0.out ?_; go_big_quiet_on; (try simp only [zq,Act.put])) | (go_big_quiet_op; first | go_big_quiet_on | go_big_quiet_call (exact Calls.regrown_of (Cw.out _ (below_regrown _ _ _))))))
        cases Fw with
        | false =>
          iterate 90 (try (first | go_big_quiet_skip | (go_big_quiet_want; first | (refine quiet_vload _ rfl w.heap.size k rfl X0.out ?_; go_big_quiet_on; (try simp only [zq,Act.put])) | (refine quiet_vload _ rfl (w.heap.size + 1) j rfl Y0.out ?_; go_big_quiet_on; (try simp only [zq,Act.put])) | (go_big_quiet_op; first | go_big_quiet_on | go_big_quiet_call (fail)))))
          refine wpQuiet_nil ?_;intro _ hw';obtain ⟨⟨dq,osq⟩,hw''⟩:=hw';subst hw'';(go_wp2_with fail);go_ret;exact ⟨by rw [HF.out]; simp,below_then B0.out (below_regrown W dq osq)⟩
        | true =>
          iterate 7 (first | go_big_quiet_skip | (go_big_quiet_want; first | (refine quiet_vload _ rfl w.heap.size k rfl X0.out ?_; go_big_quiet_on; (try simp only [zq,Act.put])) | (refine quiet_vload _ rfl (w.heap.size + 1) j rfl Y0.out ?_; go_big_quiet_on; (try simp only [zq,Act.put])) | (go_big_quiet_op; first | go_big_quiet_on | go_big_quiet_call (exact Calls.regrown_of (Cp.out _ (below_regrown _ _ _))))))
          cases Fp with
          | false =>
            iterate 90 (try (first | go_big_quiet_skip | (go_big_quiet_want; first | (refine quiet_vload _ rfl w.heap.size k rfl X0.out ?_; go_big_quiet_on; (try simp only [zq,Act.put])) | (refine quiet_vload _ rfl (w.heap.size + 1) j rfl Y0.out ?_; go_big_quiet_on; (try simp only [zq,Act.put])) | (go_big_quiet_op; first | go_big_quiet_on | go_big_quiet_call (fail)))))
            refine wpQuiet_nil ?_;intro _ hw';obtain ⟨⟨dq,osq⟩,hw''⟩:=hw';subst hw'';(go_wp2_with fail);go_ret;exact ⟨by rw [HF.out]; simp,below_then B0.out (below_regrown W dq osq)⟩
          | true =>
            iterate 7 (first | go_big_quiet_skip | (go_big_quiet_want; first | (refine quiet_vload _ rfl w.heap.size k rfl X0.out ?_; go_big_quiet_on; (try simp only [zq,Act.put])) | (refine quiet_vload _ rfl (w.heap.size + 1) j rfl Y0.out ?_; go_big_quiet_on; (try simp only [zq,Act.put])) | (go_big_quiet_op; first | go_big_quiet_on | go_big_quiet_call (exact Calls.regrown_of (Cd.out _ (below_regrown _ _ _))))))
            cases Fd with
            | false =>
              iterate 90 (try (first | go_big_quiet_skip | (go_big_quiet_want; first | (refine quiet_vload _ rfl w.heap.size k rfl X0.out ?_; go_big_quiet_on; (try simp only [zq,Act.put])) | (refine quiet_vload _ rfl (w.heap.size + 1) j rfl Y0.out ?_; go_big_quiet_on; (try simp only [zq,Act.put])) | (go_big_quiet_op; first | go_big_quiet_on | go_big_quiet_call (fail)))))
              refine wpQuiet_nil ?_;intro _ hw';obtain ⟨⟨dq,osq⟩,hw''⟩:=hw';subst hw'';(go_wp2_with fail);go_ret;exact ⟨by rw [HF.out]; simp,below_then B0.out (below_regrown W dq osq)⟩
            | true =>
              iterate 7 (first | go_big_quiet_skip | (go_big_quiet_want; first | (refine quiet_vload _ rfl w.heap.size k rfl X0.out ?_; go_big_quiet_on; (try simp only [zq,Act.put])) | (refine quiet_vload _ rfl (w.heap.size + 1) j rfl Y0.out ?_; go_big_quiet_on; (try simp only [zq,Act.put])) | (go_big_quiet_op; first | go_big_quiet_on | go_big_quiet_call (exact Calls.regrown_of (Cr.out _ (below_regrown _ _ _))))))
              cases Fr with
              | false =>
                iterate 90 (try (first | go_big_quiet_skip | (go_big_quiet_want; first | (refine quiet_vload _ rfl w.heap.size k rfl X0.out ?_; go_big_quiet_on; (try simp only [zq,Act.put])) | (refine quiet_vload _ rfl (w.heap.size + 1) j rfl Y0.out ?_; go_big_quiet_on; (try simp only [zq,Act.put])) | (go_big_quiet_op; first | go_big_quiet_on | go_big_quiet_call (fail)))))
                refine wpQuiet_nil ?_;intro _ hw';obtain ⟨⟨dq,osq⟩,hw''⟩:=hw';subst hw'';(go_wp2_with fail);go_ret;exact ⟨by rw [HF.out]; simp,below_then B0.out (below_regrown W dq osq)⟩
              | true =>
                iterate 7 (first | go_big_quiet_skip | (go_big_quiet_want; first | (refine quiet_vload _ rfl w.heap.size k rfl X0.out ?_; go_big_quiet_on; (try simp only [zq,Act.put])) | (refine quiet_vload _ rfl (w.heap.size + 1) j rfl Y0.out ?_; go_big_quiet_on; (try simp only [zq,Act.put])) | (go_big_quiet_op; first | go_big_quiet_on | go_big_quiet_call (exact Calls.regrown_of (Cf.out _ (below_regrown _ _ _))))))
                cases Ff with
                | false =>
                  iterate 90 (try (first | go_big_quiet_skip | (go_big_quiet_want; first | (refine quiet_vload _ rfl w.heap.size k rfl X0.out ?_; go_big_quiet_on; (try simp only [zq,Act.put])) | (refine quiet_vload _ rfl (w.heap.size + 1) j rfl Y0.out ?_; go_big_quiet_on; (try simp only [zq,Act.put])) | (go_big_quiet_op; first | go_big_quiet_on | go_big_quiet_call (fail)))))
                  refine wpQuiet_nil ?_;intro _ hw';obtain ⟨⟨dq,osq⟩,hw''⟩:=hw';subst hw'';(go_wp2_with fail);go_ret;exact ⟨by rw [HF.out]; simp,below_then B0.out (below_regrown W dq osq)⟩
                | true =>
                  iterate 7 (first | go_big_quiet_skip | (go_big_quiet_want; first | (refine quiet_vload _ rfl w.heap.size k rfl X0.out ?_; go_big_quiet_on; (try simp only [zq,Act.put])) | (refine quiet_vload _ rfl (w.heap.size + 1) j rfl Y0.out ?_; go_big_quiet_on; (try simp only [zq,Act.put])) | (go_big_quiet_op; first | go_big_quiet_on | go_big_quiet_call (exact Calls.regrown_of (Co.out _ (below_regrown _ _ _))))))
                  cases Fo with
                  | false =>
                    iterate 90 (try (first | go_big_quiet_skip | (go_big_quiet_want; first | (refine quiet_vload _ rfl w.heap.size k rfl X0.out ?_; go_big_quiet_on; (try simp only [zq,Act.put])) | (refine quiet_vload _ rfl (w.heap.size + 1) j rfl Y0.out ?_; go_big_quiet_on; (try simp only [zq,Act.put])) | (go_big_quiet_op; first | go_big_quiet_on | go_big_quiet_call (fail)))))
                    refine wpQuiet_nil ?_;intro _ hw';obtain ⟨⟨dq,osq⟩,hw''⟩:=hw';subst hw'';(go_wp2_with fail);go_ret;exact ⟨by rw [HF.out]; simp,below_then B0.out (below_regrown W dq osq)⟩
                  | true =>
                    iterate 7 (first | go_big_quiet_skip | (go_big_quiet_want; first | (refine quiet_vload _ rfl w.heap.size k rfl X0.out ?_; go_big_quiet_on; (try simp only [zq,Act.put])) | (refine quiet_vload _ rfl (w.heap.size + 1) j rfl Y0.out ?_; go_big_quiet_on; (try simp only [zq,Act.put])) | (go_big_quiet_op; first | go_big_quiet_on | go_big_quiet_call (exact Calls.regrown_of (Ce.out _ (below_regrown _ _ _))))))
                    cases Fe with
                    | false =>
                      iterate 90 (try (first | go_big_quiet_skip | (go_big_quiet_want; first | (refine quiet_vload _ rfl w.heap.size k rfl X0.out ?_; go_big_quiet_on; (try simp only [zq,Act.put])) | (refine quiet_vload _ rfl (w.heap.size + 1) j rfl Y0.out ?_; go_big_quiet_on; (try simp only [zq,Act.put])) | (go_big_quiet_op; first | go_big_quiet_on | go_big_quiet_call (fail)))))
                      refine wpQuiet_nil ?_;intro _ hw';obtain ⟨⟨dq,osq⟩,hw''⟩:=hw';subst hw'';(go_wp2_with fail);go_ret;exact ⟨by rw [HF.out]; simp,below_then B0.out (below_regrown W dq osq)⟩
                    | true =>
                      iterate 7 (first | go_big_quiet_skip | (go_big_quiet_want; first | (refine quiet_vload _ rfl w.heap.size k rfl X0.out ?_; go_big_quiet_on; (try simp only [zq,Act.put])) | (refine quiet_vload _ rfl (w.heap.size + 1) j rfl Y0.out ?_; go_big_quiet_on; (try simp only [zq,Act.put])) | (go_big_quiet_op; first | go_big_quiet_on | go_big_quiet_call (exact Calls.regrown_of (Ch.out _ (below_regrown _ _ _))))))
                      refine wpQuiet_nil ?_;intro _ hw';obtain ⟨⟨dq,osq⟩,hw''⟩:=hw';subst hw'';(go_wp2_with fail);go_ret;exact ⟨by rw [HF.out]; simp,below_then B0.out (below_regrown W dq osq)⟩


theorem wpList_vstore {ops : Array Oper} {rest : List Oper} {o : Oper} {a : Act} {Q : Exit → Act → World → Prop} {w : World} (hw : Region.wanted o (yielded ops a.tmps) = true) (x y : Operand) (ho : o.op = .store 37 x y)
    (b : Nat) (j k : VmK) (hx : a.eval x = .pointer (some ⟨b,0,none⟩)) (hy : a.eval y = vmV k) (hb : VBox w b j) (h : wpList Tryz.prog ops Q rest (a.put o.dst undef) (w.setRow b (vmC k))) : wpList Tryz.prog ops Q (o :: rest) a w :=
  wpList_step fun K hK => by
    rw [if_pos hw];exact wp_store_row 37 x y ho b (vmC k) hx hy _ _ hb vm_info rfl (vm_one k) (hK _ _ h)


def CfBox (w : World) (b : Nat) (m d r v o : Int) : Prop:=w.heap[b]? = some (.cells #[.int .i64 m,.int .i64 d,.int .i64 r,.int .i64 v,.int .i64 o] 25 (0,0))
theorem CfBox.lt {w : World} {b : Nat} {m d r v o : Int} (h : CfBox w b m d r v o) : b < w.heap.size:=(Array.getElem?_eq_some_iff.1 h).1
theorem CfBox.keep {w w' : World} {b : Nat} {m d r v o : Int} (h : CfBox w b m d r v o) (x : Below w.heap.size w w') : CfBox w' b m d r v o:=(x.block b h.lt).trans h
theorem CfBox.use {w : World} {b : Nat} {m d r v o : Int} (h : CfBox w b m d r v o) : w.cell? ⟨b,0,none⟩ = some (.int .i64 m) ∧ w.cell? ⟨b,1,none⟩ = some (.int .i64 d) ∧ w.cell? ⟨b,2,none⟩ = some (.int .i64 r) ∧ w.cell? ⟨b,3,none⟩ = some (.int .i64 v) ∧ w.cell? ⟨b,4,none⟩ = some (.int .i64 o):=by
  unfold CfBox at h;refine ⟨?_,?_,?_,?_,?_⟩ <;> simp [World.cell?,h]
end Go.Proofs.YtcmldhjicjmmgaaGreatDoor
