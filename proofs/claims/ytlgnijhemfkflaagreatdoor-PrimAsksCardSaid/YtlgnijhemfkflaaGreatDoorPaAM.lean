/- Part 13. -/
import Derived.Test.YtlgnijhemfkflaaGreatDoorPaAL
set_option linter.unusedVariables false
set_option linter.unusedSimpArgs false
set_option maxRecDepth 100000
set_option maxHeartbeats 4000000

namespace Go.Proofs.YtlgnijhemfkflaaGreatDoor
open Go.RowKit


theorem rnew_no (m d r v o : Int) (w : World) (hfit : fitsB m d r v o = false) :
    Calls Tryz.prog 41 #[.agg #[.int .i64 m,.int .i64 d,.int .i64 r,.int .i64 v,.int .i64 o]] w fun e w' => e = .returned (.tuple #[vmV vm0,.int .i64 (-24)]) ∧ Below w.heap.size w w':=by
  have HF:=zqh (rfits_any m d r v o);rw [hfit] at HF;obtain ⟨k0,k1,k2⟩:=cv_new w m d r v o vm0 _ rfl;have B0:=zqh k0;have X0:=zqh k2;clear k0 k1 k2 hfit;go_enter Tryz.func41,Tryz.ntmps41;(go_wp2_with fail);refine (HF.out _).mono ?_;rintro e w1 ⟨rfl,bb⟩;have B1:=zqh (below_then B0.out bb);have X1:=zqh (X0.out.keep bb);clear bb B0 X0 HF;(go_wp2_with (refine wpList_store_row rfl 36 _ _ rfl (w.heap.size + 1) (vmC vm0) rfl rfl _ _ X1.out (by kernel_rfl) rfl (vm_one _) ?_));refine bodyPost_ret (res_ct rfl _ _ _ _ rfl (vrow X1.out vm0)) rfl ?_;exact ⟨rfl,below_setRow B1.out (by omega) _⟩
def NewOut (m d r v o : Int) (w : World) (e : Ending) (w' : World) : Prop :=
  (fitsB m d r v o = true → ∃ (L : Nat) (g : Nat) (A : Option Addr) (c : Nat),m = (L : Int) ∧ e = .returned (.tuple #[vmV (newK L d r v o g A c),.int .i64 0]) ∧ IsVm w' (newK L d r v o g A c) (newL L)) ∧
  (fitsB m d r v o = false → e = .returned (.tuple #[vmV vm0,.int .i64 (-24)])) ∧ Below w.heap.size w w'
theorem rnew_any (m d r v o : Int) (w : World) : Calls Tryz.prog 41 #[.agg #[.int .i64 m,.int .i64 d,.int .i64 r,.int .i64 v,.int .i64 o]] w (NewOut m d r v o w):=by
  cases h : fitsB m d r v o with
  | false =>
    refine (rnew_no m d r v o w h).mono ?_;rintro e w1 ⟨rfl,b⟩;exact ⟨fun e => absurd (h.symm.trans e) (by decide),fun _ => rfl,b⟩
  | true =>
    have hf:=(fits_iff m d r v o).1 h;obtain ⟨L,rfl⟩ : ∃ L : Nat,m = (L : Int):=⟨m.toNat,by omega⟩;refine (rnew_yes L d r v o w h (by omega) (by omega)).mono ?_;rintro e w1 ⟨g,A,c,rfl,hv,b⟩;exact ⟨fun _ => ⟨L,g,A,c,rfl,rfl,hv⟩,fun e => absurd (h.symm.trans e) (by decide),b⟩
end Go.Proofs.YtlgnijhemfkflaaGreatDoor

namespace Go.Proofs.YtlgnijhemfkflaaGreatDoor
open Go.RowKit


def headB (k : VmK) : Bool:=decide ((k.mn : Int) = k.cm ∧ 1368 ≤ k.here ∧ k.here ≤ k.cm)
def frB (q : Fm) : Bool:=decide (0 ≤ q.d ∧ q.d ≤ 256 ∧ 0 ≤ q.r ∧ q.r ≤ 256)
def hnB (q : Hn) : Bool:=decide (0 ≤ q.fuel)
def tailB (k : VmK) : Bool:=decide ((k.dn : Int) ≤ k.cd ∧ (k.rn : Int) ≤ k.cr ∧ k.fn ≤ 64 ∧ (k.wn : Int) ≤ k.cw ∧ (k.on : Int) ≤ k.co ∧ k.en ≤ 16 ∧ 0 ≤ k.free ∧ k.free ≤ 64 ∧ 0 ≤ k.next ∧ k.next ≤ 4611686018427387904 ∧ k.hn ≤ 64)
def fitsV (k : VmK) : Bool:=fitsB k.cm k.cd k.cr k.cw k.co
def vRight (k : VmK) (L : VmL) : Bool:=fitsV k && (rightB L.m && (dRight L.dict && (pRight k.qo L.q && (headB k && (L.f.all frB && (L.h.all hnB && tailB k))))))
theorem rws_small {α : Type} {enc : α → List Value} {w : World} {A : Option Addr} {n c : Nat} {l : List α} (h : Rws enc w (.slice A n c) l) : n ≤ 9223372036854775807:=by
  have hl:=h.len;obtain ⟨A',c',e,h1,h2,_⟩:=h;injection e with e1 e2 e3
  unfold maxLen at h2;omega
theorem vall_take {α : Type} {p : α → Bool} {l : List α} {k : Nat} {c : α} (h : (l.take k).all p = true) (hc : l[k]? = some c) (hp : p c = true) : (l.take (k + 1)).all p = true:=by
  rw [List.take_add_one,hc,List.all_append,h];simp [hp]
theorem vall_no {α : Type} {p : α → Bool} {l : List α} {k : Nat} {c : α} (hc : l[k]? = some c) (hp : p c = false) : l.all p = false:=by
  rw [List.all_eq_false];exact ⟨c,List.mem_of_getElem? hc,by simp [hp]⟩
set_option maxHeartbeats 16000000 in
theorem rvright_any (k : VmK) (L : VmL) (w : World) (HN : Hid (k.wn ≤ 1000000)) (h : IsVm w k L) :
    Calls Tryz.prog 19 #[vmV k] w fun e w' => e = .returned (.bool (vRight k L)) ∧ Below w.heap.size w w':=by
  have kk:=al_one w (.cells #[.int .i64 k.cm,.int .i64 k.cd,.int .i64 k.cr,.int .i64 k.cw,.int .i64 k.co,.slice k.mA k.mn k.mc,.slice k.pA k.pn k.pc,.int .i64 k.here,.slice k.dA k.dn k.dc,.slice k.rA k.rn k.rc,.slice k.fA k.fn k.fc,.slice k.wA k.wn k.wc,.int .i64 k.last,.slice k.oA k.on k.oc,.slice k.qA k.qn k.qc,.bool k.qo,.slice k.eA k.en k.ec,.int .i64 k.free,.int .i64 k.next,.int .i64 k.arg,.int .i64 k.self,.int .i64 k.now,.slice k.hA k.hn k.hc] 36);have HB:=zqh kk;have HV:=zqh (h.keep kk);have HP:=zqh (vbox_new w k);obtain ⟨F,hF⟩ : ∃ F,vRight k L = F:=⟨_,rfl⟩;have HF : Hid (F = vRight k L):=hF.symm;rw [hF];have HC:=zqh (rfits_any k.cm k.cd k.cr k.cw k.co (w.alloc (.cells #[.int .i64 k.cm,.int .i64 k.cd,.int .i64 k.cr,.int .i64 k.cw,.int .i64 k.co,.slice k.mA k.mn k.mc,.slice k.pA k.pn k.pc,.int .i64 k.here,.slice k.dA k.dn k.dc,.slice k.rA k.rn k.rc,.slice k.fA k.fn k.fc,.slice k.wA k.wn k.wc,.int .i64 k.last,.slice k.oA k.on k.oc,.slice k.qA k.qn k.qc,.bool k.qo,.slice k.eA k.en k.ec,.int .i64 k.free,.int .i64 k.next,.int .i64 k.arg,.int .i64 k.self,.int .i64 k.now,.slice k.hA k.hn k.hc] 36)));obtain ⟨F1,e1⟩ : ∃ F,fitsB k.cm k.cd k.cr k.cw k.co = F:=⟨_,rfl⟩;rw [e1] at HC;have H1 : Hid (fitsV k = F1):=e1;have hf:=h.f.len;have hh:=h.h.len;have HLF:=zqh hf;have HLH:=zqh hh;clear h kk hF e1 hf hh;go_enter Tryz.func19,Tryz.ntmps19;(go_wp2_with fail);refine HC.out.mono ?_;rintro e w1 ⟨rfl,bb⟩;have X1:=zqh (HP.out.keep bb)
  have V1:=zqh (HV.out.keep bb);have B1:=zqh (below_then HB.out bb);clear bb HC HV HP HB;obtain ⟨p0,p1,p2,p3,p4,p5,p6,p7,p8,p9,p10,p11,p12,p13,p14,p15,p16,p17,p18,p19,p20,p21,p22⟩:=X1.out.use;have HC:=zqh (rright_at k.mA k.pA k.mn k.mc k.pn k.pc L.m _ (zqh V1.out.m));obtain ⟨F2,ef⟩ : ∃ F,rightB L.m = F:=⟨_,rfl⟩;rw [ef] at HC;have H2:=zqh ef;clear ef;(go_wp2_with fail);refine HC.out.mono ?_;rintro e w2 ⟨rfl,bb⟩;have X2:=zqh (X1.out.keep bb);have V2:=zqh (V1.out.keep bb);have B2:=zqh (below_then B1.out bb);clear bb HC X1 V1 B1 p0 p1 p2 p3 p4 p5 p6 p7 p8 p9 p10 p11 p12 p13 p14 p15 p16 p17 p18 p19 p20 p21 p22;obtain ⟨p0,p1,p2,p3,p4,p5,p6,p7,p8,p9,p10,p11,p12,p13,p14,p15,p16,p17,p18,p19,p20,p21,p22⟩:=X2.out.use;have HC:=zqh (rright_anyL k.wA k.wn k.wc L.dict _ V2.out.dict (by have:=HN.out; omega));obtain ⟨F3,ef⟩ : ∃ F,dRight L.dict = F:=⟨_,rfl⟩;rw [ef] at HC;have H3:=zqh ef;clear ef;(go_wp2_with fail);refine HC.out.mono ?_;rintro e w3 ⟨rfl,bb⟩;have X3:=zqh (X2.out.keep bb);have V3:=zqh (V2.out.keep bb);have B3:=zqh (below_then B2.out bb);clear bb HC X2 V2 B2 p0 p1 p2 p3 p4 p5 p6 p7 p8 p9 p10 p11 p12 p13 p14 p15 p16 p17 p18 p19 p20 p21 p22;obtain ⟨p0,p1,p2,p3,p4,p5,p6,p7,p8,p9,p10,p11,p12,p13,p14,p15,p16,p17,p18,p19,p20,p21,p22⟩:=X3.out.use;have HC:=zqh (rright_any k.qA k.qn k.qc k.qo L.q _ V3.out.q);obtain ⟨F4,ef⟩ : ∃ F,pRight k.qo L.q = F:=⟨_,rfl⟩;rw [ef] at HC;have H4:=zqh ef
  clear ef;(go_wp2_with fail);refine HC.out.mono ?_;rintro e w4 ⟨rfl,bb⟩;have X4:=zqh (X3.out.keep bb);have V4:=zqh (V3.out.keep bb);have B4:=zqh (below_then B3.out bb);clear bb HC X3 V3 B3 p0 p1 p2 p3 p4 p5 p6 p7 p8 p9 p10 p11 p12 p13 p14 p15 p16 p17 p18 p19 p20 p21 p22;obtain ⟨p0,p1,p2,p3,p4,p5,p6,p7,p8,p9,p10,p11,p12,p13,p14,p15,p16,p17,p18,p19,p20,p21,p22⟩:=X4.out.use;cases F1 with
  | false =>
    go_wp2
    all_goals go_ret
    all_goals exact ⟨ret_bool (by rw [HF.out]; unfold vRight; rw [H1.out]; rfl),B4.out⟩
  | true =>
    cases F2 with
    | false =>
      go_wp2
      all_goals go_ret
      all_goals exact ⟨ret_bool (by rw [HF.out]; unfold vRight; rw [H1.out,H2.out]; rfl),B4.out⟩
    | true =>
      cases F3 with
      | false =>
        go_wp2
        all_goals go_ret
        all_goals exact ⟨ret_bool (by rw [HF.out]; unfold vRight; rw [H1.out,H2.out,H3.out]; rfl),B4.out⟩
      | true =>
        cases F4 with
        | false =>
          go_wp2
          all_goals go_ret
          all_goals exact ⟨ret_bool (by rw [HF.out]; unfold vRight; rw [H1.out,H2.out,H3.out,H4.out]; rfl),B4.out⟩
        | true =>
          cases hd : headB k with
          | false =>
            have H5:=zqh hd;have hn : ¬ ((k.mn : Int) = k.cm ∧ 1368 ≤ k.here ∧ k.here ≤ k.cm):=by unfold headB at hd; simpa using hd
            by_cases g1 : (k.mn : Int) = k.cm
            · have g1a : ((k.mn : Int) != k.cm) = false:=by simp [g1]
              have g1b : ((k.mn : Int) == k.cm) = true:=by simp [g1]
              by_cases g2 : k.here < 1368
              · clear hn hd g1
                go_wp2
                all_goals go_ret
                all_goals exact ⟨ret_bool (by rw [HF.out]; unfold vRight; rw [H1.out,H2.out,H3.out,H4.out,H5.out]; rfl),B4.out⟩
              · have g2a : decide (k.here < 1368) = false:=by simp; omega
                have g3 : k.cm < k.here:=by omega
                clear hn hd g1 g2;go_wp2
                all_goals go_ret
                all_goals exact ⟨ret_bool (by rw [HF.out]; unfold vRight; rw [H1.out,H2.out,H3.out,H4.out,H5.out]; rfl),B4.out⟩
            · have g1a : ((k.mn : Int) != k.cm) = true:=by simpa using g1
              have g1b : ((k.mn : Int) == k.cm) = false:=by simpa using g1
              clear hn hd g1;go_wp2
              all_goals go_ret
              all_goals exact ⟨ret_bool (by rw [HF.out]; unfold vRight; rw [H1.out,H2.out,H3.out,H4.out,H5.out]; rfl),B4.out⟩
          | true =>
            have H5:=zqh hd;have hy : (k.mn : Int) = k.cm ∧ 1368 ≤ k.here ∧ k.here ≤ k.cm:=by unfold headB at hd; simpa using hd
            have g1a : ((k.mn : Int) != k.cm) = false:=by simp [hy.1]
            have g1b : ((k.mn : Int) == k.cm) = true:=by simp [hy.1]
            have g2a : decide (k.here < 1368) = false:=by simp; omega
            have g3a : decide (k.cm < k.here) = false:=by simp; omega
            clear hd hy;(go_wp2_with fail);have hfb:=rws_small V4.out.f;clear p0 p1 p2 p3 p4 p5 p6 p7 p8 p9 p10 p11 p12 p13 p14 p15 p16 p17 p18 p19 p20 p21 p22
            go_loopw [7] (fun s7 wr => ∃ (i : Nat),s7 = .int .i64 (i : Int) ∧ i ≤ k.fn ∧ Hid ((L.f.take i).all frB = true) ∧ Hid (Below w4.heap.size w4 wr)) (fun s7 _ => k.fn - (intOf s7).toNat)
            case atStart => exact ⟨0,rfl,Nat.zero_le _,zqh rfl,zqh (Below.refl _ _)⟩
            case round =>
              obtain ⟨i,rfl,hi,HT,HW⟩:=hrel;have XR:=zqh (X4.out.keep HW.out);obtain ⟨p0,p1,p2,p3,p4,p5,p6,p7,p8,p9,p10,p11,p12,p13,p14,p15,p16,p17,p18,p19,p20,p21,p22⟩:=XR.out.use
              by_cases hif : i < k.fn
              · have hif' : (i : Int) < (k.fn : Int):=by omega
                obtain ⟨g,o,hA,c1,c2,c3⟩:=fm_cells (V4.out.f.keep HW.out) (k:=i) (by have:=HLF.out; omega);have hq : L.f[i]? = some (L.f[i]'(by have:=HLF.out; omega)):=List.getElem?_eq_getElem _;obtain ⟨q,eq⟩ : ∃ q,L.f[i]'(by have:=HLF.out; omega) = q:=⟨_,rfl⟩;rw [eq] at c1 c2 c3 hq;rw [hA] at p10;have HQ:=zqh hq;have HBW:=zqh (below_then B4.out HW.out);clear hA hq eq;cases hb : frB q with
                | true =>
                  have hb' : 0 ≤ q.d ∧ q.d ≤ 256 ∧ 0 ≤ q.r ∧ q.r ≤ 256:=by unfold frB at hb; simpa using hb
                  have HT2:=zqh (vall_take HT.out HQ.out hb);have n_0 : decide (q.d < 0) = false:=by simp; omega
                  have n_1 : decide (256 < q.d) = false:=by simp; omega
                  have n_2 : decide (q.r < 0) = false:=by simp; omega
                  have n_3 : decide (256 < q.r) = false:=by simp; omega
                  clear hb hb' HT;(go_wp2_with fail)
                  go_roundw
                  case rel => exact ⟨i + 1,by simp,by omega,HT2,HW⟩
                  case measure => simp [intOf]; omega
                | false =>
                  have hb' : ¬ (0 ≤ q.d ∧ q.d ≤ 256 ∧ 0 ≤ q.r ∧ q.r ≤ 256):=by unfold frB at hb; simpa using hb
                  have H6 : Hid (F = false):=by show _ = _; rw [HF.out]; unfold vRight; rw [H1.out,H2.out,H3.out,H4.out,H5.out,vall_no HQ.out hb]; rfl
                  clear hb HT
                  by_cases m0 : q.d < 0
                  · clear hb'
                    (go_wp2_with fail);go_ret;exact ⟨ret_bool H6.out.symm,HBW.out⟩
                  · have n_0 : decide (q.d < 0) = false:=by simp; omega
                    by_cases m1 : 256 < q.d
                    · clear hb'
                      (go_wp2_with fail);go_ret;exact ⟨ret_bool H6.out.symm,HBW.out⟩
                    · have n_1 : decide (256 < q.d) = false:=by simp; omega
                      by_cases m2 : q.r < 0
                      · clear hb'
                        (go_wp2_with fail);go_ret;exact ⟨ret_bool H6.out.symm,HBW.out⟩
                      · have n_2 : decide (q.r < 0) = false:=by simp; omega
                        have m3 : 256 < q.r:=by omega
                        clear hb';(go_wp2_with fail);go_ret;exact ⟨ret_bool H6.out.symm,HBW.out⟩
              · obtain rfl : i = k.fn:=by omega
                rw [show L.f.take k.fn = L.f by rw [← HLF.out,List.take_length]] at HT;have X5:=XR;have V5:=zqh (V4.out.keep HW.out);have B5:=zqh (below_then B4.out HW.out);have H6:=HT;have hhb:=rws_small V4.out.h;clear hif hi HW XR HT X4 V4 B4;(go_wp2_with fail);clear p0 p1 p2 p3 p4 p5 p6 p7 p8 p9 p10 p11 p12 p13 p14 p15 p16 p17 p18 p19 p20 p21 p22
                go_loopw [8] (fun s7 wz => ∃ (i : Nat),s7 = .int .i64 (i : Int) ∧ i ≤ k.hn ∧ Hid ((L.h.take i).all hnB = true) ∧ Hid (Below wr.heap.size wr wz)) (fun s7 _ => k.hn - (intOf s7).toNat)
                case atStart => exact ⟨0,rfl,Nat.zero_le _,zqh rfl,zqh (Below.refl _ _)⟩
                case round =>
                  obtain ⟨i,rfl,hi,HT,HW⟩:=hrel;have XR:=zqh (X5.out.keep HW.out);obtain ⟨p0,p1,p2,p3,p4,p5,p6,p7,p8,p9,p10,p11,p12,p13,p14,p15,p16,p17,p18,p19,p20,p21,p22⟩:=XR.out.use
                  by_cases hif : i < k.hn
                  · have hif' : (i : Int) < (k.hn : Int):=by omega
                    obtain ⟨g,o,hA,c1,c2,c3,c4⟩:=hn_cells (V5.out.h.keep HW.out) (k:=i) (by have:=HLH.out; omega);have hq : L.h[i]? = some (L.h[i]'(by have:=HLH.out; omega)):=List.getElem?_eq_getElem _;obtain ⟨q,eq⟩ : ∃ q,L.h[i]'(by have:=HLH.out; omega) = q:=⟨_,rfl⟩;rw [eq] at c1 c2 c3 c4 hq;rw [hA] at p22;have HQ:=zqh hq;have HBW:=zqh (below_then B5.out HW.out);clear hA hq eq;cases hb : hnB q with
                    | true =>
                      have hb' : 0 ≤ q.fuel:=by unfold hnB at hb; simpa using hb
                      have HT2:=zqh (vall_take HT.out HQ.out hb);have n_0 : decide (q.fuel < 0) = false:=by simp; omega
                      clear hb hb' HT;(go_wp2_with fail)
                      go_roundw
                      case rel => exact ⟨i + 1,by simp,by omega,HT2,HW⟩
                      case measure => simp [intOf]; omega
                    | false =>
                      have hb' : ¬ (0 ≤ q.fuel):=by unfold hnB at hb; simpa using hb
                      have H6 : Hid (F = false):=by show _ = _; rw [HF.out]; unfold vRight; rw [H1.out,H2.out,H3.out,H4.out,H5.out,H6.out,vall_no HQ.out hb]; rfl
                      clear hb HT;have m0 : q.fuel < 0:=by omega
                      clear hb';(go_wp2_with fail);go_ret;exact ⟨ret_bool H6.out.symm,HBW.out⟩
                  · obtain rfl : i = k.hn:=by omega
                    rw [show L.h.take k.hn = L.h by rw [← HLH.out,List.take_length]] at HT;have H8 : Hid (F = tailB k):=by show _ = _; rw [HF.out]; unfold vRight; rw [H1.out,H2.out,H3.out,H4.out,H5.out,H6.out,HT.out]; rfl
                    have B6:=zqh (below_then B5.out HW.out);clear hif hi HT HF H1 H2 H3 H4 H5 H6 HLF HLH;go_upto_region 17 with fail
                    simp only [List.append_eq,List.cons_append,List.nil_append]
                    by_cases t0 : (k.dn : Int) ≤ k.cd
                    · skip
                      by_cases t1 : (k.rn : Int) ≤ k.cr
                      · skip
                        by_cases t2 : (k.fn : Int) ≤ 64
                        · skip
                          by_cases t3 : (k.wn : Int) ≤ k.cw
                          · skip
                            by_cases t4 : (k.on : Int) ≤ k.co
                            · skip
                              by_cases t5 : (k.en : Int) ≤ 16
                              · skip
                                by_cases t6 : 0 ≤ k.free
                                · skip
                                  by_cases t7 : k.free ≤ 64
                                  · skip
                                    by_cases t8 : 0 ≤ k.next
                                    · skip
                                      by_cases t9 : k.next ≤ 4611686018427387904
                                      · skip
                                        by_cases t10 : (k.hn : Int) ≤ 64
                                        · skip
                                          have H9 : Hid (F = true):=by show _ = _; rw [H8.out]; unfold tailB; rw [decide_eq_true_eq]; omega
                                          (go_wp2_with fail);go_ret;exact ⟨ret_bool H9.out.symm,B6.out⟩
                                        · have H9 : Hid (F = false):=by show _ = _; rw [H8.out]; unfold tailB; rw [decide_eq_false_iff_not]; omega
                                          have u10 : decide ((k.hn : Int) ≤ 64) = false:=by simp; omega
                                          clear t10;(go_wp2_with fail);go_ret;exact ⟨ret_bool H9.out.symm,B6.out⟩
                                      · have H9 : Hid (F = false):=by show _ = _; rw [H8.out]; unfold tailB; rw [decide_eq_false_iff_not]; omega
                                        have u9 : decide (k.next ≤ 4611686018427387904) = false:=by simp; omega
                                        clear t9;(go_wp2_with fail);go_ret;exact ⟨ret_bool H9.out.symm,B6.out⟩
                                    · have H9 : Hid (F = false):=by show _ = _; rw [H8.out]; unfold tailB; rw [decide_eq_false_iff_not]; omega
                                      have u8 : decide (0 ≤ k.next) = false:=by simp; omega
                                      clear t8;(go_wp2_with fail);go_ret;exact ⟨ret_bool H9.out.symm,B6.out⟩
                                  · have H9 : Hid (F = false):=by show _ = _; rw [H8.out]; unfold tailB; rw [decide_eq_false_iff_not]; omega
                                    have u7 : decide (k.free ≤ 64) = false:=by simp; omega
                                    clear t7;(go_wp2_with fail);go_ret;exact ⟨ret_bool H9.out.symm,B6.out⟩
                                · have H9 : Hid (F = false):=by show _ = _; rw [H8.out]; unfold tailB; rw [decide_eq_false_iff_not]; omega
                                  have u6 : decide (0 ≤ k.free) = false:=by simp; omega
                                  clear t6;(go_wp2_with fail);go_ret;exact ⟨ret_bool H9.out.symm,B6.out⟩
                              · have H9 : Hid (F = false):=by show _ = _; rw [H8.out]; unfold tailB; rw [decide_eq_false_iff_not]; omega
                                have u5 : decide ((k.en : Int) ≤ 16) = false:=by simp; omega
                                clear t5;(go_wp2_with fail);go_ret;exact ⟨ret_bool H9.out.symm,B6.out⟩
                            · have H9 : Hid (F = false):=by show _ = _; rw [H8.out]; unfold tailB; rw [decide_eq_false_iff_not]; omega
                              have u4 : decide ((k.on : Int) ≤ k.co) = false:=by simp; omega
                              clear t4;(go_wp2_with fail);go_ret;exact ⟨ret_bool H9.out.symm,B6.out⟩
                          · have H9 : Hid (F = false):=by show _ = _; rw [H8.out]; unfold tailB; rw [decide_eq_false_iff_not]; omega
                            have u3 : decide ((k.wn : Int) ≤ k.cw) = false:=by simp; omega
                            clear t3;(go_wp2_with fail);go_ret;exact ⟨ret_bool H9.out.symm,B6.out⟩
                        · have H9 : Hid (F = false):=by show _ = _; rw [H8.out]; unfold tailB; rw [decide_eq_false_iff_not]; omega
                          have u2 : decide ((k.fn : Int) ≤ 64) = false:=by simp; omega
                          clear t2;(go_wp2_with fail);go_ret;exact ⟨ret_bool H9.out.symm,B6.out⟩
                      · have H9 : Hid (F = false):=by show _ = _; rw [H8.out]; unfold tailB; rw [decide_eq_false_iff_not]; omega
                        have u1 : decide ((k.rn : Int) ≤ k.cr) = false:=by simp; omega
                        clear t1;(go_wp2_with fail);go_ret;exact ⟨ret_bool H9.out.symm,B6.out⟩
                    · have H9 : Hid (F = false):=by show _ = _; rw [H8.out]; unfold tailB; rw [decide_eq_false_iff_not]; omega
                      have u0 : decide ((k.dn : Int) ≤ k.cd) = false:=by simp; omega
                      clear t0;(go_wp2_with fail);go_ret;exact ⟨ret_bool H9.out.symm,B6.out⟩
end Go.Proofs.YtlgnijhemfkflaaGreatDoor

namespace Go.Proofs.YtlgnijhemfkflaaGreatDoor
open Go.RowKit


theorem wpList_vload {ops : Array Oper} {rest : List Oper} {o : Oper} {a : Act} {Q : Exit → Act → World → Prop} {w : World} (hw : Region.wanted o (yielded ops a.tmps) = true) (x : Operand) (ho : o.op = .load 36 x)
    (b : Nat) (k : VmK) (hx : a.eval x = .pointer (some ⟨b,0,none⟩)) (hb : VBox w b k) (h : wpList Tryz.prog ops Q rest (a.put o.dst (vmV k)) w) : wpList Tryz.prog ops Q (o :: rest) a w :=
  wpList_step fun K hK => by
    rw [if_pos hw];exact wp_load_row 36 x ho b hx _ _ _ _ hb Tryz.underlying36 rfl vm_info (hK _ _ h)
end Go.Proofs.YtlgnijhemfkflaaGreatDoor

namespace Go.Proofs.YtlgnijhemfkflaaGreatDoor
open Go.RowKit


theorem rfmsame_any (A A' : Option Addr) (n c n' c' : Nat) (a b : List Fm) (w : World) (h : Fms w (.slice A n c) a) (h' : Fms w (.slice A' n' c') b) (ha : a.length ≤ 1000000) :
    Calls Tryz.prog 32 #[.slice A n c,.slice A' n' c'] w fun e w' => e = .returned (.bool (fmSame a b)) ∧ Below w.heap.size w w':=by
  have ea:=h.len;have eb:=h'.len;subst ea eb
  by_cases hl : a.length = b.length
  · have hl' : ((a.length : Int) != (b.length : Int)) = false:=by simp [hl]
    have hl2 : ((a.length : Int) == (b.length : Int)) = true:=by simp [hl]
    have HA:=zqh h;have HB:=zqh h';have HLN:=zqh hl;clear h h' hl;go_enter Tryz.func32,Tryz.ntmps32;(go_wp2_with fail)
    go_loopw [5] (fun s5 wr => ∃ (k : Nat),s5 = .int .i64 (k : Int) ∧ k ≤ a.length ∧ Hid (a.take k = b.take k) ∧ Hid (Below w.heap.size w wr)) (fun s5 _ => a.length - (intOf s5).toNat)
    case atStart => exact ⟨0,rfl,Nat.zero_le _,zqh rfl,zqh (Below.refl _ _)⟩
    case round =>
      obtain ⟨k,rfl,hk,HT,HW⟩:=hrel
      by_cases hka : k < a.length
      · have hkb : k < b.length:=by have:=HLN.out; omega
        have hka' : (k : Int) < (a.length : Int):=by omega
        have hkb' : (k : Int) < (b.length : Int):=by omega
        obtain ⟨g,o,hA,c0,c1,c2⟩:=fm_cells (HA.out.keep HW.out) hka;obtain ⟨g',o',hA',d0,d1,d2⟩:=fm_cells (HB.out.keep HW.out) hkb;have hx:=List.getElem?_eq_getElem hka;have hy:=List.getElem?_eq_getElem hkb;obtain ⟨x,ex⟩ : ∃ x,a[k] = x:=⟨_,rfl⟩;obtain ⟨y,ey⟩ : ∃ y,b[k] = y:=⟨_,rfl⟩;rw [ex] at c0 c1 c2 hx;rw [ey] at d0 d1 d2 hy;subst hA hA';have HWd:=zqh fun i => below_then HW.out (drewN_belowW wr i)
        have HX:=zqh hx;have HY:=zqh hy;clear hx hy ex ey
        by_cases h0 : x.d = y.d
        · rw [← h0] at d0
          by_cases h1 : x.r = y.r
          · rw [← h1] at d1
            by_cases h2 : x.ip = y.ip
            · rw [← h2] at d2
              have HT2 : Hid (a.take (k + 1) = b.take (k + 1)):=by
                show _ = _;rw [List.take_add_one,List.take_add_one,HT.out,HX.out,HY.out];rw [show x = y from by cases x; cases y; simp_all]
              clear HA HB HT h0 h1 h2;(go_wp2_with fail)
              go_quiet (fail)
              (go_wp2_with fail)
              go_roundw
              case rel => exact ⟨k + 1,by simp,by omega,HT2,zqh (HWd.out _)⟩
              case measure => simp [intOf]; omega
            · have n1 : ((x.ip : Int) != y.ip) = true:=by simpa using h2
              have n2 : ((x.ip : Int) == y.ip) = false:=by simpa using h2
              have H : Hid (fmSame a b = false):=fm_no HX.out HY.out (fun e => h2 (by rw [e]));clear HT HA HB;(go_wp2_with fail)
              go_quiet (fail)
              (go_wp2_with fail);go_ret;exact ⟨by rw [H.out]; rfl,HWd.out _⟩
          · have n1 : ((x.r : Int) != y.r) = true:=by simpa using h1
            have n2 : ((x.r : Int) == y.r) = false:=by simpa using h1
            have H : Hid (fmSame a b = false):=fm_no HX.out HY.out (fun e => h1 (by rw [e]));clear HT HA HB;(go_wp2_with fail)
            go_quiet (fail)
            (go_wp2_with fail);go_ret;exact ⟨by rw [H.out]; rfl,HWd.out _⟩
        · have n1 : ((x.d : Int) != y.d) = true:=by simpa using h0
          have n2 : ((x.d : Int) == y.d) = false:=by simpa using h0
          have H : Hid (fmSame a b = false):=fm_no HX.out HY.out (fun e => h0 (by rw [e]));clear HT HA HB;(go_wp2_with fail)
          go_quiet (fail)
          (go_wp2_with fail);go_ret;exact ⟨by rw [H.out]; rfl,HWd.out _⟩
      · obtain rfl : k = a.length:=by omega
        have H : Hid (fmSame a b = true):=by
          show _ = _;unfold fmSame;have:=HT.out;rw [List.take_length,HLN.out,List.take_length] at this;simp [this]
        clear hka hk HT HA HB HLN;(go_wp2_with fail);go_ret;exact ⟨by rw [H.out]; rfl,HW.out⟩
  · have hl' : ((a.length : Int) != (b.length : Int)) = true:=by simp; omega
    have hl2 : ((a.length : Int) == (b.length : Int)) = false:=by simp; omega
    have H : Hid (fmSame a b = false):=by show _ = _; unfold fmSame; rw [decide_eq_false_iff_not]; intro e; exact hl (by rw [e])
    clear h h' hl;go_enter Tryz.func32,Tryz.ntmps32;(go_wp2_with fail);go_ret;exact ⟨by rw [H.out]; rfl,Below.refl _ _⟩
end Go.Proofs.YtlgnijhemfkflaaGreatDoor

namespace Go.Proofs.YtlgnijhemfkflaaGreatDoor
open Go.RowKit


theorem rrqsame_any (A A' : Option Addr) (n c n' c' : Nat) (a b : List Rq) (w : World) (h : Rqs w (.slice A n c) a) (h' : Rqs w (.slice A' n' c') b) (ha : a.length ≤ 1000000) :
    Calls Tryz.prog 35 #[.slice A n c,.slice A' n' c'] w fun e w' => e = .returned (.bool (rqSame a b)) ∧ Below w.heap.size w w':=by
  have ea:=h.len;have eb:=h'.len;subst ea eb
  by_cases hl : a.length = b.length
  · have hl' : ((a.length : Int) != (b.length : Int)) = false:=by simp [hl]
    have hl2 : ((a.length : Int) == (b.length : Int)) = true:=by simp [hl]
    have HA:=zqh h;have HB:=zqh h';have HLN:=zqh hl;clear h h' hl;go_enter Tryz.func35,Tryz.ntmps35;(go_wp2_with fail)
    go_loopw [5] (fun s5 wr => ∃ (k : Nat),s5 = .int .i64 (k : Int) ∧ k ≤ a.length ∧ Hid (a.take k = b.take k) ∧ Hid (Below w.heap.size w wr)) (fun s5 _ => a.length - (intOf s5).toNat)
    case atStart => exact ⟨0,rfl,Nat.zero_le _,zqh rfl,zqh (Below.refl _ _)⟩
    case round =>
      obtain ⟨k,rfl,hk,HT,HW⟩:=hrel
      by_cases hka : k < a.length
      · have hkb : k < b.length:=by have:=HLN.out; omega
        have hka' : (k : Int) < (a.length : Int):=by omega
        have hkb' : (k : Int) < (b.length : Int):=by omega
        obtain ⟨g,o,hA,c0,c1,c2,c3,c4,c5⟩:=rq_cells (HA.out.keep HW.out) hka;obtain ⟨g',o',hA',d0,d1,d2,d3,d4,d5⟩:=rq_cells (HB.out.keep HW.out) hkb;have hx:=List.getElem?_eq_getElem hka;have hy:=List.getElem?_eq_getElem hkb;obtain ⟨x,ex⟩ : ∃ x,a[k] = x:=⟨_,rfl⟩;obtain ⟨y,ey⟩ : ∃ y,b[k] = y:=⟨_,rfl⟩;rw [ex] at c0 c1 c2 c3 c4 c5 hx;rw [ey] at d0 d1 d2 d3 d4 d5 hy;subst hA hA';have HWd:=zqh fun i => below_then HW.out (drewN_belowW wr i)
        have HX:=zqh hx;have HY:=zqh hy;clear hx hy ex ey
        by_cases h0 : x.kind = y.kind
        · rw [← h0] at d0
          by_cases h1 : x.arg = y.arg
          · rw [← h1] at d1
            by_cases h2 : x.hand = y.hand
            · rw [← h2] at d2
              by_cases h3 : x.rank = y.rank
              · rw [← h3] at d3
                by_cases h4 : x.delay = y.delay
                · rw [← h4] at d4
                  by_cases h5 : x.id = y.id
                  · rw [← h5] at d5
                    have HT2 : Hid (a.take (k + 1) = b.take (k + 1)):=by
                      show _ = _;rw [List.take_add_one,List.take_add_one,HT.out,HX.out,HY.out];rw [show x = y from by cases x; cases y; simp_all]
                    clear HA HB HT h0 h1 h2 h3 h4 h5;(go_wp2_with fail)
                    go_quiet (fail)
                    (go_wp2_with fail)
                    go_roundw
                    case rel => exact ⟨k + 1,by simp,by omega,HT2,zqh (HWd.out _)⟩
                    case measure => simp [intOf]; omega
                  · have n1 : ((x.id : Int) != y.id) = true:=by simpa using h5
                    have n2 : ((x.id : Int) == y.id) = false:=by simpa using h5
                    have H : Hid (rqSame a b = false):=rq_no HX.out HY.out (fun e => h5 (by rw [e]));clear HT HA HB;(go_wp2_with fail)
                    go_quiet (fail)
                    (go_wp2_with fail);go_ret;exact ⟨by rw [H.out]; rfl,HWd.out _⟩
                · have n1 : ((x.delay : Int) != y.delay) = true:=by simpa using h4
                  have n2 : ((x.delay : Int) == y.delay) = false:=by simpa using h4
                  have H : Hid (rqSame a b = false):=rq_no HX.out HY.out (fun e => h4 (by rw [e]));clear HT HA HB;(go_wp2_with fail)
                  go_quiet (fail)
                  (go_wp2_with fail);go_ret;exact ⟨by rw [H.out]; rfl,HWd.out _⟩
              · have n1 : ((x.rank : Int) != y.rank) = true:=by simpa using h3
                have n2 : ((x.rank : Int) == y.rank) = false:=by simpa using h3
                have H : Hid (rqSame a b = false):=rq_no HX.out HY.out (fun e => h3 (by rw [e]));clear HT HA HB;(go_wp2_with fail)
                go_quiet (fail)
                (go_wp2_with fail);go_ret;exact ⟨by rw [H.out]; rfl,HWd.out _⟩
            · have n1 : ((x.hand : Int) != y.hand) = true:=by simpa using h2
              have n2 : ((x.hand : Int) == y.hand) = false:=by simpa using h2
              have H : Hid (rqSame a b = false):=rq_no HX.out HY.out (fun e => h2 (by rw [e]));clear HT HA HB;(go_wp2_with fail)
              go_quiet (fail)
              (go_wp2_with fail);go_ret;exact ⟨by rw [H.out]; rfl,HWd.out _⟩
          · have n1 : ((x.arg : Int) != y.arg) = true:=by simpa using h1
            have n2 : ((x.arg : Int) == y.arg) = false:=by simpa using h1
            have H : Hid (rqSame a b = false):=rq_no HX.out HY.out (fun e => h1 (by rw [e]));clear HT HA HB;(go_wp2_with fail)
            go_quiet (fail)
            (go_wp2_with fail);go_ret;exact ⟨by rw [H.out]; rfl,HWd.out _⟩
        · have n1 : ((x.kind : Int) != y.kind) = true:=by simpa using h0
          have n2 : ((x.kind : Int) == y.kind) = false:=by simpa using h0
          have H : Hid (rqSame a b = false):=rq_no HX.out HY.out (fun e => h0 (by rw [e]));clear HT HA HB;(go_wp2_with fail)
          go_quiet (fail)
          (go_wp2_with fail);go_ret;exact ⟨by rw [H.out]; rfl,HWd.out _⟩
      · obtain rfl : k = a.length:=by omega
        have H : Hid (rqSame a b = true):=by
          show _ = _;unfold rqSame;have:=HT.out;rw [List.take_length,HLN.out,List.take_length] at this;simp [this]
        clear hka hk HT HA HB HLN;(go_wp2_with fail);go_ret;exact ⟨by rw [H.out]; rfl,HW.out⟩
  · have hl' : ((a.length : Int) != (b.length : Int)) = true:=by simp; omega
    have hl2 : ((a.length : Int) == (b.length : Int)) = false:=by simp; omega
    have H : Hid (rqSame a b = false):=by show _ = _; unfold rqSame; rw [decide_eq_false_iff_not]; intro e; exact hl (by rw [e])
    clear h h' hl;go_enter Tryz.func35,Tryz.ntmps35;(go_wp2_with fail);go_ret;exact ⟨by rw [H.out]; rfl,Below.refl _ _⟩
end Go.Proofs.YtlgnijhemfkflaaGreatDoor
