/- Part 14. -/
import Derived.Test.YtlgnijhemfkflaaGreatDoorPaAM
import Derived.ChangeMaps5
set_option linter.unusedVariables false
set_option linter.unusedSimpArgs false
set_option maxRecDepth 100000
set_option maxHeartbeats 4000000

namespace Go.Proofs.YtlgnijhemfkflaaGreatDoor
open Go.RowKit


theorem rhnsame_any (A A' : Option Addr) (n c n' c' : Nat) (a b : List Hn) (w : World) (h : Hns w (.slice A n c) a) (h' : Hns w (.slice A' n' c') b) (ha : a.length ≤ 1000000) :
    Calls Tryz.prog 36 #[.slice A n c,.slice A' n' c'] w fun e w' => e = .returned (.bool (hnSame a b)) ∧ Below w.heap.size w w':=by
  have ea:=h.len;have eb:=h'.len;subst ea eb
  by_cases hl : a.length = b.length
  · have hl' : ((a.length : Int) != (b.length : Int)) = false:=by simp [hl]
    have hl2 : ((a.length : Int) == (b.length : Int)) = true:=by simp [hl]
    have HA:=zqh h;have HB:=zqh h';have HLN:=zqh hl;clear h h' hl;go_enter Tryz.func36,Tryz.ntmps36;(go_wp2_with fail)
    go_loopw [5] (fun s5 wr => ∃ (k : Nat),s5 = .int .i64 (k : Int) ∧ k ≤ a.length ∧ Hid (a.take k = b.take k) ∧ Hid (Below w.heap.size w wr)) (fun s5 _ => a.length - (intOf s5).toNat)
    case atStart => exact ⟨0,rfl,Nat.zero_le _,zqh rfl,zqh (Below.refl _ _)⟩
    case round =>
      obtain ⟨k,rfl,hk,HT,HW⟩:=hrel
      by_cases hka : k < a.length
      · have hkb : k < b.length:=by have:=HLN.out; omega
        have hka' : (k : Int) < (a.length : Int):=by omega
        have hkb' : (k : Int) < (b.length : Int):=by omega
        obtain ⟨g,o,hA,c0,c1,c2,c3⟩:=hn_cells (HA.out.keep HW.out) hka;obtain ⟨g',o',hA',d0,d1,d2,d3⟩:=hn_cells (HB.out.keep HW.out) hkb;have hx:=List.getElem?_eq_getElem hka;have hy:=List.getElem?_eq_getElem hkb;obtain ⟨x,ex⟩ : ∃ x,a[k] = x:=⟨_,rfl⟩;obtain ⟨y,ey⟩ : ∃ y,b[k] = y:=⟨_,rfl⟩;rw [ex] at c0 c1 c2 c3 hx;rw [ey] at d0 d1 d2 d3 hy;subst hA hA';have HWd:=zqh fun i => below_then HW.out (drewN_belowW wr i)
        have HX:=zqh hx;have HY:=zqh hy;clear hx hy ex ey
        by_cases h0 : x.xt = y.xt
        · rw [← h0] at d0
          by_cases h1 : x.fuel = y.fuel
          · rw [← h1] at d1
            by_cases h2 : x.strikes = y.strikes
            · rw [← h2] at d2
              by_cases h3 : x.out = y.out
              · rw [← h3] at d3
                have HT2 : Hid (a.take (k + 1) = b.take (k + 1)):=by
                  show _ = _;rw [List.take_add_one,List.take_add_one,HT.out,HX.out,HY.out];rw [show x = y from by cases x; cases y; simp_all]
                clear HA HB HT h0 h1 h2 h3;(go_wp2_with fail)
                go_quiet (fail)
                (go_wp2_with fail)
                go_roundw
                case rel => exact ⟨k + 1,by simp,by omega,HT2,zqh (HWd.out _)⟩
                case measure => simp [intOf]; omega
              · have n1 : ((x.out : Bool) != y.out) = true:=by simpa using h3
                have n2 : ((x.out : Bool) == y.out) = false:=by simpa using h3
                have H : Hid (hnSame a b = false):=hn_no HX.out HY.out (fun e => h3 (by rw [e]));clear HT HA HB;(go_wp2_with fail)
                go_quiet (fail)
                (go_wp2_with fail);go_ret;exact ⟨by rw [H.out]; rfl,HWd.out _⟩
            · have n1 : ((x.strikes : Int) != y.strikes) = true:=by simpa using h2
              have n2 : ((x.strikes : Int) == y.strikes) = false:=by simpa using h2
              have H : Hid (hnSame a b = false):=hn_no HX.out HY.out (fun e => h2 (by rw [e]));clear HT HA HB;(go_wp2_with fail)
              go_quiet (fail)
              (go_wp2_with fail);go_ret;exact ⟨by rw [H.out]; rfl,HWd.out _⟩
          · have n1 : ((x.fuel : Int) != y.fuel) = true:=by simpa using h1
            have n2 : ((x.fuel : Int) == y.fuel) = false:=by simpa using h1
            have H : Hid (hnSame a b = false):=hn_no HX.out HY.out (fun e => h1 (by rw [e]));clear HT HA HB;(go_wp2_with fail)
            go_quiet (fail)
            (go_wp2_with fail);go_ret;exact ⟨by rw [H.out]; rfl,HWd.out _⟩
        · have n1 : ((x.xt : Int) != y.xt) = true:=by simpa using h0
          have n2 : ((x.xt : Int) == y.xt) = false:=by simpa using h0
          have H : Hid (hnSame a b = false):=hn_no HX.out HY.out (fun e => h0 (by rw [e]));clear HT HA HB;(go_wp2_with fail)
          go_quiet (fail)
          (go_wp2_with fail);go_ret;exact ⟨by rw [H.out]; rfl,HWd.out _⟩
      · obtain rfl : k = a.length:=by omega
        have H : Hid (hnSame a b = true):=by
          show _ = _;unfold hnSame;have:=HT.out;rw [List.take_length,HLN.out,List.take_length] at this;simp [this]
        clear hka hk HT HA HB HLN;(go_wp2_with fail);go_ret;exact ⟨by rw [H.out]; rfl,HW.out⟩
  · have hl' : ((a.length : Int) != (b.length : Int)) = true:=by simp; omega
    have hl2 : ((a.length : Int) == (b.length : Int)) = false:=by simp; omega
    have H : Hid (hnSame a b = false):=by show _ = _; unfold hnSame; rw [decide_eq_false_iff_not]; intro e; exact hl (by rw [e])
    clear h h' hl;go_enter Tryz.func36,Tryz.ntmps36;(go_wp2_with fail);go_ret;exact ⟨by rw [H.out]; rfl,Below.refl _ _⟩
end Go.Proofs.YtlgnijhemfkflaaGreatDoor

namespace Go.Proofs.YtlgnijhemfkflaaGreatDoor
open Go.RowKit


def confSame (k j : VmK) : Bool:=decide (k.cm = j.cm ∧ k.cd = j.cd ∧ k.cr = j.cr ∧ k.cw = j.cw ∧ k.co = j.co)
def numsSame (k j : VmK) : Bool:=decide (k.here = j.here ∧ k.last = j.last ∧ k.free = j.free ∧ k.next = j.next ∧ k.arg = j.arg ∧ k.self = j.self ∧ k.now = j.now)
def vSame (k : VmK) (L : VmL) (j : VmK) (M : VmL) : Bool:=decide (L.m = M.m) && (sameB L.d M.d && (sameB L.r M.r && (fmSame L.f M.f && (dSame L.dict M.dict && (pSame k.qo L.q j.qo M.q && (rqSame L.e M.e && (hnSame L.h M.h && (confSame k j && (decide (L.o = M.o) && (numsSame k j))))))))))
def V2 (w : World) (b : Nat) (k j : VmK) : Prop:=VBox w b k ∧ VBox w (b + 1) j
theorem v2_new (w : World) (k j : VmK) : Below w.heap.size w ((w.alloc (.cells #[.int .i64 k.cm,.int .i64 k.cd,.int .i64 k.cr,.int .i64 k.cw,.int .i64 k.co,.slice k.mA k.mn k.mc,.slice k.pA k.pn k.pc,.int .i64 k.here,.slice k.dA k.dn k.dc,.slice k.rA k.rn k.rc,.slice k.fA k.fn k.fc,.slice k.wA k.wn k.wc,.int .i64 k.last,.slice k.oA k.on k.oc,.slice k.qA k.qn k.qc,.bool k.qo,.slice k.eA k.en k.ec,.int .i64 k.free,.int .i64 k.next,.int .i64 k.arg,.int .i64 k.self,.int .i64 k.now,.slice k.hA k.hn k.hc] 36)).alloc (.cells #[.int .i64 j.cm,.int .i64 j.cd,.int .i64 j.cr,.int .i64 j.cw,.int .i64 j.co,.slice j.mA j.mn j.mc,.slice j.pA j.pn j.pc,.int .i64 j.here,.slice j.dA j.dn j.dc,.slice j.rA j.rn j.rc,.slice j.fA j.fn j.fc,.slice j.wA j.wn j.wc,.int .i64 j.last,.slice j.oA j.on j.oc,.slice j.qA j.qn j.qc,.bool j.qo,.slice j.eA j.en j.ec,.int .i64 j.free,.int .i64 j.next,.int .i64 j.arg,.int .i64 j.self,.int .i64 j.now,.slice j.hA j.hn j.hc] 36)) ∧ VBox ((w.alloc (.cells #[.int .i64 k.cm,.int .i64 k.cd,.int .i64 k.cr,.int .i64 k.cw,.int .i64 k.co,.slice k.mA k.mn k.mc,.slice k.pA k.pn k.pc,.int .i64 k.here,.slice k.dA k.dn k.dc,.slice k.rA k.rn k.rc,.slice k.fA k.fn k.fc,.slice k.wA k.wn k.wc,.int .i64 k.last,.slice k.oA k.on k.oc,.slice k.qA k.qn k.qc,.bool k.qo,.slice k.eA k.en k.ec,.int .i64 k.free,.int .i64 k.next,.int .i64 k.arg,.int .i64 k.self,.int .i64 k.now,.slice k.hA k.hn k.hc] 36)).alloc (.cells #[.int .i64 j.cm,.int .i64 j.cd,.int .i64 j.cr,.int .i64 j.cw,.int .i64 j.co,.slice j.mA j.mn j.mc,.slice j.pA j.pn j.pc,.int .i64 j.here,.slice j.dA j.dn j.dc,.slice j.rA j.rn j.rc,.slice j.fA j.fn j.fc,.slice j.wA j.wn j.wc,.int .i64 j.last,.slice j.oA j.on j.oc,.slice j.qA j.qn j.qc,.bool j.qo,.slice j.eA j.en j.ec,.int .i64 j.free,.int .i64 j.next,.int .i64 j.arg,.int .i64 j.self,.int .i64 j.now,.slice j.hA j.hn j.hc] 36)) w.heap.size k ∧ VBox ((w.alloc (.cells #[.int .i64 k.cm,.int .i64 k.cd,.int .i64 k.cr,.int .i64 k.cw,.int .i64 k.co,.slice k.mA k.mn k.mc,.slice k.pA k.pn k.pc,.int .i64 k.here,.slice k.dA k.dn k.dc,.slice k.rA k.rn k.rc,.slice k.fA k.fn k.fc,.slice k.wA k.wn k.wc,.int .i64 k.last,.slice k.oA k.on k.oc,.slice k.qA k.qn k.qc,.bool k.qo,.slice k.eA k.en k.ec,.int .i64 k.free,.int .i64 k.next,.int .i64 k.arg,.int .i64 k.self,.int .i64 k.now,.slice k.hA k.hn k.hc] 36)).alloc (.cells #[.int .i64 j.cm,.int .i64 j.cd,.int .i64 j.cr,.int .i64 j.cw,.int .i64 j.co,.slice j.mA j.mn j.mc,.slice j.pA j.pn j.pc,.int .i64 j.here,.slice j.dA j.dn j.dc,.slice j.rA j.rn j.rc,.slice j.fA j.fn j.fc,.slice j.wA j.wn j.wc,.int .i64 j.last,.slice j.oA j.on j.oc,.slice j.qA j.qn j.qc,.bool j.qo,.slice j.eA j.en j.ec,.int .i64 j.free,.int .i64 j.next,.int .i64 j.arg,.int .i64 j.self,.int .i64 j.now,.slice j.hA j.hn j.hc] 36)) (w.heap.size + 1) j:=by
  refine ⟨((Below.refl _ _).alloc (Nat.le_refl _) _).alloc (by simp) _,?_,?_⟩
  · exact (vbox_new w k).keep ((Below.refl _ _).alloc (Nat.le_refl _) _)
  · have:=vbox_new (w.alloc (.cells #[.int .i64 k.cm,.int .i64 k.cd,.int .i64 k.cr,.int .i64 k.cw,.int .i64 k.co,.slice k.mA k.mn k.mc,.slice k.pA k.pn k.pc,.int .i64 k.here,.slice k.dA k.dn k.dc,.slice k.rA k.rn k.rc,.slice k.fA k.fn k.fc,.slice k.wA k.wn k.wc,.int .i64 k.last,.slice k.oA k.on k.oc,.slice k.qA k.qn k.qc,.bool k.qo,.slice k.eA k.en k.ec,.int .i64 k.free,.int .i64 k.next,.int .i64 k.arg,.int .i64 k.self,.int .i64 k.now,.slice k.hA k.hn k.hc] 36)) j
    rw [World.size_alloc] at this;exact this
set_option maxHeartbeats 8000000 in
theorem rvsame_any (k : VmK) (L : VmL) (j : VmK) (M : VmL) (w : World) (HN : Hid (k.dn ≤ 65536 ∧ k.rn ≤ 65536 ∧ j.dn ≤ 65536 ∧ j.rn ≤ 65536 ∧ k.fn ≤ 1000000 ∧ k.wn ≤ 1000000 ∧ k.en ≤ 1000000 ∧ k.hn ≤ 1000000)) (h : IsVm w k L) (h' : IsVm w j M) :
    Calls Tryz.prog 18 #[vmV k,vmV j] w fun e w' => e = .returned (.bool (vSame k L j M)) ∧ Below w.heap.size w w':=by
  obtain ⟨kk,hx,hy⟩:=v2_new w k j;have B0:=zqh kk;have V0:=zqh (h.keep kk);have U0:=zqh (h'.keep kk);have X0:=zqh hx;have Y0:=zqh hy;obtain ⟨F,hF⟩ : ∃ F,vSame k L j M = F:=⟨_,rfl⟩;have HF : Hid (F = vSame k L j M):=hF.symm;rw [hF];clear h h' hF kk hx hy;go_enter Tryz.func18,Tryz.ntmps18;have HC:=zqh (rsame_at k.mA k.pA j.mA j.pA k.mn k.mc k.pn k.pc j.mn j.mc j.pn j.pc L.m M.m _ (zqh V0.out.m) (zqh U0.out.m));obtain ⟨F1,ef⟩ : ∃ F,decide (L.m = M.m) = F:=⟨_,rfl⟩;rw [ef] at HC;have H1:=zqh ef;clear ef;obtain ⟨p0,p1,p2,p3,p4,p5,p6,p7,p8,p9,p10,p11,p12,p13,p14,p15,p16,p17,p18,p19,p20,p21,p22⟩:=X0.out.use;obtain ⟨q0,q1,q2,q3,q4,q5,q6,q7,q8,q9,q10,q11,q12,q13,q14,q15,q16,q17,q18,q19,q20,q21,q22⟩:=Y0.out.use;clear p0 p1 p2 p3 p4 p7 p8 p9 p10 p11 p12 p13 p14 p15 p16 p17 p18 p19 p20 p21 p22 q0 q1 q2 q3 q4 q7 q8 q9 q10 q11 q12 q13 q14 q15 q16 q17 q18 q19 q20 q21 q22;(go_wp2_with fail);refine HC.out.mono ?_;rintro e w1 ⟨rfl,bb⟩;have X1:=zqh (X0.out.keep bb);have Y1:=zqh (Y0.out.keep bb);have V1:=zqh (V0.out.keep bb);have U1:=zqh (U0.out.keep bb);have B1:=zqh (below_then B0.out bb);clear bb HC X0 Y0 V0 U0 B0 p5 q5 p6 q6;have HC:=zqh (same_atS k.dA j.dA k.dn k.dc j.dn j.dc L.d M.d _ (by have:=HN.out; omega) (by have:=HN.out; omega) (zqh V1.out.d) (zqh U1.out.d));obtain ⟨F2,ef⟩ : ∃ F,sameB L.d M.d = F:=⟨_,rfl⟩;rw [ef] at HC;have H2:=zqh ef;clear ef;obtain ⟨p0,p1,p2,p3,p4,p5,p6,p7,p8,p9,p10,p11,p12,p13,p14,p15,p16,p17,p18,p19,p20,p21,p22⟩:=X1.out.use
  obtain ⟨q0,q1,q2,q3,q4,q5,q6,q7,q8,q9,q10,q11,q12,q13,q14,q15,q16,q17,q18,q19,q20,q21,q22⟩:=Y1.out.use;clear p0 p1 p2 p3 p4 p5 p6 p7 p9 p10 p11 p12 p13 p14 p15 p16 p17 p18 p19 p20 p21 p22 q0 q1 q2 q3 q4 q5 q6 q7 q9 q10 q11 q12 q13 q14 q15 q16 q17 q18 q19 q20 q21 q22;(go_wp2_with fail);refine HC.out.mono ?_;rintro e w2 ⟨rfl,bb⟩;have X2:=zqh (X1.out.keep bb);have Y2:=zqh (Y1.out.keep bb);have V2:=zqh (V1.out.keep bb);have U2:=zqh (U1.out.keep bb);have B2:=zqh (below_then B1.out bb);clear bb HC X1 Y1 V1 U1 B1 p8 q8;have HC:=zqh (same_atS k.rA j.rA k.rn k.rc j.rn j.rc L.r M.r _ (by have:=HN.out; omega) (by have:=HN.out; omega) (zqh V2.out.r) (zqh U2.out.r));obtain ⟨F3,ef⟩ : ∃ F,sameB L.r M.r = F:=⟨_,rfl⟩;rw [ef] at HC;have H3:=zqh ef;clear ef;obtain ⟨p0,p1,p2,p3,p4,p5,p6,p7,p8,p9,p10,p11,p12,p13,p14,p15,p16,p17,p18,p19,p20,p21,p22⟩:=X2.out.use;obtain ⟨q0,q1,q2,q3,q4,q5,q6,q7,q8,q9,q10,q11,q12,q13,q14,q15,q16,q17,q18,q19,q20,q21,q22⟩:=Y2.out.use;clear p0 p1 p2 p3 p4 p5 p6 p7 p8 p10 p11 p12 p13 p14 p15 p16 p17 p18 p19 p20 p21 p22 q0 q1 q2 q3 q4 q5 q6 q7 q8 q10 q11 q12 q13 q14 q15 q16 q17 q18 q19 q20 q21 q22;(go_wp2_with fail);refine HC.out.mono ?_;rintro e w3 ⟨rfl,bb⟩;have X3:=zqh (X2.out.keep bb);have Y3:=zqh (Y2.out.keep bb);have V3:=zqh (V2.out.keep bb);have U3:=zqh (U2.out.keep bb);have B3:=zqh (below_then B2.out bb);clear bb HC X2 Y2 V2 U2 B2 p9 q9;have HC:=zqh (rfmsame_any k.fA j.fA k.fn k.fc j.fn j.fc L.f M.f _ V3.out.f U3.out.f (by have:=HN.out; have:=V3.out.f.len; omega))
  obtain ⟨F4,ef⟩ : ∃ F,fmSame L.f M.f = F:=⟨_,rfl⟩;rw [ef] at HC;have H4:=zqh ef;clear ef;obtain ⟨p0,p1,p2,p3,p4,p5,p6,p7,p8,p9,p10,p11,p12,p13,p14,p15,p16,p17,p18,p19,p20,p21,p22⟩:=X3.out.use;obtain ⟨q0,q1,q2,q3,q4,q5,q6,q7,q8,q9,q10,q11,q12,q13,q14,q15,q16,q17,q18,q19,q20,q21,q22⟩:=Y3.out.use;clear p0 p1 p2 p3 p4 p5 p6 p7 p8 p9 p11 p12 p13 p14 p15 p16 p17 p18 p19 p20 p21 p22 q0 q1 q2 q3 q4 q5 q6 q7 q8 q9 q11 q12 q13 q14 q15 q16 q17 q18 q19 q20 q21 q22;(go_wp2_with fail);refine HC.out.mono ?_;rintro e w4 ⟨rfl,bb⟩;have X4:=zqh (X3.out.keep bb);have Y4:=zqh (Y3.out.keep bb);have V4:=zqh (V3.out.keep bb);have U4:=zqh (U3.out.keep bb);have B4:=zqh (below_then B3.out bb);clear bb HC X3 Y3 V3 U3 B3 p10 q10;have HC:=zqh (rsame9_any k.wA j.wA k.wn k.wc j.wn j.wc L.dict M.dict _ V4.out.dict U4.out.dict (by have:=HN.out; have:=V4.out.dict.len; omega));obtain ⟨F5,ef⟩ : ∃ F,dSame L.dict M.dict = F:=⟨_,rfl⟩;rw [ef] at HC;have H5:=zqh ef;clear ef;obtain ⟨p0,p1,p2,p3,p4,p5,p6,p7,p8,p9,p10,p11,p12,p13,p14,p15,p16,p17,p18,p19,p20,p21,p22⟩:=X4.out.use;obtain ⟨q0,q1,q2,q3,q4,q5,q6,q7,q8,q9,q10,q11,q12,q13,q14,q15,q16,q17,q18,q19,q20,q21,q22⟩:=Y4.out.use;clear p0 p1 p2 p3 p4 p5 p6 p7 p8 p9 p10 p12 p13 p14 p15 p16 p17 p18 p19 p20 p21 p22 q0 q1 q2 q3 q4 q5 q6 q7 q8 q9 q10 q12 q13 q14 q15 q16 q17 q18 q19 q20 q21 q22;(go_wp2_with fail);refine HC.out.mono ?_;rintro e w5 ⟨rfl,bb⟩
  have X5:=zqh (X4.out.keep bb);have Y5:=zqh (Y4.out.keep bb);have V5:=zqh (V4.out.keep bb);have U5:=zqh (U4.out.keep bb);have B5:=zqh (below_then B4.out bb);clear bb HC X4 Y4 V4 U4 B4 p11 q11;have HC:=zqh (rsame_any k.qA j.qA k.qn k.qc j.qn j.qc k.qo j.qo L.q M.q _ V5.out.q U5.out.q);obtain ⟨F6,ef⟩ : ∃ F,pSame k.qo L.q j.qo M.q = F:=⟨_,rfl⟩;rw [ef] at HC;have H6:=zqh ef;clear ef;obtain ⟨p0,p1,p2,p3,p4,p5,p6,p7,p8,p9,p10,p11,p12,p13,p14,p15,p16,p17,p18,p19,p20,p21,p22⟩:=X5.out.use;obtain ⟨q0,q1,q2,q3,q4,q5,q6,q7,q8,q9,q10,q11,q12,q13,q14,q15,q16,q17,q18,q19,q20,q21,q22⟩:=Y5.out.use;clear p0 p1 p2 p3 p4 p5 p6 p7 p8 p9 p10 p11 p12 p13 p16 p17 p18 p19 p20 p21 p22 q0 q1 q2 q3 q4 q5 q6 q7 q8 q9 q10 q11 q12 q13 q16 q17 q18 q19 q20 q21 q22;(go_wp2_with fail);refine HC.out.mono ?_;rintro e w6 ⟨rfl,bb⟩;have X6:=zqh (X5.out.keep bb);have Y6:=zqh (Y5.out.keep bb);have V6:=zqh (V5.out.keep bb);have U6:=zqh (U5.out.keep bb);have B6:=zqh (below_then B5.out bb);clear bb HC X5 Y5 V5 U5 B5 p14 q14 p15 q15;have HC:=zqh (rrqsame_any k.eA j.eA k.en k.ec j.en j.ec L.e M.e _ V6.out.e U6.out.e (by have:=HN.out; have:=V6.out.e.len; omega));obtain ⟨F7,ef⟩ : ∃ F,rqSame L.e M.e = F:=⟨_,rfl⟩;rw [ef] at HC;have H7:=zqh ef;clear ef;obtain ⟨p0,p1,p2,p3,p4,p5,p6,p7,p8,p9,p10,p11,p12,p13,p14,p15,p16,p17,p18,p19,p20,p21,p22⟩:=X6.out.use;obtain ⟨q0,q1,q2,q3,q4,q5,q6,q7,q8,q9,q10,q11,q12,q13,q14,q15,q16,q17,q18,q19,q20,q21,q22⟩:=Y6.out.use
  clear p0 p1 p2 p3 p4 p5 p6 p7 p8 p9 p10 p11 p12 p13 p14 p15 p17 p18 p19 p20 p21 p22 q0 q1 q2 q3 q4 q5 q6 q7 q8 q9 q10 q11 q12 q13 q14 q15 q17 q18 q19 q20 q21 q22;(go_wp2_with fail);refine HC.out.mono ?_;rintro e w7 ⟨rfl,bb⟩;have X7:=zqh (X6.out.keep bb);have Y7:=zqh (Y6.out.keep bb);have V7:=zqh (V6.out.keep bb);have U7:=zqh (U6.out.keep bb);have B7:=zqh (below_then B6.out bb);clear bb HC X6 Y6 V6 U6 B6 p16 q16;have HC:=zqh (rhnsame_any k.hA j.hA k.hn k.hc j.hn j.hc L.h M.h _ V7.out.h U7.out.h (by have:=HN.out; have:=V7.out.h.len; omega));obtain ⟨F8,ef⟩ : ∃ F,hnSame L.h M.h = F:=⟨_,rfl⟩;rw [ef] at HC;have H8:=zqh ef;clear ef;obtain ⟨p0,p1,p2,p3,p4,p5,p6,p7,p8,p9,p10,p11,p12,p13,p14,p15,p16,p17,p18,p19,p20,p21,p22⟩:=X7.out.use;obtain ⟨q0,q1,q2,q3,q4,q5,q6,q7,q8,q9,q10,q11,q12,q13,q14,q15,q16,q17,q18,q19,q20,q21,q22⟩:=Y7.out.use;clear p0 p1 p2 p3 p4 p5 p6 p7 p8 p9 p10 p11 p12 p13 p14 p15 p16 p17 p18 p19 p20 p21 q0 q1 q2 q3 q4 q5 q6 q7 q8 q9 q10 q11 q12 q13 q14 q15 q16 q17 q18 q19 q20 q21;(go_wp2_with fail);refine HC.out.mono ?_;rintro e w8 ⟨rfl,bb⟩;have X8:=zqh (X7.out.keep bb);have Y8:=zqh (Y7.out.keep bb);have V8:=zqh (V7.out.keep bb);have U8:=zqh (U7.out.keep bb);have B8:=zqh (below_then B7.out bb);clear bb HC X7 Y7 V7 U7 B7 p22 q22;obtain ⟨p0,p1,p2,p3,p4,p5,p6,p7,p8,p9,p10,p11,p12,p13,p14,p15,p16,p17,p18,p19,p20,p21,p22⟩:=X8.out.use;obtain ⟨q0,q1,q2,q3,q4,q5,q6,q7,q8,q9,q10,q11,q12,q13,q14,q15,q16,q17,q18,q19,q20,q21,q22⟩:=Y8.out.use
  clear p5 p6 p8 p9 p10 p11 p14 p15 p16 p22 q5 q6 q8 q9 q10 q11 q14 q15 q16 q22;have cv1:=conv_any V8.out.o;have cv2:=conv_any U8.out.o;cases F1 with
  | false =>
    (go_wp2_with fail);go_ret;exact ⟨ret_bool (by rw [HF.out]; unfold vSame; rw [H1.out]; rfl),B8.out⟩
  | true =>
    cases F2 with
    | false =>
      (go_wp2_with fail);go_ret;exact ⟨ret_bool (by rw [HF.out]; unfold vSame; rw [H1.out,H2.out]; rfl),B8.out⟩
    | true =>
      cases F3 with
      | false =>
        (go_wp2_with fail);go_ret;exact ⟨ret_bool (by rw [HF.out]; unfold vSame; rw [H1.out,H2.out,H3.out]; rfl),B8.out⟩
      | true =>
        cases F4 with
        | false =>
          (go_wp2_with fail);go_ret;exact ⟨ret_bool (by rw [HF.out]; unfold vSame; rw [H1.out,H2.out,H3.out,H4.out]; rfl),B8.out⟩
        | true =>
          cases F5 with
          | false =>
            (go_wp2_with fail);go_ret;exact ⟨ret_bool (by rw [HF.out]; unfold vSame; rw [H1.out,H2.out,H3.out,H4.out,H5.out]; rfl),B8.out⟩
          | true =>
            cases F6 with
            | false =>
              (go_wp2_with fail);go_ret;exact ⟨ret_bool (by rw [HF.out]; unfold vSame; rw [H1.out,H2.out,H3.out,H4.out,H5.out,H6.out]; rfl),B8.out⟩
            | true =>
              cases F7 with
              | false =>
                (go_wp2_with fail);go_ret;exact ⟨ret_bool (by rw [HF.out]; unfold vSame; rw [H1.out,H2.out,H3.out,H4.out,H5.out,H6.out,H7.out]; rfl),B8.out⟩
              | true =>
                cases F8 with
                | false =>
                  (go_wp2_with fail);go_ret;exact ⟨ret_bool (by rw [HF.out]; unfold vSame; rw [H1.out,H2.out,H3.out,H4.out,H5.out,H6.out,H7.out,H8.out]; rfl),B8.out⟩
                | true =>
                  by_cases hcm : k.cm = j.cm
                  · rw [← hcm] at q0
                    by_cases hcd : k.cd = j.cd
                    · rw [← hcd] at q1
                      by_cases hcr : k.cr = j.cr
                      · rw [← hcr] at q2
                        by_cases hcw : k.cw = j.cw
                        · rw [← hcw] at q3
                          by_cases hco : k.co = j.co
                          · rw [← hco] at q4
                            have hc : confSame k j = true:=by unfold confSame; rw [decide_eq_true_eq]; exact ⟨hcm,hcd,hcr,hcw,hco⟩
                            have HC:=zqh hc;clear hc
                            by_cases ho : L.o = M.o
                            · have HO : Hid (decide (L.o = M.o) = true):=by show _ = _; simpa using ho
                              rw [← ho] at cv2;clear ho
                              by_cases hhere : k.here = j.here
                              · rw [← hhere] at q7
                                by_cases hlast : k.last = j.last
                                · rw [← hlast] at q12
                                  by_cases hfree : k.free = j.free
                                  · rw [← hfree] at q17
                                    by_cases hnext : k.next = j.next
                                    · rw [← hnext] at q18
                                      by_cases harg : k.arg = j.arg
                                      · rw [← harg] at q19
                                        by_cases hself : k.self = j.self
                                        · rw [← hself] at q20
                                          by_cases hnow : k.now = j.now
                                          · rw [← hnow] at q21
                                            have hq : numsSame k j = true:=by unfold numsSame; rw [decide_eq_true_eq]; exact ⟨hhere,hlast,hfree,hnext,harg,hself,hnow⟩
                                            have HQ:=zqh hq;clear hq;(go_wp2_with fail);go_ret;exact ⟨ret_bool (by rw [HF.out]; unfold vSame; rw [H1.out,H2.out,H3.out,H4.out,H5.out,H6.out,H7.out,H8.out,HC.out,HO.out,HQ.out]; rfl),B8.out⟩
                                          · have hq : numsSame k j = false:=by unfold numsSame; rw [decide_eq_false_iff_not]; intro x; exact hnow x.2.2.2.2.2.2
                                            have HQ:=zqh hq;have n1 : ((k.now : Int) != j.now) = true:=by simpa using hnow
                                            have n2 : ((k.now : Int) == j.now) = false:=by simpa using hnow
                                            clear hq;(go_wp2_with fail);go_ret;exact ⟨ret_bool (by rw [HF.out]; unfold vSame; rw [H1.out,H2.out,H3.out,H4.out,H5.out,H6.out,H7.out,H8.out,HC.out,HO.out,HQ.out]; rfl),B8.out⟩
                                        · have hq : numsSame k j = false:=by unfold numsSame; rw [decide_eq_false_iff_not]; intro x; exact hself x.2.2.2.2.2.1
                                          have HQ:=zqh hq;have n1 : ((k.self : Int) != j.self) = true:=by simpa using hself
                                          have n2 : ((k.self : Int) == j.self) = false:=by simpa using hself
                                          clear hq;(go_wp2_with fail);go_ret;exact ⟨ret_bool (by rw [HF.out]; unfold vSame; rw [H1.out,H2.out,H3.out,H4.out,H5.out,H6.out,H7.out,H8.out,HC.out,HO.out,HQ.out]; rfl),B8.out⟩
                                      · have hq : numsSame k j = false:=by unfold numsSame; rw [decide_eq_false_iff_not]; intro x; exact harg x.2.2.2.2.1
                                        have HQ:=zqh hq;have n1 : ((k.arg : Int) != j.arg) = true:=by simpa using harg
                                        have n2 : ((k.arg : Int) == j.arg) = false:=by simpa using harg
                                        clear hq;(go_wp2_with fail);go_ret;exact ⟨ret_bool (by rw [HF.out]; unfold vSame; rw [H1.out,H2.out,H3.out,H4.out,H5.out,H6.out,H7.out,H8.out,HC.out,HO.out,HQ.out]; rfl),B8.out⟩
                                    · have hq : numsSame k j = false:=by unfold numsSame; rw [decide_eq_false_iff_not]; intro x; exact hnext x.2.2.2.1
                                      have HQ:=zqh hq;have n1 : ((k.next : Int) != j.next) = true:=by simpa using hnext
                                      have n2 : ((k.next : Int) == j.next) = false:=by simpa using hnext
                                      clear hq;(go_wp2_with fail);go_ret;exact ⟨ret_bool (by rw [HF.out]; unfold vSame; rw [H1.out,H2.out,H3.out,H4.out,H5.out,H6.out,H7.out,H8.out,HC.out,HO.out,HQ.out]; rfl),B8.out⟩
                                  · have hq : numsSame k j = false:=by unfold numsSame; rw [decide_eq_false_iff_not]; intro x; exact hfree x.2.2.1
                                    have HQ:=zqh hq;have n1 : ((k.free : Int) != j.free) = true:=by simpa using hfree
                                    have n2 : ((k.free : Int) == j.free) = false:=by simpa using hfree
                                    clear hq;(go_wp2_with fail);go_ret;exact ⟨ret_bool (by rw [HF.out]; unfold vSame; rw [H1.out,H2.out,H3.out,H4.out,H5.out,H6.out,H7.out,H8.out,HC.out,HO.out,HQ.out]; rfl),B8.out⟩
                                · have hq : numsSame k j = false:=by unfold numsSame; rw [decide_eq_false_iff_not]; intro x; exact hlast x.2.1
                                  have HQ:=zqh hq;have n1 : ((k.last : Int) != j.last) = true:=by simpa using hlast
                                  have n2 : ((k.last : Int) == j.last) = false:=by simpa using hlast
                                  clear hq;(go_wp2_with fail);go_ret;exact ⟨ret_bool (by rw [HF.out]; unfold vSame; rw [H1.out,H2.out,H3.out,H4.out,H5.out,H6.out,H7.out,H8.out,HC.out,HO.out,HQ.out]; rfl),B8.out⟩
                              · have hq : numsSame k j = false:=by unfold numsSame; rw [decide_eq_false_iff_not]; intro x; exact hhere x.1
                                have HQ:=zqh hq;have n1 : ((k.here : Int) != j.here) = true:=by simpa using hhere
                                have n2 : ((k.here : Int) == j.here) = false:=by simpa using hhere
                                clear hq;(go_wp2_with fail);go_ret;exact ⟨ret_bool (by rw [HF.out]; unfold vSame; rw [H1.out,H2.out,H3.out,H4.out,H5.out,H6.out,H7.out,H8.out,HC.out,HO.out,HQ.out]; rfl),B8.out⟩
                            · have HO : Hid (decide (L.o = M.o) = false):=by show _ = _; simpa using ho
                              have hne:=str_ne (a:=strB L.o) (b:=strB M.o) (fun e => ho (strB_inj e));have hne2:=str_neq (a:=strB L.o) (b:=strB M.o) (fun e => ho (strB_inj e));clear ho;(go_wp2_with fail);go_ret;exact ⟨ret_bool (by rw [HF.out]; unfold vSame; rw [H1.out,H2.out,H3.out,H4.out,H5.out,H6.out,H7.out,H8.out,HC.out,HO.out]; rfl),B8.out⟩
                          · have hc : confSame k j = false:=by unfold confSame; rw [decide_eq_false_iff_not]; intro x; exact hco x.2.2.2.2
                            have HC:=zqh hc;have n1 : ((k.co : Int) != j.co) = true:=by simpa using hco
                            have n2 : ((k.co : Int) == j.co) = false:=by simpa using hco
                            clear hc;(go_wp2_with fail);go_ret;exact ⟨ret_bool (by rw [HF.out]; unfold vSame; rw [H1.out,H2.out,H3.out,H4.out,H5.out,H6.out,H7.out,H8.out,HC.out]; rfl),B8.out⟩
                        · have hc : confSame k j = false:=by unfold confSame; rw [decide_eq_false_iff_not]; intro x; exact hcw x.2.2.2.1
                          have HC:=zqh hc;have n1 : ((k.cw : Int) != j.cw) = true:=by simpa using hcw
                          have n2 : ((k.cw : Int) == j.cw) = false:=by simpa using hcw
                          clear hc;(go_wp2_with fail);go_ret;exact ⟨ret_bool (by rw [HF.out]; unfold vSame; rw [H1.out,H2.out,H3.out,H4.out,H5.out,H6.out,H7.out,H8.out,HC.out]; rfl),B8.out⟩
                      · have hc : confSame k j = false:=by unfold confSame; rw [decide_eq_false_iff_not]; intro x; exact hcr x.2.2.1
                        have HC:=zqh hc;have n1 : ((k.cr : Int) != j.cr) = true:=by simpa using hcr
                        have n2 : ((k.cr : Int) == j.cr) = false:=by simpa using hcr
                        clear hc;(go_wp2_with fail);go_ret;exact ⟨ret_bool (by rw [HF.out]; unfold vSame; rw [H1.out,H2.out,H3.out,H4.out,H5.out,H6.out,H7.out,H8.out,HC.out]; rfl),B8.out⟩
                    · have hc : confSame k j = false:=by unfold confSame; rw [decide_eq_false_iff_not]; intro x; exact hcd x.2.1
                      have HC:=zqh hc;have n1 : ((k.cd : Int) != j.cd) = true:=by simpa using hcd
                      have n2 : ((k.cd : Int) == j.cd) = false:=by simpa using hcd
                      clear hc;(go_wp2_with fail);go_ret;exact ⟨ret_bool (by rw [HF.out]; unfold vSame; rw [H1.out,H2.out,H3.out,H4.out,H5.out,H6.out,H7.out,H8.out,HC.out]; rfl),B8.out⟩
                  · have hc : confSame k j = false:=by unfold confSame; rw [decide_eq_false_iff_not]; intro x; exact hcm x.1
                    have HC:=zqh hc;have n1 : ((k.cm : Int) != j.cm) = true:=by simpa using hcm
                    have n2 : ((k.cm : Int) == j.cm) = false:=by simpa using hcm
                    clear hc;(go_wp2_with fail);go_ret;exact ⟨ret_bool (by rw [HF.out]; unfold vSame; rw [H1.out,H2.out,H3.out,H4.out,H5.out,H6.out,H7.out,H8.out,HC.out]; rfl),B8.out⟩
end Go.Proofs.YtlgnijhemfkflaaGreatDoor

namespace Go.Proofs.YtlgnijhemfkflaaGreatDoor
open Go.ChangeShapes Go.WideShapes Go.ChangeAt Go.RowKit Go.Joins Go.Deep


section
variable {H : Type} {enc : TypeId × Value → H} {w : World}
theorem open_rws {α : Type} {encd : α → List Value} {s : Nat} (hs : ∀ x,(encd x).length = s) (h0 : 0 < s) {S T : TypeId} (hu : Tryz.prog.underlying S = some (.slice T)) (hC : Tryz.prog.cellsOf T = s)
    (hel : ∀ {fuel : Nat} {cs : List Value} {x : DataW H × List MemPlace},DataW.trod enc Tryz.prog w 0 (fun _ => true) true fuel T cs = some x → ∃ q,cs = encd q)
    {fuel : Nat} {v : Value} {x : DataW H × List MemPlace} (h : DataW.trod enc Tryz.prog w 0 (fun _ => true) true fuel S [v] = some x) : ∃ A n c l,v = .slice A n c ∧ Rws encd w (.slice A n c) l:=by
  rcases open_slice hu h with ⟨hcs,_⟩ | ⟨a,len,cap,mm,n,D,Pl,hcs,_,hl,hm,hmm,_,hi⟩
  · simp at hcs
    subst hcs;exact ⟨_,_,_,[],rfl,rws_nil _ w⟩
  · simp at hcs hmm
    subst hcs;rw [hC] at hi
    obtain ⟨L,hL,hR⟩:=list_of len (fun i (q : α) => ∀ j u,j < s → (encd q)[j]? = some u → w.cell? (a.add (i * s + j)) = some u) (fun i hilt => by
      obtain ⟨cs',hc,ht⟩:=hi i (by omega);obtain ⟨q,rfl⟩:=hel ht;obtain ⟨_,_,hat⟩:=World.cells?_some hc;refine ⟨q,fun j u hj hu2 => ?_⟩;have:=hat j hj;rw [Go.Deep.add_add] at this;rw [this]
      exact hu2)
    refine ⟨some a,len,cap,L,rfl,some a,cap,by rw [hL],by rw [hL]; exact hl,hm,?_⟩
    by_cases hz : len = 0
    · subst hz
      have : L = []:=List.eq_nil_of_length_eq_zero hL;subst this;exact .inl rfl
    · have hL0 : L[0]? = some (L[0]'(by omega)):=List.getElem?_eq_getElem _
      have hu0 : (encd (L[0]'(by omega)))[0]? = some ((encd (L[0]'(by omega)))[0]'(by rw [hs]; exact h0)):=List.getElem?_eq_getElem _;have hfirst:=hR 0 _ hL0 0 _ h0 hu0;rw [Nat.zero_mul,Nat.zero_add] at hfirst;obtain ⟨b,off,rfl,hb⟩:=plain_of hfirst;refine .inr ⟨b,off,rfl,hb,fun j v hv => ?_⟩;have hdm : j / s * s + j % s = j:=by rw [Nat.mul_comm]; exact Nat.div_add_mod j s
      have hms : j % s < s:=Nat.mod_lt _ h0;have hj : j < len * s:=by
        have:=(List.getElem?_eq_some_iff.1 hv).1;rw [List.length_flatMap] at this;have e : (L.map fun x => (encd x).length) = L.map fun _ => s:=List.map_congr_left fun x _ => hs x
        rw [e,List.map_const',List.sum_replicate_nat,hL] at this;exact this
      have hk : j / s < L.length:=by rw [hL]; exact Nat.div_lt_of_lt_mul (by rw [Nat.mul_comm]; exact hj)
      have hf:=flat_at hs hk hms;rw [hdm,hv] at hf;have:=hR (j / s) _ (List.getElem?_eq_getElem hk) (j % s) v hms hf.symm;rw [add_at,hdm] at this;exact this
end
end Go.Proofs.YtlgnijhemfkflaaGreatDoor
