/- Part 28. -/
import Derived.Test.YtcmldhjicjmmgaaGreatDoorXlBA
set_option linter.unusedVariables false
set_option linter.unusedSimpArgs false
set_option maxRecDepth 100000
set_option maxHeartbeats 4000000

namespace Go.Proofs.YtcmldhjicjmmgaaGreatDoor
open Go.RowKit


theorem take_under (W : World) (p q : Addr) (g : FuncId) (cs : Array Value) (t : Nat) (f : Fn3) (eg : Ent g) (ht4 : t ≤ 4)
    (hc : ∀ w k L A c x,Kp W w → Ok k L → IsVm w k L → Takes w t A c x → Calls Tryz.prog g (#[vmV k,.slice A t c] ++ cs) w (ActOut (f k L x) k w)) (w : World) (k : VmK) (L : VmL)
    (b0 : Kp W w) (hp : w.cell? p = some (.int .i64 (t : Int))) (hq : w.cell? q = some (.func (.func g) #[] cs)) (hpl : p.block < w.heap.size) (hql : q.block < w.heap.size) (ok : Ok k L) (h : IsVm w k L) (hu : L.d.length < t) :
    Calls Tryz.prog 250 #[vmV k,.pointer (some p),.pointer (some q)] w (DeedOut ⟨-4,[],k,L⟩ k w):=by
  have hdl : L.d.length = k.dn:=h.d.1;have hd4:=ok.d1;have hlt : (k.dn : Int) - (t : Int) < 0:=by omega
  have V0:=zqh h;go_enter Tryz.func250,Tryz.ntmps250;go_upto_region 1 with fail
  generalize hw1 : World.alloc (World.alloc _ _) _ = w1;have kb : Below w.heap.size w w1:=by rw [← hw1]; exact al_two _ _ _
  have kx : VBox w1 w.heap.size k:=by rw [← hw1]; exact (in_two w k _).2
  have kz : VBox w1 (w.heap.size + 1) vm0:=by rw [← hw1]; exact in_two0 w _
  have KS : Hid (w1.heap.size = w.heap.size + 1 + 1):=by show _ = _; rw [← hw1]; exact in_twos w _ _
  clear hw1;have hp1:=(kb.cell (p:=p) hpl).trans hp;have hq1:=(kb.cell (p:=q) hql).trans hq;have X1:=zqh kx;have Z1:=zqh kz;have B1:=zqh kb;obtain ⟨p0,p1,p2,p3,p4,p5,p6,p7,p8,p9,p10,p11,p12,p13,p14,p15,p16,p17,p18,p19,p20,p21,p22⟩:=kx.use;clear p0 p1 p2 p3 p4 p5 p6 p7 p9 p10 p11 p12 p13 p14 p15 p16 p17 p18 p19 p20 p21 p22;clear hc b0 kb kx kz h hp hq ok hdl hu;(go_wp2_with (first | (refine wpList_vload (by rfl) _ rfl w.heap.size k rfl X1.out ?_) | (refine wpList_vstore (by rfl) _ _ rfl _ vm0 k rfl rfl Z1.out ?_)));have kb2:=below_setRow B1.out (show w.heap.size ≤ w.heap.size + 1 by omega) (vmC k);exact bodyPost_ret (res_ct rfl _ _ _ _ rfl (vrow Z1.out k)) rfl ⟨k,rfl,V0.out.keep kb2,Sc.refl _,MLoc.refl _ _,kb2⟩
theorem take_more (W : World) (p q : Addr) (g : FuncId) (cs : Array Value) (t : Nat) (f : Fn3) (eg : Ent g) (ht4 : t ≤ 4)
    (hc : ∀ w k L A c x,Kp W w → Ok k L → IsVm w k L → Takes w t A c x → Calls Tryz.prog g (#[vmV k,.slice A t c] ++ cs) w (ActOut (f k L x) k w)) (w : World) (k : VmK) (L : VmL)
    (b0 : Kp W w) (hp : w.cell? p = some (.int .i64 (t : Int))) (hq : w.cell? q = some (.func (.func g) #[] cs)) (hpl : p.block < w.heap.size) (hql : q.block < w.heap.size) (ok : Ok k L) (h : IsVm w k L) (low : Nat) (hlow : L.d.length = low + t) (ho4 : ∀ x,(f k L x).o.length ≤ 4) :
    Calls Tryz.prog 250 #[vmV k,.pointer (some p),.pointer (some q)] w (DeedOut (deedE t f k L) k w):=by
  have hdl : L.d.length = k.dn:=h.d.1;have HDN : Hid (k.dn = low + t):=hdl.symm.trans hlow;have hd4:=ok.d1;have hcd0:=ok.cd0;have hcd1:=ok.cd1;obtain ⟨x,hxe⟩ : ∃ x,L.d.drop low = x:=⟨_,rfl⟩;obtain ⟨E,hE⟩ : ∃ E,f k L x = E:=⟨_,rfl⟩;obtain ⟨D,hD⟩ : ∃ D,deedE t f k L = D:=⟨_,rfl⟩;have HD : Hid (D = if E.c = 0 then (if k.cd < ((low + E.o.length : Nat) : Int) then ⟨-3,[],k,L⟩ else ⟨0,[],E.K,{ E.L with d:=L.d.take low ++ E.o }⟩) else ⟨E.c,[],k,L⟩):=by
    show _ = _;rw [← hD];unfold deedE;rw [if_neg (by omega),show L.d.length - t = low by omega,hxe,hE]
  rw [hD];clear hD;obtain ⟨R,hR⟩ : ∃ R,restAt k.dA low k.dc = R:=⟨_,rfl⟩;obtain ⟨qc,hqc⟩ : ∃ qc,k.dc - low = qc:=⟨_,rfl⟩;have hrow : Row w k.dA (low + t) k.dc L.d:=HDN.out ▸ h.d;have hrest : Row w R t qc x:=by
    have:=hrow.rest (k:=low) (by omega)
    rwa [show low + t - low = t by omega,hR,hqc,hxe] at this
  have HT : Hid (Takes w t R qc x):=⟨hrest,hrest.1,fun y hy => ok.dr y (List.mem_of_mem_drop (hxe ▸ hy))⟩;have HLO : Hid (Row w k.dA low k.dc (L.d.take low)):=hrow.high (k:=low) (by omega);have HSL : Hid (∀ u,(Instr.slice 22 (.slice k.dA (low + t) k.dc) (some (.int .i64 (low : Int))) none none).run Tryz.prog u = .ok (.slice R t qc) u):=fun u => by
    have:=run_rest (A:=k.dA) (c:=k.dc) u (show low ≤ low + t by omega)
    rwa [show low + t - low = t by omega,hR,hqc] at this
  have hl4 : low ≤ 400:=by omega
  have hlc : (low : Int) ≤ (k.dc : Int):=by have:=hrow.2.1; omega
  have hcm : (k.dc : Int) ≤ 9223372036854775807:=by have:=hrow.2.2.1; unfold maxLen at this; omega
  have h3 : (low : Int) + (t : Int) - (t : Int) = (low : Int):=by omega
  have h0 : decide ((low : Int) < 0) = false:=by simp
  have V0:=zqh h;have OKH:=zqh ok;have HLD:=zqh hlow;go_enter Tryz.func250,Tryz.ntmps250;go_upto_region 1 with fail
  generalize hw1 : World.alloc (World.alloc _ _) _ = w1;have kb : Below w.heap.size w w1:=by rw [← hw1]; exact al_two _ _ _
  have kx : VBox w1 w.heap.size k:=by rw [← hw1]; exact (in_two w k _).2
  have kz : VBox w1 (w.heap.size + 1) vm0:=by rw [← hw1]; exact in_two0 w _
  have KS : Hid (w1.heap.size = w.heap.size + 1 + 1):=by show _ = _; rw [← hw1]; exact in_twos w _ _
  clear hw1;have hp1:=(kb.cell (p:=p) hpl).trans hp;have HQ:=zqh hq;have X1:=zqh kx;have Z1:=zqh kz;have B1:=zqh kb;obtain ⟨p0,p1,p2,p3,p4,p5,p6,p7,p8,p9,p10,p11,p12,p13,p14,p15,p16,p17,p18,p19,p20,p21,p22⟩:=kx.use;clear p0 p1 p2 p3 p4 p5 p6 p7 p9 p10 p11 p12 p13 p14 p15 p16 p17 p18 p19 p20 p21 p22;rw [HDN.out] at p8;clear kb kx kz h hp hq hdl hxe hR hqc hrow hrest hlow;(go_wp2_with fail);clear p8 hp1;refine wp_region_noPanic ?_;refine wp_region_held_drew (S:=fun a => Below w.heap.size w a ∧ VBox a w.heap.size k ∧ VBox a (w.heap.size + 1) vm0) (by kernel_rfl) ?_ (fun hHeld => ?_)
  · exact ⟨B1.out.drew,X1.out,Z1.out⟩
  refine zqf 0 (fun u hSu => (hSu.1.cell (p:=q) hql).trans HQ.out) ?_;refine zqt (i:=1) (v:=vmV k) (fun u hSu => exec_vl _ rfl w.heap.size k rfl hSu.2.1) ?_;(try simp only [zq,Act.put]);refine zqa 2 ?_;refine zqt (i:=3) (v:=?v3a1) ?y3a1 ?r3a1
  case y3a1 =>
    intro u hSu;(try dsimp only at hSu);obtain ⟨p0,p1,p2,p3,p4,p5,p6,p7,p8,p9,p10,p11,p12,p13,p14,p15,p16,p17,p18,p19,p20,p21,p22⟩:=hSu.2.1.use;clear p0 p1 p2 p3 p4 p5 p6 p7 p9 p10 p11 p12 p13 p14 p15 p16 p17 p18 p19 p20 p21 p22;rw [HDN.out] at p8;go_simp;(try with_reducible rfl)
  (try simp only [zq,Act.put]);refine zqa 4 ?_;refine zqf 5 (fun u hSu => HSL.out u) ?_;refine wpAnyH_ready (rs:=[6,11]) (by kernel_rfl) (by simp) ?_;refine AllReadyH.cons (o:=_) rfl (fun K hK => ?_) (AllReadyH.cons (o:=_) rfl (fun K hK => ?_) AllReadyH.nil)
  case refine_1 =>
    go_simp;refine (hc _ k L R qc x (kp_then b0 hHeld.1) ok (V0.out.keep hHeld.1) (HT.out.keep hHeld.1)).mono ?_;rw [hE];rintro e u1 ⟨j,B,m,d,rfl,hr,bb⟩;(go_wp2_with fail);have hN : Below w.heap.size w u1 ∧ VBox u1 w.heap.size k ∧ VBox u1 (w.heap.size + 1) vm0:=⟨below_then hHeld.1 bb,hHeld.2.1.keep bb,hHeld.2.2.keep bb⟩;have hr2 : E.c = 0 → IsVm u1 j E.L ∧ Sc j E.K ∧ MLoc w1.heap.size j k ∧ RowN w1.heap.size u1 B m d E.o:=hr;have KB:=bb.size;refine hK.out _ _ hN (fun hHeld => ?_);clear hK K;(try simp only [zq,Act.put]);refine zqa 7 ?_;refine zqa 8 ?_;refine zqa 9 ?_;refine zqa 10 ?_;refine zqr 11 fun K hK => ?_
    go_simp;(go_wp2_with fail);refine hK.out _ _ ⟨below_then hHeld.1 (al_one _ _),hHeld.2.1.keep (al_one _ _),hHeld.2.2.keep (al_one _ _)⟩ (fun hHeld2 => ?_);clear hK K;(try simp only [zq,Act.put]);have OV:=vbox_zero u1;refine zqr 12 fun K hK => ?_
    refine step_vst rfl _ _ rfl u1.heap.size vm0 j rfl rfl OV ?_;refine hK.out _ _ ⟨below_setRow hHeld2.1 (by first | exact hHeld.1.size | exact hHeld2.1.size | (simp; omega) | (have:=KS.out; omega) | (have:=hHeld2.1.size; simp at this ⊢; omega)) _,vrow_fr hHeld2.2.1 (by have:=hHeld.2.1.lt; have:=hHeld.2.2.lt; omega) _,vrow_fr hHeld2.2.2 (by have:=hHeld.2.1.lt; have:=hHeld.2.2.lt; omega) _⟩ (fun hHeld3 => ?_);clear hK K;generalize hu : World.setRow _ _ _ = u at hHeld3 ⊢;have BU : Below u1.heap.size u1 u:=by rw [← hu]; exact below_setRow (al_one _ _) (Nat.le_refl _) _
    have OX : Hid (VBox u u1.heap.size j):=by show VBox _ _ _; rw [← hu]; exact vrow OV j
    have EU : Hid (Ex (fun g => g = u1.heap.size ∨ g = w.heap.size + 1) u1 u):=(Ex.refl _ _).below BU;have HX : Hid (∀ g,g < u1.heap.size → (g = u1.heap.size ∨ g = w.heap.size + 1) → w.heap.size ≤ g ∧ g < w1.heap.size ∧ NoU8 u1 g):=by
      intro g hg h;have:=KS.out
      rcases h with h | rfl
      · omega
      · exact ⟨by omega,by omega,vbox_nou8 hN.2.2⟩
    have HOB : Hid (w.heap.size ≤ u1.heap.size ∧ u1.heap.size ≠ w.heap.size + 1 ∧ u1.heap.size < u.heap.size):=⟨hN.1.size,by have:=hN.2.2.lt; omega,OX.out.lt⟩;have HRU:=zqh (fun hz : E.c = 0 => (hr2 hz).2.2.2.1.keep BU);have HR2:=zqh hr2;have SU:=zqh hHeld3;have HW1 : Hid (w.heap.size ≤ w1.heap.size):=by show _ ≤ _; have:=KS.out; omega
    clear hu BU OV hHeld hHeld2 hHeld3 hN hr hr2 bb KB;refine zqa 13 ?_;refine zqa 14 ?_;refine wpAnyH_done (by kernel_rfl) ?_ _;refine NoPanic.normal ?_
    by_cases hC : E.c = 0
    · have hmE : E.o.length = m:=(HRU.out hC).1
      by_cases hov : k.cd < ((low + E.o.length : Nat) : Int)
      · obtain rfl : D = ⟨-3,[],k,L⟩:=by rw [HD.out,if_pos hC,if_pos hov]
        have hov2 : k.cd < (low : Int) + (m : Int):=by omega
        have hm9 : m ≤ 4:=by have:=ho4 x; rw [hE] at this; omega
        obtain ⟨p0,p1,p2,p3,p4,p5,p6,p7,p8,p9,p10,p11,p12,p13,p14,p15,p16,p17,p18,p19,p20,p21,p22⟩:=SU.out.2.1.use;clear p0 p2 p3 p4 p5 p6 p7 p8 p9 p10 p11 p12 p13 p14 p15 p16 p17 p18 p19 p20 p21 p22 hov hmE;(go_wp2_with (first | (refine wpList_vload (by rfl) _ rfl w.heap.size k rfl SU.out.2.1 ?_) | (refine wpList_vstore (by rfl) _ _ rfl _ vm0 k rfl rfl SU.out.2.2 ?_)));have kb2:=below_setRow SU.out.1 (show w.heap.size ≤ w.heap.size + 1 by omega) (vmC k);exact bodyPost_ret (res_ct rfl _ _ _ _ rfl (vrow SU.out.2.2 k)) rfl ⟨k,rfl,V0.out.keep kb2,Sc.refl _,MLoc.refl _ _,kb2⟩
      · obtain rfl : D = ⟨0,[],E.K,{ E.L with d:=L.d.take low ++ E.o }⟩:=by rw [HD.out,if_pos hC,if_neg hov]
        have hov2 : decide (k.cd < (low : Int) + (m : Int)) = false:=by simp; omega
        have hm9 : m ≤ 256:=by omega
        obtain ⟨p0,p1,p2,p3,p4,p5,p6,p7,p8,p9,p10,p11,p12,p13,p14,p15,p16,p17,p18,p19,p20,p21,p22⟩:=SU.out.2.1.use;rw [HDN.out] at p8;have HRC:=zqh (HRU.out hC);have hlen : (L.d.take low).length = low:=HLO.out.1;clear p0 p2 p3 p4 p5 p6 p7 p9 p10 p11 p12 p13 p14 p15 p16 p17 p18 p19 p20 p21 p22 hov;(go_wp2_with fail);refine (icat_any k.dA B low k.dc m d (L.d.take low) E.o _ _ (pair_new u _ _ _).1 (pair_new u _ _ _).2 ((HLO.out.keep SU.out.1).keep (al_one _ _)) (HRC.out.keep (al_one _ _)) (by omega) (by omega)).mono ?_;rintro e u5 ⟨v5,rfl,ho,b5⟩;rw [List.length_append,hlen,hmE] at ho;obtain ⟨B5,c5,rfl,hr5⟩:=ho.rowN (Nat.le_refl _);have b6:=below_then (al_one u _) b5;have O5:=zqh (OX.out.keep b6);have Z5:=zqh (SU.out.2.2.keep b6);have B5w:=zqh (below_then SU.out.1 b6);have E5:=zqh (EU.out.below b6);have R5:=zqh hr5;have F8:=O5.out.free.2.2.2.2.2.2.2.2.1;have P8:=O5.out.use.2.2.2.2.2.2.2.2.1;clear p1 p8 ho b5 b6 hr5 hmE hlen;go_upto_region 10 with fail
        generalize hV : World.setCell _ _ _ = V;have OW : Hid (VBox V u1.heap.size { j with dA:=B5,dn:=low + m,dc:=c5 }):=by show VBox _ _ _; rw [← hV]; exact O5.out.put_d _ _ _
        have ZW : Hid (VBox V (w.heap.size + 1) vm0):=by show VBox _ _ _; rw [← hV]; exact vset_far Z5.out (by have:=HOB.out; omega)
        have BW : Hid (Below w.heap.size w V):=by show Below _ _ _; rw [← hV]; exact B5w.out.setCell HOB.out.1 _
        have EW : Hid (Ex (fun g => g = u1.heap.size ∨ g = w.heap.size + 1) u1 V):=by show Ex _ _ _; rw [← hV]; exact E5.out.cell (.inl rfl) _
        have RW : Hid (RowN (u.heap.size + 1) V B5 (low + m) c5 (L.d.take low ++ E.o)):=by
          show RowN _ _ _ _ _ _;rw [← hV];refine (R5.out.le (by simp)).at_ (by simp [World.setCell]) fun g hg => Below.heap_setCell _ _ _ _ (by have:=HOB.out; show g ≠ _; dsimp only; omega)
        clear hV F8 P8 O5 Z5 B5w E5 R5;(go_wp2_with (first | (refine wpList_vload (by rfl) _ rfl _ _ rfl OW.out ?_) | (refine wpList_vstore (by rfl) _ _ rfl _ vm0 _ rfl rfl ZW.out ?_)));have kb2:=below_setRow BW.out (show w.heap.size ≤ w.heap.size + 1 by omega) (vmC { j with dA:=B5,dn:=low + m,dc:=c5 });obtain ⟨hj,hs,hl,_⟩:=HR2.out hC;have base:=V0.out.ex hj hl (EW.out.row (.inr rfl) (vmC { j with dA:=B5,dn:=low + m,dc:=c5 })) HX.out;have row5:=RW.out.row_set (b:=w.heap.size + 1) (by have:=HOB.out; have:=SU.out.2.2.lt; omega) (vmC { j with dA:=B5,dn:=low + m,dc:=c5 });have hl2:=hl.le HW1.out;refine bodyPost_ret (res_ct rfl _ _ _ _ rfl (vrow ZW.out _)) rfl ⟨{ j with dA:=B5,dn:=low + m,dc:=c5 },rfl,⟨base.m,row5.1,base.r,base.f,base.dict,base.o,base.q,base.e,base.h⟩,⟨hs.cm,hs.cd,hs.cr,hs.cw,hs.co,hs.here,hs.last,hs.qo,hs.free,hs.next,hs.arg,hs.self,hs.now⟩,⟨hl2.p,.inr fun q hq => Nat.le_trans (by have:=HOB.out; omega) (row5.2 q hq),hl2.e,hl2.r,hl2.f,hl2.w,hl2.h⟩,kb2⟩
    · obtain rfl : D = ⟨E.c,[],k,L⟩:=by rw [HD.out,if_neg hC]
      have hC2 : (E.c != 0) = true:=by simpa using hC
      (go_wp2_with (first | (refine wpList_vload (by rfl) _ rfl w.heap.size k rfl SU.out.2.1 ?_) | (refine wpList_vstore (by rfl) _ _ rfl _ vm0 k rfl rfl SU.out.2.2 ?_)));have kb2:=below_setRow SU.out.1 (show w.heap.size ≤ w.heap.size + 1 by omega) (vmC k);exact bodyPost_ret (res_ct rfl _ _ _ _ rfl (vrow SU.out.2.2 k)) rfl ⟨k,rfl,V0.out.keep kb2,Sc.refl _,MLoc.refl _ _,kb2⟩
  case refine_2 =>
    go_simp;(go_wp2_with fail);refine hK.out _ _ ⟨below_then hHeld.1 (al_one _ _),hHeld.2.1.keep (al_one _ _),hHeld.2.2.keep (al_one _ _)⟩ (fun hHeld => ?_);clear hK K;(try simp only [zq,Act.put]);refine zqr 6 fun K hK => ?_
    go_simp;refine (hc _ k L R qc x (kp_then b0 hHeld.1) ok (V0.out.keep hHeld.1) (HT.out.keep hHeld.1)).mono ?_;rw [hE];rintro e u1 ⟨j,B,m,d,rfl,hr,bb⟩;(go_wp2_with fail);have hN : Below w.heap.size w u1 ∧ VBox u1 w.heap.size k ∧ VBox u1 (w.heap.size + 1) vm0:=⟨below_then hHeld.1 bb,hHeld.2.1.keep bb,hHeld.2.2.keep bb⟩;have hr2 : E.c = 0 → IsVm u1 j E.L ∧ Sc j E.K ∧ MLoc (w1.heap.size + 1) j k ∧ RowN (w1.heap.size + 1) u1 B m d E.o:=fun hz => ⟨(hr hz).1,(hr hz).2.1,(hr hz).2.2.1.le (by simp),(hr hz).2.2.2.le (by simp)⟩
    have OV : VBox u1 w1.heap.size vm0:=(vbox_zero w1.drew).keep bb;refine hK.out _ _ hN (fun hHeld => ?_);clear hK K;(try simp only [zq,Act.put]);refine zqa 7 ?_;refine zqa 8 ?_;refine zqa 9 ?_;refine zqa 10 ?_;refine zqr 12 fun K hK => ?_
    refine step_vst rfl _ _ rfl w1.heap.size vm0 j rfl rfl OV ?_;refine hK.out _ _ ⟨below_setRow hHeld.1 (by first | exact hHeld.1.size | exact hHeld.1.size | (simp; omega) | (have:=KS.out; omega) | (have:=hHeld.1.size; simp at this ⊢; omega)) _,vrow_fr hHeld.2.1 (by have:=KS.out; omega) _,vrow_fr hHeld.2.2 (by have:=KS.out; omega) _⟩ (fun hHeld3 => ?_);clear hK K;generalize hu : World.setRow _ _ _ = u at hHeld3 ⊢;have EU : Hid (Ex (fun g => g = w1.heap.size ∨ g = w.heap.size + 1) u1 u):=by show Ex _ _ _; rw [← hu]; exact (Ex.refl _ _).row (.inl rfl) _
    have OX : Hid (VBox u w1.heap.size j):=by show VBox _ _ _; rw [← hu]; exact vrow OV j
    have HX : Hid (∀ g,g < u1.heap.size → (g = w1.heap.size ∨ g = w.heap.size + 1) → w.heap.size ≤ g ∧ g < w1.heap.size + 1 ∧ NoU8 u1 g):=by
      intro g hg h;have:=KS.out
      rcases h with rfl | rfl
      · exact ⟨by omega,by omega,vbox_nou8 OV⟩
      · exact ⟨by omega,by omega,vbox_nou8 hN.2.2⟩
    have HOB : Hid (w.heap.size ≤ w1.heap.size ∧ w1.heap.size ≠ w.heap.size + 1 ∧ w1.heap.size < u.heap.size):=⟨by have:=KS.out; omega,by have:=KS.out; omega,OX.out.lt⟩;have HRU : Hid (E.c = 0 → Row u B m d E.o):=fun hz => by rw [← hu]; exact ((hr2 hz).2.2.2.row_set (Nat.lt_succ_self _) _).1
    have HR2:=zqh hr2;have SU:=zqh hHeld3;have HW1 : Hid (w.heap.size ≤ w1.heap.size + 1):=by show _ ≤ _; have:=KS.out; omega
    clear hu OV hHeld hHeld3 hN hr hr2 bb;refine zqa 13 ?_;refine zqa 14 ?_;refine wpAnyH_done (by kernel_rfl) ?_ _;refine NoPanic.normal ?_
    by_cases hC : E.c = 0
    · have hmE : E.o.length = m:=(HRU.out hC).1
      by_cases hov : k.cd < ((low + E.o.length : Nat) : Int)
      · obtain rfl : D = ⟨-3,[],k,L⟩:=by rw [HD.out,if_pos hC,if_pos hov]
        have hov2 : k.cd < (low : Int) + (m : Int):=by omega
        have hm9 : m ≤ 4:=by have:=ho4 x; rw [hE] at this; omega
        obtain ⟨p0,p1,p2,p3,p4,p5,p6,p7,p8,p9,p10,p11,p12,p13,p14,p15,p16,p17,p18,p19,p20,p21,p22⟩:=SU.out.2.1.use;clear p0 p2 p3 p4 p5 p6 p7 p8 p9 p10 p11 p12 p13 p14 p15 p16 p17 p18 p19 p20 p21 p22 hov hmE;(go_wp2_with (first | (refine wpList_vload (by rfl) _ rfl w.heap.size k rfl SU.out.2.1 ?_) | (refine wpList_vstore (by rfl) _ _ rfl _ vm0 k rfl rfl SU.out.2.2 ?_)));have kb2:=below_setRow SU.out.1 (show w.heap.size ≤ w.heap.size + 1 by omega) (vmC k);exact bodyPost_ret (res_ct rfl _ _ _ _ rfl (vrow SU.out.2.2 k)) rfl ⟨k,rfl,V0.out.keep kb2,Sc.refl _,MLoc.refl _ _,kb2⟩
      · obtain rfl : D = ⟨0,[],E.K,{ E.L with d:=L.d.take low ++ E.o }⟩:=by rw [HD.out,if_pos hC,if_neg hov]
        have hov2 : decide (k.cd < (low : Int) + (m : Int)) = false:=by simp; omega
        have hm9 : m ≤ 256:=by omega
        obtain ⟨p0,p1,p2,p3,p4,p5,p6,p7,p8,p9,p10,p11,p12,p13,p14,p15,p16,p17,p18,p19,p20,p21,p22⟩:=SU.out.2.1.use;rw [HDN.out] at p8;have HRC:=zqh (HRU.out hC);have hlen : (L.d.take low).length = low:=HLO.out.1;clear p0 p2 p3 p4 p5 p6 p7 p9 p10 p11 p12 p13 p14 p15 p16 p17 p18 p19 p20 p21 p22 hov;(go_wp2_with fail);refine (icat_any k.dA B low k.dc m d (L.d.take low) E.o _ _ (pair_new u _ _ _).1 (pair_new u _ _ _).2 ((HLO.out.keep SU.out.1).keep (al_one _ _)) (HRC.out.keep (al_one _ _)) (by omega) (by omega)).mono ?_;rintro e u5 ⟨v5,rfl,ho,b5⟩;rw [List.length_append,hlen,hmE] at ho;obtain ⟨B5,c5,rfl,hr5⟩:=ho.rowN (Nat.le_refl _);have b6:=below_then (al_one u _) b5;have O5:=zqh (OX.out.keep b6);have Z5:=zqh (SU.out.2.2.keep b6);have B5w:=zqh (below_then SU.out.1 b6);have E5:=zqh (EU.out.below b6);have R5:=zqh hr5;have F8:=O5.out.free.2.2.2.2.2.2.2.2.1;have P8:=O5.out.use.2.2.2.2.2.2.2.2.1;clear p1 p8 ho b5 b6 hr5 hmE hlen;go_upto_region 10 with fail
        generalize hV : World.setCell _ _ _ = V;have OW : Hid (VBox V w1.heap.size { j with dA:=B5,dn:=low + m,dc:=c5 }):=by show VBox _ _ _; rw [← hV]; exact O5.out.put_d _ _ _
        have ZW : Hid (VBox V (w.heap.size + 1) vm0):=by show VBox _ _ _; rw [← hV]; exact vset_far Z5.out (by have:=HOB.out; omega)
        have BW : Hid (Below w.heap.size w V):=by show Below _ _ _; rw [← hV]; exact B5w.out.setCell HOB.out.1 _
        have EW : Hid (Ex (fun g => g = w1.heap.size ∨ g = w.heap.size + 1) u1 V):=by show Ex _ _ _; rw [← hV]; exact E5.out.cell (.inl rfl) _
        have RW : Hid (RowN (u.heap.size + 1) V B5 (low + m) c5 (L.d.take low ++ E.o)):=by
          show RowN _ _ _ _ _ _;rw [← hV];refine (R5.out.le (by simp)).at_ (by simp [World.setCell]) fun g hg => Below.heap_setCell _ _ _ _ (by have:=HOB.out; show g ≠ _; dsimp only; omega)
        clear hV F8 P8 O5 Z5 B5w E5 R5;(go_wp2_with (first | (refine wpList_vload (by rfl) _ rfl _ _ rfl OW.out ?_) | (refine wpList_vstore (by rfl) _ _ rfl _ vm0 _ rfl rfl ZW.out ?_)));have kb2:=below_setRow BW.out (show w.heap.size ≤ w.heap.size + 1 by omega) (vmC { j with dA:=B5,dn:=low + m,dc:=c5 });obtain ⟨hj,hs,hl,_⟩:=HR2.out hC;have base:=V0.out.ex hj hl (EW.out.row (.inr rfl) (vmC { j with dA:=B5,dn:=low + m,dc:=c5 })) HX.out;have row5:=RW.out.row_set (b:=w.heap.size + 1) (by have:=HOB.out; have:=SU.out.2.2.lt; omega) (vmC { j with dA:=B5,dn:=low + m,dc:=c5 });have hl2:=hl.le HW1.out;refine bodyPost_ret (res_ct rfl _ _ _ _ rfl (vrow ZW.out _)) rfl ⟨{ j with dA:=B5,dn:=low + m,dc:=c5 },rfl,⟨base.m,row5.1,base.r,base.f,base.dict,base.o,base.q,base.e,base.h⟩,⟨hs.cm,hs.cd,hs.cr,hs.cw,hs.co,hs.here,hs.last,hs.qo,hs.free,hs.next,hs.arg,hs.self,hs.now⟩,⟨hl2.p,.inr fun q hq => Nat.le_trans (by have:=HOB.out; omega) (row5.2 q hq),hl2.e,hl2.r,hl2.f,hl2.w,hl2.h⟩,kb2⟩
    · obtain rfl : D = ⟨E.c,[],k,L⟩:=by rw [HD.out,if_neg hC]
      have hC2 : (E.c != 0) = true:=by simpa using hC
      (go_wp2_with (first | (refine wpList_vload (by rfl) _ rfl w.heap.size k rfl SU.out.2.1 ?_) | (refine wpList_vstore (by rfl) _ _ rfl _ vm0 k rfl rfl SU.out.2.2 ?_)));have kb2:=below_setRow SU.out.1 (show w.heap.size ≤ w.heap.size + 1 by omega) (vmC k);exact bodyPost_ret (res_ct rfl _ _ _ _ rfl (vrow SU.out.2.2 k)) rfl ⟨k,rfl,V0.out.keep kb2,Sc.refl _,MLoc.refl _ _,kb2⟩


theorem Takes.zero {w : World} {A : Option Addr} {c : Nat} {x : List Int} (h : Takes w 0 A c x) : x = []:=List.eq_nil_of_length_eq_zero h.len
theorem Takes.one {w : World} {A : Option Addr} {c : Nat} {x : List Int} (h : Takes w 1 A c x) : ∃ a g o,x = [a] ∧ A = some ⟨g,o,none⟩ ∧ g < w.heap.size ∧ w.cell? ⟨g,o,none⟩ = some (.int .i64 a) ∧ cellR a:=by
  obtain ⟨g,o,e,hg,hc⟩:=h.row.cells (by decide)
  match x,h.len with
  | [a],_ => exact ⟨a,g,o,rfl,e,hg,by simpa using hc 0 (by decide),h.cells a (by simp)⟩
theorem Takes.two {w : World} {A : Option Addr} {c : Nat} {x : List Int} (h : Takes w 2 A c x) : ∃ a b g o,x = [a,b] ∧ A = some ⟨g,o,none⟩ ∧ g < w.heap.size ∧ w.cell? ⟨g,o,none⟩ = some (.int .i64 a) ∧ w.cell? ⟨g,o + 1,none⟩ = some (.int .i64 b) ∧ cellR a ∧ cellR b:=by
  obtain ⟨g,o,e,hg,hc⟩:=h.row.cells (by decide)
  match x,h.len with
  | [a,b],_ => exact ⟨a,b,g,o,rfl,e,hg,by simpa using hc 0 (by decide),by simpa using hc 1 (by decide),h.cells a (by simp),h.cells b (by simp)⟩
theorem Takes.three {w : World} {A : Option Addr} {c : Nat} {x : List Int} (h : Takes w 3 A c x) : ∃ a b d g o,x = [a,b,d] ∧ A = some ⟨g,o,none⟩ ∧ g < w.heap.size ∧ w.cell? ⟨g,o,none⟩ = some (.int .i64 a) ∧ w.cell? ⟨g,o + 1,none⟩ = some (.int .i64 b) ∧ w.cell? ⟨g,o + 2,none⟩ = some (.int .i64 d) ∧ cellR a ∧ cellR b ∧ cellR d:=by
  obtain ⟨g,o,e,hg,hc⟩:=h.row.cells (by decide)
  match x,h.len with
  | [a,b,d],_ => exact ⟨a,b,d,g,o,rfl,e,hg,by simpa using hc 0 (by decide),by simpa using hc 1 (by decide),by simpa using hc 2 (by decide),h.cells a (by simp),h.cells b (by simp),h.cells d (by simp)⟩
theorem Takes.four {w : World} {A : Option Addr} {c : Nat} {x : List Int} (h : Takes w 4 A c x) : ∃ a b d f g o,x = [a,b,d,f] ∧ A = some ⟨g,o,none⟩ ∧ g < w.heap.size ∧ w.cell? ⟨g,o,none⟩ = some (.int .i64 a) ∧ w.cell? ⟨g,o + 1,none⟩ = some (.int .i64 b) ∧ w.cell? ⟨g,o + 2,none⟩ = some (.int .i64 d) ∧ w.cell? ⟨g,o + 3,none⟩ = some (.int .i64 f) ∧ cellR a ∧ cellR b ∧ cellR d ∧ cellR f:=by
  obtain ⟨g,o,e,hg,hc⟩:=h.row.cells (by decide)
  match x,h.len with
  | [a,b,d,f],_ => exact ⟨a,b,d,f,g,o,rfl,e,hg,by simpa using hc 0 (by decide),by simpa using hc 1 (by decide),by simpa using hc 2 (by decide),by simpa using hc 3 (by decide),h.cells a (by simp),h.cells b (by simp),h.cells d (by simp),h.cells f (by simp)⟩
theorem two_row (w : World) (a b : Int) : Row (w.alloc (.cells #[.int .i64 a,.int .i64 b] 3)) (some ⟨w.heap.size,0,none⟩) 2 2 [a,b]:=by
  obtain ⟨_,_,e,h⟩:=Owns.row (l:=[a,b]) (World.ownsRow_lit (base:=0) (e:=3) (size:=1) w #[.int .i64 a,.int .i64 b] 2 (Nat.zero_le _) (by unfold maxLen; omega) rfl);injection e with e1 e2 e3
  subst e1 e3;exact h
theorem rowN_two (w : World) (a b : Int) : RowN w.heap.size (w.alloc (.cells #[.int .i64 a,.int .i64 b] 3)) (some ⟨w.heap.size,0,none⟩) 2 2 [a,b]:=⟨two_row w a b,fun q e => by cases e; exact Nat.le_refl _⟩


theorem reckonedOfTwo1 (W : World) (p : Addr) (s : ByteArray) (hp : W.cell? p = some (.string s)) (hpl : p.block < W.heap.size) (w : World) (A : Option Addr) (c : Nat) (x : List Int) (b0 : Kp W w) (hx : Takes w 2 A c x) :
    Calls Tryz.prog 122 #[.slice A 2 c,.pointer (some p)] w (CellOut [(twoF s.data.toList (x.getD 0 0) (x.getD 1 0)).getD 0] (divC s.data.toList (x.getD 1 0)) w):=by
  obtain ⟨a,b,g,o,rfl,rfl,hg,c0,c1,ha,hb⟩:=hx.two;show Calls _ _ _ _ (CellOut [(twoF s.data.toList a b).getD 0] (divC s.data.toList b) w);clear hx;have HP : Hid (w.cell? p = some (.string s)):=(b0.cell hpl).trans hp;have hpw : p.block < w.heap.size:=Nat.lt_of_lt_of_le hpl b0.size;clear hp hpl b0;go_enter Tryz.func122,Tryz.ntmps122;go_upto_region 1 with fail
  refine wp_region_noPanic ?_;refine wp_region_held_drew (S:=fun a => Below w.heap.size w a) (by kernel_rfl) ?_ (fun hHeld => ?_)
  · exact (Below.refl _ _).drew
  refine zqf 0 (fun u hSu => (hSu.cell (p:=p) hpw).trans HP.out) ?_;refine zqa 1 ?_;refine zqa 2 ?_;refine zqf 3 (fun u hSu => And.intro ((hSu.cell (p:=⟨g,o,none⟩) hg).trans c0) ((hSu.cell (p:=⟨g,o + 1,none⟩) hg).trans c1)) ?_;refine zqa 4 ?_;refine zqa 5 ?_;refine zqf 6 (fun u hSu => And.intro ((hSu.cell (p:=⟨g,o,none⟩) hg).trans c0) ((hSu.cell (p:=⟨g,o + 1,none⟩) hg).trans c1)) ?_;refine zqr 7 fun K hK => ?_
  go_simp;refine (two_any s a b _ ha hb).mono ?_;rintro e u1 ⟨rfl,bb⟩;have hN:=below_then hHeld bb;have HB:=zqh hN;have HS:=zqh hN.size;(go_wp2_with fail);clear bb;clear hHeld;refine hK.out _ _ hN (fun hHeld => ?_);clear hK K hN;(try simp only [zq,Act.put]);refine zqa 8 ?_;refine zqa 9 ?_;refine zqa 10 ?_;refine zqa 11 ?_;refine zqa 12 ?_;refine zqa 13 ?_;refine zqa 14 ?_;refine wpAnyH_done (by kernel_rfl) ?_ _;refine NoPanic.normal ?_;(go_wp2_with fail);go_ret2;exact ⟨_,_,_,rfl,fun hz => (rowN_one _ _).le HS.out,below_then HB.out (al_one _ _)⟩
theorem truth_any (b : Bool) (w : World) : Calls Tryz.prog 140 #[.bool b] w fun e w' => e = .returned (.int .i64 (truthN b)) ∧ w = w':=by
  go_enter Tryz.func140,Tryz.ntmps140;cases b
  · go_wp2
    go_ret;exact ⟨rfl,rfl⟩
  · go_wp2
    go_ret;exact ⟨rfl,rfl⟩


theorem turns1 (W : World) (p : Addr) (g : FuncId) (cs : Array Value) (t : Nat) (f : Fn3) (eg : Ent g)
    (hc : ∀ w k L A c x,Kp W w → Ok k L → IsVm w k L → Takes w t A c x → Calls Tryz.prog g (#[vmV k,.slice A t c] ++ cs) w (TurnOut (f k L x) k w)) (w : World) (k : VmK) (L : VmL) (A : Option Addr) (c : Nat) (x : List Int)
    (b0 : Kp W w) (hp : w.cell? p = some (.func (.func g) #[] cs)) (hpl : p.block < w.heap.size) (ok : Ok k L) (h : IsVm w k L) (hx : Takes w t A c x) :
    Calls Tryz.prog 249 #[vmV k,.slice A t c,.pointer (some p)] w (ActOut ⟨(f k L x).c,[],(f k L x).K,(f k L x).L⟩ k w):=by
  generalize hE : f k L x = E;go_enter Tryz.func249,Tryz.ntmps249;go_upto_region 1 with fail
  generalize hw1 : World.alloc (World.alloc _ _) _ = w1;have kb : Below w.heap.size w w1:=by rw [← hw1]; exact al_two _ _ _
  have kx : VBox w1 w.heap.size k:=by rw [← hw1]; exact (in_two w k _).2
  have kz : VBox w1 (w.heap.size + 1) vm0:=by rw [← hw1]; exact in_two0 w _
  have KS : Hid (w1.heap.size = w.heap.size + 1 + 1):=by show _ = _; rw [← hw1]; exact in_twos w _ _
  clear hw1;have hp1:=(kb.cell (p:=p) hpl).trans hp;have HC:=zqh (hc w1 k L A c x (kp_then b0 kb) ok (h.keep kb) (hx.keep kb));have X1:=zqh kx;have Z1:=zqh kz;have B1:=zqh kb;have V0:=zqh h;clear hc b0 kb kx kz h hx hp ok;rw [hE] at HC;(go_wp2_with (refine wpList_vload (by rfl) _ rfl w.heap.size k rfl X1.out ?_));refine HC.out.mono ?_;rintro e w2 ⟨j,rfl,hr,bb⟩;have X2:=zqh (X1.out.keep bb);have Z2:=zqh (Z1.out.keep bb);have B2:=zqh (below_then B1.out bb);have HR:=zqh hr;have S2:=zqh bb.size;clear HC X1 Z1 B1 bb hr;have OV:=zqh (vbox_zero w2);have OX:=zqh (vrow OV.out j);have Z3:=zqh (vrow_fr (Z2.out.keep (al_one w2 (.cells (vmC vm0) 37))) (by have:=Z2.out.lt; omega : w.heap.size + 1 ≠ w2.heap.size) (vmC j));have B3:=zqh (below_setRow (below_then B2.out (al_one w2 (.cells (vmC vm0) 37))) (by have:=B2.out.size; omega : w.heap.size ≤ w2.heap.size) (vmC j));have E3 : Hid (Ex (fun g => g = w2.heap.size ∨ g = w.heap.size + 1) w2 ((w2.alloc (.cells (vmC vm0) 37)).setRow w2.heap.size (vmC j))):=((Ex.refl _ _).below (al_one _ _)).row (.inl rfl) _;(go_wp2_with (first | (refine wpList_vstore (by rfl) _ _ rfl w2.heap.size vm0 j rfl rfl OV.out ?_) | (refine wpList_vload (by rfl) _ rfl w2.heap.size j rfl OX.out ?_) | (refine wpList_vstore (by rfl) _ _ rfl (w.heap.size + 1) vm0 j rfl rfl Z3.out ?_)));have kb2:=below_setRow B3.out (show w.heap.size ≤ w.heap.size + 1 by omega) (vmC j);refine bodyPost_ret (res_ctt rfl _ _ _ _ rfl (vrow Z3.out j)) rfl ⟨j,none,0,0,rfl,fun hz => ?_,kb2⟩
  obtain ⟨hj,hs,hl⟩:=HR.out hz;refine ⟨V0.out.ex hj hl (E3.out.row (.inr rfl) (vmC j)) ?_,hs,hl.le (by have:=KS.out; omega),rowN_nil _ _⟩;intro g hg h;have:=KS.out
  rcases h with h | rfl
  · omega
  · exact ⟨by omega,by omega,vbox_nou8 Z2.out⟩


theorem fetches1 (W : World) (p : Addr) (g : FuncId) (cs : Array Value) (o : PM → Int → List Int) (C : PM → Int → Int) (eg : Ent g)
    (hc : ∀ w A P n c K d m a,Kp W w → MemIn w A P n c K d m → cellR a → Calls Tryz.prog g (#[.agg #[.slice A n c,.slice P K d],.int .i64 a] ++ cs) w (CellOut (o m a) (C m a) w)) (w : World) (k : VmK) (L : VmL) (A : Option Addr) (c : Nat) (x : List Int)
    (b0 : Kp W w) (hp : w.cell? p = some (.func (.func g) #[] cs)) (hpl : p.block < w.heap.size) (ok : Ok k L) (h : IsVm w k L) (hx : Takes w 1 A c x) :
    Calls Tryz.prog 232 #[vmV k,.slice A 1 c,.pointer (some p)] w (ActOut ⟨C L.m (x.getD 0 0),o L.m (x.getD 0 0),k,L⟩ k w):=by
  obtain ⟨a,g9,o9,rfl,rfl,hg,c0,ha⟩:=hx.one;show Calls _ _ _ _ (ActOut ⟨C L.m a,o L.m a,k,L⟩ k w);go_enter Tryz.func232,Tryz.ntmps232;go_upto_region 1 with fail
  generalize hw1 : World.alloc (World.alloc _ _) _ = w1;have kb : Below w.heap.size w w1:=by rw [← hw1]; exact al_two _ _ _
  have kx : VBox w1 w.heap.size k:=by rw [← hw1]; exact (in_two w k _).2
  have kz : VBox w1 (w.heap.size + 1) vm0:=by rw [← hw1]; exact in_two0 w _
  have KS : Hid (w1.heap.size = w.heap.size + 1 + 1):=by show _ = _; rw [← hw1]; exact in_twos w _ _
  clear hw1;have HP : Hid (w1.cell? p = some (.func (.func g) #[] cs)):=(kb.cell (p:=p) hpl).trans hp;have hp1l : p.block < w1.heap.size:=by have:=KS.out; omega
  have hg1 : g9 < w1.heap.size:=by have:=KS.out; omega
  have C0:=zqh ((kb.cell (p:=⟨g9,o9,none⟩) hg).trans c0);have HC:=zqh fun w b0 hm => hc w k.mA k.pA k.mn k.mc k.pn k.pc L.m a b0 hm ha
  have HM:=zqh (MemIn.keep (ok.mem h) kb);have X1:=zqh kx;have Z1:=zqh kz;have B1:=zqh (kp_then b0 kb);have B1w:=zqh kb;have V0:=zqh h;clear hc b0 kb kx kz h hx hp c0 ok;go_upto_region 1 with fail
  refine wp_region_noPanic ?_;refine wp_region_held_drew (S:=fun a => Below w1.heap.size w1 a) (by kernel_rfl) ?_ (fun hHeld => ?_)
  · exact (Below.refl _ _).drew
  refine zqf 0 (fun u hSu => (hSu.cell (p:=p) hp1l).trans HP.out) ?_;refine zqa 1 ?_;refine zqt (i:=2) (v:=?v2a10) ?y2a10 ?r2a10
  case y2a10 =>
    intro u hSu;(try dsimp only at hSu);have hx1:=X1.out.keep hSu;obtain ⟨p0,p1,p2,p3,p4,p5,p6,p7,p8,p9,p10,p11,p12,p13,p14,p15,p16,p17,p18,p19,p20,p21,p22⟩:=hx1.use;clear p0 p1 p2 p3 p4 p7 p8 p9 p10 p11 p12 p13 p14 p15 p16 p17 p18 p19 p20 p21 p22;go_simp;(try with_reducible rfl)
  (try simp only [zq,Act.put]);refine zqa 3 ?_;refine zqa 4 ?_;refine zqf 5 (fun u hSu => (hSu.cell (p:=⟨g9,o9,none⟩) hg1).trans C0.out) ?_;refine zqr 6 fun K hK => ?_
  go_simp;refine (HC.out _ (kp_then B1.out hHeld) (HM.out.keep hHeld)).mono ?_;rintro e u1 ⟨B,m,d,rfl,hr,bb⟩;have hN:=below_then hHeld bb;have HR:=zqh hr;have HB:=zqh hN;have HS:=zqh hHeld.size;(go_wp2_with fail);clear bb hr;clear hHeld;refine hK.out _ _ hN (fun hHeld => ?_);clear hK K hN;(try simp only [zq,Act.put]);refine zqa 7 ?_;refine zqa 8 ?_;refine zqa 9 ?_;refine zqa 10 ?_;refine zqa 11 ?_;refine wpAnyH_done (by kernel_rfl) ?_ _;refine NoPanic.normal ?_;have X2:=zqh (X1.out.keep HB.out);have Z2:=zqh (Z1.out.keep HB.out);have B2:=zqh (below_then B1w.out HB.out);have S2:=zqh HB.out.size;(go_wp2_with (first | (refine wpList_vload (by rfl) _ rfl w.heap.size k rfl X2.out ?_) | (refine wpList_vstore (by rfl) _ _ rfl _ vm0 k rfl rfl Z2.out ?_)));have kb2:=below_setRow B2.out (show w.heap.size ≤ w.heap.size + 1 by omega) (vmC k);refine bodyPost_ret (res_ctt rfl _ _ _ _ rfl (vrow Z2.out k)) rfl ⟨k,B,m,d,rfl,fun hz => ⟨V0.out.keep kb2,Sc.refl _,MLoc.refl _ _,?_⟩,kb2⟩;exact (((HR.out hz).le HS.out).row_set (by have:=KS.out; omega) _).le (by have:=KS.out; omega)
end Go.Proofs.YtcmldhjicjmmgaaGreatDoor
