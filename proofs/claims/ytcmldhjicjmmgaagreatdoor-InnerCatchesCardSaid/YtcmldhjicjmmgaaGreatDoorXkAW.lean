/- Part 23. -/
import Derived.Test.YtcmldhjicjmmgaaGreatDoorXkAV
import Derived.StillTailTactics
set_option linter.unusedVariables false
set_option linter.unusedSimpArgs false
set_option maxRecDepth 100000
set_option maxHeartbeats 4000000

namespace Go.Proofs.YtcmldhjicjmmgaaGreatDoor
open Go.RowKit


theorem take_under (W : World) (p q : Addr) (g : FuncId) (cs : Array Value) (t : Nat) (f : Fn3) (eg : Ent g) (ht4 : t ≤ 4)
    (hc : ∀ w k L A c x,Kp W w → Ok k L → IsVm w k L → Takes w t A c x → Calls Tryz.prog g (#[vmV k,.slice A t c] ++ cs) w (ActOut (f k L x) k w)) (w : World) (k : VmK) (L : VmL)
    (b0 : Kp W w) (hp : w.cell? p = some (.int .i64 (t : Int))) (hq : w.cell? q = some (.func (.func g) #[] cs)) (hpl : p.block < w.heap.size) (hql : q.block < w.heap.size) (ok : Ok k L) (h : IsVm w k L) (hu : L.d.length < t) :
    Calls Tryz.prog 250 #[vmV k,.pointer (some p),.pointer (some q)] w (DeedOut ⟨-4,[],k,L⟩ k w):=by
  have hdl : L.d.length = k.dn:=h.d.1;have hd4:=ok.d1;have hlt : (k.dn : Int) - (t : Int) < 0:=by omega
  have V0:=zqh h;go_enter Tryz.func250,Tryz.ntmps250;go_upto_region 1 with fail
  generalize hw1 : World.alloc (World.alloc _ _) _ = w1;have kb : Below w.heap.size w w1:=by rw [← hw1]; exact al_two _ _ _
  have kx : VBox w1 w.heap.size k:=by rw [← hw1]; exact (in_two w k _).2
  have kz : VBox w1 (w.heap.size + 1) vm0:=by rw [← hw1]; exact in_two0 w _
  have KS : Hid (w1.heap.size = w.heap.size + 1 + 1):=by show _ = _; rw [← hw1]; exact in_twos w _ _
  clear hw1;have hp1:=(kb.cell (p:=p) hpl).trans hp;have hq1:=(kb.cell (p:=q) hql).trans hq;have X1:=zqh kx;have Z1:=zqh kz;have B1:=zqh kb;obtain ⟨p0,p1,p2,p3,p4,p5,p6,p7,p8,p9,p10,p11,p12,p13,p14,p15,p16,p17,p18,p19,p20,p21,p22⟩:=kx.use;clear p0 p1 p2 p3 p4 p5 p6 p7 p9 p10 p11 p12 p13 p14 p15 p16 p17 p18 p19 p20 p21 p22;clear hc b0 kb kx kz h hp hq ok hdl hu;(go_wp2_with (first | (refine wpList_vload (by rfl) _ rfl w.heap.size k rfl X1.out ?_) | (refine wpList_vstore (by rfl) _ _ rfl _ vm0 k rfl rfl Z1.out ?_)));have kb2:=below_setRow B1.out (show w.heap.size ≤ w.heap.size + 1 by omega) (vmC k);exact bodyPost_ret (res_ct rfl _ _ _ _ rfl (vrow Z1.out k)) rfl ⟨k,rfl,V0.out.keep kb2,Sc.refl _,MLoc.refl _ _,kb2⟩
theorem take_more (W : World) (p q : Addr) (g : FuncId) (cs : Array Value) (t : Nat) (f : Fn3) (eg : Ent g) (ht4 : t ≤ 4)
    (hc : ∀ w k L A c x,Kp W w → Ok k L → IsVm w k L → Takes w t A c x → Calls Tryz.prog g (#[vmV k,.slice A t c] ++ cs) w (ActOut (f k L x) k w)) (w : World) (k : VmK) (L : VmL)
    (b0 : Kp W w) (hp : w.cell? p = some (.int .i64 (t : Int))) (hq : w.cell? q = some (.func (.func g) #[] cs)) (hpl : p.block < w.heap.size) (hql : q.block < w.heap.size) (ok : Ok k L) (h : IsVm w k L) (low : Nat) (hlow : L.d.length = low + t) (ho4 : ∀ x,(f k L x).o.length ≤ 4) :
    Calls Tryz.prog 250 #[vmV k,.pointer (some p),.pointer (some q)] w (DeedOut (deedE t f k L) k w):=by
  have hdl : L.d.length = k.dn:=h.d.1;have HDN : Hid (k.dn = low + t):=hdl.symm.trans hlow;have hd4:=ok.d1;have hcd0:=ok.cd0;have hcd1:=ok.cd1;obtain ⟨x,hxe⟩ : ∃ x,L.d.drop low = x:=⟨_,rfl⟩;obtain ⟨E,hE⟩ : ∃ E,f k L x = E:=⟨_,rfl⟩;obtain ⟨D,hD⟩ : ∃ D,deedE t f k L = D:=⟨_,rfl⟩;have HD : Hid (D = if E.c = 0 then (if k.cd < ((low + E.o.length : Nat) : Int) then ⟨-3,[],k,L⟩ else ⟨0,[],E.K,{ E.L with d:=L.d.take low ++ E.o }⟩) else ⟨E.c,[],k,L⟩):=by
    show _ = _;rw [← hD];unfold deedE;rw [if_neg (by omega),show L.d.length - t = low by omega,hxe,hE]
  rw [hD];clear hD;obtain ⟨R,hR⟩ : ∃ R,restAt k.dA low k.dc = R:=⟨_,rfl⟩;obtain ⟨qc,hqc⟩ : ∃ qc,k.dc - low = qc:=⟨_,rfl⟩;have hrow : Row w k.dA (low + t) k.dc L.d:=HDN.out ▸ h.d;have hrest : Row w R t qc x:=by
    have:=hrow.rest (k:=low) (by omega)
    rwa [show low + t - low = t by omega,hR,hqc,hxe] at this
  have HT : Hid (Takes w t R qc x):=⟨hrest,hrest.1,fun y hy => ok.dr y (List.mem_of_mem_drop (hxe ▸ hy))⟩;have HLO : Hid (Row w k.dA low k.dc (L.d.take low)):=hrow.high (k:=low) (by omega);have HSL : Hid (∀ u,(Instr.slice 22 (.slice k.dA (low + t) k.dc) (some (.int .i64 (low : Int))) none none).run Tryz.prog u = .ok (.slice R t qc) u):=fun u => by
    have:=run_rest (A:=k.dA) (c:=k.dc) u (show low ≤ low + t by omega)
    rwa [show low + t - low = t by omega,hR,hqc] at this
  have hl4 : low ≤ 400:=by omega
  have hlc : (low : Int) ≤ (k.dc : Int):=by have:=hrow.2.1; omega
  have hcm : (k.dc : Int) ≤ 9223372036854775807:=by have:=hrow.2.2.1; unfold maxLen at this; omega
  have h3 : (low : Int) + (t : Int) - (t : Int) = (low : Int):=by omega
  have h0 : decide ((low : Int) < 0) = false:=by simp
  have V0:=zqh h;have OKH:=zqh ok;have HLD:=zqh hlow;go_enter Tryz.func250,Tryz.ntmps250;go_upto_region 1 with fail
  generalize hw1 : World.alloc (World.alloc _ _) _ = w1;have kb : Below w.heap.size w w1:=by rw [← hw1]; exact al_two _ _ _
  have kx : VBox w1 w.heap.size k:=by rw [← hw1]; exact (in_two w k _).2
  have kz : VBox w1 (w.heap.size + 1) vm0:=by rw [← hw1]; exact in_two0 w _
  have KS : Hid (w1.heap.size = w.heap.size + 1 + 1):=by show _ = _; rw [← hw1]; exact in_twos w _ _
  clear hw1;have hp1:=(kb.cell (p:=p) hpl).trans hp;have HQ:=zqh hq;have X1:=zqh kx;have Z1:=zqh kz;have B1:=zqh kb;obtain ⟨p0,p1,p2,p3,p4,p5,p6,p7,p8,p9,p10,p11,p12,p13,p14,p15,p16,p17,p18,p19,p20,p21,p22⟩:=kx.use;clear p0 p1 p2 p3 p4 p5 p6 p7 p9 p10 p11 p12 p13 p14 p15 p16 p17 p18 p19 p20 p21 p22;rw [HDN.out] at p8;clear kb kx kz h hp hq hdl hxe hR hqc hrow hrest hlow;(go_wp2_with fail);clear p8 hp1;refine wp_region_noPanic ?_;refine wp_region_held_drew (S:=fun a => Below w.heap.size w a ∧ VBox a w.heap.size k ∧ VBox a (w.heap.size + 1) vm0) (by kernel_rfl) ?_ (fun hHeld => ?_)
  · exact ⟨B1.out.drew,X1.out,Z1.out⟩
  refine zqf 0 (fun u hSu => (hSu.1.cell (p:=q) hql).trans HQ.out) ?_;refine zqt (i:=1) (v:=vmV k) (fun u hSu => exec_vl _ rfl w.heap.size k rfl hSu.2.1) ?_;(try simp only [zq,Act.put]);refine zqa 2 ?_;refine zqt (i:=3) (v:=?v3a1) ?y3a1 ?r3a1
  case y3a1 =>
    intro u hSu;(try dsimp only at hSu);obtain ⟨p0,p1,p2,p3,p4,p5,p6,p7,p8,p9,p10,p11,p12,p13,p14,p15,p16,p17,p18,p19,p20,p21,p22⟩:=hSu.2.1.use;clear p0 p1 p2 p3 p4 p5 p6 p7 p9 p10 p11 p12 p13 p14 p15 p16 p17 p18 p19 p20 p21 p22;rw [HDN.out] at p8;go_simp;(try with_reducible rfl)
  (try simp only [zq,Act.put]);refine zqa 4 ?_;refine zqf 5 (fun u hSu => HSL.out u) ?_;refine wpAnyH_ready (rs:=[6,11]) (by kernel_rfl) (by simp) ?_;refine AllReadyH.cons (o:=_) rfl (fun K hK => ?_) (AllReadyH.cons (o:=_) rfl (fun K hK => ?_) AllReadyH.nil)
  case refine_1 =>
    go_simp;refine (hc _ k L R qc x (kp_then b0 hHeld.1) ok (V0.out.keep hHeld.1) (HT.out.keep hHeld.1)).mono ?_;rw [hE];rintro e u1 ⟨j,B,m,d,rfl,hr,bb⟩;(go_wp2_with fail);have hN : Below w.heap.size w u1 ∧ VBox u1 w.heap.size k ∧ VBox u1 (w.heap.size + 1) vm0:=⟨below_then hHeld.1 bb,hHeld.2.1.keep bb,hHeld.2.2.keep bb⟩;have hr2 : E.c = 0 → IsVm u1 j E.L ∧ Sc j E.K ∧ MLoc w1.heap.size j k ∧ RowN w1.heap.size u1 B m d E.o:=hr;have KB:=bb.size;refine hK.out _ _ hN (fun hHeld => ?_);clear hK K;(try simp only [zq,Act.put]);refine zqa 7 ?_;refine zqa 8 ?_;refine zqa 9 ?_;refine zqa 10 ?_;refine zqr 11 fun K hK => ?_
    go_simp;(go_wp2_with fail);refine hK.out _ _ ⟨below_then hHeld.1 (al_one _ _),hHeld.2.1.keep (al_one _ _),hHeld.2.2.keep (al_one _ _)⟩ (fun hHeld2 => ?_);clear hK K;(try simp only [zq,Act.put]);have OV:=vbox_zero u1;refine zqr 12 fun K hK => ?_
    refine step_vst rfl _ _ rfl u1.heap.size vm0 j rfl rfl OV ?_;refine hK.out _ _ ⟨below_setRow hHeld2.1 (by first | exact hHeld.1.size | exact hHeld2.1.size | (simp; omega) | (have:=KS.out; omega) | (have:=hHeld2.1.size; simp at this ⊢; omega)) _,vrow_fr hHeld2.2.1 (by have:=hHeld.2.1.lt; have:=hHeld.2.2.lt; omega) _,vrow_fr hHeld2.2.2 (by have:=hHeld.2.1.lt; have:=hHeld.2.2.lt; omega) _⟩ (fun hHeld3 => ?_);clear hK K;generalize hu : World.setRow _ _ _ = u at hHeld3 ⊢;have BU : Below u1.heap.size u1 u:=by rw [← hu]; exact below_setRow (al_one _ _) (Nat.le_refl _) _
    have OX : Hid (VBox u u1.heap.size j):=by show VBox _ _ _; rw [← hu]; exact vrow OV j
    have EU : Hid (Ex (fun g => g = u1.heap.size ∨ g = w.heap.size + 1) u1 u):=(Ex.refl _ _).below BU;have HX : Hid (∀ g,g < u1.heap.size → (g = u1.heap.size ∨ g = w.heap.size + 1) → w.heap.size ≤ g ∧ g < w1.heap.size ∧ NoU8 u1 g):=by
      intro g hg h;have:=KS.out
      rcases h with h | rfl
      · omega
      · exact ⟨by omega,by omega,vbox_nou8 hN.2.2⟩
    have HOB : Hid (w.heap.size ≤ u1.heap.size ∧ u1.heap.size ≠ w.heap.size + 1 ∧ u1.heap.size < u.heap.size):=⟨hN.1.size,by have:=hN.2.2.lt; omega,OX.out.lt⟩;have HRU:=zqh (fun hz : E.c = 0 => (hr2 hz).2.2.2.1.keep BU);have HR2:=zqh hr2;have SU:=zqh hHeld3;have HW1 : Hid (w.heap.size ≤ w1.heap.size):=by show _ ≤ _; have:=KS.out; omega
    clear hu BU OV hHeld hHeld2 hHeld3 hN hr hr2 bb KB;refine zqa 13 ?_;refine zqa 14 ?_;refine wpAnyH_done (by kernel_rfl) ?_ _;refine NoPanic.normal ?_
    by_cases hC : E.c = 0
    · have hmE : E.o.length = m:=(HRU.out hC).1
      by_cases hov : k.cd < ((low + E.o.length : Nat) : Int)
      · obtain rfl : D = ⟨-3,[],k,L⟩:=by rw [HD.out,if_pos hC,if_pos hov]
        have hov2 : k.cd < (low : Int) + (m : Int):=by omega
        have hm9 : m ≤ 4:=by have:=ho4 x; rw [hE] at this; omega
        obtain ⟨p0,p1,p2,p3,p4,p5,p6,p7,p8,p9,p10,p11,p12,p13,p14,p15,p16,p17,p18,p19,p20,p21,p22⟩:=SU.out.2.1.use;clear p0 p2 p3 p4 p5 p6 p7 p8 p9 p10 p11 p12 p13 p14 p15 p16 p17 p18 p19 p20 p21 p22 hov hmE;(go_wp2_with (first | (refine wpList_vload (by rfl) _ rfl w.heap.size k rfl SU.out.2.1 ?_) | (refine wpList_vstore (by rfl) _ _ rfl _ vm0 k rfl rfl SU.out.2.2 ?_)));have kb2:=below_setRow SU.out.1 (show w.heap.size ≤ w.heap.size + 1 by omega) (vmC k);exact bodyPost_ret (res_ct rfl _ _ _ _ rfl (vrow SU.out.2.2 k)) rfl ⟨k,rfl,V0.out.keep kb2,Sc.refl _,MLoc.refl _ _,kb2⟩
      · obtain rfl : D = ⟨0,[],E.K,{ E.L with d:=L.d.take low ++ E.o }⟩:=by rw [HD.out,if_pos hC,if_neg hov]
        have hov2 : decide (k.cd < (low : Int) + (m : Int)) = false:=by simp; omega
        have hm9 : m ≤ 256:=by omega
        obtain ⟨p0,p1,p2,p3,p4,p5,p6,p7,p8,p9,p10,p11,p12,p13,p14,p15,p16,p17,p18,p19,p20,p21,p22⟩:=SU.out.2.1.use;rw [HDN.out] at p8;have HRC:=zqh (HRU.out hC);have hlen : (L.d.take low).length = low:=HLO.out.1;clear p0 p2 p3 p4 p5 p6 p7 p9 p10 p11 p12 p13 p14 p15 p16 p17 p18 p19 p20 p21 p22 hov;(go_wp2_with fail);refine (icat_any k.dA B low k.dc m d (L.d.take low) E.o _ _ (pair_new u _ _ _).1 (pair_new u _ _ _).2 ((HLO.out.keep SU.out.1).keep (al_one _ _)) (HRC.out.keep (al_one _ _)) (by omega) (by omega)).mono ?_;rintro e u5 ⟨v5,rfl,ho,b5⟩;rw [List.length_append,hlen,hmE] at ho;obtain ⟨B5,c5,rfl,hr5⟩:=ho.rowN (Nat.le_refl _);have b6:=below_then (al_one u _) b5;have O5:=zqh (OX.out.keep b6);have Z5:=zqh (SU.out.2.2.keep b6);have B5w:=zqh (below_then SU.out.1 b6);have E5:=zqh (EU.out.below b6);have R5:=zqh hr5;have F8:=O5.out.free.2.2.2.2.2.2.2.2.1;have P8:=O5.out.use.2.2.2.2.2.2.2.2.1;clear p1 p8 ho b5 b6 hr5 hmE hlen;go_upto_region 10 with fail
        generalize hV : World.setCell _ _ _ = V;have OW : Hid (VBox V u1.heap.size { j with dA:=B5,dn:=low + m,dc:=c5 }):=by show VBox _ _ _; rw [← hV]; exact O5.out.put_d _ _ _
        have ZW : Hid (VBox V (w.heap.size + 1) vm0):=by show VBox _ _ _; rw [← hV]; exact vset_far Z5.out (by have:=HOB.out; omega)
        have BW : Hid (Below w.heap.size w V):=by show Below _ _ _; rw [← hV]; exact B5w.out.setCell HOB.out.1 _
        have EW : Hid (Ex (fun g => g = u1.heap.size ∨ g = w.heap.size + 1) u1 V):=by show Ex _ _ _; rw [← hV]; exact E5.out.cell (.inl rfl) _
        have RW : Hid (RowN (u.heap.size + 1) V B5 (low + m) c5 (L.d.take low ++ E.o)):=by
          show RowN _ _ _ _ _ _;rw [← hV];refine (R5.out.le (by simp)).at_ (by simp [World.setCell]) fun g hg => Below.heap_setCell _ _ _ _ (by have:=HOB.out; show g ≠ _; dsimp only; omega)
        clear hV F8 P8 O5 Z5 B5w E5 R5;(go_wp2_with (first | (refine wpList_vload (by rfl) _ rfl _ _ rfl OW.out ?_) | (refine wpList_vstore (by rfl) _ _ rfl _ vm0 _ rfl rfl ZW.out ?_)));have kb2:=below_setRow BW.out (show w.heap.size ≤ w.heap.size + 1 by omega) (vmC { j with dA:=B5,dn:=low + m,dc:=c5 });obtain ⟨hj,hs,hl,_⟩:=HR2.out hC;have base:=V0.out.ex hj hl (EW.out.row (.inr rfl) (vmC { j with dA:=B5,dn:=low + m,dc:=c5 })) HX.out;have row5:=RW.out.row_set (b:=w.heap.size + 1) (by have:=HOB.out; have:=SU.out.2.2.lt; omega) (vmC { j with dA:=B5,dn:=low + m,dc:=c5 });have hl2:=hl.le HW1.out;refine bodyPost_ret (res_ct rfl _ _ _ _ rfl (vrow ZW.out _)) rfl ⟨{ j with dA:=B5,dn:=low + m,dc:=c5 },rfl,⟨base.m,row5.1,base.r,base.f,base.dict,base.o,base.q,base.e,base.h⟩,⟨hs.cm,hs.cd,hs.cr,hs.cw,hs.co,hs.here,hs.last,hs.qo,hs.free,hs.next,hs.arg,hs.self,hs.now⟩,⟨hl2.p,.inr fun q hq => Nat.le_trans (by have:=HOB.out; omega) (row5.2 q hq),hl2.e,hl2.r,hl2.f,hl2.w,hl2.h⟩,kb2⟩
    · obtain rfl : D = ⟨E.c,[],k,L⟩:=by rw [HD.out,if_neg hC]
      have hC2 : (E.c != 0) = true:=by simpa using hC
      (go_wp2_with (first | (refine wpList_vload (by rfl) _ rfl w.heap.size k rfl SU.out.2.1 ?_) | (refine wpList_vstore (by rfl) _ _ rfl _ vm0 k rfl rfl SU.out.2.2 ?_)));have kb2:=below_setRow SU.out.1 (show w.heap.size ≤ w.heap.size + 1 by omega) (vmC k);exact bodyPost_ret (res_ct rfl _ _ _ _ rfl (vrow SU.out.2.2 k)) rfl ⟨k,rfl,V0.out.keep kb2,Sc.refl _,MLoc.refl _ _,kb2⟩
  case refine_2 =>
    go_simp;(go_wp2_with fail);refine hK.out _ _ ⟨below_then hHeld.1 (al_one _ _),hHeld.2.1.keep (al_one _ _),hHeld.2.2.keep (al_one _ _)⟩ (fun hHeld => ?_);clear hK K;(try simp only [zq,Act.put]);refine zqr 6 fun K hK => ?_
    go_simp;refine (hc _ k L R qc x (kp_then b0 hHeld.1) ok (V0.out.keep hHeld.1) (HT.out.keep hHeld.1)).mono ?_;rw [hE];rintro e u1 ⟨j,B,m,d,rfl,hr,bb⟩;(go_wp2_with fail);have hN : Below w.heap.size w u1 ∧ VBox u1 w.heap.size k ∧ VBox u1 (w.heap.size + 1) vm0:=⟨below_then hHeld.1 bb,hHeld.2.1.keep bb,hHeld.2.2.keep bb⟩;have hr2 : E.c = 0 → IsVm u1 j E.L ∧ Sc j E.K ∧ MLoc (w1.heap.size + 1) j k ∧ RowN (w1.heap.size + 1) u1 B m d E.o:=fun hz => ⟨(hr hz).1,(hr hz).2.1,(hr hz).2.2.1.le (by simp),(hr hz).2.2.2.le (by simp)⟩
    have OV : VBox u1 w1.heap.size vm0:=(vbox_zero w1.drew).keep bb;refine hK.out _ _ hN (fun hHeld => ?_);clear hK K;(try simp only [zq,Act.put]);refine zqa 7 ?_;refine zqa 8 ?_;refine zqa 9 ?_;refine zqa 10 ?_;refine zqr 12 fun K hK => ?_
    refine step_vst rfl _ _ rfl w1.heap.size vm0 j rfl rfl OV ?_;refine hK.out _ _ ⟨below_setRow hHeld.1 (by first | exact hHeld.1.size | exact hHeld.1.size | (simp; omega) | (have:=KS.out; omega) | (have:=hHeld.1.size; simp at this ⊢; omega)) _,vrow_fr hHeld.2.1 (by have:=KS.out; omega) _,vrow_fr hHeld.2.2 (by have:=KS.out; omega) _⟩ (fun hHeld3 => ?_);clear hK K;generalize hu : World.setRow _ _ _ = u at hHeld3 ⊢;have EU : Hid (Ex (fun g => g = w1.heap.size ∨ g = w.heap.size + 1) u1 u):=by show Ex _ _ _; rw [← hu]; exact (Ex.refl _ _).row (.inl rfl) _
    have OX : Hid (VBox u w1.heap.size j):=by show VBox _ _ _; rw [← hu]; exact vrow OV j
    have HX : Hid (∀ g,g < u1.heap.size → (g = w1.heap.size ∨ g = w.heap.size + 1) → w.heap.size ≤ g ∧ g < w1.heap.size + 1 ∧ NoU8 u1 g):=by
      intro g hg h;have:=KS.out
      rcases h with rfl | rfl
      · exact ⟨by omega,by omega,vbox_nou8 OV⟩
      · exact ⟨by omega,by omega,vbox_nou8 hN.2.2⟩
    have HOB : Hid (w.heap.size ≤ w1.heap.size ∧ w1.heap.size ≠ w.heap.size + 1 ∧ w1.heap.size < u.heap.size):=⟨by have:=KS.out; omega,by have:=KS.out; omega,OX.out.lt⟩;have HRU : Hid (E.c = 0 → Row u B m d E.o):=fun hz => by rw [← hu]; exact ((hr2 hz).2.2.2.row_set (Nat.lt_succ_self _) _).1
    have HR2:=zqh hr2;have SU:=zqh hHeld3;have HW1 : Hid (w.heap.size ≤ w1.heap.size + 1):=by show _ ≤ _; have:=KS.out; omega
    clear hu OV hHeld hHeld3 hN hr hr2 bb;refine zqa 13 ?_;refine zqa 14 ?_;refine wpAnyH_done (by kernel_rfl) ?_ _;refine NoPanic.normal ?_
    by_cases hC : E.c = 0
    · have hmE : E.o.length = m:=(HRU.out hC).1
      by_cases hov : k.cd < ((low + E.o.length : Nat) : Int)
      · obtain rfl : D = ⟨-3,[],k,L⟩:=by rw [HD.out,if_pos hC,if_pos hov]
        have hov2 : k.cd < (low : Int) + (m : Int):=by omega
        have hm9 : m ≤ 4:=by have:=ho4 x; rw [hE] at this; omega
        obtain ⟨p0,p1,p2,p3,p4,p5,p6,p7,p8,p9,p10,p11,p12,p13,p14,p15,p16,p17,p18,p19,p20,p21,p22⟩:=SU.out.2.1.use;clear p0 p2 p3 p4 p5 p6 p7 p8 p9 p10 p11 p12 p13 p14 p15 p16 p17 p18 p19 p20 p21 p22 hov hmE;(go_wp2_with (first | (refine wpList_vload (by rfl) _ rfl w.heap.size k rfl SU.out.2.1 ?_) | (refine wpList_vstore (by rfl) _ _ rfl _ vm0 k rfl rfl SU.out.2.2 ?_)));have kb2:=below_setRow SU.out.1 (show w.heap.size ≤ w.heap.size + 1 by omega) (vmC k);exact bodyPost_ret (res_ct rfl _ _ _ _ rfl (vrow SU.out.2.2 k)) rfl ⟨k,rfl,V0.out.keep kb2,Sc.refl _,MLoc.refl _ _,kb2⟩
      · obtain rfl : D = ⟨0,[],E.K,{ E.L with d:=L.d.take low ++ E.o }⟩:=by rw [HD.out,if_pos hC,if_neg hov]
        have hov2 : decide (k.cd < (low : Int) + (m : Int)) = false:=by simp; omega
        have hm9 : m ≤ 256:=by omega
        obtain ⟨p0,p1,p2,p3,p4,p5,p6,p7,p8,p9,p10,p11,p12,p13,p14,p15,p16,p17,p18,p19,p20,p21,p22⟩:=SU.out.2.1.use;rw [HDN.out] at p8;have HRC:=zqh (HRU.out hC);have hlen : (L.d.take low).length = low:=HLO.out.1;clear p0 p2 p3 p4 p5 p6 p7 p9 p10 p11 p12 p13 p14 p15 p16 p17 p18 p19 p20 p21 p22 hov;(go_wp2_with fail);refine (icat_any k.dA B low k.dc m d (L.d.take low) E.o _ _ (pair_new u _ _ _).1 (pair_new u _ _ _).2 ((HLO.out.keep SU.out.1).keep (al_one _ _)) (HRC.out.keep (al_one _ _)) (by omega) (by omega)).mono ?_;rintro e u5 ⟨v5,rfl,ho,b5⟩;rw [List.length_append,hlen,hmE] at ho;obtain ⟨B5,c5,rfl,hr5⟩:=ho.rowN (Nat.le_refl _);have b6:=below_then (al_one u _) b5;have O5:=zqh (OX.out.keep b6);have Z5:=zqh (SU.out.2.2.keep b6);have B5w:=zqh (below_then SU.out.1 b6);have E5:=zqh (EU.out.below b6);have R5:=zqh hr5;have F8:=O5.out.free.2.2.2.2.2.2.2.2.1;have P8:=O5.out.use.2.2.2.2.2.2.2.2.1;clear p1 p8 ho b5 b6 hr5 hmE hlen;go_upto_region 10 with fail
        generalize hV : World.setCell _ _ _ = V;have OW : Hid (VBox V w1.heap.size { j with dA:=B5,dn:=low + m,dc:=c5 }):=by show VBox _ _ _; rw [← hV]; exact O5.out.put_d _ _ _
        have ZW : Hid (VBox V (w.heap.size + 1) vm0):=by show VBox _ _ _; rw [← hV]; exact vset_far Z5.out (by have:=HOB.out; omega)
        have BW : Hid (Below w.heap.size w V):=by show Below _ _ _; rw [← hV]; exact B5w.out.setCell HOB.out.1 _
        have EW : Hid (Ex (fun g => g = w1.heap.size ∨ g = w.heap.size + 1) u1 V):=by show Ex _ _ _; rw [← hV]; exact E5.out.cell (.inl rfl) _
        have RW : Hid (RowN (u.heap.size + 1) V B5 (low + m) c5 (L.d.take low ++ E.o)):=by
          show RowN _ _ _ _ _ _;rw [← hV];refine (R5.out.le (by simp)).at_ (by simp [World.setCell]) fun g hg => Below.heap_setCell _ _ _ _ (by have:=HOB.out; show g ≠ _; dsimp only; omega)
        clear hV F8 P8 O5 Z5 B5w E5 R5;(go_wp2_with (first | (refine wpList_vload (by rfl) _ rfl _ _ rfl OW.out ?_) | (refine wpList_vstore (by rfl) _ _ rfl _ vm0 _ rfl rfl ZW.out ?_)));have kb2:=below_setRow BW.out (show w.heap.size ≤ w.heap.size + 1 by omega) (vmC { j with dA:=B5,dn:=low + m,dc:=c5 });obtain ⟨hj,hs,hl,_⟩:=HR2.out hC;have base:=V0.out.ex hj hl (EW.out.row (.inr rfl) (vmC { j with dA:=B5,dn:=low + m,dc:=c5 })) HX.out;have row5:=RW.out.row_set (b:=w.heap.size + 1) (by have:=HOB.out; have:=SU.out.2.2.lt; omega) (vmC { j with dA:=B5,dn:=low + m,dc:=c5 });have hl2:=hl.le HW1.out;refine bodyPost_ret (res_ct rfl _ _ _ _ rfl (vrow ZW.out _)) rfl ⟨{ j with dA:=B5,dn:=low + m,dc:=c5 },rfl,⟨base.m,row5.1,base.r,base.f,base.dict,base.o,base.q,base.e,base.h⟩,⟨hs.cm,hs.cd,hs.cr,hs.cw,hs.co,hs.here,hs.last,hs.qo,hs.free,hs.next,hs.arg,hs.self,hs.now⟩,⟨hl2.p,.inr fun q hq => Nat.le_trans (by have:=HOB.out; omega) (row5.2 q hq),hl2.e,hl2.r,hl2.f,hl2.w,hl2.h⟩,kb2⟩
    · obtain rfl : D = ⟨E.c,[],k,L⟩:=by rw [HD.out,if_neg hC]
      have hC2 : (E.c != 0) = true:=by simpa using hC
      (go_wp2_with (first | (refine wpList_vload (by rfl) _ rfl w.heap.size k rfl SU.out.2.1 ?_) | (refine wpList_vstore (by rfl) _ _ rfl _ vm0 k rfl rfl SU.out.2.2 ?_)));have kb2:=below_setRow SU.out.1 (show w.heap.size ≤ w.heap.size + 1 by omega) (vmC k);exact bodyPost_ret (res_ct rfl _ _ _ _ rfl (vrow SU.out.2.2 k)) rfl ⟨k,rfl,V0.out.keep kb2,Sc.refl _,MLoc.refl _ _,kb2⟩


theorem Takes.zero {w : World} {A : Option Addr} {c : Nat} {x : List Int} (h : Takes w 0 A c x) : x = []:=List.eq_nil_of_length_eq_zero h.len
theorem Takes.one {w : World} {A : Option Addr} {c : Nat} {x : List Int} (h : Takes w 1 A c x) : ∃ a g o,x = [a] ∧ A = some ⟨g,o,none⟩ ∧ g < w.heap.size ∧ w.cell? ⟨g,o,none⟩ = some (.int .i64 a) ∧ cellR a:=by
  obtain ⟨g,o,e,hg,hc⟩:=h.row.cells (by decide)
  match x,h.len with
  | [a],_ => exact ⟨a,g,o,rfl,e,hg,by simpa using hc 0 (by decide),h.cells a (by simp)⟩
theorem Takes.two {w : World} {A : Option Addr} {c : Nat} {x : List Int} (h : Takes w 2 A c x) : ∃ a b g o,x = [a,b] ∧ A = some ⟨g,o,none⟩ ∧ g < w.heap.size ∧ w.cell? ⟨g,o,none⟩ = some (.int .i64 a) ∧ w.cell? ⟨g,o + 1,none⟩ = some (.int .i64 b) ∧ cellR a ∧ cellR b:=by
  obtain ⟨g,o,e,hg,hc⟩:=h.row.cells (by decide)
  match x,h.len with
  | [a,b],_ => exact ⟨a,b,g,o,rfl,e,hg,by simpa using hc 0 (by decide),by simpa using hc 1 (by decide),h.cells a (by simp),h.cells b (by simp)⟩
theorem Takes.four {w : World} {A : Option Addr} {c : Nat} {x : List Int} (h : Takes w 4 A c x) : ∃ a b d f g o,x = [a,b,d,f] ∧ A = some ⟨g,o,none⟩ ∧ g < w.heap.size ∧ w.cell? ⟨g,o,none⟩ = some (.int .i64 a) ∧ w.cell? ⟨g,o + 1,none⟩ = some (.int .i64 b) ∧ w.cell? ⟨g,o + 2,none⟩ = some (.int .i64 d) ∧ w.cell? ⟨g,o + 3,none⟩ = some (.int .i64 f) ∧ cellR a ∧ cellR b ∧ cellR d ∧ cellR f:=by
  obtain ⟨g,o,e,hg,hc⟩:=h.row.cells (by decide)
  match x,h.len with
  | [a,b,d,f],_ => exact ⟨a,b,d,f,g,o,rfl,e,hg,by simpa using hc 0 (by decide),by simpa using hc 1 (by decide),by simpa using hc 2 (by decide),by simpa using hc 3 (by decide),h.cells a (by simp),h.cells b (by simp),h.cells d (by simp),h.cells f (by simp)⟩


theorem reckonedOfTwo1 (W : World) (p : Addr) (s : ByteArray) (hp : W.cell? p = some (.string s)) (hpl : p.block < W.heap.size) (w : World) (A : Option Addr) (c : Nat) (x : List Int) (b0 : Kp W w) (hx : Takes w 2 A c x) :
    Calls Tryz.prog 122 #[.slice A 2 c,.pointer (some p)] w (CellOut [(twoF s.data.toList (x.getD 0 0) (x.getD 1 0)).getD 0] (divC s.data.toList (x.getD 1 0)) w):=by
  obtain ⟨a,b,g,o,rfl,rfl,hg,c0,c1,ha,hb⟩:=hx.two;show Calls _ _ _ _ (CellOut [(twoF s.data.toList a b).getD 0] (divC s.data.toList b) w);clear hx;have HP : Hid (w.cell? p = some (.string s)):=(b0.cell hpl).trans hp;have hpw : p.block < w.heap.size:=Nat.lt_of_lt_of_le hpl b0.size;clear hp hpl b0;go_enter Tryz.func122,Tryz.ntmps122;go_upto_region 1 with fail
  refine wp_region_noPanic ?_;refine wp_region_held_drew (S:=fun a => Below w.heap.size w a) (by kernel_rfl) ?_ (fun hHeld => ?_)
  · exact (Below.refl _ _).drew
  refine zqf 0 (fun u hSu => (hSu.cell (p:=p) hpw).trans HP.out) ?_;refine zqa 1 ?_;refine zqa 2 ?_;refine zqf 3 (fun u hSu => And.intro ((hSu.cell (p:=⟨g,o,none⟩) hg).trans c0) ((hSu.cell (p:=⟨g,o + 1,none⟩) hg).trans c1)) ?_;refine zqa 4 ?_;refine zqa 5 ?_;refine zqf 6 (fun u hSu => And.intro ((hSu.cell (p:=⟨g,o,none⟩) hg).trans c0) ((hSu.cell (p:=⟨g,o + 1,none⟩) hg).trans c1)) ?_;refine zqr 7 fun K hK => ?_
  go_simp;refine (two_any s a b _ ha hb).mono ?_;rintro e u1 ⟨rfl,bb⟩;have hN:=below_then hHeld bb;have HB:=zqh hN;have HS:=zqh hN.size;(go_wp2_with fail);clear bb;clear hHeld;refine hK.out _ _ hN (fun hHeld => ?_);clear hK K hN;(try simp only [zq,Act.put]);refine zqa 8 ?_;refine zqa 9 ?_;refine zqa 10 ?_;refine zqa 11 ?_;refine zqa 12 ?_;refine zqa 13 ?_;refine zqa 14 ?_;refine wpAnyH_done (by kernel_rfl) ?_ _;refine NoPanic.normal ?_;(go_wp2_with fail);go_ret2;exact ⟨_,_,_,rfl,fun hz => (rowN_one _ _).le HS.out,below_then HB.out (al_one _ _)⟩


def Makes (F : VmK → VmL → Eff) (w : World) (e : Ending) (w' : World) : Prop:=∃ d,e = .returned d ∧ IsDeed w' d F ∧ Below w.heap.size w w'
abbrev rkF (o : List Int → List Int) (C : List Int → Int) : Fn3:=fun k L x => ⟨C x,o x,k,L⟩
theorem taking_is (t : Nat) (f : Fn3) (ht : t ≤ 4) (ho : ∀ k L x,(f k L x).o.length ≤ 4) (w : World) (v : Value) (h0 : IsAct w v t f) : Calls Tryz.prog 186 #[.int .i64 (t : Int),v] w (Makes (deedE t f) w):=by
  obtain ⟨g,cs,rfl,eg,hc⟩:=h0;refine (taking_any t g cs w).mono ?_;rintro e w1 ⟨p,q,rfl,cp,cq,⟨lp,lq⟩,kb⟩;refine ⟨_,rfl,⟨_,_,rfl,(enters_of Tryz.func250 (by kernel_rfl) rfl),fun w2 k L b2 ok hv => ?_⟩,kb⟩;have hc2 : ∀ w k L A c x,Kp w1 w → Ok k L → IsVm w k L → Takes w t A c x → Calls Tryz.prog g (#[vmV k,.slice A t c] ++ cs) w (ActOut (f k L x) k w):=fun w3 k L A c x b3 => hc w3 k L A c x (kp_after kb b3)
  by_cases hu : L.d.length < t
  · have e1 : deedE t f k L = ⟨-4,[],k,L⟩:=by unfold deedE; rw [if_pos hu]
    rw [e1];exact take_under w1 p q g cs t f eg ht hc2 w2 k L b2 ((b2.cell lp).trans cp) ((b2.cell lq).trans cq) (Nat.lt_of_lt_of_le lp b2.size) (Nat.lt_of_lt_of_le lq b2.size) ok hv hu
  · obtain ⟨low,hlow⟩ : ∃ low,L.d.length = low + t:=⟨L.d.length - t,by omega⟩
    exact take_more w1 p q g cs t f eg ht hc2 w2 k L b2 ((b2.cell lp).trans cp) ((b2.cell lq).trans cq) (Nat.lt_of_lt_of_le lp b2.size) (Nat.lt_of_lt_of_le lq b2.size) ok hv low hlow (ho k L)
theorem reckons_is (t : Nat) (o : List Int → List Int) (C : List Int → Int) (ht : t ≤ 4) (ho : ∀ x,(o x).length ≤ 4) (w : World) (v : Value) (h0 : IsReck w v t o C) : Calls Tryz.prog 121 #[.int .i64 (t : Int),v] w (Makes (deedE t (rkF o C)) w):=by
  obtain ⟨g,cs,rfl,eg,hc⟩:=h0;have hmf : ∀ (fn : Fn) (first cap : Array Value) (w : World),(Instr.makeFunc fn first cap).run Tryz.prog w = .ok (.func fn first cap) w:=fun _ _ _ _ => rfl
  go_enter Tryz.func121,Tryz.ntmps121;(go_wp2_with fail);generalize hw1 : World.alloc _ _ = w1;have kb : Below w.heap.size w w1:=by rw [← hw1]; exact al_one _ _
  have c0 : w1.cell? ⟨w.heap.size,0,none⟩ = some (.func (.func g) #[] cs):=by rw [← hw1]; simp
  have hl : w.heap.size < w1.heap.size:=by rw [← hw1]; simp
  have HA : IsAct w1 (.func (.func 213) #[] #[.pointer (some ⟨w.heap.size,0,none⟩)]) t (rkF o C):=⟨_,_,rfl,(enters_of Tryz.func213 (by kernel_rfl) rfl),fun w2 k L A c x b2 ok hv hx => reckons1 w1 _ g cs t o C eg (fun w3 A c x b3 => hc w3 A c x (kp_after kb b3)) w2 k L A c x b2 ((b2.cell hl).trans c0) (Nat.lt_of_lt_of_le hl b2.size) hv hx⟩;have B1:=zqh kb;clear c0 kb hw1;refine (taking_is t _ ht (fun _ _ x => ho x) w1 _ HA).mono ?_;rintro e w2 ⟨d,rfl,hd,bb⟩;have B2:=zqh (below_then B1.out bb);clear B1 bb HA hl;(go_wp2_with fail);go_ret;exact ⟨d,rfl,hd,B2.out⟩


theorem shuffled1 (W : World) (p : Addr) (s : ByteArray) (hp : W.cell? p = some (.string s)) (hpl : p.block < W.heap.size) (w : World) (k : VmK) (L : VmL) (b0 : Kp W w) (ok : Ok k L) (h : IsVm w k L) :
    Calls Tryz.prog 119 #[vmV k,.pointer (some p)] w (DeedOut (shufE s.data.toList k L) k w):=by
  show Calls _ _ _ _ (DeedOut ⟨codeR (resF (kindF s.data.toList) L.d) k.cd,[],k,{ L with d:=listR (resF (kindF s.data.toList) L.d) L.d k.cd }⟩ k w);have hp0:=(b0.cell hpl).trans hp;have hl0:=Nat.lt_of_lt_of_le hpl b0.size;have hdn : k.dn ≤ 65536:=by have:=ok.d1; have:=h.d.1; omega
  have HC:=zqh fun w h => shuffle_atN k.dA k.dn k.dc s L.d k.cd w hdn (zqh h)
  have V0:=zqh h;generalize listR (resF (kindF s.data.toList) L.d) L.d k.cd = l9 at HC ⊢;generalize codeR (resF (kindF s.data.toList) L.d) k.cd = C at HC ⊢;generalize knownR (resF (kindF s.data.toList) L.d) = Z at HC;clear b0 hp hpl ok h;go_enter Tryz.func119,Tryz.ntmps119;go_upto_region 1 with fail
  generalize hw1 : World.alloc (World.alloc _ _) _ = w1;have kb : Below w.heap.size w w1:=by rw [← hw1]; exact al_two _ _ _
  have kx : VBox w1 w.heap.size k:=by rw [← hw1]; exact (in_two w k _).2
  have kz : VBox w1 (w.heap.size + 1) vm0:=by rw [← hw1]; exact in_two0 w _
  have KS : Hid (w1.heap.size = w.heap.size + 1 + 1):=by show _ = _; rw [← hw1]; exact in_twos w _ _
  clear hw1;have hp1:=(kb.cell hl0).trans hp0;have X1:=zqh kx;have Z1:=zqh kz;have B1:=zqh kb;obtain ⟨p0,p1,p2,p3,p4,p5,p6,p7,p8,p9,p10,p11,p12,p13,p14,p15,p16,p17,p18,p19,p20,p21,p22⟩:=kx.use;clear p0 p2 p3 p4 p5 p6 p7 p9 p10 p11 p12 p13 p14 p15 p16 p17 p18 p19 p20 p21 p22;clear kb kx kz hp0;(go_wp2_with fail);refine (HC.out _ (V0.out.keep B1.out).d).mono ?_;rintro e w2 ⟨B,m,d,rfl,hr,bb⟩;have X2:=zqh (X1.out.keep bb);have Z2:=zqh (Z1.out.keep bb);have B2:=zqh (below_then B1.out bb);have HR:=zqh hr;have F8:=X2.out.free.2.2.2.2.2.2.2.2.1;obtain ⟨p0,p1,p2,p3,p4,p5,p6,p7,P8,p9,p10,p11,p12,p13,p14,p15,p16,p17,p18,p19,p20,p21,p22⟩:=X2.out.use;clear p0 p1 p2 p3 p4 p5 p6 p7 p9 p10 p11 p12 p13 p14 p15 p16 p17 p18 p19 p20 p21 p22;clear HC X1 Z1 B1 bb hr p1 p8;go_upto_region 3 with fail
  generalize hV : World.setCell _ _ _ = V;have XW : Hid (VBox V w.heap.size { k with dA:=B,dn:=m,dc:=d }):=by show VBox _ _ _; rw [← hV]; exact X2.out.put_d _ _ _
  have ZW : Hid (VBox V (w.heap.size + 1) vm0):=by show VBox _ _ _; rw [← hV]; exact vset_far Z2.out (by omega)
  have BW : Hid (Below w.heap.size w V):=by show Below _ _ _; rw [← hV]; exact B2.out.setCell (Nat.le_refl _) _
  have EW : Hid (Ex (fun g => g = w.heap.size ∨ g = w.heap.size + 1) w2 V):=by show Ex _ _ _; rw [← hV]; exact (Ex.refl _ _).cell (.inl rfl) _
  clear hV F8 P8;(go_wp2_with (first | (refine wpList_vload (by rfl) _ rfl _ _ rfl XW.out ?_) | (refine wpList_vstore (by rfl) _ _ rfl _ vm0 _ rfl rfl ZW.out ?_)));have kb2:=below_setRow BW.out (show w.heap.size ≤ w.heap.size + 1 by omega) (vmC { k with dA:=B,dn:=m,dc:=d });have v2:=V0.out.keep B2.out;have hl : MLoc w1.heap.size { k with dA:=B,dn:=m,dc:=d } k:=⟨.refl _ _ _,.inr HR.out.2,.refl _ _ _,⟨rfl,rfl⟩,⟨rfl,rfl⟩,⟨rfl,rfl⟩,⟨rfl,rfl⟩⟩;have hj : IsVm w2 { k with dA:=B,dn:=m,dc:=d } { L with d:=l9 }:=⟨v2.m,HR.out.1,v2.r,v2.f,v2.dict,v2.o,v2.q,v2.e,v2.h⟩;refine bodyPost_ret (res_ct rfl _ _ _ _ rfl (vrow ZW.out _)) rfl ⟨{ k with dA:=B,dn:=m,dc:=d },rfl,V0.out.ex hj hl (EW.out.row (.inr rfl) _) ?_,⟨rfl,rfl,rfl,rfl,rfl,rfl,rfl,rfl,rfl,rfl,rfl,rfl,rfl⟩,hl.le (by have:=KS.out; omega),kb2⟩;intro g hg h;have:=KS.out
  rcases h with rfl | rfl
  · exact ⟨by omega,by omega,vbox_nou8 X2.out⟩
  · exact ⟨by omega,by omega,vbox_nou8 Z2.out⟩


theorem reckonedOfTwo_is (s : ByteArray) (w : World) : Calls Tryz.prog 94 #[.string s] w (Makes (deedE 2 (fun k L x => twoE s.data.toList k L (x.getD 0 0) (x.getD 1 0))) w):=by
  have hmf : ∀ (fn : Fn) (first cap : Array Value) (w : World),(Instr.makeFunc fn first cap).run Tryz.prog w = .ok (.func fn first cap) w:=fun _ _ _ _ => rfl
  go_enter Tryz.func94,Tryz.ntmps94;(go_wp2_with fail);generalize hw1 : World.alloc _ _ = w1;have kb : Below w.heap.size w w1:=by rw [← hw1]; exact al_one _ _
  have c0 : w1.cell? ⟨w.heap.size,0,none⟩ = some (.string s):=by rw [← hw1]; simp
  have hl : w.heap.size < w1.heap.size:=by rw [← hw1]; simp
  have HA : IsReck w1 (.func (.func 122) #[] #[.pointer (some ⟨w.heap.size,0,none⟩)]) 2 (fun x => [(twoF s.data.toList (x.getD 0 0) (x.getD 1 0)).getD 0]) (fun x => divC s.data.toList (x.getD 1 0)):=⟨_,_,rfl,(enters_of Tryz.func122 (by kernel_rfl) rfl),fun w2 A c x b2 hx => reckonedOfTwo1 w1 _ s c0 hl w2 A c x b2 hx⟩;have B1:=zqh kb;clear c0 kb hw1;refine (reckons_is 2 _ _ (by decide) (fun _ => by show 1 ≤ 4; decide) w1 _ HA).mono ?_;rintro e w2 ⟨d,rfl,hd,bb⟩;have B2:=zqh (below_then B1.out bb);clear B1 bb HA hl;(go_wp2_with fail);go_ret;exact ⟨d,rfl,hd,B2.out⟩
theorem shuffled_is (s : ByteArray) (w : World) : Calls Tryz.prog 93 #[.string s] w (Makes (shufE s.data.toList) w):=by
  have hmf : ∀ (fn : Fn) (first cap : Array Value) (w : World),(Instr.makeFunc fn first cap).run Tryz.prog w = .ok (.func fn first cap) w:=fun _ _ _ _ => rfl
  go_enter Tryz.func93,Tryz.ntmps93;(go_wp2_with fail);go_ret;refine ⟨_,rfl,⟨_,_,rfl,(enters_of Tryz.func119 (by kernel_rfl) rfl),fun w2 k L b2 ok hv => ?_⟩,al_one _ _⟩;exact shuffled1 (w.alloc _) ⟨w.heap.size,0,none⟩ s (by simp) (by simp) w2 k L b2 ok hv


abbrev qC (q : Rq) : Array Value:=#[.int .i64 q.kind,.int .i64 q.arg,.int .i64 q.hand,.int .i64 q.rank,.int .i64 q.delay,.int .i64 q.id]
def QBox (w : World) (b : Nat) (q : Rq) : Prop:=w.heap[b]? = some (.cells (qC q) 119 (0,0))
theorem QBox.lt {w : World} {b : Nat} {q : Rq} (h : QBox w b q) : b < w.heap.size:=(Array.getElem?_eq_some_iff.1 h).1
theorem QBox.keep {w w' : World} {b : Nat} {q : Rq} (h : QBox w b q) (k : Below w.heap.size w w') : QBox w' b q:=(k.block b h.lt).trans h
theorem QBox.use {w : World} {b : Nat} {q : Rq} (h : QBox w b q) : w.cell? ⟨b,0,none⟩ = some (.int .i64 q.kind) ∧ w.cell? ⟨b,1,none⟩ = some (.int .i64 q.arg) ∧ w.cell? ⟨b,2,none⟩ = some (.int .i64 q.hand) ∧ w.cell? ⟨b,3,none⟩ = some (.int .i64 q.rank) ∧ w.cell? ⟨b,4,none⟩ = some (.int .i64 q.delay) ∧ w.cell? ⟨b,5,none⟩ = some (.int .i64 q.id):=by
  unfold QBox at h;refine ⟨?_,?_,?_,?_,?_,?_⟩ <;> simp [World.cell?,h]
end Go.Proofs.YtcmldhjicjmmgaaGreatDoor
