/- Part 34. -/
import Derived.Test.YtlgnijhemfkflaaGreatDoorPaBG
set_option linter.unusedVariables false
set_option linter.unusedSimpArgs false
set_option maxRecDepth 100000
set_option maxHeartbeats 4000000

namespace Go.Proofs.YtlgnijhemfkflaaGreatDoor
open Go.RowKit


theorem asked_any (k : VmK) (L : VmL) (q : Rq) (w : World) (ok : Ok k L) (h : IsVm w k L) : Calls Tryz.prog 249 #[vmV k,qV q] w (TurnOut ⟨postC L,[],k,{ L with e:=L.e ++ [q] }⟩ k w):=by
  have e1 : L.e.length = k.en:=h.e.len;have e2:=ok.e1;have V0:=zqh h;obtain ⟨D,hD⟩ : ∃ D,postC L = D:=⟨_,rfl⟩;rw [hD];unfold postC at hD;rw [e1] at hD;have E1:=zqh e1;have hen : k.en ≤ 100:=by omega
  clear h ok e1 e2
  by_cases h1 : k.en < 16
  · have g1 : decide ((16 : Int) ≤ (k.en : Int)) = false:=by simp; omega
    obtain rfl : D = 0:=by rw [← hD]; rw [if_pos h1]
    clear hD;go_enter Tryz.func249,Tryz.ntmps249;go_upto_region 1 with fail
    generalize hw1 : World.alloc (World.alloc (World.alloc _ _) _) _ = w1;have kb : Below w.heap.size w w1:=by rw [← hw1]; exact below_then (al_two _ _ _) (al_one _ _)
    have kx : VBox w1 w.heap.size k:=by rw [← hw1]; exact (in_two w k _).2.keep (al_one _ _)
    have ky : QBox w1 (w.heap.size + 1) q:=by rw [← hw1]; have:=(qbox_new (w.alloc (.cells (vmC k) 36)) q).keep (al_one _ (.cells (vmC vm0) 36)); rwa [World.size_alloc] at this
    have kz : VBox w1 (w.heap.size + 1 + 1) vm0:=by rw [← hw1]; have:=vbox_zero ((w.alloc (.cells (vmC k) 36)).alloc (.cells (qC q) 61)); rwa [World.size_alloc,World.size_alloc] at this
    have KS : Hid (w1.heap.size = w.heap.size + 3):=by show _ = _; rw [← hw1]; simp
    clear hw1;have X1:=zqh kx;have Y1:=zqh ky;have Z1:=zqh kz;have B1:=zqh kb;obtain ⟨p0,p1,p2,p3,p4,p5,p6,p7,p8,p9,p10,p11,p12,p13,p14,p15,p16,p17,p18,p19,p20,p21,p22⟩:=kx.use;clear p0 p1 p2 p3 p4 p5 p6 p7 p8 p9 p10 p11 p12 p13 p14 p15 p17 p18 p19 p20 p21 p22;obtain ⟨r0,r1,r2,r3,r4,r5⟩:=ky.use;clear kx ky kz kb;go_upto_region 3 with fail
    (go_wp2_with fail);generalize hu : World.alloc w1 _ = u;have bu : Below w1.heap.size w1 u:=by rw [← hu]; exact al_one _ _
    have hq:=rqs_newone w1 q;rw [hu] at hq;have su : u.heap.size = w1.heap.size + 1:=by rw [← hu]; simp
    rw [← su];refine (qcat_any k.eA (some ⟨w1.heap.size,0,none⟩) k.en k.ec 1 1 L.e [q] _ _ (pair_new u _ _ _).1 (pair_new u _ _ _).2 (((V0.out.e.keep B1.out).keep bu).keep (al_one _ _)) (hq.keep (al_one _ _)) (by rw [E1.out]; omega) (by simp)).mono ?_;rintro e u5 ⟨v5,rfl,ho,b5⟩;have b6:=below_then (below_then bu (al_one u _)) b5;obtain ⟨n5,h55⟩ : ∃ n5,(L.e ++ [q]).length = n5:=⟨_,rfl⟩;rw [h55] at ho;obtain ⟨B5,c5,rfl,hn5⟩:=ho.sl;have HQ:=zqh ho.rqs;have N5 : Hid (∀ p,B5 = some p → w1.heap.size ≤ p.block):=zqh fun p hp => Nat.le_trans (by simp; omega) (hn5 p hp)
    have X5:=zqh (X1.out.keep b6);have Z5:=zqh (Z1.out.keep b6);have B5w:=zqh (below_then B1.out b6);have S5:=zqh b6.size;have F16:=X5.out.free.2.2.2.2.2.2.2.2.2.2.2.2.2.2.2.2.1;obtain ⟨p0,p1,p2,p3,p4,p5,p6,p7,p8,p9,p10,p11,p12,p13,p14,p15,P16,p17,p18,p19,p20,p21,p22⟩:=X5.out.use;clear p0 p1 p2 p3 p4 p5 p6 p7 p8 p9 p10 p11 p12 p13 p14 p15 p17 p18 p19 p20 p21 p22;clear p16 r0 r1 r2 r3 r4 r5 ho b5 b6 hn5 hq bu su hu h55;go_upto_region 4 with fail
    generalize hV : World.setCell _ _ _ = V;have XW : Hid (VBox V w.heap.size { k with eA:=B5,en:=n5,ec:=c5 }):=by show VBox _ _ _; rw [← hV]; exact X5.out.put_e _ _ _
    have ZW : Hid (VBox V (w.heap.size + 1 + 1) vm0):=by show VBox _ _ _; rw [← hV]; exact vset_far Z5.out (by omega)
    have BW : Hid (Below w.heap.size w V):=by show Below _ _ _; rw [← hV]; exact B5w.out.setCell (Nat.le_refl _) _
    have EW : Hid (Ex (fun g => g = w.heap.size ∨ g = w.heap.size + 1 + 1) u5 V):=by show Ex _ _ _; rw [← hV]; exact (Ex.refl _ _).cell (.inl rfl) _
    clear hV F16 P16;(go_wp2_with (first | (refine wpList_vload (by rfl) _ rfl _ _ rfl XW.out ?_) | (refine wpList_vstore (by rfl) _ _ rfl _ vm0 _ rfl rfl ZW.out ?_)));have kb2:=below_setRow BW.out (show w.heap.size ≤ w.heap.size + 1 + 1 by omega) (vmC { k with eA:=B5,en:=n5,ec:=c5 });refine bodyPost_ret (res_ct rfl _ _ _ _ rfl (vrow ZW.out _)) rfl ⟨{ k with eA:=B5,en:=n5,ec:=c5 },rfl,fun hz => ?_,kb2⟩;have v2:=V0.out.keep B5w.out;have hl : MLoc w1.heap.size { k with eA:=B5,en:=n5,ec:=c5 } k:=⟨.refl _ _ _,.refl _ _ _,.inr N5.out,⟨rfl,rfl⟩,⟨rfl,rfl⟩,⟨rfl,rfl⟩,⟨rfl,rfl⟩⟩;have hj : IsVm u5 { k with eA:=B5,en:=n5,ec:=c5 } { L with e:=L.e ++ [q] }:=⟨v2.m,v2.d,v2.r,v2.f,v2.dict,v2.o,v2.q,HQ.out,v2.h⟩;refine ⟨V0.out.ex hj hl (EW.out.row (.inr rfl) _) ?_,⟨rfl,rfl,rfl,rfl,rfl,rfl,rfl,rfl,rfl,rfl,rfl,rfl,rfl⟩,hl.le (by have:=KS.out; omega)⟩;intro g hg h;have:=KS.out
    rcases h with rfl | rfl
    · exact ⟨by omega,by omega,vbox_nou8 X5.out⟩
    · exact ⟨by omega,by omega,vbox_nou8 Z5.out⟩
  · have g1 : decide ((16 : Int) ≤ (k.en : Int)) = true:=by simp; omega
    obtain rfl : D = -257:=by rw [← hD]; rw [if_neg h1]
    clear hD;go_enter Tryz.func249,Tryz.ntmps249;go_upto_region 1 with fail
    generalize hw1 : World.alloc (World.alloc (World.alloc _ _) _) _ = w1;have kb : Below w.heap.size w w1:=by rw [← hw1]; exact below_then (al_two _ _ _) (al_one _ _)
    have kx : VBox w1 w.heap.size k:=by rw [← hw1]; exact (in_two w k _).2.keep (al_one _ _)
    have ky : QBox w1 (w.heap.size + 1) q:=by rw [← hw1]; have:=(qbox_new (w.alloc (.cells (vmC k) 36)) q).keep (al_one _ (.cells (vmC vm0) 36)); rwa [World.size_alloc] at this
    have kz : VBox w1 (w.heap.size + 1 + 1) vm0:=by rw [← hw1]; have:=vbox_zero ((w.alloc (.cells (vmC k) 36)).alloc (.cells (qC q) 61)); rwa [World.size_alloc,World.size_alloc] at this
    have KS : Hid (w1.heap.size = w.heap.size + 3):=by show _ = _; rw [← hw1]; simp
    clear hw1;have X1:=zqh kx;have Y1:=zqh ky;have Z1:=zqh kz;have B1:=zqh kb;obtain ⟨p0,p1,p2,p3,p4,p5,p6,p7,p8,p9,p10,p11,p12,p13,p14,p15,p16,p17,p18,p19,p20,p21,p22⟩:=kx.use;clear p0 p1 p2 p3 p4 p5 p6 p7 p8 p9 p10 p11 p12 p13 p14 p15 p17 p18 p19 p20 p21 p22;obtain ⟨r0,r1,r2,r3,r4,r5⟩:=ky.use;clear kx ky kz kb;clear r0 r1 r2 r3 r4 r5;(go_wp2_with (first | (refine wpList_vload (by rfl) _ rfl w.heap.size k rfl X1.out ?_) | (refine wpList_vstore (by rfl) _ _ rfl _ vm0 k rfl rfl Z1.out ?_)));have kb2:=below_setRow B1.out (show w.heap.size ≤ w.heap.size + 1 + 1 by omega) (vmC k);exact bodyPost_ret (res_ct rfl _ _ _ _ rfl (vrow Z1.out _)) rfl ⟨k,rfl,fun hz => absurd (show (-257 : Int) = 0 from hz) (by decide),kb2⟩
end Go.Proofs.YtlgnijhemfkflaaGreatDoor

namespace Go.Proofs.YtlgnijhemfkflaaGreatDoor
open Go.RowKit


theorem req_size : (Tryz.prog.info? 61).map (·.size) = some 6:=by kernel_rfl
theorem qC_one (q : Rq) : (qC q).all (·.oneCell') = true:=by simp [Value.oneCell']
theorem qrow {w : World} {b : Nat} {j : Rq} (h : QBox w b j) (q : Rq) : QBox (w.setRow b (qC q)) b q:=setRow_heap w b _ _ _ _ h
theorem step_qst {ops : Array Oper} {o : Oper} {a : Act} {K : Act → World → Prop} {Q : Exit → Act → World → Prop} {E : Prop} {w : World} (hgd : o.guard = none) (x y : Operand) (ho : o.op = .store 61 x y)
    (b : Nat) (j q : Rq) (hx : a.eval x = .pointer (some ⟨b,0,none⟩)) (hy : a.eval y = qV q) (hb : QBox w b j) (h : K (a.put o.dst undef) (w.setRow b (qC q))) :
    if Region.wanted o (yielded ops a.tmps) = true then Oper.wp Tryz.prog o a w K Q else E:=by
  have hw : Region.wanted o (yielded ops a.tmps) = true:=by simp [Region.wanted,hgd]
  rw [if_pos hw];exact wp_store_row 61 x y ho b (qC q) hx hy _ _ hb req_size rfl (qC_one q) h
theorem cancelled_any (k : VmK) (L : VmL) (A : Option Addr) (c : Nat) (x : List Int) (w : World) (ok : Ok k L) (h : IsVm w k L) (hx : Takes w 1 A c x) : Calls Tryz.prog 156 #[vmV k,.slice A 1 c] w (TurnOut ⟨postC L,[],k,{ L with e:=L.e ++ [⟨4,0,0,0,0,x.getD 0 0⟩] }⟩ k w):=by
  obtain ⟨a,g,o,rfl,rfl,hg,c0,ha⟩:=hx.one;show Calls _ _ _ _ (TurnOut ⟨postC L,[],k,{ L with e:=L.e ++ [⟨4,0,0,0,0,a⟩] }⟩ k w);have HC:=zqh fun w h => asked_any k L ⟨4,0,0,0,0,a⟩ w ok h
  have V0:=zqh h;have C0:=zqh c0;generalize postC L = D at HC ⊢;clear ok h hx c0;go_enter Tryz.func156,Tryz.ntmps156;go_upto_region 1 with fail
  generalize hw1 : World.alloc (World.alloc _ _) _ = w1;have kb : Below w.heap.size w w1:=by rw [← hw1]; exact al_two _ _ _
  have kx : VBox w1 w.heap.size k:=by rw [← hw1]; exact (in_two w k _).2
  have kz : VBox w1 (w.heap.size + 1) vm0:=by rw [← hw1]; exact in_two0 w _
  have KS : Hid (w1.heap.size = w.heap.size + 1 + 1):=by show _ = _; rw [← hw1]; exact in_twos w _ _
  clear hw1;have X1:=zqh kx;have Z1:=zqh kz;have B1:=zqh kb;have KZ : Hid (w1.drew.heap.size = w.heap.size + 1 + 1):=KS;clear kx kz kb;go_upto_region 1 with fail
  refine wp_region_noPanic ?_;refine wp_region_held_drew (S:=fun a => Below w.heap.size w a ∧ VBox a w.heap.size k ∧ ∃ j0,VBox a (w.heap.size + 1) j0) (by kernel_rfl) ?_ (fun hHeld => ?_)
  · exact ⟨B1.out.drew,X1.out,_,Z1.out⟩
  refine zqt (i:=0) (v:=vmV k) (fun u hSu => exec_vl _ rfl w.heap.size k rfl hSu.2.1) ?_;(try simp only [zq,Act.put]);refine zqt (i:=1) (v:=?v1a26) ?y1a26 ?r1a26
  case y1a26 =>
    intro u hSu;go_simp;(try with_reducible rfl)
  (try simp only [zq,Act.put]);refine zqt (i:=2) (v:=?v2a26) ?y2a26 ?r2a26
  case y2a26 =>
    intro u hSu;go_simp;(try with_reducible rfl)
  (try simp only [zq,Act.put]);refine zqt (i:=3) (v:=?v3a26) ?y3a26 ?r3a26
  case y3a26 =>
    intro u hSu;(try dsimp only at hSu);have q0:=(hSu.1.cell (p:=⟨g,o,none⟩) hg).trans C0.out;go_simp;(try with_reducible rfl)
  (try simp only [zq,Act.put]);refine zqt (i:=4) (v:=?v4a26) ?y4a26 ?r4a26
  case y4a26 =>
    intro u hSu;go_simp;(try with_reducible rfl)
  (try simp only [zq,Act.put]);refine zqr 5 fun K hK => ?_
  go_simp;refine (HC.out _ (V0.out.keep hHeld.1)).mono ?_;rintro e u1 ⟨j,rfl,hr,bb⟩;obtain ⟨j0,hz⟩:=hHeld.2.2;have hN : Below w.heap.size w u1 ∧ VBox u1 w.heap.size k ∧ ∃ j0,VBox u1 (w.heap.size + 1) j0:=⟨below_then hHeld.1 bb,hHeld.2.1.keep bb,j0,hz.keep bb⟩;have HR:=zqh hr;have S2:=zqh bb.size;(go_wp2_with fail);clear bb hz hr;clear hHeld;refine hK.out _ _ hN (fun hHeld => ?_);clear hK K hN;(try simp only [zq,Act.put]);refine zqt (i:=6) (v:=?v6a26) ?y6a26 ?r6a26
  case y6a26 =>
    intro u hSu;go_simp;(try with_reducible rfl)
  (try simp only [zq,Act.put]);refine zqt (i:=7) (v:=?v7a26) ?y7a26 ?r7a26
  case y7a26 =>
    intro u hSu;go_simp;(try with_reducible rfl)
  (try simp only [zq,Act.put]);refine zqr 8 fun K hK => ?_
  obtain ⟨j9,hz⟩:=hHeld.2.2;refine step_vst rfl _ _ rfl (w.heap.size + 1) j9 j rfl rfl hz ?_;have kb2:=below_setRow hHeld.1 (show w.heap.size ≤ w.heap.size + 1 by omega) (vmC j);refine hK.out _ _ ⟨kb2,vrow_fr hHeld.2.1 (by omega) _,j,vrow hz j⟩ (fun hHeld9 => ?_);have HB:=zqh kb2;have ZW:=zqh (vrow hz j);have ZO:=zqh hz;clear kb2 hz hHeld;clear hK K;(try simp only [zq,Act.put]);refine zqt (i:=9) (v:=?v9a26) ?y9a26 ?r9a26
  case y9a26 =>
    intro u hSu;go_simp;(try with_reducible rfl)
  (try simp only [zq,Act.put]);refine wpAnyH_done (by kernel_rfl) ?_ _;refine NoPanic.normal ?_;(go_wp2_with fail);refine bodyPost_ret (res_ct rfl _ _ _ _ rfl ZW.out) rfl ⟨j,rfl,fun hz => ?_,HB.out⟩;obtain ⟨hj,hs,hl⟩:=HR.out hz;refine ⟨V0.out.ex hj hl ((Ex.refl (fun g => g = w.heap.size + 1) u1).row rfl (vmC j)) ?_,hs,hl.le (by have:=KZ.out; omega)⟩;intro g hg h;subst h;have:=KZ.out;exact ⟨by omega,by omega,vbox_nou8 ZO.out⟩
theorem posted_any (k : VmK) (L : VmL) (A : Option Addr) (c : Nat) (x : List Int) (w : World) (ok : Ok k L) (h : IsVm w k L) (hx : Takes w 3 A c x) : Calls Tryz.prog 154 #[vmV k,.slice A 3 c] w (TurnOut ⟨if hasB L (x.getD 1 0) (x.getD 2 0) = true then postC L else -259,[],k,{ L with e:=L.e ++ [⟨1,x.getD 0 0,x.getD 1 0,x.getD 2 0,0,0⟩] }⟩ k w):=by
  obtain ⟨a,b,d,g,o,rfl,rfl,hg,c0,c1,c2,ha,hb,hd⟩:=hx.three;show Calls _ _ _ _ (TurnOut ⟨if hasB L b d = true then postC L else -259,[],k,{ L with e:=L.e ++ [⟨1,a,b,d,0,0⟩] }⟩ k w);have HH:=zqh fun w h => hasHandler_any k L ⟨1,a,b,d,0,0⟩ w h ok.h1
  have HC:=zqh fun w h => asked_any k L ⟨1,a,b,d,0,0⟩ w ok h
  have V0:=zqh h;have C0:=zqh c0;have C1:=zqh c1;have C2:=zqh c2;generalize postC L = D at HC ⊢;have HH : Hid (∀ w,IsVm w k L → Calls Tryz.prog 248 #[vmV k,qV ⟨1,a,b,d,0,0⟩] w fun e w' => e = .returned (.bool (hasB L b d)) ∧ Below w.heap.size w w'):=HH;generalize hasB L b d = P at HH ⊢;clear ok h hx c0 c1 c2;cases P with
  | true =>
    rw [if_pos rfl];go_enter Tryz.func154,Tryz.ntmps154;go_upto_region 1 with fail
    generalize hw1 : World.alloc (World.alloc _ _) _ = w1;have kb : Below w.heap.size w w1:=by rw [← hw1]; exact al_two _ _ _
    have kx : VBox w1 w.heap.size k:=by rw [← hw1]; exact (in_two w k _).2
    have kz : VBox w1 (w.heap.size + 1) vm0:=by rw [← hw1]; exact in_two0 w _
    have KS : Hid (w1.heap.size = w.heap.size + 1 + 1):=by show _ = _; rw [← hw1]; exact in_twos w _ _
    clear hw1;have X1:=zqh kx;have Z1:=zqh kz;have B1:=zqh kb;have KZ : Hid (w1.drew.heap.size = w.heap.size + 1 + 1):=KS;clear kx kz kb;go_upto_region 1 with fail
    refine wp_region_noPanic ?_;refine wp_region_held_drew (S:=fun a => Below w.heap.size w a ∧ VBox a w.heap.size k ∧ VBox a (w.heap.size + 1) vm0) (by kernel_rfl) ?_ (fun hHeld => ?_)
    · exact ⟨B1.out.drew,X1.out,Z1.out⟩
    refine zqt (i:=0) (v:=?v0a27) ?y0a27 ?r0a27
    case y0a27 =>
      intro u hSu;go_simp;(try with_reducible rfl)
    (try simp only [zq,Act.put]);refine zqt (i:=1) (v:=?v1a27) ?y1a27 ?r1a27
    case y1a27 =>
      intro u hSu;go_simp;(try with_reducible rfl)
    (try simp only [zq,Act.put]);refine zqt (i:=2) (v:=?v2a27) ?y2a27 ?r2a27
    case y2a27 =>
      intro u hSu;(try dsimp only at hSu);have q0:=(hSu.1.cell (p:=⟨g,o,none⟩) hg).trans C0.out;go_simp;(try with_reducible rfl)
    (try simp only [zq,Act.put]);refine zqt (i:=3) (v:=?v3a27) ?y3a27 ?r3a27
    case y3a27 =>
      intro u hSu;go_simp;(try with_reducible rfl)
    (try simp only [zq,Act.put]);refine zqt (i:=4) (v:=?v4a27) ?y4a27 ?r4a27
    case y4a27 =>
      intro u hSu;go_simp;(try with_reducible rfl)
    (try simp only [zq,Act.put]);refine zqt (i:=5) (v:=?v5a27) ?y5a27 ?r5a27
    case y5a27 =>
      intro u hSu;(try dsimp only at hSu);have q1:=(hSu.1.cell (p:=⟨g,o + 1,none⟩) hg).trans C1.out;go_simp;(try with_reducible rfl)
    (try simp only [zq,Act.put]);refine zqt (i:=6) (v:=?v6a27) ?y6a27 ?r6a27
    case y6a27 =>
      intro u hSu;go_simp;(try with_reducible rfl)
    (try simp only [zq,Act.put]);refine zqt (i:=7) (v:=?v7a27) ?y7a27 ?r7a27
    case y7a27 =>
      intro u hSu;go_simp;(try with_reducible rfl)
    (try simp only [zq,Act.put]);refine zqt (i:=8) (v:=?v8a27) ?y8a27 ?r8a27
    case y8a27 =>
      intro u hSu;(try dsimp only at hSu);have q2:=(hSu.1.cell (p:=⟨g,o + 2,none⟩) hg).trans C2.out;go_simp;(try with_reducible rfl)
    (try simp only [zq,Act.put]);refine zqt (i:=9) (v:=?v9a27) ?y9a27 ?r9a27
    case y9a27 =>
      intro u hSu;go_simp;(try with_reducible rfl)
    (try simp only [zq,Act.put]);refine zqr 10 fun K hK => ?_
    go_simp;(go_wp2_with fail);have OV:=zqh (qbox_new w1.drew rq0);refine hK.out _ _ ⟨below_then hHeld.1 (al_one _ _),hHeld.2.1.keep (al_one _ _),hHeld.2.2.keep (al_one _ _)⟩ (fun hHeld => ?_);clear hK K;(try simp only [zq,Act.put]);refine zqr 11 fun K hK => ?_
    refine step_qst rfl _ _ rfl w1.drew.heap.size rq0 ⟨1,a,b,d,0,0⟩ rfl rfl OV.out ?_;have kz : w.heap.size ≤ w1.drew.heap.size ∧ w.heap.size ≠ w1.drew.heap.size ∧ w.heap.size + 1 ≠ w1.drew.heap.size:=by have:=KZ.out; omega
    refine hK.out _ _ ⟨below_setRow hHeld.1 kz.1 _,vrow_fr hHeld.2.1 kz.2.1 _,vrow_fr hHeld.2.2 kz.2.2 _⟩ (fun hHeld9 => ?_);have YY:=zqh (qrow OV.out ⟨1,a,b,d,0,0⟩);have SS:=zqh hHeld9;clear hHeld hHeld9 kz OV;clear hK K;(try simp only [zq,Act.put]);refine wpAnyH_done (by kernel_rfl) ?_ _;refine NoPanic.normal ?_;generalize hu : World.setRow _ _ _ = u;have BU : Below w.heap.size w u:=by rw [← hu]; exact SS.out.1
    have XU : VBox u w.heap.size k:=by rw [← hu]; exact SS.out.2.1
    have ZU : VBox u (w.heap.size + 1) vm0:=by rw [← hu]; exact SS.out.2.2
    have YY : Hid (QBox u w1.heap.size ⟨1,a,b,d,0,0⟩):=by show QBox _ _ _; rw [← hu]; exact YY.out
    clear hu X1 Z1 B1;have X2:=zqh XU;have Z2:=zqh ZU;have B2:=zqh BU;have S2:=zqh YY.out.lt;obtain ⟨r0,r1,r2,r3,r4,r5⟩:=YY.out.use;clear BU XU ZU SS;(go_wp2_with (refine wpList_vload (by rfl) _ rfl w.heap.size k rfl X2.out ?_));refine (HH.out _ (V0.out.keep B2.out)).mono ?_;rintro e w3 ⟨rfl,bb⟩;have X3:=zqh (X2.out.keep bb);have Z3:=zqh (Z2.out.keep bb);have B3:=zqh (below_then B2.out bb);have Y3:=zqh (YY.out.keep bb);have S3:=zqh bb.size;clear HH bb r0 r1 r2 r3 r4 r5 YY X2 Z2 B2;obtain ⟨r0,r1,r2,r3,r4,r5⟩:=Y3.out.use;(go_wp2_with (refine wpList_vload (by rfl) _ rfl w.heap.size k rfl X3.out ?_));refine (HC.out _ (V0.out.keep B3.out)).mono ?_;rintro e w4 ⟨j,rfl,hr,bb⟩;have Z4:=zqh (Z3.out.keep bb);have B4:=zqh (below_then B3.out bb);have HR:=zqh hr;have S4:=zqh bb.size;clear HC bb hr r0 r1 r2 r3 r4 r5 X3 Z3 Y3;(go_wp2_with (refine wpList_vstore (by rfl) _ _ rfl (w.heap.size + 1) vm0 j rfl rfl Z4.out ?_));have kb2:=below_setRow B4.out (show w.heap.size ≤ w.heap.size + 1 by omega) (vmC j);refine bodyPost_ret (res_ct rfl _ _ _ _ rfl (vrow Z4.out j)) rfl ⟨j,rfl,fun hz => ?_,kb2⟩;obtain ⟨hj,hs,hl⟩:=HR.out hz;refine ⟨V0.out.ex hj hl ((Ex.refl (fun g => g = w.heap.size + 1) w4).row rfl (vmC j)) ?_,hs,hl.le (by have:=KS.out; have:=S2.out; have:=S3.out; omega)⟩;intro g hg h;subst h;have:=KS.out; have:=S2.out; have:=S3.out;exact ⟨by omega,by omega,vbox_nou8 Z4.out⟩
  | false =>
    rw [if_neg (by decide)];go_enter Tryz.func154,Tryz.ntmps154;go_upto_region 1 with fail
    generalize hw1 : World.alloc (World.alloc _ _) _ = w1;have kb : Below w.heap.size w w1:=by rw [← hw1]; exact al_two _ _ _
    have kx : VBox w1 w.heap.size k:=by rw [← hw1]; exact (in_two w k _).2
    have kz : VBox w1 (w.heap.size + 1) vm0:=by rw [← hw1]; exact in_two0 w _
    have KS : Hid (w1.heap.size = w.heap.size + 1 + 1):=by show _ = _; rw [← hw1]; exact in_twos w _ _
    clear hw1;have X1:=zqh kx;have Z1:=zqh kz;have B1:=zqh kb;have KZ : Hid (w1.drew.heap.size = w.heap.size + 1 + 1):=KS;clear kx kz kb;go_upto_region 1 with fail
    refine wp_region_noPanic ?_;refine wp_region_held_drew (S:=fun a => Below w.heap.size w a ∧ VBox a w.heap.size k ∧ VBox a (w.heap.size + 1) vm0) (by kernel_rfl) ?_ (fun hHeld => ?_)
    · exact ⟨B1.out.drew,X1.out,Z1.out⟩
    refine zqt (i:=0) (v:=?v0a28) ?y0a28 ?r0a28
    case y0a28 =>
      intro u hSu;go_simp;(try with_reducible rfl)
    (try simp only [zq,Act.put]);refine zqt (i:=1) (v:=?v1a28) ?y1a28 ?r1a28
    case y1a28 =>
      intro u hSu;go_simp;(try with_reducible rfl)
    (try simp only [zq,Act.put]);refine zqt (i:=2) (v:=?v2a28) ?y2a28 ?r2a28
    case y2a28 =>
      intro u hSu;(try dsimp only at hSu);have q0:=(hSu.1.cell (p:=⟨g,o,none⟩) hg).trans C0.out;go_simp;(try with_reducible rfl)
    (try simp only [zq,Act.put]);refine zqt (i:=3) (v:=?v3a28) ?y3a28 ?r3a28
    case y3a28 =>
      intro u hSu;go_simp;(try with_reducible rfl)
    (try simp only [zq,Act.put]);refine zqt (i:=4) (v:=?v4a28) ?y4a28 ?r4a28
    case y4a28 =>
      intro u hSu;go_simp;(try with_reducible rfl)
    (try simp only [zq,Act.put]);refine zqt (i:=5) (v:=?v5a28) ?y5a28 ?r5a28
    case y5a28 =>
      intro u hSu;(try dsimp only at hSu);have q1:=(hSu.1.cell (p:=⟨g,o + 1,none⟩) hg).trans C1.out;go_simp;(try with_reducible rfl)
    (try simp only [zq,Act.put]);refine zqt (i:=6) (v:=?v6a28) ?y6a28 ?r6a28
    case y6a28 =>
      intro u hSu;go_simp;(try with_reducible rfl)
    (try simp only [zq,Act.put]);refine zqt (i:=7) (v:=?v7a28) ?y7a28 ?r7a28
    case y7a28 =>
      intro u hSu;go_simp;(try with_reducible rfl)
    (try simp only [zq,Act.put]);refine zqt (i:=8) (v:=?v8a28) ?y8a28 ?r8a28
    case y8a28 =>
      intro u hSu;(try dsimp only at hSu);have q2:=(hSu.1.cell (p:=⟨g,o + 2,none⟩) hg).trans C2.out;go_simp;(try with_reducible rfl)
    (try simp only [zq,Act.put]);refine zqt (i:=9) (v:=?v9a28) ?y9a28 ?r9a28
    case y9a28 =>
      intro u hSu;go_simp;(try with_reducible rfl)
    (try simp only [zq,Act.put]);refine zqr 10 fun K hK => ?_
    go_simp;(go_wp2_with fail);have OV:=zqh (qbox_new w1.drew rq0);refine hK.out _ _ ⟨below_then hHeld.1 (al_one _ _),hHeld.2.1.keep (al_one _ _),hHeld.2.2.keep (al_one _ _)⟩ (fun hHeld => ?_);clear hK K;(try simp only [zq,Act.put]);refine zqr 11 fun K hK => ?_
    refine step_qst rfl _ _ rfl w1.drew.heap.size rq0 ⟨1,a,b,d,0,0⟩ rfl rfl OV.out ?_;have kz : w.heap.size ≤ w1.drew.heap.size ∧ w.heap.size ≠ w1.drew.heap.size ∧ w.heap.size + 1 ≠ w1.drew.heap.size:=by have:=KZ.out; omega
    refine hK.out _ _ ⟨below_setRow hHeld.1 kz.1 _,vrow_fr hHeld.2.1 kz.2.1 _,vrow_fr hHeld.2.2 kz.2.2 _⟩ (fun hHeld9 => ?_);have YY:=zqh (qrow OV.out ⟨1,a,b,d,0,0⟩);have SS:=zqh hHeld9;clear hHeld hHeld9 kz OV;clear hK K;(try simp only [zq,Act.put]);refine wpAnyH_done (by kernel_rfl) ?_ _;refine NoPanic.normal ?_;generalize hu : World.setRow _ _ _ = u;have BU : Below w.heap.size w u:=by rw [← hu]; exact SS.out.1
    have XU : VBox u w.heap.size k:=by rw [← hu]; exact SS.out.2.1
    have ZU : VBox u (w.heap.size + 1) vm0:=by rw [← hu]; exact SS.out.2.2
    have YY : Hid (QBox u w1.heap.size ⟨1,a,b,d,0,0⟩):=by show QBox _ _ _; rw [← hu]; exact YY.out
    clear hu X1 Z1 B1;have X2:=zqh XU;have Z2:=zqh ZU;have B2:=zqh BU;have S2:=zqh YY.out.lt;obtain ⟨r0,r1,r2,r3,r4,r5⟩:=YY.out.use;clear BU XU ZU SS;(go_wp2_with (refine wpList_vload (by rfl) _ rfl w.heap.size k rfl X2.out ?_));refine (HH.out _ (V0.out.keep B2.out)).mono ?_;rintro e w3 ⟨rfl,bb⟩;have X3:=zqh (X2.out.keep bb);have Z3:=zqh (Z2.out.keep bb);have B3:=zqh (below_then B2.out bb);have Y3:=zqh (YY.out.keep bb);have S3:=zqh bb.size;clear HH bb r0 r1 r2 r3 r4 r5 YY X2 Z2 B2;(go_wp2_with (first | (refine wpList_vload (by rfl) _ rfl w.heap.size k rfl X3.out ?_) | (refine wpList_vstore (by rfl) _ _ rfl _ vm0 k rfl rfl Z3.out ?_)));have kb2:=below_setRow B3.out (show w.heap.size ≤ w.heap.size + 1 by omega) (vmC k);exact bodyPost_ret (res_ct rfl _ _ _ _ rfl (vrow Z3.out _)) rfl ⟨k,rfl,fun hz => absurd (show (-259 : Int) = 0 from hz) (by decide),kb2⟩
end Go.Proofs.YtlgnijhemfkflaaGreatDoor
