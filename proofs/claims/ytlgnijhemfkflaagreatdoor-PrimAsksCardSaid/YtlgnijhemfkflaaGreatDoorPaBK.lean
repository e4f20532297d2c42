/- Part 37. -/
import Derived.Test.YtlgnijhemfkflaaGreatDoorPaBF
set_option linter.unusedVariables false
set_option linter.unusedSimpArgs false
set_option maxRecDepth 100000
set_option maxHeartbeats 4000000

namespace Go.Proofs.YtlgnijhemfkflaaGreatDoor
open Go.RowKit


theorem allDigits_any (k : VmK) (L : VmL) (A : Option Addr) (c : Nat) (x : List Int) (w : World) (ok : Ok k L) (h : IsVm w k L) (hx : Takes w 2 A c x) : Calls Tryz.prog 146 #[vmV k,.slice A 2 c] w (ActOut (e114 k L (x.getD 0 0) (x.getD 1 0)) k w):=by
  obtain ⟨a,b,g,o,rfl,rfl,hg,c0,c1,ha,hb⟩:=hx.two;show Calls _ _ _ _ (ActOut ⟨allC k.qo L.q a b (fetchF L.m 0),[0,0],{ k with qo:=k.qo },{ L with q:=allL k.qo L.q a b (fetchF L.m 0) }⟩ k w);have HB0:=zqh fun w h => base_any k L w ok h
  have HD:=zqh fun w h => all_any k.qA k.qn k.qc k.qo L.q a b (fetchF L.m 0) w h (by have:=ok.q1; omega) ha hb (fetch_cell _ _)
  have V0:=zqh h;have C0:=zqh c0;have C1:=zqh c1;generalize allL k.qo L.q a b (fetchF L.m 0) = T at HD ⊢;generalize allC k.qo L.q a b (fetchF L.m 0) = C at HD ⊢;generalize fetchF L.m 0 = bs at HB0 HD;clear ok h hx c0 c1;go_enter Tryz.func146,Tryz.ntmps146;go_upto_region 1 with fail
  generalize hw1 : World.alloc (World.alloc _ _) _ = w1;have kb : Below w.heap.size w w1:=by rw [← hw1]; exact al_two _ _ _
  have kx : VBox w1 w.heap.size k:=by rw [← hw1]; exact (in_two w k _).2
  have kz : VBox w1 (w.heap.size + 1) vm0:=by rw [← hw1]; exact in_two0 w _
  have KS : Hid (w1.heap.size = w.heap.size + 1 + 1):=by show _ = _; rw [← hw1]; exact in_twos w _ _
  clear hw1;have X1:=zqh kx;have Z1:=zqh kz;have B1:=zqh kb;have KZ : Hid (w1.drew.heap.size = w.heap.size + 1 + 1):=KS;clear kx kz kb;go_upto_region 1 with fail
  refine wp_region_noPanic ?_;refine wp_region_held_drew (S:=fun a => Below w.heap.size w a ∧ VBox a w.heap.size k ∧ VBox a (w.heap.size + 1) vm0) (by kernel_rfl) ?_ (fun hHeld => ?_)
  · exact ⟨B1.out.drew,X1.out,Z1.out⟩
  refine zqt (i:=0) (v:=?v0a1) ?y0a1 ?r0a1
  case y0a1 =>
    intro u hSu;go_simp;(try with_reducible rfl)
  (try simp only [zq,Act.put]);refine zqt (i:=1) (v:=?v1a1) ?y1a1 ?r1a1
  case y1a1 =>
    intro u hSu;(try dsimp only at hSu);obtain ⟨p0,p1,p2,p3,p4,p5,p6,p7,p8,p9,p10,p11,p12,p13,p14,p15,p16,p17,p18,p19,p20,p21,p22⟩:=hSu.2.1.use;clear p0 p1 p2 p3 p4 p5 p6 p7 p8 p9 p10 p11 p12 p13 p16 p17 p18 p19 p20 p21 p22;go_simp;(try with_reducible rfl)
  (try simp only [zq,Act.put]);refine zqt (i:=2) (v:=?v2a1) ?y2a1 ?r2a1
  case y2a1 =>
    intro u hSu;go_simp;(try with_reducible rfl)
  (try simp only [zq,Act.put]);refine zqt (i:=3) (v:=?v3a1) ?y3a1 ?r3a1
  case y3a1 =>
    intro u hSu;go_simp;(try with_reducible rfl)
  (try simp only [zq,Act.put]);refine zqt (i:=4) (v:=?v4a1) ?y4a1 ?r4a1
  case y4a1 =>
    intro u hSu;(try dsimp only at hSu);have q0:=(hSu.1.cell (p:=⟨g,o,none⟩) hg).trans C0.out;go_simp;(try with_reducible rfl)
  (try simp only [zq,Act.put]);refine zqt (i:=5) (v:=?v5a1) ?y5a1 ?r5a1
  case y5a1 =>
    intro u hSu;go_simp;(try with_reducible rfl)
  (try simp only [zq,Act.put]);refine zqt (i:=6) (v:=?v6a1) ?y6a1 ?r6a1
  case y6a1 =>
    intro u hSu;go_simp;(try with_reducible rfl)
  (try simp only [zq,Act.put]);refine zqt (i:=7) (v:=?v7a1) ?y7a1 ?r7a1
  case y7a1 =>
    intro u hSu;(try dsimp only at hSu);have q1:=(hSu.1.cell (p:=⟨g,o + 1,none⟩) hg).trans C1.out;go_simp;(try with_reducible rfl)
  (try simp only [zq,Act.put]);refine zqt (i:=8) (v:=vmV k) (fun u hSu => exec_vl _ rfl w.heap.size k rfl hSu.2.1) ?_;(try simp only [zq,Act.put]);have S0:=hHeld;clear hHeld;refine wpAnyH_ready (rs:=[9,14]) (by kernel_rfl) (by simp) ?_;refine AllReadyH.cons (o:=_) rfl (fun K hK => ?_) (AllReadyH.cons (o:=_) rfl (fun K hK => ?_) AllReadyH.nil)
  case refine_1 =>
    go_simp;refine (HB0.out _ (V0.out.keep S0.1)).mono ?_;rintro e u0 ⟨rfl,b0⟩;(go_wp2_with fail);refine hK.out _ _ ⟨below_then S0.1 b0,S0.2.1.keep b0,S0.2.2.keep b0⟩ (fun S1 => ?_);clear hK K;(try simp only [zq,Act.put]);refine wpAnyH_ready (rs:=[10,14]) (by kernel_rfl) (by simp) ?_;refine AllReadyH.cons (o:=_) rfl (fun K hK => ?_) (AllReadyH.cons (o:=_) rfl (fun K hK => ?_) AllReadyH.nil)
    case refine_1 =>
      go_simp;refine (HD.out _ (V0.out.keep S1.1).q).mono ?_;rintro e u1 ⟨A2,n2,c2,rfl,hr,b1⟩;have HR0:=zqh hr;clear hr;(go_wp2_with fail);refine hK.out _ _ ⟨below_then S1.1 b1,S1.2.1.keep b1,S1.2.2.keep b1⟩ (fun S2 => ?_);clear hK K;(try simp only [zq,Act.put]);refine zqt (i:=11) (v:=?v11allDigits_anyA) ?y11allDigits_anyA ?r11allDigits_anyA
      case y11allDigits_anyA =>
        intro u hSu;go_simp;(try with_reducible rfl)
      (try simp only [zq,Act.put]);refine zqt (i:=12) (v:=?v12allDigits_anyA) ?y12allDigits_anyA ?r12allDigits_anyA
      case y12allDigits_anyA =>
        intro u hSu;go_simp;(try with_reducible rfl)
      (try simp only [zq,Act.put]);refine zqt (i:=13) (v:=?v13allDigits_anyA) ?y13allDigits_anyA ?r13allDigits_anyA
      case y13allDigits_anyA =>
        intro u hSu;go_simp;(try with_reducible rfl)
      (try simp only [zq,Act.put]);refine zqr 14 fun K hK => ?_
      have P2:=zqh (pbox_new u1 none 0 0 false);have L2:=zqh S2.1.size;go_simp;(go_wp2_with fail);refine hK.out _ _ ⟨below_then S2.1 (al_one u1 (.cells #[.slice none 0 0,.bool false] 32)),S2.2.1.keep (al_one u1 (.cells #[.slice none 0 0,.bool false] 32)),S2.2.2.keep (al_one u1 (.cells #[.slice none 0 0,.bool false] 32))⟩ (fun S3 => ?_);clear hK K;(try simp only [zq,Act.put]);have HRa:=HR0.out.keep (al_one u1 (.cells #[.slice none 0 0,.bool false] 32));have P9:=P2.out;clear P2;generalize hua : World.alloc u1 _ = ua at P9 S3 HRa ⊢;refine zqr 15 fun K hK => ?_
      have PB:=zqh P9;have HG : Hid (w.heap.size ≤ u1.heap.size ∧ w.heap.size ≠ u1.heap.size ∧ w.heap.size + 1 ≠ u1.heap.size):=by
        show _ ∧ _ ∧ _;have:=S3.2.1.lt;have:=S3.2.2.lt;have:=KZ.out;have:=b0.size; have:=b1.size;omega
      have HR:=zqh HRa;obtain ⟨z0,z1,z2,z3⟩:=PB.out.use;go_simp;(go_wp2_with fail);refine hK.out _ _ ⟨(S3.1.setCell HG.out.1 _).setCell HG.out.1 _,vset_far (vset_far S3.2.1 HG.out.2.1) HG.out.2.1,vset_far (vset_far S3.2.2 HG.out.2.2) HG.out.2.2⟩ (fun S9 => ?_);clear hK K z0 z1 z2 z3;(try simp only [zq,Act.put]);generalize hu : World.setCell _ _ _ = u at S9 ⊢;have PU : Hid (PBox u u1.heap.size A2 n2 c2 k.qo):=by show Box _ _ _ _ _; rw [← hu]; exact PB.out.put _ _
      have HRU : Hid (Byt u (.slice A2 n2 c2) T):=by
        show Byt _ _ _;rw [← hu];refine byt_across HR.out (by simp [World.setCell]) fun b hb => ?_
        by_cases e : b = u1.heap.size
        · rw [e]
          exact .inr (box_nou8 PB.out (fun i => by simp) (fun i => by simp))
        · exact .inl ((Below.heap_setCell _ _ _ _ e).trans (Below.heap_setCell _ _ _ _ e))
      have SU:=zqh S9;clear hu S9 PB HR;refine zqt (i:=16) (v:=?v16allDigits_anyA2) ?y16allDigits_anyA2 ?r16allDigits_anyA2
      case y16allDigits_anyA2 =>
        intro u hSu;go_simp;(try with_reducible rfl)
      (try simp only [zq,Act.put]);refine wpAnyH_done (by kernel_rfl) ?_ _;refine NoPanic.normal ?_;obtain ⟨BU,XU,ZU⟩:=SU.out;have X3:=zqh XU;have Z3:=zqh ZU;have B3:=zqh BU;have F14:=XU.free.2.2.2.2.2.2.2.2.2.2.2.2.2.2.1;have F15:=XU.free.2.2.2.2.2.2.2.2.2.2.2.2.2.2.2.1;obtain ⟨p0,p1,p2,p3,p4,p5,p6,p7,p8,p9,p10,p11,p12,p13,P14,P15,p16,p17,p18,p19,p20,p21,p22⟩:=XU.use;clear p0 p1 p2 p3 p4 p5 p6 p7 p8 p9 p10 p11 p12 p13 p16 p17 p18 p19 p20 p21 p22;obtain ⟨z0,z1,_,_⟩:=PU.out.use;clear BU XU ZU SU;go_upto_region 3 with fail
      generalize hV : World.setCell _ _ _ = V2;have XX : Hid (VBox V2 w.heap.size { k with qA:=A2,qn:=n2,qc:=c2,qo:=k.qo }):=by show VBox _ _ _; rw [← hV]; exact (X3.out.put_q _ _ _).set_qo _
      have ZX : Hid (VBox V2 (w.heap.size + 1) vm0):=by show VBox _ _ _; rw [← hV]; exact vset_far (vset_far Z3.out (by omega)) (by omega)
      have BX : Hid (Below w.heap.size w V2):=by show Below _ _ _; rw [← hV]; exact (B3.out.setCell (Nat.le_refl _) _).setCell (Nat.le_refl _) _
      have EX : Hid (Ex (fun g => g = w.heap.size ∨ g = w.heap.size + 1) u V2):=by show Ex _ _ _; rw [← hV]; exact ((Ex.refl _ _).cell (.inl rfl) _).cell (.inl rfl) _
      clear hV F14 F15 P14 P15 z0 z1;have ZY:=zqh (ZX.out.keep (al_one V2 (.cells #[.int .i64 0,.int .i64 0] 3)));have BY:=zqh (below_then BX.out (al_one V2 (.cells #[.int .i64 0,.int .i64 0] 3)));have EY:=zqh (EX.out.below (al_one V2 (.cells #[.int .i64 0,.int .i64 0] 3)));have RY:=zqh (rowN_two V2 0 0);have SY:=zqh EX.out.size;(go_wp2_with (first | (refine wpList_vload (by rfl) _ rfl w.heap.size _ rfl XX.out ?_) | (refine wpList_vstore (by rfl) _ _ rfl (w.heap.size + 1) vm0 _ rfl rfl ZY.out ?_)));have kb2:=below_setRow BY.out (show w.heap.size ≤ w.heap.size + 1 by omega) (vmC { k with qA:=A2,qn:=n2,qc:=c2,qo:=k.qo });refine bodyPost_ret (res_ctt rfl _ _ _ _ rfl (vrow ZY.out _)) rfl ⟨{ k with qA:=A2,qn:=n2,qc:=c2,qo:=k.qo },_,_,_,rfl,fun hz => ?_,kb2⟩;have v3:=V0.out.keep B3.out;have hl : MLoc (w.heap.size + 1 + 1) { k with qA:=A2,qn:=n2,qc:=c2,qo:=k.qo } k:=⟨.refl _ _ _,.refl _ _ _,.refl _ _ _,⟨rfl,rfl⟩,⟨rfl,rfl⟩,⟨rfl,rfl⟩,⟨rfl,rfl⟩⟩;have hj : IsVm u { k with qA:=A2,qn:=n2,qc:=c2,qo:=k.qo } { L with q:=T }:=⟨v3.m,v3.d,v3.r,v3.f,v3.dict,v3.o,HRU.out,v3.e,v3.h⟩;refine ⟨V0.out.ex hj hl (EY.out.row (.inr rfl) _) ?_,⟨rfl,rfl,rfl,rfl,rfl,rfl,rfl,rfl,rfl,rfl,rfl,rfl,rfl⟩,hl.le (by omega),?_⟩
      · intro g hg h
        rcases h with rfl | rfl
        · exact ⟨by omega,by omega,vbox_nou8 X3.out⟩
        · exact ⟨by omega,by omega,vbox_nou8 Z3.out⟩
      · exact ((RY.out.le (by have:=SY.out; have:=Z3.out.lt; omega : w.heap.size + 1 + 1 ≤ V2.heap.size)).row_set (by omega : w.heap.size + 1 < w.heap.size + 1 + 1) _).le (by omega)
    case refine_2 =>
      have P1:=zqh (pbox_new u0 none 0 0 false);have L1:=zqh S1.1.size;go_simp;(go_wp2_with fail);refine hK.out _ _ ⟨below_then S1.1 (al_one u0 (.cells #[.slice none 0 0,.bool false] 32)),S1.2.1.keep (al_one u0 (.cells #[.slice none 0 0,.bool false] 32)),S1.2.2.keep (al_one u0 (.cells #[.slice none 0 0,.bool false] 32))⟩ (fun S2 => ?_);clear hK K;(try simp only [zq,Act.put]);refine zqr 10 fun K hK => ?_
      go_simp;refine (HD.out _ (V0.out.keep S2.1).q).mono ?_;rintro e u1 ⟨A2,n2,c2,rfl,hr,b2⟩;have HR0:=zqh hr;clear hr;(go_wp2_with fail);refine hK.out _ _ ⟨below_then S2.1 b2,S2.2.1.keep b2,S2.2.2.keep b2⟩ (fun S3 => ?_);clear hK K;(try simp only [zq,Act.put]);refine zqt (i:=11) (v:=?v11allDigits_anyB) ?y11allDigits_anyB ?r11allDigits_anyB
      case y11allDigits_anyB =>
        intro u hSu;go_simp;(try with_reducible rfl)
      (try simp only [zq,Act.put]);refine zqt (i:=12) (v:=?v12allDigits_anyB) ?y12allDigits_anyB ?r12allDigits_anyB
      case y12allDigits_anyB =>
        intro u hSu;go_simp;(try with_reducible rfl)
      (try simp only [zq,Act.put]);refine zqt (i:=13) (v:=?v13allDigits_anyB) ?y13allDigits_anyB ?r13allDigits_anyB
      case y13allDigits_anyB =>
        intro u hSu;go_simp;(try with_reducible rfl)
      (try simp only [zq,Act.put]);refine zqr 15 fun K hK => ?_
      have PB:=zqh (P1.out.keep b2);have HG : Hid (w.heap.size ≤ u0.heap.size ∧ w.heap.size ≠ u0.heap.size ∧ w.heap.size + 1 ≠ u0.heap.size):=by
        show _ ∧ _ ∧ _;have:=S3.2.1.lt;have:=S3.2.2.lt;have:=KZ.out;have:=b0.size;omega
      have HR:=zqh HR0.out;obtain ⟨z0,z1,z2,z3⟩:=PB.out.use;go_simp;(go_wp2_with fail);refine hK.out _ _ ⟨(S3.1.setCell HG.out.1 _).setCell HG.out.1 _,vset_far (vset_far S3.2.1 HG.out.2.1) HG.out.2.1,vset_far (vset_far S3.2.2 HG.out.2.2) HG.out.2.2⟩ (fun S9 => ?_);clear hK K z0 z1 z2 z3;(try simp only [zq,Act.put]);generalize hu : World.setCell _ _ _ = u at S9 ⊢;have PU : Hid (PBox u u0.heap.size A2 n2 c2 k.qo):=by show Box _ _ _ _ _; rw [← hu]; exact PB.out.put _ _
      have HRU : Hid (Byt u (.slice A2 n2 c2) T):=by
        show Byt _ _ _;rw [← hu];refine byt_across HR.out (by simp [World.setCell]) fun b hb => ?_
        by_cases e : b = u0.heap.size
        · rw [e]
          exact .inr (box_nou8 PB.out (fun i => by simp) (fun i => by simp))
        · exact .inl ((Below.heap_setCell _ _ _ _ e).trans (Below.heap_setCell _ _ _ _ e))
      have SU:=zqh S9;clear hu S9 PB HR;refine zqt (i:=16) (v:=?v16allDigits_anyB2) ?y16allDigits_anyB2 ?r16allDigits_anyB2
      case y16allDigits_anyB2 =>
        intro u hSu;go_simp;(try with_reducible rfl)
      (try simp only [zq,Act.put]);refine wpAnyH_done (by kernel_rfl) ?_ _;refine NoPanic.normal ?_;obtain ⟨BU,XU,ZU⟩:=SU.out;have X3:=zqh XU;have Z3:=zqh ZU;have B3:=zqh BU;have F14:=XU.free.2.2.2.2.2.2.2.2.2.2.2.2.2.2.1;have F15:=XU.free.2.2.2.2.2.2.2.2.2.2.2.2.2.2.2.1;obtain ⟨p0,p1,p2,p3,p4,p5,p6,p7,p8,p9,p10,p11,p12,p13,P14,P15,p16,p17,p18,p19,p20,p21,p22⟩:=XU.use;clear p0 p1 p2 p3 p4 p5 p6 p7 p8 p9 p10 p11 p12 p13 p16 p17 p18 p19 p20 p21 p22;obtain ⟨z0,z1,_,_⟩:=PU.out.use;clear BU XU ZU SU;go_upto_region 3 with fail
      generalize hV : World.setCell _ _ _ = V2;have XX : Hid (VBox V2 w.heap.size { k with qA:=A2,qn:=n2,qc:=c2,qo:=k.qo }):=by show VBox _ _ _; rw [← hV]; exact (X3.out.put_q _ _ _).set_qo _
      have ZX : Hid (VBox V2 (w.heap.size + 1) vm0):=by show VBox _ _ _; rw [← hV]; exact vset_far (vset_far Z3.out (by omega)) (by omega)
      have BX : Hid (Below w.heap.size w V2):=by show Below _ _ _; rw [← hV]; exact (B3.out.setCell (Nat.le_refl _) _).setCell (Nat.le_refl _) _
      have EX : Hid (Ex (fun g => g = w.heap.size ∨ g = w.heap.size + 1) u V2):=by show Ex _ _ _; rw [← hV]; exact ((Ex.refl _ _).cell (.inl rfl) _).cell (.inl rfl) _
      clear hV F14 F15 P14 P15 z0 z1;have ZY:=zqh (ZX.out.keep (al_one V2 (.cells #[.int .i64 0,.int .i64 0] 3)));have BY:=zqh (below_then BX.out (al_one V2 (.cells #[.int .i64 0,.int .i64 0] 3)));have EY:=zqh (EX.out.below (al_one V2 (.cells #[.int .i64 0,.int .i64 0] 3)));have RY:=zqh (rowN_two V2 0 0);have SY:=zqh EX.out.size;(go_wp2_with (first | (refine wpList_vload (by rfl) _ rfl w.heap.size _ rfl XX.out ?_) | (refine wpList_vstore (by rfl) _ _ rfl (w.heap.size + 1) vm0 _ rfl rfl ZY.out ?_)));have kb2:=below_setRow BY.out (show w.heap.size ≤ w.heap.size + 1 by omega) (vmC { k with qA:=A2,qn:=n2,qc:=c2,qo:=k.qo });refine bodyPost_ret (res_ctt rfl _ _ _ _ rfl (vrow ZY.out _)) rfl ⟨{ k with qA:=A2,qn:=n2,qc:=c2,qo:=k.qo },_,_,_,rfl,fun hz => ?_,kb2⟩;have v3:=V0.out.keep B3.out;have hl : MLoc (w.heap.size + 1 + 1) { k with qA:=A2,qn:=n2,qc:=c2,qo:=k.qo } k:=⟨.refl _ _ _,.refl _ _ _,.refl _ _ _,⟨rfl,rfl⟩,⟨rfl,rfl⟩,⟨rfl,rfl⟩,⟨rfl,rfl⟩⟩;have hj : IsVm u { k with qA:=A2,qn:=n2,qc:=c2,qo:=k.qo } { L with q:=T }:=⟨v3.m,v3.d,v3.r,v3.f,v3.dict,v3.o,HRU.out,v3.e,v3.h⟩;refine ⟨V0.out.ex hj hl (EY.out.row (.inr rfl) _) ?_,⟨rfl,rfl,rfl,rfl,rfl,rfl,rfl,rfl,rfl,rfl,rfl,rfl,rfl⟩,hl.le (by omega),?_⟩
      · intro g hg h
        rcases h with rfl | rfl
        · exact ⟨by omega,by omega,vbox_nou8 X3.out⟩
        · exact ⟨by omega,by omega,vbox_nou8 Z3.out⟩
      · exact ((RY.out.le (by have:=SY.out; have:=Z3.out.lt; omega : w.heap.size + 1 + 1 ≤ V2.heap.size)).row_set (by omega : w.heap.size + 1 < w.heap.size + 1 + 1) _).le (by omega)
  case refine_2 =>
    have P0:=zqh (pbox_new w1.drew none 0 0 false);have L0:=zqh S0.1.size;go_simp;(go_wp2_with fail);refine hK.out _ _ ⟨below_then S0.1 (al_one w1.drew (.cells #[.slice none 0 0,.bool false] 32)),S0.2.1.keep (al_one w1.drew (.cells #[.slice none 0 0,.bool false] 32)),S0.2.2.keep (al_one w1.drew (.cells #[.slice none 0 0,.bool false] 32))⟩ (fun S1 => ?_);clear hK K;(try simp only [zq,Act.put]);refine zqr 9 fun K hK => ?_
    go_simp;refine (HB0.out _ (V0.out.keep S1.1)).mono ?_;rintro e u0 ⟨rfl,b1⟩;(go_wp2_with fail);refine hK.out _ _ ⟨below_then S1.1 b1,S1.2.1.keep b1,S1.2.2.keep b1⟩ (fun S2 => ?_);clear hK K;(try simp only [zq,Act.put]);refine zqr 10 fun K hK => ?_
    go_simp;refine (HD.out _ (V0.out.keep S2.1).q).mono ?_;rintro e u1 ⟨A2,n2,c2,rfl,hr,b2⟩;have HR0:=zqh hr;clear hr;(go_wp2_with fail);refine hK.out _ _ ⟨below_then S2.1 b2,S2.2.1.keep b2,S2.2.2.keep b2⟩ (fun S3 => ?_);clear hK K;(try simp only [zq,Act.put]);refine zqt (i:=11) (v:=?v11allDigits_anyC) ?y11allDigits_anyC ?r11allDigits_anyC
    case y11allDigits_anyC =>
      intro u hSu;go_simp;(try with_reducible rfl)
    (try simp only [zq,Act.put]);refine zqt (i:=12) (v:=?v12allDigits_anyC) ?y12allDigits_anyC ?r12allDigits_anyC
    case y12allDigits_anyC =>
      intro u hSu;go_simp;(try with_reducible rfl)
    (try simp only [zq,Act.put]);refine zqt (i:=13) (v:=?v13allDigits_anyC) ?y13allDigits_anyC ?r13allDigits_anyC
    case y13allDigits_anyC =>
      intro u hSu;go_simp;(try with_reducible rfl)
    (try simp only [zq,Act.put]);refine zqr 15 fun K hK => ?_
    have PB:=zqh (show PBox u1 w1.heap.size none 0 0 false from (P0.out.keep b1).keep b2);have HG : Hid (w.heap.size ≤ w1.heap.size ∧ w.heap.size ≠ w1.heap.size ∧ w.heap.size + 1 ≠ w1.heap.size):=by
      show _ ∧ _ ∧ _;have:=S3.2.1.lt;have:=S3.2.2.lt;have:=KZ.out;have:=KS.out;omega
    have HR:=zqh HR0.out;obtain ⟨z0,z1,z2,z3⟩:=PB.out.use;go_simp;(go_wp2_with fail);refine hK.out _ _ ⟨(S3.1.setCell HG.out.1 _).setCell HG.out.1 _,vset_far (vset_far S3.2.1 HG.out.2.1) HG.out.2.1,vset_far (vset_far S3.2.2 HG.out.2.2) HG.out.2.2⟩ (fun S9 => ?_);clear hK K z0 z1 z2 z3;(try simp only [zq,Act.put]);generalize hu : World.setCell _ _ _ = u at S9 ⊢;have PU : Hid (PBox u w1.heap.size A2 n2 c2 k.qo):=by show Box _ _ _ _ _; rw [← hu]; exact PB.out.put _ _
    have HRU : Hid (Byt u (.slice A2 n2 c2) T):=by
      show Byt _ _ _;rw [← hu];refine byt_across HR.out (by simp [World.setCell]) fun b hb => ?_
      by_cases e : b = w1.heap.size
      · rw [e]
        exact .inr (box_nou8 PB.out (fun i => by simp) (fun i => by simp))
      · exact .inl ((Below.heap_setCell _ _ _ _ e).trans (Below.heap_setCell _ _ _ _ e))
    have SU:=zqh S9;clear hu S9 PB HR;refine zqt (i:=16) (v:=?v16allDigits_anyC2) ?y16allDigits_anyC2 ?r16allDigits_anyC2
    case y16allDigits_anyC2 =>
      intro u hSu;go_simp;(try with_reducible rfl)
    (try simp only [zq,Act.put]);refine wpAnyH_done (by kernel_rfl) ?_ _;refine NoPanic.normal ?_;obtain ⟨BU,XU,ZU⟩:=SU.out;have X3:=zqh XU;have Z3:=zqh ZU;have B3:=zqh BU;have F14:=XU.free.2.2.2.2.2.2.2.2.2.2.2.2.2.2.1;have F15:=XU.free.2.2.2.2.2.2.2.2.2.2.2.2.2.2.2.1;obtain ⟨p0,p1,p2,p3,p4,p5,p6,p7,p8,p9,p10,p11,p12,p13,P14,P15,p16,p17,p18,p19,p20,p21,p22⟩:=XU.use;clear p0 p1 p2 p3 p4 p5 p6 p7 p8 p9 p10 p11 p12 p13 p16 p17 p18 p19 p20 p21 p22;obtain ⟨z0,z1,_,_⟩:=PU.out.use;clear BU XU ZU SU;go_upto_region 3 with fail
    generalize hV : World.setCell _ _ _ = V2;have XX : Hid (VBox V2 w.heap.size { k with qA:=A2,qn:=n2,qc:=c2,qo:=k.qo }):=by show VBox _ _ _; rw [← hV]; exact (X3.out.put_q _ _ _).set_qo _
    have ZX : Hid (VBox V2 (w.heap.size + 1) vm0):=by show VBox _ _ _; rw [← hV]; exact vset_far (vset_far Z3.out (by omega)) (by omega)
    have BX : Hid (Below w.heap.size w V2):=by show Below _ _ _; rw [← hV]; exact (B3.out.setCell (Nat.le_refl _) _).setCell (Nat.le_refl _) _
    have EX : Hid (Ex (fun g => g = w.heap.size ∨ g = w.heap.size + 1) u V2):=by show Ex _ _ _; rw [← hV]; exact ((Ex.refl _ _).cell (.inl rfl) _).cell (.inl rfl) _
    clear hV F14 F15 P14 P15 z0 z1;have ZY:=zqh (ZX.out.keep (al_one V2 (.cells #[.int .i64 0,.int .i64 0] 3)));have BY:=zqh (below_then BX.out (al_one V2 (.cells #[.int .i64 0,.int .i64 0] 3)));have EY:=zqh (EX.out.below (al_one V2 (.cells #[.int .i64 0,.int .i64 0] 3)));have RY:=zqh (rowN_two V2 0 0);have SY:=zqh EX.out.size;(go_wp2_with (first | (refine wpList_vload (by rfl) _ rfl w.heap.size _ rfl XX.out ?_) | (refine wpList_vstore (by rfl) _ _ rfl (w.heap.size + 1) vm0 _ rfl rfl ZY.out ?_)));have kb2:=below_setRow BY.out (show w.heap.size ≤ w.heap.size + 1 by omega) (vmC { k with qA:=A2,qn:=n2,qc:=c2,qo:=k.qo });refine bodyPost_ret (res_ctt rfl _ _ _ _ rfl (vrow ZY.out _)) rfl ⟨{ k with qA:=A2,qn:=n2,qc:=c2,qo:=k.qo },_,_,_,rfl,fun hz => ?_,kb2⟩;have v3:=V0.out.keep B3.out;have hl : MLoc (w.heap.size + 1 + 1) { k with qA:=A2,qn:=n2,qc:=c2,qo:=k.qo } k:=⟨.refl _ _ _,.refl _ _ _,.refl _ _ _,⟨rfl,rfl⟩,⟨rfl,rfl⟩,⟨rfl,rfl⟩,⟨rfl,rfl⟩⟩;have hj : IsVm u { k with qA:=A2,qn:=n2,qc:=c2,qo:=k.qo } { L with q:=T }:=⟨v3.m,v3.d,v3.r,v3.f,v3.dict,v3.o,HRU.out,v3.e,v3.h⟩;refine ⟨V0.out.ex hj hl (EY.out.row (.inr rfl) _) ?_,⟨rfl,rfl,rfl,rfl,rfl,rfl,rfl,rfl,rfl,rfl,rfl,rfl,rfl⟩,hl.le (by omega),?_⟩
    · intro g hg h
      rcases h with rfl | rfl
      · exact ⟨by omega,by omega,vbox_nou8 X3.out⟩
      · exact ⟨by omega,by omega,vbox_nou8 Z3.out⟩
    · exact ((RY.out.le (by have:=SY.out; have:=Z3.out.lt; omega : w.heap.size + 1 + 1 ≤ V2.heap.size)).row_set (by omega : w.heap.size + 1 < w.heap.size + 1 + 1) _).le (by omega)
end Go.Proofs.YtlgnijhemfkflaaGreatDoor
