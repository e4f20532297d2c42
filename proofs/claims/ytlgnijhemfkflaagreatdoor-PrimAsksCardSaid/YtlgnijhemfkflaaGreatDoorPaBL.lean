/- Part 38. -/
import Derived.Test.YtlgnijhemfkflaaGreatDoorPaBI
set_option linter.unusedVariables false
set_option linter.unusedSimpArgs false
set_option maxRecDepth 100000
set_option maxHeartbeats 4000000

namespace Go.Proofs.YtlgnijhemfkflaaGreatDoor
open Go.RowKit


theorem oneDigit_any (k : VmK) (L : VmL) (A : Option Addr) (c : Nat) (x : List Int) (w : World) (ok : Ok k L) (h : IsVm w k L) (hx : Takes w 2 A c x) : Calls Tryz.prog 145 #[vmV k,.slice A 2 c] w (ActOut (e113 k L (x.getD 0 0) (x.getD 1 0)) k w):=by
  obtain ⟨a,b,g,o,rfl,rfl,hg,c0,c1,ha,hb⟩:=hx.two;show Calls _ _ _ _ (ActOut ⟨digC k.qo L.q (fetchF L.m 0),[digLo k.qo L.q a b (fetchF L.m 0),digHi k.qo L.q a b (fetchF L.m 0)],{ k with qo:=k.qo },{ L with q:=digL k.qo L.q a b (fetchF L.m 0) }⟩ k w);have HB0:=zqh fun w h => base_any k L w ok h
  have HD:=zqh fun w h => dig_any k.qA k.qn k.qc k.qo L.q a b (fetchF L.m 0) w h (by have:=ok.q1; omega) ha hb (fetch_cell _ _)
  have V0:=zqh h;have C0:=zqh c0;have C1:=zqh c1;generalize digLo k.qo L.q a b (fetchF L.m 0) = lo at HD ⊢;generalize digHi k.qo L.q a b (fetchF L.m 0) = hi at HD ⊢;generalize digL k.qo L.q a b (fetchF L.m 0) = T at HD ⊢;generalize digC k.qo L.q (fetchF L.m 0) = C at HD ⊢;generalize fetchF L.m 0 = bs at HB0 HD;clear ok h hx c0 c1;go_enter Tryz.func145,Tryz.ntmps145;go_upto_region 1 with fail
  generalize hw1 : World.alloc (World.alloc _ _) _ = w1;have kb : Below w.heap.size w w1:=by rw [← hw1]; exact al_two _ _ _
  have kx : VBox w1 w.heap.size k:=by rw [← hw1]; exact (in_two w k _).2
  have kz : VBox w1 (w.heap.size + 1) vm0:=by rw [← hw1]; exact in_two0 w _
  have KS : Hid (w1.heap.size = w.heap.size + 1 + 1):=by show _ = _; rw [← hw1]; exact in_twos w _ _
  clear hw1;have X1:=zqh kx;have Z1:=zqh kz;have B1:=zqh kb;have KZ : Hid (w1.drew.heap.size = w.heap.size + 1 + 1):=KS;clear kx kz kb;go_upto_region 1 with fail
  refine wp_region_noPanic ?_;refine wp_region_held_drew (S:=fun a => Below w.heap.size w a ∧ VBox a w.heap.size k ∧ VBox a (w.heap.size + 1) vm0) (by kernel_rfl) ?_ (fun hHeld => ?_)
  · exact ⟨B1.out.drew,X1.out,Z1.out⟩
  refine zqt (i:=0) (v:=?v0a2) ?y0a2 ?r0a2
  case y0a2 =>
    intro u hSu;go_simp;(try with_reducible rfl)
  (try simp only [zq,Act.put]);refine zqt (i:=1) (v:=?v1a2) ?y1a2 ?r1a2
  case y1a2 =>
    intro u hSu;(try dsimp only at hSu);obtain ⟨p0,p1,p2,p3,p4,p5,p6,p7,p8,p9,p10,p11,p12,p13,p14,p15,p16,p17,p18,p19,p20,p21,p22⟩:=hSu.2.1.use;clear p0 p1 p2 p3 p4 p5 p6 p7 p8 p9 p10 p11 p12 p13 p16 p17 p18 p19 p20 p21 p22;go_simp;(try with_reducible rfl)
  (try simp only [zq,Act.put]);refine zqt (i:=2) (v:=?v2a2) ?y2a2 ?r2a2
  case y2a2 =>
    intro u hSu;go_simp;(try with_reducible rfl)
  (try simp only [zq,Act.put]);refine zqt (i:=3) (v:=?v3a2) ?y3a2 ?r3a2
  case y3a2 =>
    intro u hSu;go_simp;(try with_reducible rfl)
  (try simp only [zq,Act.put]);refine zqt (i:=4) (v:=?v4a2) ?y4a2 ?r4a2
  case y4a2 =>
    intro u hSu;(try dsimp only at hSu);have q0:=(hSu.1.cell (p:=⟨g,o,none⟩) hg).trans C0.out;go_simp;(try with_reducible rfl)
  (try simp only [zq,Act.put]);refine zqt (i:=5) (v:=?v5a2) ?y5a2 ?r5a2
  case y5a2 =>
    intro u hSu;go_simp;(try with_reducible rfl)
  (try simp only [zq,Act.put]);refine zqt (i:=6) (v:=?v6a2) ?y6a2 ?r6a2
  case y6a2 =>
    intro u hSu;go_simp;(try with_reducible rfl)
  (try simp only [zq,Act.put]);refine zqt (i:=7) (v:=?v7a2) ?y7a2 ?r7a2
  case y7a2 =>
    intro u hSu;(try dsimp only at hSu);have q1:=(hSu.1.cell (p:=⟨g,o + 1,none⟩) hg).trans C1.out;go_simp;(try with_reducible rfl)
  (try simp only [zq,Act.put]);refine zqt (i:=8) (v:=vmV k) (fun u hSu => exec_vl _ rfl w.heap.size k rfl hSu.2.1) ?_;(try simp only [zq,Act.put]);have S0:=hHeld;clear hHeld;refine wpAnyH_ready (rs:=[9,16]) (by kernel_rfl) (by simp) ?_;refine AllReadyH.cons (o:=_) rfl (fun K hK => ?_) (AllReadyH.cons (o:=_) rfl (fun K hK => ?_) AllReadyH.nil)
  case refine_1 =>
    go_simp;refine (HB0.out _ (V0.out.keep S0.1)).mono ?_;rintro e u0 ⟨rfl,b0⟩;(go_wp2_with fail);refine hK.out _ _ ⟨below_then S0.1 b0,S0.2.1.keep b0,S0.2.2.keep b0⟩ (fun S1 => ?_);clear hK K;(try simp only [zq,Act.put]);refine wpAnyH_ready (rs:=[10,16]) (by kernel_rfl) (by simp) ?_;refine AllReadyH.cons (o:=_) rfl (fun K hK => ?_) (AllReadyH.cons (o:=_) rfl (fun K hK => ?_) AllReadyH.nil)
    case refine_1 =>
      go_simp;refine (HD.out _ (V0.out.keep S1.1).q).mono ?_;rintro e u1 ⟨A2,n2,c2,rfl,hr,b1⟩;have HR0:=zqh hr;clear hr;(go_wp2_with fail);refine hK.out _ _ ⟨below_then S1.1 b1,S1.2.1.keep b1,S1.2.2.keep b1⟩ (fun S2 => ?_);clear hK K;(try simp only [zq,Act.put]);refine zqt (i:=11) (v:=?v11oneDigit_anyA) ?y11oneDigit_anyA ?r11oneDigit_anyA
      case y11oneDigit_anyA =>
        intro u hSu;go_simp;(try with_reducible rfl)
      (try simp only [zq,Act.put]);refine zqt (i:=12) (v:=?v12oneDigit_anyA) ?y12oneDigit_anyA ?r12oneDigit_anyA
      case y12oneDigit_anyA =>
        intro u hSu;go_simp;(try with_reducible rfl)
      (try simp only [zq,Act.put]);refine zqt (i:=13) (v:=?v13oneDigit_anyA) ?y13oneDigit_anyA ?r13oneDigit_anyA
      case y13oneDigit_anyA =>
        intro u hSu;go_simp;(try with_reducible rfl)
      (try simp only [zq,Act.put]);refine zqt (i:=14) (v:=?v14oneDigit_anyA) ?y14oneDigit_anyA ?r14oneDigit_anyA
      case y14oneDigit_anyA =>
        intro u hSu;go_simp;(try with_reducible rfl)
      (try simp only [zq,Act.put]);refine zqt (i:=15) (v:=?v15oneDigit_anyA) ?y15oneDigit_anyA ?r15oneDigit_anyA
      case y15oneDigit_anyA =>
        intro u hSu;go_simp;(try with_reducible rfl)
      (try simp only [zq,Act.put]);refine zqr 16 fun K hK => ?_
      have P2:=zqh (pbox_new u1 none 0 0 false);have L2:=zqh S2.1.size;go_simp;(go_wp2_with fail);refine hK.out _ _ ⟨below_then S2.1 (al_one u1 (.cells #[.slice none 0 0,.bool false] 32)),S2.2.1.keep (al_one u1 (.cells #[.slice none 0 0,.bool false] 32)),S2.2.2.keep (al_one u1 (.cells #[.slice none 0 0,.bool false] 32))⟩ (fun S3 => ?_);clear hK K;(try simp only [zq,Act.put]);have HRa:=HR0.out.keep (al_one u1 (.cells #[.slice none 0 0,.bool false] 32));have P9:=P2.out;clear P2;generalize hua : World.alloc u1 _ = ua at P9 S3 HRa ⊢;refine zqr 17 fun K hK => ?_
      have PB:=zqh P9;have HG : Hid (w.heap.size ≤ u1.heap.size ∧ w.heap.size ≠ u1.heap.size ∧ w.heap.size + 1 ≠ u1.heap.size):=by
        show _ ∧ _ ∧ _;have:=S3.2.1.lt;have:=S3.2.2.lt;have:=KZ.out;have:=b0.size; have:=b1.size;omega
      have HR:=zqh HRa;obtain ⟨z0,z1,z2,z3⟩:=PB.out.use;go_simp;(go_wp2_with fail);refine hK.out _ _ ⟨(S3.1.setCell HG.out.1 _).setCell HG.out.1 _,vset_far (vset_far S3.2.1 HG.out.2.1) HG.out.2.1,vset_far (vset_far S3.2.2 HG.out.2.2) HG.out.2.2⟩ (fun S9 => ?_);clear hK K z0 z1 z2 z3;(try simp only [zq,Act.put]);generalize hu : World.setCell _ _ _ = u at S9 ⊢;have PU : Hid (PBox u u1.heap.size A2 n2 c2 k.qo):=by show Box _ _ _ _ _; rw [← hu]; exact PB.out.put _ _
      have HRU : Hid (Byt u (.slice A2 n2 c2) T):=by
        show Byt _ _ _;rw [← hu];refine byt_across HR.out (by simp [World.setCell]) fun b hb => ?_
        by_cases e : b = u1.heap.size
        · rw [e]
          exact .inr (box_nou8 PB.out (fun i => by simp) (fun i => by simp))
        · exact .inl ((Below.heap_setCell _ _ _ _ e).trans (Below.heap_setCell _ _ _ _ e))
      have SU:=zqh S9;clear hu S9 PB HR;refine zqt (i:=18) (v:=?v18oneDigit_anyA2) ?y18oneDigit_anyA2 ?r18oneDigit_anyA2
      case y18oneDigit_anyA2 =>
        intro u hSu;go_simp;(try with_reducible rfl)
      (try simp only [zq,Act.put]);refine zqt (i:=19) (v:=?v19oneDigit_anyA2) ?y19oneDigit_anyA2 ?r19oneDigit_anyA2
      case y19oneDigit_anyA2 =>
        intro u hSu;go_simp;(try with_reducible rfl)
      (try simp only [zq,Act.put]);refine zqt (i:=20) (v:=?v20oneDigit_anyA2) ?y20oneDigit_anyA2 ?r20oneDigit_anyA2
      case y20oneDigit_anyA2 =>
        intro u hSu;go_simp;(try with_reducible rfl)
      (try simp only [zq,Act.put]);refine wpAnyH_done (by kernel_rfl) ?_ _;refine NoPanic.normal ?_;obtain ⟨BU,XU,ZU⟩:=SU.out;have X3:=zqh XU;have Z3:=zqh ZU;have B3:=zqh BU;have F14:=XU.free.2.2.2.2.2.2.2.2.2.2.2.2.2.2.1;have F15:=XU.free.2.2.2.2.2.2.2.2.2.2.2.2.2.2.2.1;obtain ⟨p0,p1,p2,p3,p4,p5,p6,p7,p8,p9,p10,p11,p12,p13,P14,P15,p16,p17,p18,p19,p20,p21,p22⟩:=XU.use;clear p0 p1 p2 p3 p4 p5 p6 p7 p8 p9 p10 p11 p12 p13 p16 p17 p18 p19 p20 p21 p22;obtain ⟨z0,z1,_,_⟩:=PU.out.use;clear BU XU ZU SU;go_upto_region 3 with fail
      generalize hV : World.setCell _ _ _ = V2;have XX : Hid (VBox V2 w.heap.size { k with qA:=A2,qn:=n2,qc:=c2,qo:=k.qo }):=by show VBox _ _ _; rw [← hV]; exact (X3.out.put_q _ _ _).set_qo _
      have ZX : Hid (VBox V2 (w.heap.size + 1) vm0):=by show VBox _ _ _; rw [← hV]; exact vset_far (vset_far Z3.out (by omega)) (by omega)
      have BX : Hid (Below w.heap.size w V2):=by show Below _ _ _; rw [← hV]; exact (B3.out.setCell (Nat.le_refl _) _).setCell (Nat.le_refl _) _
      have EX : Hid (Ex (fun g => g = w.heap.size ∨ g = w.heap.size + 1) u V2):=by show Ex _ _ _; rw [← hV]; exact ((Ex.refl _ _).cell (.inl rfl) _).cell (.inl rfl) _
      clear hV F14 F15 P14 P15 z0 z1;have ZY:=zqh (ZX.out.keep (al_one V2 (.cells #[.int .i64 lo,.int .i64 hi] 3)));have BY:=zqh (below_then BX.out (al_one V2 (.cells #[.int .i64 lo,.int .i64 hi] 3)));have EY:=zqh (EX.out.below (al_one V2 (.cells #[.int .i64 lo,.int .i64 hi] 3)));have RY:=zqh (rowN_two V2 lo hi);have SY:=zqh EX.out.size;(go_wp2_with (first | (refine wpList_vload (by rfl) _ rfl w.heap.size _ rfl XX.out ?_) | (refine wpList_vstore (by rfl) _ _ rfl (w.heap.size + 1) vm0 _ rfl rfl ZY.out ?_)));have kb2:=below_setRow BY.out (show w.heap.size ≤ w.heap.size + 1 by omega) (vmC { k with qA:=A2,qn:=n2,qc:=c2,qo:=k.qo });refine bodyPost_ret (res_ctt rfl _ _ _ _ rfl (vrow ZY.out _)) rfl ⟨{ k with qA:=A2,qn:=n2,qc:=c2,qo:=k.qo },_,_,_,rfl,fun hz => ?_,kb2⟩;have v3:=V0.out.keep B3.out;have hl : MLoc (w.heap.size + 1 + 1) { k with qA:=A2,qn:=n2,qc:=c2,qo:=k.qo } k:=⟨.refl _ _ _,.refl _ _ _,.refl _ _ _,⟨rfl,rfl⟩,⟨rfl,rfl⟩,⟨rfl,rfl⟩,⟨rfl,rfl⟩⟩;have hj : IsVm u { k with qA:=A2,qn:=n2,qc:=c2,qo:=k.qo } { L with q:=T }:=⟨v3.m,v3.d,v3.r,v3.f,v3.dict,v3.o,HRU.out,v3.e,v3.h⟩;refine ⟨V0.out.ex hj hl (EY.out.row (.inr rfl) _) ?_,⟨rfl,rfl,rfl,rfl,rfl,rfl,rfl,rfl,rfl,rfl,rfl,rfl,rfl⟩,hl.le (by omega),?_⟩
      · intro g hg h
        rcases h with rfl | rfl
        · exact ⟨by omega,by omega,vbox_nou8 X3.out⟩
        · exact ⟨by omega,by omega,vbox_nou8 Z3.out⟩
      · exact ((RY.out.le (by have:=SY.out; have:=Z3.out.lt; omega : w.heap.size + 1 + 1 ≤ V2.heap.size)).row_set (by omega : w.heap.size + 1 < w.heap.size + 1 + 1) _).le (by omega)
    case refine_2 =>
      have P1:=zqh (pbox_new u0 none 0 0 false);have L1:=zqh S1.1.size;go_simp;(go_wp2_with fail);refine hK.out _ _ ⟨below_then S1.1 (al_one u0 (.cells #[.slice none 0 0,.bool false] 32)),S1.2.1.keep (al_one u0 (.cells #[.slice none 0 0,.bool false] 32)),S1.2.2.keep (al_one u0 (.cells #[.slice none 0 0,.bool false] 32))⟩ (fun S2 => ?_);clear hK K;(try simp only [zq,Act.put]);refine zqr 10 fun K hK => ?_
      go_simp;refine (HD.out _ (V0.out.keep S2.1).q).mono ?_;rintro e u1 ⟨A2,n2,c2,rfl,hr,b2⟩;have HR0:=zqh hr;clear hr;(go_wp2_with fail);refine hK.out _ _ ⟨below_then S2.1 b2,S2.2.1.keep b2,S2.2.2.keep b2⟩ (fun S3 => ?_);clear hK K;(try simp only [zq,Act.put]);refine zqt (i:=11) (v:=?v11oneDigit_anyB) ?y11oneDigit_anyB ?r11oneDigit_anyB
      case y11oneDigit_anyB =>
        intro u hSu;go_simp;(try with_reducible rfl)
      (try simp only [zq,Act.put]);refine zqt (i:=12) (v:=?v12oneDigit_anyB) ?y12oneDigit_anyB ?r12oneDigit_anyB
      case y12oneDigit_anyB =>
        intro u hSu;go_simp;(try with_reducible rfl)
      (try simp only [zq,Act.put]);refine zqt (i:=13) (v:=?v13oneDigit_anyB) ?y13oneDigit_anyB ?r13oneDigit_anyB
      case y13oneDigit_anyB =>
        intro u hSu;go_simp;(try with_reducible rfl)
      (try simp only [zq,Act.put]);refine zqt (i:=14) (v:=?v14oneDigit_anyB) ?y14oneDigit_anyB ?r14oneDigit_anyB
      case y14oneDigit_anyB =>
        intro u hSu;go_simp;(try with_reducible rfl)
      (try simp only [zq,Act.put]);refine zqt (i:=15) (v:=?v15oneDigit_anyB) ?y15oneDigit_anyB ?r15oneDigit_anyB
      case y15oneDigit_anyB =>
        intro u hSu;go_simp;(try with_reducible rfl)
      (try simp only [zq,Act.put]);refine zqr 17 fun K hK => ?_
      have PB:=zqh (P1.out.keep b2);have HG : Hid (w.heap.size ≤ u0.heap.size ∧ w.heap.size ≠ u0.heap.size ∧ w.heap.size + 1 ≠ u0.heap.size):=by
        show _ ∧ _ ∧ _;have:=S3.2.1.lt;have:=S3.2.2.lt;have:=KZ.out;have:=b0.size;omega
      have HR:=zqh HR0.out;obtain ⟨z0,z1,z2,z3⟩:=PB.out.use;go_simp;(go_wp2_with fail);refine hK.out _ _ ⟨(S3.1.setCell HG.out.1 _).setCell HG.out.1 _,vset_far (vset_far S3.2.1 HG.out.2.1) HG.out.2.1,vset_far (vset_far S3.2.2 HG.out.2.2) HG.out.2.2⟩ (fun S9 => ?_);clear hK K z0 z1 z2 z3;(try simp only [zq,Act.put]);generalize hu : World.setCell _ _ _ = u at S9 ⊢;have PU : Hid (PBox u u0.heap.size A2 n2 c2 k.qo):=by show Box _ _ _ _ _; rw [← hu]; exact PB.out.put _ _
      have HRU : Hid (Byt u (.slice A2 n2 c2) T):=by
        show Byt _ _ _;rw [← hu];refine byt_across HR.out (by simp [World.setCell]) fun b hb => ?_
        by_cases e : b = u0.heap.size
        · rw [e]
          exact .inr (box_nou8 PB.out (fun i => by simp) (fun i => by simp))
        · exact .inl ((Below.heap_setCell _ _ _ _ e).trans (Below.heap_setCell _ _ _ _ e))
      have SU:=zqh S9;clear hu S9 PB HR;refine zqt (i:=18) (v:=?v18oneDigit_anyB2) ?y18oneDigit_anyB2 ?r18oneDigit_anyB2
      case y18oneDigit_anyB2 =>
        intro u hSu;go_simp;(try with_reducible rfl)
      (try simp only [zq,Act.put]);refine zqt (i:=19) (v:=?v19oneDigit_anyB2) ?y19oneDigit_anyB2 ?r19oneDigit_anyB2
      case y19oneDigit_anyB2 =>
        intro u hSu;go_simp;(try with_reducible rfl)
      (try simp only [zq,Act.put]);refine zqt (i:=20) (v:=?v20oneDigit_anyB2) ?y20oneDigit_anyB2 ?r20oneDigit_anyB2
      case y20oneDigit_anyB2 =>
        intro u hSu;go_simp;(try with_reducible rfl)
      (try simp only [zq,Act.put]);refine wpAnyH_done (by kernel_rfl) ?_ _;refine NoPanic.normal ?_;obtain ⟨BU,XU,ZU⟩:=SU.out;have X3:=zqh XU;have Z3:=zqh ZU;have B3:=zqh BU;have F14:=XU.free.2.2.2.2.2.2.2.2.2.2.2.2.2.2.1;have F15:=XU.free.2.2.2.2.2.2.2.2.2.2.2.2.2.2.2.1;obtain ⟨p0,p1,p2,p3,p4,p5,p6,p7,p8,p9,p10,p11,p12,p13,P14,P15,p16,p17,p18,p19,p20,p21,p22⟩:=XU.use;clear p0 p1 p2 p3 p4 p5 p6 p7 p8 p9 p10 p11 p12 p13 p16 p17 p18 p19 p20 p21 p22;obtain ⟨z0,z1,_,_⟩:=PU.out.use;clear BU XU ZU SU;go_upto_region 3 with fail
      generalize hV : World.setCell _ _ _ = V2;have XX : Hid (VBox V2 w.heap.size { k with qA:=A2,qn:=n2,qc:=c2,qo:=k.qo }):=by show VBox _ _ _; rw [← hV]; exact (X3.out.put_q _ _ _).set_qo _
      have ZX : Hid (VBox V2 (w.heap.size + 1) vm0):=by show VBox _ _ _; rw [← hV]; exact vset_far (vset_far Z3.out (by omega)) (by omega)
      have BX : Hid (Below w.heap.size w V2):=by show Below _ _ _; rw [← hV]; exact (B3.out.setCell (Nat.le_refl _) _).setCell (Nat.le_refl _) _
      have EX : Hid (Ex (fun g => g = w.heap.size ∨ g = w.heap.size + 1) u V2):=by show Ex _ _ _; rw [← hV]; exact ((Ex.refl _ _).cell (.inl rfl) _).cell (.inl rfl) _
      clear hV F14 F15 P14 P15 z0 z1;have ZY:=zqh (ZX.out.keep (al_one V2 (.cells #[.int .i64 lo,.int .i64 hi] 3)));have BY:=zqh (below_then BX.out (al_one V2 (.cells #[.int .i64 lo,.int .i64 hi] 3)));have EY:=zqh (EX.out.below (al_one V2 (.cells #[.int .i64 lo,.int .i64 hi] 3)));have RY:=zqh (rowN_two V2 lo hi);have SY:=zqh EX.out.size;(go_wp2_with (first | (refine wpList_vload (by rfl) _ rfl w.heap.size _ rfl XX.out ?_) | (refine wpList_vstore (by rfl) _ _ rfl (w.heap.size + 1) vm0 _ rfl rfl ZY.out ?_)));have kb2:=below_setRow BY.out (show w.heap.size ≤ w.heap.size + 1 by omega) (vmC { k with qA:=A2,qn:=n2,qc:=c2,qo:=k.qo });refine bodyPost_ret (res_ctt rfl _ _ _ _ rfl (vrow ZY.out _)) rfl ⟨{ k with qA:=A2,qn:=n2,qc:=c2,qo:=k.qo },_,_,_,rfl,fun hz => ?_,kb2⟩;have v3:=V0.out.keep B3.out;have hl : MLoc (w.heap.size + 1 + 1) { k with qA:=A2,qn:=n2,qc:=c2,qo:=k.qo } k:=⟨.refl _ _ _,.refl _ _ _,.refl _ _ _,⟨rfl,rfl⟩,⟨rfl,rfl⟩,⟨rfl,rfl⟩,⟨rfl,rfl⟩⟩;have hj : IsVm u { k with qA:=A2,qn:=n2,qc:=c2,qo:=k.qo } { L with q:=T }:=⟨v3.m,v3.d,v3.r,v3.f,v3.dict,v3.o,HRU.out,v3.e,v3.h⟩;refine ⟨V0.out.ex hj hl (EY.out.row (.inr rfl) _) ?_,⟨rfl,rfl,rfl,rfl,rfl,rfl,rfl,rfl,rfl,rfl,rfl,rfl,rfl⟩,hl.le (by omega),?_⟩
      · intro g hg h
        rcases h with rfl | rfl
        · exact ⟨by omega,by omega,vbox_nou8 X3.out⟩
        · exact ⟨by omega,by omega,vbox_nou8 Z3.out⟩
      · exact ((RY.out.le (by have:=SY.out; have:=Z3.out.lt; omega : w.heap.size + 1 + 1 ≤ V2.heap.size)).row_set (by omega : w.heap.size + 1 < w.heap.size + 1 + 1) _).le (by omega)
  case refine_2 =>
    have P0:=zqh (pbox_new w1.drew none 0 0 false);have L0:=zqh S0.1.size;go_simp;(go_wp2_with fail);refine hK.out _ _ ⟨below_then S0.1 (al_one w1.drew (.cells #[.slice none 0 0,.bool false] 32)),S0.2.1.keep (al_one w1.drew (.cells #[.slice none 0 0,.bool false] 32)),S0.2.2.keep (al_one w1.drew (.cells #[.slice none 0 0,.bool false] 32))⟩ (fun S1 => ?_);clear hK K;(try simp only [zq,Act.put]);refine zqr 9 fun K hK => ?_
    go_simp;refine (HB0.out _ (V0.out.keep S1.1)).mono ?_;rintro e u0 ⟨rfl,b1⟩;(go_wp2_with fail);refine hK.out _ _ ⟨below_then S1.1 b1,S1.2.1.keep b1,S1.2.2.keep b1⟩ (fun S2 => ?_);clear hK K;(try simp only [zq,Act.put]);refine zqr 10 fun K hK => ?_
    go_simp;refine (HD.out _ (V0.out.keep S2.1).q).mono ?_;rintro e u1 ⟨A2,n2,c2,rfl,hr,b2⟩;have HR0:=zqh hr;clear hr;(go_wp2_with fail);refine hK.out _ _ ⟨below_then S2.1 b2,S2.2.1.keep b2,S2.2.2.keep b2⟩ (fun S3 => ?_);clear hK K;(try simp only [zq,Act.put]);refine zqt (i:=11) (v:=?v11oneDigit_anyC) ?y11oneDigit_anyC ?r11oneDigit_anyC
    case y11oneDigit_anyC =>
      intro u hSu;go_simp;(try with_reducible rfl)
    (try simp only [zq,Act.put]);refine zqt (i:=12) (v:=?v12oneDigit_anyC) ?y12oneDigit_anyC ?r12oneDigit_anyC
    case y12oneDigit_anyC =>
      intro u hSu;go_simp;(try with_reducible rfl)
    (try simp only [zq,Act.put]);refine zqt (i:=13) (v:=?v13oneDigit_anyC) ?y13oneDigit_anyC ?r13oneDigit_anyC
    case y13oneDigit_anyC =>
      intro u hSu;go_simp;(try with_reducible rfl)
    (try simp only [zq,Act.put]);refine zqt (i:=14) (v:=?v14oneDigit_anyC) ?y14oneDigit_anyC ?r14oneDigit_anyC
    case y14oneDigit_anyC =>
      intro u hSu;go_simp;(try with_reducible rfl)
    (try simp only [zq,Act.put]);refine zqt (i:=15) (v:=?v15oneDigit_anyC) ?y15oneDigit_anyC ?r15oneDigit_anyC
    case y15oneDigit_anyC =>
      intro u hSu;go_simp;(try with_reducible rfl)
    (try simp only [zq,Act.put]);refine zqr 17 fun K hK => ?_
    have PB:=zqh (show PBox u1 w1.heap.size none 0 0 false from (P0.out.keep b1).keep b2);have HG : Hid (w.heap.size ≤ w1.heap.size ∧ w.heap.size ≠ w1.heap.size ∧ w.heap.size + 1 ≠ w1.heap.size):=by
      show _ ∧ _ ∧ _;have:=S3.2.1.lt;have:=S3.2.2.lt;have:=KZ.out;have:=KS.out;omega
    have HR:=zqh HR0.out;obtain ⟨z0,z1,z2,z3⟩:=PB.out.use;go_simp;(go_wp2_with fail);refine hK.out _ _ ⟨(S3.1.setCell HG.out.1 _).setCell HG.out.1 _,vset_far (vset_far S3.2.1 HG.out.2.1) HG.out.2.1,vset_far (vset_far S3.2.2 HG.out.2.2) HG.out.2.2⟩ (fun S9 => ?_);clear hK K z0 z1 z2 z3;(try simp only [zq,Act.put]);generalize hu : World.setCell _ _ _ = u at S9 ⊢;have PU : Hid (PBox u w1.heap.size A2 n2 c2 k.qo):=by show Box _ _ _ _ _; rw [← hu]; exact PB.out.put _ _
    have HRU : Hid (Byt u (.slice A2 n2 c2) T):=by
      show Byt _ _ _;rw [← hu];refine byt_across HR.out (by simp [World.setCell]) fun b hb => ?_
      by_cases e : b = w1.heap.size
      · rw [e]
        exact .inr (box_nou8 PB.out (fun i => by simp) (fun i => by simp))
      · exact .inl ((Below.heap_setCell _ _ _ _ e).trans (Below.heap_setCell _ _ _ _ e))
    have SU:=zqh S9;clear hu S9 PB HR;refine zqt (i:=18) (v:=?v18oneDigit_anyC2) ?y18oneDigit_anyC2 ?r18oneDigit_anyC2
    case y18oneDigit_anyC2 =>
      intro u hSu;go_simp;(try with_reducible rfl)
    (try simp only [zq,Act.put]);refine zqt (i:=19) (v:=?v19oneDigit_anyC2) ?y19oneDigit_anyC2 ?r19oneDigit_anyC2
    case y19oneDigit_anyC2 =>
      intro u hSu;go_simp;(try with_reducible rfl)
    (try simp only [zq,Act.put]);refine zqt (i:=20) (v:=?v20oneDigit_anyC2) ?y20oneDigit_anyC2 ?r20oneDigit_anyC2
    case y20oneDigit_anyC2 =>
      intro u hSu;go_simp;(try with_reducible rfl)
    (try simp only [zq,Act.put]);refine wpAnyH_done (by kernel_rfl) ?_ _;refine NoPanic.normal ?_;obtain ⟨BU,XU,ZU⟩:=SU.out;have X3:=zqh XU;have Z3:=zqh ZU;have B3:=zqh BU;have F14:=XU.free.2.2.2.2.2.2.2.2.2.2.2.2.2.2.1;have F15:=XU.free.2.2.2.2.2.2.2.2.2.2.2.2.2.2.2.1;obtain ⟨p0,p1,p2,p3,p4,p5,p6,p7,p8,p9,p10,p11,p12,p13,P14,P15,p16,p17,p18,p19,p20,p21,p22⟩:=XU.use;clear p0 p1 p2 p3 p4 p5 p6 p7 p8 p9 p10 p11 p12 p13 p16 p17 p18 p19 p20 p21 p22;obtain ⟨z0,z1,_,_⟩:=PU.out.use;clear BU XU ZU SU;go_upto_region 3 with fail
    generalize hV : World.setCell _ _ _ = V2;have XX : Hid (VBox V2 w.heap.size { k with qA:=A2,qn:=n2,qc:=c2,qo:=k.qo }):=by show VBox _ _ _; rw [← hV]; exact (X3.out.put_q _ _ _).set_qo _
    have ZX : Hid (VBox V2 (w.heap.size + 1) vm0):=by show VBox _ _ _; rw [← hV]; exact vset_far (vset_far Z3.out (by omega)) (by omega)
    have BX : Hid (Below w.heap.size w V2):=by show Below _ _ _; rw [← hV]; exact (B3.out.setCell (Nat.le_refl _) _).setCell (Nat.le_refl _) _
    have EX : Hid (Ex (fun g => g = w.heap.size ∨ g = w.heap.size + 1) u V2):=by show Ex _ _ _; rw [← hV]; exact ((Ex.refl _ _).cell (.inl rfl) _).cell (.inl rfl) _
    clear hV F14 F15 P14 P15 z0 z1;have ZY:=zqh (ZX.out.keep (al_one V2 (.cells #[.int .i64 lo,.int .i64 hi] 3)));have BY:=zqh (below_then BX.out (al_one V2 (.cells #[.int .i64 lo,.int .i64 hi] 3)));have EY:=zqh (EX.out.below (al_one V2 (.cells #[.int .i64 lo,.int .i64 hi] 3)));have RY:=zqh (rowN_two V2 lo hi);have SY:=zqh EX.out.size;(go_wp2_with (first | (refine wpList_vload (by rfl) _ rfl w.heap.size _ rfl XX.out ?_) | (refine wpList_vstore (by rfl) _ _ rfl (w.heap.size + 1) vm0 _ rfl rfl ZY.out ?_)));have kb2:=below_setRow BY.out (show w.heap.size ≤ w.heap.size + 1 by omega) (vmC { k with qA:=A2,qn:=n2,qc:=c2,qo:=k.qo });refine bodyPost_ret (res_ctt rfl _ _ _ _ rfl (vrow ZY.out _)) rfl ⟨{ k with qA:=A2,qn:=n2,qc:=c2,qo:=k.qo },_,_,_,rfl,fun hz => ?_,kb2⟩;have v3:=V0.out.keep B3.out;have hl : MLoc (w.heap.size + 1 + 1) { k with qA:=A2,qn:=n2,qc:=c2,qo:=k.qo } k:=⟨.refl _ _ _,.refl _ _ _,.refl _ _ _,⟨rfl,rfl⟩,⟨rfl,rfl⟩,⟨rfl,rfl⟩,⟨rfl,rfl⟩⟩;have hj : IsVm u { k with qA:=A2,qn:=n2,qc:=c2,qo:=k.qo } { L with q:=T }:=⟨v3.m,v3.d,v3.r,v3.f,v3.dict,v3.o,HRU.out,v3.e,v3.h⟩;refine ⟨V0.out.ex hj hl (EY.out.row (.inr rfl) _) ?_,⟨rfl,rfl,rfl,rfl,rfl,rfl,rfl,rfl,rfl,rfl,rfl,rfl,rfl⟩,hl.le (by omega),?_⟩
    · intro g hg h
      rcases h with rfl | rfl
      · exact ⟨by omega,by omega,vbox_nou8 X3.out⟩
      · exact ⟨by omega,by omega,vbox_nou8 Z3.out⟩
    · exact ((RY.out.le (by have:=SY.out; have:=Z3.out.lt; omega : w.heap.size + 1 + 1 ≤ V2.heap.size)).row_set (by omega : w.heap.size + 1 < w.heap.size + 1 + 1) _).le (by omega)
end Go.Proofs.YtlgnijhemfkflaaGreatDoor

namespace Go.Proofs.YtlgnijhemfkflaaGreatDoor
open Go.RowKit


theorem ended_any (k : VmK) (L : VmL) (A : Option Addr) (c : Nat) (w : World) (ok : Ok k L) (h : IsVm w k L) : Calls Tryz.prog 150 #[vmV k,.slice A 2 c] w (ActOut (e117 k L 0 0) k w):=by
  have hn:=(ok.mem h).n1;have hn2:=(ok.mem h).n2;have hk1:=(ok.mem h).k1;have hlen:=h.m.len1;have HE:=zqh fun w h => end_any k.qA k.qn k.qc k.qo L.q w h (by have:=ok.q1; omega)
  have hq : (endL k.qo L.q).length ≤ 900:=by have:=ok.q1; unfold endL; split <;> simp <;> omega
  have V0:=zqh h;unfold e117;rw [hlen];have HW:=zqh fun w (u : Value) (hu : Byt w u (endL k.qo L.q)) (hm : IsMem w (.agg #[.slice k.mA k.mn k.mc,.slice k.pA k.pn k.pc]) L.m) => write_slp L.m (endL k.qo L.q) ((k.mn : Int) - 136) w hm hu (by omega) (by have:=hm.len2; omega) (by omega)
  rw [hlen] at HW;generalize endL k.qo L.q = s9 at HE hq HW ⊢
  by_cases h0 : endC k.qo = 0
  · rw [if_pos h0]
    rw [h0] at HE;generalize writeF L.m ((k.mn : Int) - 136) s9 = M at HW ⊢;generalize codeF (okB k.mn ((k.mn : Int) - 136) (s9.length : Int)) = C at HW ⊢;have hsz : (strB s9).size = s9.length:=rfl;have HSZ:=zqh hsz;clear ok h hlen h0 hsz;go_enter Tryz.func150,Tryz.ntmps150;go_upto_region 1 with fail
    generalize hw1 : World.alloc (World.alloc _ _) _ = w1;have kb : Below w.heap.size w w1:=by rw [← hw1]; exact al_two _ _ _
    have kx : VBox w1 w.heap.size k:=by rw [← hw1]; exact (in_two w k _).2
    have kz : VBox w1 (w.heap.size + 1) vm0:=by rw [← hw1]; exact in_two0 w _
    have KS : Hid (w1.heap.size = w.heap.size + 1 + 1):=by show _ = _; rw [← hw1]; exact in_twos w _ _
    clear hw1;have X1:=zqh kx;have Z1:=zqh kz;have B1:=zqh kb;obtain ⟨p0,p1,p2,p3,p4,p5,p6,p7,p8,p9,p10,p11,p12,p13,p14,p15,p16,p17,p18,p19,p20,p21,p22⟩:=kx.use;clear p0 p1 p2 p3 p4 p5 p6 p7 p8 p9 p10 p11 p12 p13 p16 p17 p18 p19 p20 p21 p22;clear kx kz kb;(go_wp2_with fail);refine (HE.out _ (V0.out.keep B1.out).q).mono ?_;rintro e w2 ⟨rfl,bb⟩;have X2:=zqh (X1.out.keep bb);have Z2:=zqh (Z1.out.keep bb);have B2:=zqh (below_then B1.out bb);have S2:=zqh bb.size;clear HE bb X1 Z1 B1 p14 p15;obtain ⟨cc,w9,hcv,hby,hb9⟩:=conv_in s9 w2 (by omega);have B9:=zqh (below_then B2.out hb9);have X9:=zqh (X2.out.keep hb9);have Z9:=zqh (Z2.out.keep hb9);have S9:=zqh hb9.size;have Y9:=zqh hby;obtain ⟨p0,p1,p2,p3,p4,p5,p6,p7,p8,p9,p10,p11,p12,p13,p14,p15,p16,p17,p18,p19,p20,p21,p22⟩:=X2.out.use;clear p0 p1 p2 p3 p4 p7 p8 p9 p10 p11 p12 p13 p14 p15 p16 p17 p18 p19 p20 p21 p22;clear hb9 hby;(go_wp2_with fail);refine (HW.out _ _ Y9.out (V0.out.keep B9.out).m).mono ?_;rintro e w3 ⟨A2,n2,c2,P2,K2,d2,rfl,hr,bb⟩;have X3:=zqh (X9.out.keep bb);have Z3:=zqh (Z9.out.keep bb);have B3:=zqh (below_then B9.out bb);have HR:=zqh hr;have S3:=zqh bb.size;have F5:=X3.out.free.2.2.2.2.2.1;have F6:=X3.out.free.2.2.2.2.2.2.1;clear p5 p6 hcv;obtain ⟨p0,p1,p2,p3,p4,P5,P6,p7,p8,p9,p10,p11,p12,p13,p14,p15,p16,p17,p18,p19,p20,p21,p22⟩:=X3.out.use;clear p0 p1 p2 p3 p4 p7 p8 p9 p10 p11 p12 p13 p14 p15 p16 p17 p18 p19 p20 p21 p22
    clear HW bb hr X2 Z2 B2 X9 Z9 B9 Y9;go_upto_region 6 with fail
    generalize hV : World.setCell _ _ _ = V;have XW : Hid (VBox V w.heap.size { k with mA:=A2,mn:=n2,mc:=c2,pA:=P2,pn:=K2,pc:=d2 }):=by show VBox _ _ _; rw [← hV]; exact (X3.out.put_m _ _ _).put_p _ _ _
    have ZW : Hid (VBox V (w.heap.size + 1) vm0):=by show VBox _ _ _; rw [← hV]; exact vset_far (vset_far Z3.out (by omega)) (by omega)
    have BW : Hid (Below w.heap.size w V):=by show Below _ _ _; rw [← hV]; exact (B3.out.setCell (Nat.le_refl _) _).setCell (Nat.le_refl _) _
    have EW : Hid (Ex (fun g => g = w.heap.size ∨ g = w.heap.size + 1) w3 V):=by show Ex _ _ _; rw [← hV]; exact ((Ex.refl _ _).cell (.inl rfl) _).cell (.inl rfl) _
    clear hV F5 F6 P5 P6;have F14:=XW.out.free.2.2.2.2.2.2.2.2.2.2.2.2.2.2.1;have F15:=XW.out.free.2.2.2.2.2.2.2.2.2.2.2.2.2.2.2.1;obtain ⟨p0,p1,p2,p3,p4,p5,p6,p7,p8,p9,p10,p11,p12,p13,P14,P15,p16,p17,p18,p19,p20,p21,p22⟩:=XW.out.use;clear p0 p1 p2 p3 p4 p5 p6 p7 p8 p9 p10 p11 p12 p13 p16 p17 p18 p19 p20 p21 p22;go_upto_region 7 with fail
    generalize hV : World.setCell _ _ _ = V2;have XX : Hid (VBox V2 w.heap.size { k with mA:=A2,mn:=n2,mc:=c2,pA:=P2,pn:=K2,pc:=d2,qA:=none,qn:=0,qc:=0,qo:=false }):=by show VBox _ _ _; rw [← hV]; exact (XW.out.put_q _ _ _).set_qo _
    have ZX : Hid (VBox V2 (w.heap.size + 1) vm0):=by show VBox _ _ _; rw [← hV]; exact vset_far (vset_far ZW.out (by omega)) (by omega)
    have BX : Hid (Below w.heap.size w V2):=by show Below _ _ _; rw [← hV]; exact (BW.out.setCell (Nat.le_refl _) _).setCell (Nat.le_refl _) _
    have EX : Hid (Ex (fun g => g = w.heap.size ∨ g = w.heap.size + 1) w3 V2):=by show Ex _ _ _; rw [← hV]; exact (EW.out.cell (.inl rfl) _).cell (.inl rfl) _
    clear hV F14 F15 P14 P15 XW ZW BW EW;have hsz:=HSZ.out;have ZY:=zqh (ZX.out.keep (al_one V2 (.cells #[.int .i64 ((k.mn : Int) - 136),.int .i64 (s9.length : Int)] 3)));have BY:=zqh (below_then BX.out (al_one V2 (.cells #[.int .i64 ((k.mn : Int) - 136),.int .i64 (s9.length : Int)] 3)));have EY:=zqh (EX.out.below (al_one V2 (.cells #[.int .i64 ((k.mn : Int) - 136),.int .i64 (s9.length : Int)] 3)));have RY:=zqh (rowN_two V2 ((k.mn : Int) - 136) (s9.length : Int));have SY:=zqh EX.out.size;(go_wp2_with (first | (refine wpList_vload (by rfl) _ rfl w.heap.size _ rfl XX.out ?_) | (refine wpList_vstore (by rfl) _ _ rfl (w.heap.size + 1) vm0 _ rfl rfl ZY.out ?_)));have kb2:=below_setRow BY.out (show w.heap.size ≤ w.heap.size + 1 by omega) (vmC { k with mA:=A2,mn:=n2,mc:=c2,pA:=P2,pn:=K2,pc:=d2,qA:=none,qn:=0,qc:=0,qo:=false });refine bodyPost_ret (res_ctt rfl _ _ _ _ rfl (vrow ZY.out _)) rfl ⟨{ k with mA:=A2,mn:=n2,mc:=c2,pA:=P2,pn:=K2,pc:=d2,qA:=none,qn:=0,qc:=0,qo:=false },_,_,_,rfl,fun hz => ?_,kb2⟩;have hm:=HR.out;have v3:=V0.out.keep B3.out;have hl : MLoc w1.heap.size { k with mA:=A2,mn:=n2,mc:=c2,pA:=P2,pn:=K2,pc:=d2,qA:=none,qn:=0,qc:=0,qo:=false } k:=⟨(hm.2 _ _ _ _ rfl).le (by have:=S2.out; have:=S9.out; omega),.refl _ _ _,.refl _ _ _,⟨rfl,rfl⟩,⟨rfl,rfl⟩,⟨rfl,rfl⟩,⟨rfl,rfl⟩⟩;have hj : IsVm w3 { k with mA:=A2,mn:=n2,mc:=c2,pA:=P2,pn:=K2,pc:=d2,qA:=none,qn:=0,qc:=0,qo:=false } { L with m:=M,q:=[] }:=⟨hm.1,v3.d,v3.r,v3.f,v3.dict,v3.o,byt_nil w3,v3.e,v3.h⟩
    refine ⟨V0.out.ex hj hl (EY.out.row (.inr rfl) _) ?_,⟨rfl,rfl,rfl,rfl,rfl,rfl,rfl,rfl,rfl,rfl,rfl,rfl,rfl⟩,hl.le (by have:=KS.out; omega),?_⟩
    · intro g hg h
      have:=KS.out
      rcases h with rfl | rfl
      · exact ⟨by omega,by omega,vbox_nou8 X3.out⟩
      · exact ⟨by omega,by omega,vbox_nou8 Z3.out⟩
    · exact ((RY.out.le (by have:=SY.out; have:=Z3.out.lt; omega : w.heap.size + 1 + 1 ≤ V2.heap.size)).row_set (by omega : w.heap.size + 1 < w.heap.size + 1 + 1) _).le (by omega)
  · rw [if_neg h0]
    generalize endC k.qo = C at HE h0 ⊢;have hC2 : (C != 0) = true:=by simpa using h0
    clear ok h hlen HW;go_enter Tryz.func150,Tryz.ntmps150;go_upto_region 1 with fail
    generalize hw1 : World.alloc (World.alloc _ _) _ = w1;have kb : Below w.heap.size w w1:=by rw [← hw1]; exact al_two _ _ _
    have kx : VBox w1 w.heap.size k:=by rw [← hw1]; exact (in_two w k _).2
    have kz : VBox w1 (w.heap.size + 1) vm0:=by rw [← hw1]; exact in_two0 w _
    have KS : Hid (w1.heap.size = w.heap.size + 1 + 1):=by show _ = _; rw [← hw1]; exact in_twos w _ _
    clear hw1;have X1:=zqh kx;have Z1:=zqh kz;have B1:=zqh kb;obtain ⟨p0,p1,p2,p3,p4,p5,p6,p7,p8,p9,p10,p11,p12,p13,p14,p15,p16,p17,p18,p19,p20,p21,p22⟩:=kx.use;clear p0 p1 p2 p3 p4 p5 p6 p7 p8 p9 p10 p11 p12 p13 p16 p17 p18 p19 p20 p21 p22;clear kx kz kb;(go_wp2_with fail);refine (HE.out _ (V0.out.keep B1.out).q).mono ?_;rintro e w2 ⟨rfl,bb⟩;have X2:=zqh (X1.out.keep bb);have Z2:=zqh (Z1.out.keep bb);have B2:=zqh (below_then B1.out bb);clear HE bb X1 Z1 B1 p14 p15;(go_wp2_with (first | (refine wpList_vload (by rfl) _ rfl w.heap.size k rfl X2.out ?_) | (refine wpList_vstore (by rfl) _ _ rfl (w.heap.size + 1) vm0 k rfl rfl Z2.out ?_)));have kb2:=below_setRow B2.out (show w.heap.size ≤ w.heap.size + 1 by omega) (vmC k);exact bodyPost_ret (res_ctt rfl _ _ _ _ rfl (vrow Z2.out _)) rfl ⟨k,none,0,0,rfl,fun hz => absurd hz h0,kb2⟩
end Go.Proofs.YtlgnijhemfkflaaGreatDoor
