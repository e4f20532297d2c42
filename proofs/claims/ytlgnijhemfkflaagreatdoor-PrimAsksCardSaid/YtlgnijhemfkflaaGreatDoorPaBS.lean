/- Part 45. -/
import Derived.Test.YtlgnijhemfkflaaGreatDoorPaBR
set_option linter.unusedVariables false
set_option linter.unusedSimpArgs false
set_option maxRecDepth 100000
set_option maxHeartbeats 4000000

namespace Go.Proofs.YtlgnijhemfkflaaGreatDoor
open Go.RowKit


theorem shown_73 : (doE 73 stS (stL [7,-2])).c = 0 ∧ (doE 73 stS (stL [7,-2])).L = stL [-1,-4]:=⟨by decide +kernel,by kernel_rfl⟩
theorem shown_39 : (doE 39 stS (stL [7,-2])).c = 0 ∧ (doE 39 stS (stL [7,-2])).L = stL [5]:=⟨by decide +kernel,by kernel_rfl⟩
theorem shown_83 : (doE 83 stS (stL [7,-2])).c = -9 ∧ (doE 83 stS (stL [7,-2])).L = stL [7,-2]:=⟨by decide +kernel,by kernel_rfl⟩
theorem shown_110 : (doE 110 stS (stL [7,-2])).c = 0 ∧ (doE 110 stS (stL [7,-2])).L = { stL [7] with o:=[45,50,32] }:=⟨by decide +kernel,by kernel_rfl⟩
theorem shown_any (w : World) (HT : Tab w) : Calls Tryz.prog 12 #[] w fun e w' => e = .returned (.bool true) ∧ Below w.heap.size w w':=by
  have T0:=zqh HT;have B0:=zqh (Below.refl w.heap.size w);clear HT;go_enter Tryz.func12,Tryz.ntmps12;(go_wp2_with fail);generalize hwa : World.alloc _ _ = w1;have bb : Below w.heap.size w w1:=by rw [← hwa]; exact al_one _ _
  have hx : Row w1 (some ⟨w.heap.size,0,none⟩) 2 2 [7,-2]:=by rw [← hwa]; exact row_lit _ [7,-2] (by decide)
  clear hwa;have T1:=zqh (T0.out.keep bb);have B1:=zqh (below_then B0.out bb);clear bb T0 B0;refine (stocked_any _ _ _ _ _ hx).mono ?_;rintro e w2 ⟨k,rfl,hv,hs,_,bb⟩;have HS:=zqh hs;clear hx hs;have T2:=zqh (T1.out.keep bb);have B2:=zqh (below_then B1.out bb);have M2:=zqh hv;clear bb T1 B1;clear hv;have HOK:=zqh (ok_st HS.out (l:=[7,-2]) (by decide) (by intro x hx; simp at hx; unfold cellR; omega));go_upto_region 2 with (refine wpList_vstore (by rfl) _ _ rfl _ vm0 k rfl rfl (vbox_zero _) ?_)
  generalize hw3 : World.setRow _ _ _ = w3;have kb : Below w2.heap.size w2 w3:=by rw [← hw3]; exact below_setRow (al_one _ _) (Nat.le_refl _) _
  have hx : VBox w3 w2.heap.size k:=by rw [← hw3]; exact vrow (vbox_zero w2) k
  clear hw3;have T3:=zqh (T2.out.keep kb);have M3:=zqh (M2.out.keep kb);have B3:=zqh (below_then B2.out kb);have V3:=zqh hx;clear kb T2 M2 B2;clear hx;(go_wp2_with (first | (refine wpList_vload (by rfl) _ rfl w2.heap.size k rfl V3.out ?_)));refine (do_at w3 T3.out HOK.out M3.out HS.out shown_73.1 shown_73.2).mono ?_;rintro e w4 ⟨kX,rfl,hv,hs,hl,bb⟩;have HSX:=zqh hs;clear hs hl;have T4:=zqh (T3.out.keep bb);have M4:=zqh (M3.out.keep bb);have V4:=zqh (V3.out.keep bb);have B4:=zqh (below_then B3.out bb);have MX4:=zqh hv;clear bb T3 M3 V3 B3;clear hv;go_upto_region 3 with (refine wpList_vstore (by rfl) _ _ rfl _ vm0 kX rfl rfl (vbox_zero _) ?_)
  generalize hw5 : World.setRow _ _ _ = w5;have kb : Below w4.heap.size w4 w5:=by rw [← hw5]; exact below_setRow (al_one _ _) (Nat.le_refl _) _
  have hx : VBox w5 w4.heap.size kX:=by rw [← hw5]; exact vrow (vbox_zero w4) kX
  clear hw5;have T5:=zqh (T4.out.keep kb);have M5:=zqh (M4.out.keep kb);have V5:=zqh (V4.out.keep kb);have MX5:=zqh (MX4.out.keep kb);have B5:=zqh (below_then B4.out kb);have X5:=zqh hx;clear kb T4 M4 V4 MX4 B4;clear hx;(go_wp2_with (first | (refine wpList_vload (by rfl) _ rfl w2.heap.size k rfl V5.out ?_)));refine (do_at w5 T5.out HOK.out M5.out HS.out shown_39.1 shown_39.2).mono ?_;rintro e w6 ⟨kY,rfl,hv,hs,hl,bb⟩;have HSY:=zqh hs;clear hs hl;have T6:=zqh (T5.out.keep bb);have M6:=zqh (M5.out.keep bb);have V6:=zqh (V5.out.keep bb);have MX6:=zqh (MX5.out.keep bb);have X6:=zqh (X5.out.keep bb);have B6:=zqh (below_then B5.out bb);have MY6:=zqh hv;clear bb T5 M5 V5 MX5 X5 B5;clear hv;go_upto_region 4 with (refine wpList_vstore (by rfl) _ _ rfl _ vm0 kY rfl rfl (vbox_zero _) ?_)
  generalize hw7 : World.setRow _ _ _ = w7;have kb : Below w6.heap.size w6 w7:=by rw [← hw7]; exact below_setRow (al_one _ _) (Nat.le_refl _) _
  have hx : VBox w7 w6.heap.size kY:=by rw [← hw7]; exact vrow (vbox_zero w6) kY
  clear hw7;have T7:=zqh (T6.out.keep kb);have M7:=zqh (M6.out.keep kb);have V7:=zqh (V6.out.keep kb);have MX7:=zqh (MX6.out.keep kb);have X7:=zqh (X6.out.keep kb);have MY7:=zqh (MY6.out.keep kb);have B7:=zqh (below_then B6.out kb);have Y7:=zqh hx;clear kb T6 M6 V6 MX6 X6 MY6 B6;clear hx;(go_wp2_with (first | (refine wpList_vload (by rfl) _ rfl w2.heap.size k rfl V7.out ?_)));refine (do_at w7 T7.out HOK.out M7.out HS.out shown_83.1 shown_83.2).mono ?_;rintro e w8 ⟨kZ,rfl,hv,hs,hl,bb⟩;have HSZ:=zqh hs;clear hs hl;have T8:=zqh (T7.out.keep bb);have M8:=zqh (M7.out.keep bb);have V8:=zqh (V7.out.keep bb);have MX8:=zqh (MX7.out.keep bb);have X8:=zqh (X7.out.keep bb);have MY8:=zqh (MY7.out.keep bb);have Y8:=zqh (Y7.out.keep bb);have B8:=zqh (below_then B7.out bb);have MZ8:=zqh hv;clear bb T7 M7 V7 MX7 X7 MY7 Y7 B7;clear hv;go_upto_region 5 with (refine wpList_vstore (by rfl) _ _ rfl _ vm0 kZ rfl rfl (vbox_zero _) ?_)
  generalize hw9 : World.setRow _ _ _ = w9;have kb : Below w8.heap.size w8 w9:=by rw [← hw9]; exact below_setRow (al_one _ _) (Nat.le_refl _) _
  have hx : VBox w9 w8.heap.size kZ:=by rw [← hw9]; exact vrow (vbox_zero w8) kZ
  clear hw9;have T9:=zqh (T8.out.keep kb);have M9:=zqh (M8.out.keep kb);have V9:=zqh (V8.out.keep kb);have MX9:=zqh (MX8.out.keep kb);have X9:=zqh (X8.out.keep kb);have MY9:=zqh (MY8.out.keep kb);have Y9:=zqh (Y8.out.keep kb);have MZ9:=zqh (MZ8.out.keep kb);have B9:=zqh (below_then B8.out kb);have Z9:=zqh hx;clear kb T8 M8 V8 MX8 X8 MY8 Y8 MZ8 B8;clear hx;have NC:=zqh fun w => number_any 110 (by decide) w
  rw [show strB (nmP 110) = ⟨#[46]⟩ from by kernel_rfl] at NC;have DC:=zqh fun u ht hv => do_at u ht HOK.out hv HS.out shown_110.1 shown_110.2
  go_cut [8,9] (fun s8 s9 wx => ∃ b j2,s8 = .pointer (some ⟨b,0,none⟩) ∧ s9 = .int .i64 0 ∧ Hid (DoneAt w9 wx b j2 k (⟨0,[],(doE 110 stS (stL [7,-2])).K,{ stL [7] with o:=[45,50,32] }⟩ : Eff)))
  case first =>
    refine wp_region_noPanic ?_;refine wp_region_held_drew (S:=fun a9 => Below w9.heap.size w9 a9) (by kernel_rfl) (drew_bel0 _) (fun hHeld => ?_);refine zqt (i:=0) (v:=vmV k) (fun u hSu => exec_vl _ rfl w2.heap.size k rfl (V9.out.keep hSu)) ?_;(try simp only [zq,Act.put]);have W9:=zqh (Below.refl w9.heap.size w9);refine wpAnyH_ready (rs:=[1,6]) (by kernel_rfl) (by simp) ?_;refine AllReadyH.cons (o:=_) rfl (fun K hK => ?_) (AllReadyH.cons (o:=_) rfl (fun K hK => ?_) AllReadyH.nil)
    · skip
      go_simp;refine (NC.out _).mono ?_;rintro e uzn22 ⟨rfl,b9⟩;have hN : Below w9.heap.size w9 uzn22:=by first | exact below_then hHeld b9 | exact below_then (below_then hHeld (drew_bel0 _)) b9
      (go_wp2_with fail);clear hHeld b9;refine hK.out _ _ hN (fun hHeld => ?_);clear hK K hN;(try simp only [zq,Act.put]);refine wpAnyH_ready (rs:=[2,6]) (by kernel_rfl) (by simp) ?_;refine AllReadyH.cons (o:=_) rfl (fun K hK => ?_) (AllReadyH.cons (o:=_) rfl (fun K hK => ?_) AllReadyH.nil)
      · skip
        go_simp;have hltuzn23:=hHeld.size;refine (DC.out _ (T9.out.keep hHeld) (M9.out.keep hHeld)).mono ?_;rintro e uzn23 ⟨j2,rfl,hv,hs,hl,b9⟩;have HV:=zqh hv;have HS:=zqh hs;have HL:=zqh hl;have HU:=zqh (show w9.heap.size ≤ (uzn22).heap.size from hltuzn23);clear hv hs hl hltuzn23;have hN : Below w9.heap.size w9 uzn23:=by first | exact below_then hHeld b9 | exact below_then (below_then hHeld (drew_bel0 _)) b9
        (go_wp2_with fail);clear hHeld b9;refine hK.out _ _ hN (fun hHeld => ?_);clear hK K hN;(try simp only [zq,Act.put]);refine zqt (i:=3) (v:=?v3n24) ?y3n24 ?r3n24
        case y3n24 =>
          intro u hSu;go_simp;(try with_reducible rfl)
        (try simp only [zq,Act.put]);refine zqt (i:=4) (v:=?v4n25) ?y4n25 ?r4n25
        case y4n25 =>
          intro u hSu;go_simp;(try with_reducible rfl)
        (try simp only [zq,Act.put]);refine zqt (i:=5) (v:=?v5n26) ?y5n26 ?r5n26
        case y5n26 =>
          intro u hSu;go_simp;(try with_reducible rfl)
        (try simp only [zq,Act.put]);refine zqr 6 fun K hK => ?_
        go_simp;refine hK.out _ _ (al_th0 hHeld) (fun hHeld2 => ?_);clear hK K;(try simp only [zq,Act.put]);generalize hwa : World.alloc _ _ = uzn27 at hHeld2 ⊢;have hz : VBox uzn27 uzn23.heap.size vm0:=by rw [← hwa]; exact vbox_zero _
        have kz : Below (uzn23).heap.size (uzn23) uzn27:=by rw [← hwa]; exact al_one _ _
        have hge : w9.heap.size ≤ uzn23.heap.size:=hHeld.size;have HZ:=zqh kz;clear hwa hHeld kz;have hHeld:=hHeld2;clear hHeld2;refine zqr 7 fun K hK => ?_
        refine step_vst rfl _ _ rfl (uzn23.heap.size) vm0 j2 rfl rfl hz ?_;have kb2:=below_setRow hHeld hge (vmC j2);have hr2:=vrow hz j2;refine hK.out _ _ kb2 (fun hHeld2 => ?_);clear hK K;(try simp only [zq,Act.put]);refine zqt (i:=8) (v:=?v8n29) ?y8n29 ?r8n29
        case y8n29 =>
          intro u hSu;go_simp;(try with_reducible rfl)
        (try simp only [zq,Act.put]);refine wpAnyH_done (by kernel_rfl) ?_ _;refine NoPanic.normal ?_;(go_wp2_with fail);go_meet;refine ⟨uzn23.heap.size,j2,rfl,rfl,zqh ⟨hge,hr2,?_,HS.out,HL.out.le HU.out,kb2⟩⟩;exact IsVm.ex (X:=fun g => g = uzn23.heap.size) M9.out HV.out HL.out (Ex.row (X:=fun g => g = uzn23.heap.size) (b:=uzn23.heap.size) ((Ex.refl _ _).below HZ.out) rfl _) fun g hg e => by subst e; exact absurd hg (Nat.lt_irrefl _)
      · skip
        go_simp;refine hK.out _ _ (al_th0 hHeld) (fun hHeld2 => ?_);clear hK K;(try simp only [zq,Act.put]);generalize hwa : World.alloc _ _ = uzn210 at hHeld2 ⊢;have hz : VBox uzn210 uzn22.heap.size vm0:=by rw [← hwa]; exact vbox_zero _
        have kz : Below (uzn22).heap.size (uzn22) uzn210:=by rw [← hwa]; exact al_one _ _
        have hge : w9.heap.size ≤ uzn22.heap.size:=hHeld.size;clear hwa hHeld kz;have hHeld:=hHeld2;clear hHeld2;refine zqr 2 fun K hK => ?_
        go_simp;have hltuzn211:=hHeld.size;refine (DC.out _ (T9.out.keep hHeld) (M9.out.keep hHeld)).mono ?_;rintro e uzn211 ⟨j2,rfl,hv,hs,hl,b9⟩;have HV:=zqh hv;have HS:=zqh hs;have HL:=zqh hl;have HU:=zqh (show w9.heap.size ≤ (uzn210).heap.size from hltuzn211);clear hv hs hl hltuzn211;have hz1 : VBox uzn211 (uzn22.heap.size) vm0:=by first | exact hz.keep b9 | exact VBox.keep (w:=World.drew uzn210) hz b9
        have HZ1:=zqh hz.lt;have HZ2:=zqh hz1;clear hz;have hz:=hz1;clear hz1;have hN : Below w9.heap.size w9 uzn211:=by first | exact below_then hHeld b9 | exact below_then (below_then hHeld (drew_bel0 _)) b9
        (go_wp2_with fail);clear hHeld b9;refine hK.out _ _ hN (fun hHeld => ?_);clear hK K hN;(try simp only [zq,Act.put]);refine zqt (i:=3) (v:=?v3n212) ?y3n212 ?r3n212
        case y3n212 =>
          intro u hSu;go_simp;(try with_reducible rfl)
        (try simp only [zq,Act.put]);refine zqt (i:=4) (v:=?v4n213) ?y4n213 ?r4n213
        case y4n213 =>
          intro u hSu;go_simp;(try with_reducible rfl)
        (try simp only [zq,Act.put]);refine zqt (i:=5) (v:=?v5n214) ?y5n214 ?r5n214
        case y5n214 =>
          intro u hSu;go_simp;(try with_reducible rfl)
        (try simp only [zq,Act.put]);refine zqr 7 fun K hK => ?_
        refine step_vst rfl _ _ rfl (uzn22.heap.size) vm0 j2 rfl rfl hz ?_;have kb2:=below_setRow hHeld hge (vmC j2);have hr2:=vrow hz j2;refine hK.out _ _ kb2 (fun hHeld2 => ?_);clear hK K;(try simp only [zq,Act.put]);refine zqt (i:=8) (v:=?v8n216) ?y8n216 ?r8n216
        case y8n216 =>
          intro u hSu;go_simp;(try with_reducible rfl)
        (try simp only [zq,Act.put]);refine wpAnyH_done (by kernel_rfl) ?_ _;refine NoPanic.normal ?_;(go_wp2_with fail);go_meet;refine ⟨uzn22.heap.size,j2,rfl,rfl,zqh ⟨hge,hr2,?_,HS.out,HL.out.le HU.out,kb2⟩⟩;exact IsVm.ex (X:=fun g => g = uzn22.heap.size) M9.out HV.out HL.out (Ex.row (X:=fun g => g = uzn22.heap.size) (b:=uzn22.heap.size) (Ex.refl _ _) rfl _) fun g hg e => by subst e; exact ⟨hge,HZ1.out,vbox_nou8 HZ2.out⟩
    · skip
      go_simp;refine hK.out _ _ (al_th0 hHeld) (fun hHeld2 => ?_);clear hK K;(try simp only [zq,Act.put]);generalize hwa : World.alloc _ _ = uzn217 at hHeld2 ⊢;have hz : VBox uzn217 w9.drew.heap.size vm0:=by rw [← hwa]; exact vbox_zero _
      have kz : Below (w9).heap.size (w9) uzn217:=by rw [← hwa]; exact al_one _ _
      have hge : w9.heap.size ≤ w9.drew.heap.size:=hHeld.size;clear hwa hHeld kz;have hHeld:=hHeld2;clear hHeld2;refine zqr 1 fun K hK => ?_
      go_simp;refine (NC.out _).mono ?_;rintro e uzn218 ⟨rfl,b9⟩;have hz1 : VBox uzn218 (w9.drew.heap.size) vm0:=by first | exact hz.keep b9 | exact VBox.keep (w:=World.drew uzn217) hz b9
      clear hz;have hz:=hz1;clear hz1;have hN : Below w9.heap.size w9 uzn218:=by first | exact below_then hHeld b9 | exact below_then (below_then hHeld (drew_bel0 _)) b9
      (go_wp2_with fail);clear hHeld b9;refine hK.out _ _ hN (fun hHeld => ?_);clear hK K hN;(try simp only [zq,Act.put]);refine zqr 2 fun K hK => ?_
      go_simp;have hltuzn219:=hHeld.size;refine (DC.out _ (T9.out.keep hHeld) (M9.out.keep hHeld)).mono ?_;rintro e uzn219 ⟨j2,rfl,hv,hs,hl,b9⟩;have HV:=zqh hv;have HS:=zqh hs;have HL:=zqh hl;have HU:=zqh (show w9.heap.size ≤ (uzn218).heap.size from hltuzn219);clear hv hs hl hltuzn219;have hz1 : VBox uzn219 (w9.drew.heap.size) vm0:=by first | exact hz.keep b9 | exact VBox.keep (w:=World.drew uzn218) hz b9
      have HZ1:=zqh hz.lt;have HZ2:=zqh hz1;clear hz;have hz:=hz1;clear hz1;have hN : Below w9.heap.size w9 uzn219:=by first | exact below_then hHeld b9 | exact below_then (below_then hHeld (drew_bel0 _)) b9
      (go_wp2_with fail);clear hHeld b9;refine hK.out _ _ hN (fun hHeld => ?_);clear hK K hN;(try simp only [zq,Act.put]);refine zqt (i:=3) (v:=?v3n220) ?y3n220 ?r3n220
      case y3n220 =>
        intro u hSu;go_simp;(try with_reducible rfl)
      (try simp only [zq,Act.put]);refine zqt (i:=4) (v:=?v4n221) ?y4n221 ?r4n221
      case y4n221 =>
        intro u hSu;go_simp;(try with_reducible rfl)
      (try simp only [zq,Act.put]);refine zqt (i:=5) (v:=?v5n222) ?y5n222 ?r5n222
      case y5n222 =>
        intro u hSu;go_simp;(try with_reducible rfl)
      (try simp only [zq,Act.put]);refine zqr 7 fun K hK => ?_
      refine step_vst rfl _ _ rfl (w9.drew.heap.size) vm0 j2 rfl rfl hz ?_;have kb2:=below_setRow hHeld hge (vmC j2);have hr2:=vrow hz j2;refine hK.out _ _ kb2 (fun hHeld2 => ?_);clear hK K;(try simp only [zq,Act.put]);refine zqt (i:=8) (v:=?v8n224) ?y8n224 ?r8n224
      case y8n224 =>
        intro u hSu;go_simp;(try with_reducible rfl)
      (try simp only [zq,Act.put]);refine wpAnyH_done (by kernel_rfl) ?_ _;refine NoPanic.normal ?_;(go_wp2_with fail);go_meet;refine ⟨w9.drew.heap.size,j2,rfl,rfl,zqh ⟨hge,hr2,?_,HS.out,HL.out.le HU.out,kb2⟩⟩;exact IsVm.ex (X:=fun g => g = w9.drew.heap.size) M9.out HV.out HL.out (Ex.row (X:=fun g => g = w9.drew.heap.size) (b:=w9.drew.heap.size) (Ex.refl _ _) rfl _) fun g hg e => by subst e; exact ⟨hge,HZ1.out,vbox_nou8 HZ2.out⟩
  case rest =>
    obtain ⟨b,kP,rfl,rfl,HD⟩:=hcut;obtain ⟨w10,rfl⟩ : ∃ x,x = wc:=⟨_,rfl⟩;have bb:=HD.out.bel;have hp:=HD.out.box;have hv:=HD.out.vm;clear NC DC;have T10:=zqh (T9.out.keep bb);have M10:=zqh (M9.out.keep bb);have V10:=zqh (V9.out.keep bb);have MX10:=zqh (MX9.out.keep bb);have X10:=zqh (X9.out.keep bb);have MY10:=zqh (MY9.out.keep bb);have Y10:=zqh (Y9.out.keep bb);have MZ10:=zqh (MZ9.out.keep bb);have Z10:=zqh (Z9.out.keep bb);have B10:=zqh (below_then B9.out bb);have P10:=zqh hp;have MP10:=zqh hv;clear bb T9 M9 V9 MX9 X9 MY9 Y9 MZ9 Z9 B9;clear hp hv HD;obtain ⟨pX0,pX1,pX2,pX3,pX4,pX5,pX6,pX7,pX8,pX9,pX10,pX11,pX12,pX13,pX14,pX15,pX16,pX17,pX18,pX19,pX20,pX21,pX22⟩:=X10.out.use;clear pX0 pX1 pX2 pX3 pX4 pX5 pX6 pX7 pX9 pX10 pX11 pX12 pX13 pX14 pX15 pX16 pX17 pX18 pX19 pX20 pX21 pX22;(go_wp2_with fail);generalize hwa : World.alloc _ _ = w11;have kb : Below w10.heap.size w10 w11:=by rw [← hwa]; exact al_one _ _
    have hx : Row w11 (some ⟨w10.heap.size,0,none⟩) 2 2 [-1,-4]:=by rw [← hwa]; exact row_lit _ [-1,-4] (by show 2 ≤ 65536; decide)
    clear hwa;have T11:=zqh (T10.out.keep kb);have M11:=zqh (M10.out.keep kb);have V11:=zqh (V10.out.keep kb);have MX11:=zqh (MX10.out.keep kb);have X11:=zqh (X10.out.keep kb);have MY11:=zqh (MY10.out.keep kb);have Y11:=zqh (Y10.out.keep kb);have MZ11:=zqh (MZ10.out.keep kb);have Z11:=zqh (Z10.out.keep kb);have P11:=zqh (P10.out.keep kb);have MP11:=zqh (MP10.out.keep kb);have B11:=zqh (below_then B10.out kb);have R11:=zqh hx;clear kb T10 M10 V10 MX10 X10 MY10 Y10 MZ10 Z10 P10 MP10 B10;clear hx;refine (same_true _ _ _ _ _ _ [-1,-4] [-1,-4] _ (by have:=MX11.out.d.1; rw [← this]; decide) (by decide) (zqh MX11.out.d) (zqh R11.out) (zqh rfl)).mono ?_;rintro e w12 ⟨rfl,bb⟩;clear pX8;have T12:=zqh (T11.out.keep bb);have M12:=zqh (M11.out.keep bb);have V12:=zqh (V11.out.keep bb);have MX12:=zqh (MX11.out.keep bb);have X12:=zqh (X11.out.keep bb);have MY12:=zqh (MY11.out.keep bb);have Y12:=zqh (Y11.out.keep bb);have MZ12:=zqh (MZ11.out.keep bb);have Z12:=zqh (Z11.out.keep bb);have P12:=zqh (P11.out.keep bb);have MP12:=zqh (MP11.out.keep bb);have R12:=zqh (R11.out.keep bb);have B12:=zqh (below_then B11.out bb);clear bb T11 M11 V11 MX11 X11 MY11 Y11 MZ11 Z11 P11 MP11 R11 B11;obtain ⟨pY0,pY1,pY2,pY3,pY4,pY5,pY6,pY7,pY8,pY9,pY10,pY11,pY12,pY13,pY14,pY15,pY16,pY17,pY18,pY19,pY20,pY21,pY22⟩:=Y12.out.use;clear pY0 pY1 pY2 pY3 pY4 pY5 pY6 pY7 pY9 pY10 pY11 pY12 pY13 pY14 pY15 pY16 pY17 pY18 pY19 pY20 pY21 pY22;(go_wp2_with fail)
    generalize hwa : World.alloc _ _ = w13;have kb : Below w12.heap.size w12 w13:=by rw [← hwa]; exact al_one _ _
    have hx : Row w13 (some ⟨w12.heap.size,0,none⟩) 1 1 [5]:=by rw [← hwa]; exact row_lit _ [5] (by show 1 ≤ 65536; decide)
    clear hwa;have T13:=zqh (T12.out.keep kb);have M13:=zqh (M12.out.keep kb);have V13:=zqh (V12.out.keep kb);have MX13:=zqh (MX12.out.keep kb);have X13:=zqh (X12.out.keep kb);have MY13:=zqh (MY12.out.keep kb);have Y13:=zqh (Y12.out.keep kb);have MZ13:=zqh (MZ12.out.keep kb);have Z13:=zqh (Z12.out.keep kb);have P13:=zqh (P12.out.keep kb);have MP13:=zqh (MP12.out.keep kb);have R13:=zqh (R12.out.keep kb);have B13:=zqh (below_then B12.out kb);have S13:=zqh hx;clear kb T12 M12 V12 MX12 X12 MY12 Y12 MZ12 Z12 P12 MP12 R12 B12;clear hx;refine (same_true _ _ _ _ _ _ [5] [5] _ (by have:=MY13.out.d.1; rw [← this]; decide) (by decide) (zqh MY13.out.d) (zqh S13.out) (zqh rfl)).mono ?_;rintro e w14 ⟨rfl,bb⟩;clear pY8;have T14:=zqh (T13.out.keep bb);have M14:=zqh (M13.out.keep bb);have V14:=zqh (V13.out.keep bb);have MX14:=zqh (MX13.out.keep bb);have X14:=zqh (X13.out.keep bb);have MY14:=zqh (MY13.out.keep bb);have Y14:=zqh (Y13.out.keep bb);have MZ14:=zqh (MZ13.out.keep bb);have Z14:=zqh (Z13.out.keep bb);have P14:=zqh (P13.out.keep bb);have MP14:=zqh (MP13.out.keep bb);have R14:=zqh (R13.out.keep bb);have S14:=zqh (S13.out.keep bb);have B14:=zqh (below_then B13.out bb);clear bb T13 M13 V13 MX13 X13 MY13 Y13 MZ13 Z13 P13 MP13 R13 S13 B13;have hkz : Sc kZ k:=HSZ.out.trans HS.out.symm;have HC:=zqh (rsame_two MZ14.out M14.out hkz (fit_st (l:=[7,-2]) (by decide)));clear hkz;(go_wp2_with (first | (refine wpList_vload (by rfl) _ rfl w8.heap.size kZ rfl Z14.out ?_) | (refine wpList_vload (by rfl) _ rfl w2.heap.size k rfl V14.out ?_)))
    refine (HC.out).mono ?_;rintro e w15 ⟨rfl,bb⟩;clear HC;have T15:=zqh (T14.out.keep bb);have M15:=zqh (M14.out.keep bb);have V15:=zqh (V14.out.keep bb);have MX15:=zqh (MX14.out.keep bb);have X15:=zqh (X14.out.keep bb);have MY15:=zqh (MY14.out.keep bb);have Y15:=zqh (Y14.out.keep bb);have MZ15:=zqh (MZ14.out.keep bb);have Z15:=zqh (Z14.out.keep bb);have P15:=zqh (P14.out.keep bb);have MP15:=zqh (MP14.out.keep bb);have R15:=zqh (R14.out.keep bb);have S15:=zqh (S14.out.keep bb);have B15:=zqh (below_then B14.out bb);clear bb T14 M14 V14 MX14 X14 MY14 Y14 MZ14 Z14 P14 MP14 R14 S14 B14;obtain ⟨pP0,pP1,pP2,pP3,pP4,pP5,pP6,pP7,pP8,pP9,pP10,pP11,pP12,pP13,pP14,pP15,pP16,pP17,pP18,pP19,pP20,pP21,pP22⟩:=P15.out.use;clear pP0 pP1 pP2 pP3 pP4 pP5 pP6 pP7 pP8 pP9 pP10 pP11 pP12 pP14 pP15 pP16 pP17 pP18 pP19 pP20 pP21 pP22;have cv:=MP15.out.o.conv;rw [show ({ stL [7] with o:=[45,50,32] } : VmL).o = [45,50,32] from rfl,show strB [45,50,32] = { data:=#[45,50,32] } from rfl] at cv;have HC:=zqh fun w => does_any 23 w
    rw [show decide ((23 : Int) ≤ 23 ∧ (23 : Int) ≤ 129) = true from by decide] at HC;(go_wp2_with fail);refine (HC.out _).mono ?_;rintro e x23 ⟨rfl,rfl⟩;clear HC;clear pP13 cv;have HC:=zqh fun w => does_any 129 w
    rw [show decide ((23 : Int) ≤ 129 ∧ (129 : Int) ≤ 129) = true from by decide] at HC;(go_wp2_with fail);refine (HC.out _).mono ?_;rintro e x129 ⟨rfl,rfl⟩;clear HC;have HC:=zqh fun w => does_any 22 w
    rw [show decide ((23 : Int) ≤ 22 ∧ (22 : Int) ≤ 129) = false from by decide] at HC;(go_wp2_with fail);refine (HC.out _).mono ?_;rintro e x22 ⟨rfl,rfl⟩;clear HC;have HC:=zqh fun w => does_any 130 w
    rw [show decide ((23 : Int) ≤ 130 ∧ (130 : Int) ≤ 129) = false from by decide] at HC;(go_wp2_with fail);refine (HC.out _).mono ?_;rintro e x130 ⟨rfl,rfl⟩;clear HC;(go_wp2_with fail);go_ret;exact ⟨rfl,B15.out⟩
end Go.Proofs.YtlgnijhemfkflaaGreatDoor

namespace Go.Proofs.YtlgnijhemfkflaaGreatDoor
open Go.RowKit


structure Q4 where
  a : Int
  b : Int
  c : Int
  d : Int
def q4E (q : Q4) : List Value:=[.int .i64 q.a,.int .i64 q.b,.int .i64 q.c,.int .i64 q.d]
theorem q4_cells {w : World} {A : Option Addr} {n c : Nat} {l : List Q4} (h : Rws q4E w (.slice A n c) l) {k : Nat} (hk : k < l.length) : ∃ g o,A = some ⟨g,o,none⟩ ∧ g < w.heap.size ∧ w.cell? ⟨g,o + k * 4,none⟩ = some (.int .i64 l[k].a) ∧ w.cell? ⟨g,o + k * 4 + 1,none⟩ = some (.int .i64 l[k].b) ∧ w.cell? ⟨g,o + k * 4 + 2,none⟩ = some (.int .i64 l[k].c) ∧ w.cell? ⟨g,o + k * 4 + 3,none⟩ = some (.int .i64 l[k].d):=by
  obtain ⟨g,o,e,hg,hc⟩:=Rws.cell (s:=4) (fun _ => rfl) (by decide) h hk;exact ⟨g,o,e,hg,hc 0 _ (by decide) rfl,hc 1 _ (by decide) rfl,hc 2 _ (by decide) rfl,hc 3 _ (by decide) rfl⟩
theorem VBox.put_h {w : World} {b : Nat} {k : VmK} (h : VBox w b k) (B : Option Addr) (m d : Nat) : VBox (w.setCell ⟨b,22,none⟩ (.slice B m d)) b { k with hA:=B,hn:=m,hc:=d }:=by
  have h1:=Go.Joins.block_setCell (i:=22) h (.slice B m d);simpa [VBox] using h1
def hand0 : Hn:=⟨0,0,0,false⟩
def handsL (n : Nat) : List Hn:=List.replicate n hand0
theorem hands_len (n : Nat) : (handsL n).length = n:=by simp [handsL]
theorem hands_right (n : Nat) : (handsL n).all hnB = true:=by
  rw [List.all_eq_true];intro x hx;rw [List.eq_of_mem_replicate hx];decide
theorem hands_make0 : ∀ w : World,(Instr.makeSlice 34 (.int .i64 ((0 : Nat) : Int)) (.int .i64 ((0 : Nat) : Int))).run Tryz.prog w = .ok (.slice (some ⟨w.heap.size,0,none⟩) 0 0) (w.alloc (.cells ((handsL 0).flatMap hnE).toArray 93)):=fun _ => by kernel_rfl
theorem hands_make1 : ∀ w : World,(Instr.makeSlice 34 (.int .i64 ((1 : Nat) : Int)) (.int .i64 ((1 : Nat) : Int))).run Tryz.prog w = .ok (.slice (some ⟨w.heap.size,0,none⟩) 1 1) (w.alloc (.cells ((handsL 1).flatMap hnE).toArray 93)):=fun _ => by kernel_rfl
theorem hands_make2 : ∀ w : World,(Instr.makeSlice 34 (.int .i64 ((2 : Nat) : Int)) (.int .i64 ((2 : Nat) : Int))).run Tryz.prog w = .ok (.slice (some ⟨w.heap.size,0,none⟩) 2 2) (w.alloc (.cells ((handsL 2).flatMap hnE).toArray 93)):=fun _ => by kernel_rfl
theorem hands_make3 : ∀ w : World,(Instr.makeSlice 34 (.int .i64 ((3 : Nat) : Int)) (.int .i64 ((3 : Nat) : Int))).run Tryz.prog w = .ok (.slice (some ⟨w.heap.size,0,none⟩) 3 3) (w.alloc (.cells ((handsL 3).flatMap hnE).toArray 93)):=fun _ => by kernel_rfl
theorem hands_make4 : ∀ w : World,(Instr.makeSlice 34 (.int .i64 ((4 : Nat) : Int)) (.int .i64 ((4 : Nat) : Int))).run Tryz.prog w = .ok (.slice (some ⟨w.heap.size,0,none⟩) 4 4) (w.alloc (.cells ((handsL 4).flatMap hnE).toArray 93)):=fun _ => by kernel_rfl
theorem hands_make : ∀ (n : Nat) (h : n < 5) (w : World),(Instr.makeSlice 34 (.int .i64 (n : Int)) (.int .i64 (n : Int))).run Tryz.prog w = .ok (.slice (some ⟨w.heap.size,0,none⟩) n n) (w.alloc (.cells ((handsL n).flatMap hnE).toArray 93))
  | 0,_,w => hands_make0 w
  | 1,_,w => hands_make1 w
  | 2,_,w => hands_make2 w
  | 3,_,w => hands_make3 w
  | 4,_,w => hands_make4 w
theorem hands_made (n : Nat) (h : n < 5) (w : World) : Hns (w.alloc (.cells ((handsL n).flatMap hnE).toArray 93)) (.slice (some ⟨w.heap.size,0,none⟩) n n) (handsL n) :=
  ⟨_,n,by rw [hands_len],by rw [hands_len]; exact Nat.le_refl _,by unfold maxLen; omega,lies_block (heap_alloc_new w _)⟩
structure AskAt (hn : Nat) (F : Int) (w : World) (bV i many : Nat) (t : Int) (wr : World) (k : VmK) (E : List Rq) : Prop where
  lo : w.heap.size ≤ bV
  box : VBox wr bV k
  vm : IsVm wr k (askL (handsL hn) E [])
  sc : Sc k (askK F t)
  free : Free k bV
  en : E.length = many
  e16 : many ≤ 16
  t0 : 0 ≤ t
  t1 : t ≤ F
  tm : t ≤ many
  bel : Below w.heap.size w wr
structure Q4At (w : World) (g o : Nat) (a b c d : Int) : Prop where
  lt : g < w.heap.size
  c0 : w.cell? ⟨g,o,none⟩ = some (.int .i64 a)
  c1 : w.cell? ⟨g,o + 1,none⟩ = some (.int .i64 b)
  c2 : w.cell? ⟨g,o + 2,none⟩ = some (.int .i64 c)
  c3 : w.cell? ⟨g,o + 3,none⟩ = some (.int .i64 d)
theorem Q4At.keep {w w' : World} {g o : Nat} {a b c d : Int} (h : Q4At w g o a b c d) (x : Below w.heap.size w w') : Q4At w' g o a b c d :=
  ⟨Nat.lt_of_lt_of_le h.lt x.size,(x.cell (p:=⟨g,o,none⟩) h.lt).trans h.c0,(x.cell (p:=⟨g,o + 1,none⟩) h.lt).trans h.c1,(x.cell (p:=⟨g,o + 2,none⟩) h.lt).trans h.c2,(x.cell (p:=⟨g,o + 3,none⟩) h.lt).trans h.c3⟩
theorem q4_at {w : World} {A : Option Addr} {n c : Nat} {l : List Q4} (h : Rws q4E w (.slice A n c) l) (hr : ∀ q ∈ l,cellR q.a ∧ cellR q.b ∧ cellR q.c ∧ cellR q.d) {k : Nat} (hk : k < n) :
    ∃ g o x y z u,A = some ⟨g,o,none⟩ ∧ Q4At w g (o + k * 4) x y z u ∧ cellR x ∧ cellR y ∧ cellR z ∧ cellR u:=by
  have hk2 : k < l.length:=by rw [h.len]; exact hk
  obtain ⟨g,o,e,hg,h0,h1,h2,h3⟩:=q4_cells h hk2;obtain ⟨r0,r1,r2,r3⟩:=hr l[k] (List.getElem_mem hk2);exact ⟨g,o,_,_,_,_,e,⟨hg,h0,h1,h2,h3⟩,r0,r1,r2,r3⟩
theorem vbox_cells {w : World} {b : Nat} {k : VmK} (h : VBox w b k) (i : Nat) : w.cell? ⟨b,i,none⟩ = (vmC k)[i]?:=by
  unfold VBox at h;unfold World.cell?;rw [h];simp
theorem vbox_noint {w : World} {b : Nat} {k : VmK} (h : VBox w b k) (x : Int) : w.cell? ⟨b,5,none⟩ ≠ some (.int .i64 x) ∧ w.cell? ⟨b,6,none⟩ ≠ some (.int .i64 x) ∧ w.cell? ⟨b,8,none⟩ ≠ some (.int .i64 x) ∧ w.cell? ⟨b,9,none⟩ ≠ some (.int .i64 x) ∧ w.cell? ⟨b,10,none⟩ ≠ some (.int .i64 x) ∧ w.cell? ⟨b,11,none⟩ ≠ some (.int .i64 x) ∧ w.cell? ⟨b,13,none⟩ ≠ some (.int .i64 x) ∧ w.cell? ⟨b,14,none⟩ ≠ some (.int .i64 x) ∧ w.cell? ⟨b,15,none⟩ ≠ some (.int .i64 x) ∧ w.cell? ⟨b,16,none⟩ ≠ some (.int .i64 x) ∧ w.cell? ⟨b,22,none⟩ ≠ some (.int .i64 x):=by
  simp only [vbox_cells h];refine ⟨?_,?_,?_,?_,?_,?_,?_,?_,?_,?_,?_⟩ <;> simp [vmC]
theorem vbox_far {w : World} {b : Nat} {k : VmK} (h : VBox w b k) {i : Nat} (hi : 23 ≤ i) (v : Value) : w.cell? ⟨b,i,none⟩ ≠ some v:=by
  rw [vbox_cells h,Array.getElem?_eq_none (by show (vmC k).size ≤ i; exact Nat.le_trans (by simp [vmC]) hi)];simp
theorem vbox_six {w : World} {b : Nat} {k : VmK} (h : VBox w b k) (o : Nat) (hc : ∀ i,i < 6 → ∃ x,w.cell? ⟨b,o + i,none⟩ = some (.int .i64 x)) : False:=by
  have go : ∀ T,o ≤ T → T < o + 6 → ∃ x,w.cell? ⟨b,T,none⟩ = some (.int .i64 x):=fun T h1 h2 => by
    obtain ⟨x,hx⟩:=hc (T - o) (by omega);rw [show o + (T - o) = T by omega] at hx;exact ⟨x,hx⟩
  by_cases c1 : o ≤ 5
  · obtain ⟨x,hx⟩:=go 5 c1 (by omega); exact (vbox_noint h x).1 hx
  by_cases c2 : o ≤ 8
  · obtain ⟨x,hx⟩:=go 8 c2 (by omega); exact (vbox_noint h x).2.2.1 hx
  by_cases c3 : o ≤ 13
  · obtain ⟨x,hx⟩:=go 13 c3 (by omega); exact (vbox_noint h x).2.2.2.2.2.2.1 hx
  by_cases c4 : o ≤ 16
  · obtain ⟨x,hx⟩:=go 16 c4 (by omega); exact (vbox_noint h x).2.2.2.2.2.2.2.2.2.1 hx
  by_cases c5 : o ≤ 22
  · obtain ⟨x,hx⟩:=go 22 c5 (by omega); exact (vbox_noint h x).2.2.2.2.2.2.2.2.2.2 hx
  · obtain ⟨x,hx⟩:=go o (Nat.le_refl _) (by omega); exact vbox_far h (by omega) _ hx
theorem vbox_bool {w : World} {b : Nat} {k : VmK} (h : VBox w b k) {i : Nat} {x : Bool} (hx : w.cell? ⟨b,i,none⟩ = some (.bool x)) : i = 15:=by
  by_cases hi : 23 ≤ i
  · exact absurd hx (vbox_far h hi _)
  rw [vbox_cells h] at hx;have h9 : i = 0 ∨ i = 1 ∨ i = 2 ∨ i = 3 ∨ i = 4 ∨ i = 5 ∨ i = 6 ∨ i = 7 ∨ i = 8 ∨ i = 9 ∨ i = 10 ∨ i = 11 ∨ i = 12 ∨ i = 13 ∨ i = 14 ∨ i = 15 ∨ i = 16 ∨ i = 17 ∨ i = 18 ∨ i = 19 ∨ i = 20 ∨ i = 21 ∨ i = 22:=by omega
  rcases h9 with rfl | rfl | rfl | rfl | rfl | rfl | rfl | rfl | rfl | rfl | rfl | rfl | rfl | rfl | rfl | rfl | rfl | rfl | rfl | rfl | rfl | rfl | rfl <;> first | rfl | (simp [vmC] at hx)
theorem free_asked {w : World} {k j : VmK} {n : Nat} {E : List Rq} {d : List Int} {b : Nat} (h : IsVm w k (askL (handsL n) E d)) (hb : VBox w b j) : Free { k with dA:=none,dn:=0,dc:=0 } b:=by
  refine ⟨?_,.inl rfl,.inl h.r.1.symm,.inl h.f.len.symm,?_,?_,?_⟩
  · obtain ⟨b0,o0,e,_,A,c,qs,h1,h2,h3,h4,h5⟩:=h.m
    injection e with e
    simp at e;obtain ⟨_,rfl⟩:=e;injection h1 with h1 hn hc
    exact .inl (hn.trans (by first | rfl | (rw [h5.1]; rfl)))
  · have hl:=h.dict.len
    obtain ⟨A',c',e,h1,h2,h4⟩:=h.dict;injection e with e1 e2 e3
    subst e1
    rcases h4 with h4 | ⟨g,o,ea,hg,hc⟩
    · obtain ⟨s,hs⟩:=newW_first
      have h4 : wds (newW 167) = []:=h4;rw [h4] at hs;cases hs
    · refine .inr fun q hq eb => ?_
      rw [ea] at hq;cases hq
      simp at eb;subst eb;obtain ⟨s,hs⟩:=newW_first;exact vbox_nostr hb _ _ (hc 0 _ hs)
  · cases E with
    | nil => exact .inl h.e.len.symm
    | cons q E =>
      obtain ⟨g,o,ea,c0,c1,c2,c3,c4,c5⟩:=rq_cells h.e (k:=0) (by show 0 < (q :: E).length; simp);refine .inr fun q9 hq eb => ?_
      rw [ea] at hq;cases hq
      simp at eb;subst eb;rw [Nat.zero_mul,Nat.add_zero] at c0 c1 c2 c3 c4 c5;refine vbox_six hb o fun i hi => ?_
      have h9 : i = 0 ∨ i = 1 ∨ i = 2 ∨ i = 3 ∨ i = 4 ∨ i = 5:=by omega
      rcases h9 with rfl | rfl | rfl | rfl | rfl | rfl
      · exact ⟨_,c0⟩
      · exact ⟨_,c1⟩
      · exact ⟨_,c2⟩
      · exact ⟨_,c3⟩
      · exact ⟨_,c4⟩
      · exact ⟨_,c5⟩
  · by_cases hz : n = 0
    · subst hz; exact .inl h.h.len.symm
    · have hk : 0 < (handsL n).length:=by rw [hands_len]; omega
      obtain ⟨g,o,ea,c0,c1,c2,c3⟩:=hn_cells h.h (k:=0) hk;refine .inr fun q9 hq eb => ?_
      rw [ea] at hq;cases hq
      simp at eb;subst eb;rw [Nat.zero_mul,Nat.add_zero] at c0 c1 c2 c3;have e15 : o + 3 = 15:=vbox_bool hb c3;obtain rfl : o = 12:=by omega
      exact (vbox_noint hb _).2.2.2.2.2.2.1 c1
theorem ask_last {w : World} {k : VmK} {hs : List Hn} {E : List Rq} {q : Rq} {d : List Int} {m : Nat} (h : IsVm w k (askL hs (E ++ [q]) d)) (hE : E.length = m) : ∃ g o,k.eA = some ⟨g,o,none⟩ ∧ w.cell? ⟨g,o + m * 6 + 1,none⟩ = some (.int .i64 q.arg):=by
  have hl : m < (E ++ [q]).length:=by rw [List.length_append,hE]; show m < m + 1; omega
  have he : Rqs w (.slice k.eA k.en k.ec) (E ++ [q]):=h.e;obtain ⟨g,o,ea,_,c1,_⟩:=rq_cells he hl;refine ⟨g,o,ea,?_⟩;have e9 : (E ++ [q])[m] = q:=by subst hE; exact List.getElem_concat_length rfl _
  rw [e9] at c1;exact c1
theorem drewN_b9 (w : World) (n : Nat) : Below w.heap.size w (w.drewN n):=⟨rfl,rfl,rfl,Nat.le_refl _,fun _ _ => rfl⟩
theorem IsVm.set_h {w : World} {k : VmK} {L : VmL} (h : IsVm w k L) {A : Option Addr} {n c : Nat} {l : List Hn} (r : Hns w (.slice A n c) l) : IsVm w { k with hA:=A,hn:=n,hc:=c } { L with h:=l }:=⟨h.m,h.d,h.r,h.f,h.dict,h.o,h.q,h.e,r⟩
end Go.Proofs.YtlgnijhemfkflaaGreatDoor
