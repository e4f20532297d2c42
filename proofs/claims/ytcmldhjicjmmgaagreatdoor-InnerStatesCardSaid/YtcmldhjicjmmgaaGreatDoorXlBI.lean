/- Part 35. -/
import Derived.Test.YtcmldhjicjmmgaaGreatDoorXlBG
set_option linter.unusedVariables false
set_option linter.unusedSimpArgs false
set_option maxRecDepth 100000
set_option maxHeartbeats 4000000

namespace Go.Proofs.YtcmldhjicjmmgaaGreatDoor
open Go.RowKit


theorem qbox_cell {w : World} {b b' i : Nat} {q : Rq} (h : QBox w b q) (hne : b ≠ b') (v : Value) : QBox (w.setCell ⟨b',i,none⟩ v) b q:=by
  unfold QBox;rw [Below.heap_setCell _ _ _ _ hne];exact h
theorem timed1 (W : World) (p : Addr) (kd : Int) (hp : W.cell? p = some (.int .i64 kd)) (hpl : p.block < W.heap.size) (k : VmK) (L : VmL) (A : Option Addr) (c : Nat) (x : List Int) (w : World) (b0 : Kp W w) (ok : Ok k L) (h : IsVm w k L) (hx : Takes w 4 A c x) :
    Calls Tryz.prog 258 #[vmV k,.slice A 4 c,.pointer (some p)] w (ActOut (timerE k L kd (x.getD 0 0) (x.getD 1 0) (x.getD 2 0) (x.getD 3 0)) k w):=by
  obtain ⟨a,b,d,f,g,o,rfl,rfl,hg,c0,c1,c2,c3,ha,hb,hd,hf⟩:=hx.four;show Calls _ _ _ _ (ActOut (timerE k L kd a b d f) k w);have HP : Hid (w.cell? p = some (.int .i64 kd)):=(b0.cell hpl).trans hp;have hl0:=Nat.lt_of_lt_of_le hpl b0.size;have HH : Hid (∀ w,IsVm w k L → Calls Tryz.prog 256 #[vmV k,qV ⟨kd,a,b,d,f,k.next⟩] w fun e w' => e = .returned (.bool (hasB L b d)) ∧ Below w.heap.size w w'):=zqh fun w h => hasHandler_any k L ⟨kd,a,b,d,f,k.next⟩ w h ok.h1
  have HC:=zqh fun w h => asked_any k L ⟨kd,a,b,d,f,k.next⟩ w ok h
  have V0:=zqh h;have C0:=zqh c0;have C1:=zqh c1;have C2:=zqh c2;have C3:=zqh c3;clear b0 hp hpl ok h hx c0 c1 c2 c3;cases hP : hasB L b d with
  | false =>
    rw [hP] at HH;have hE : timerE k L kd a b d f = ⟨-259,[k.next],(timerE k L kd a b d f).K,(timerE k L kd a b d f).L⟩:=by unfold timerE timerC; rw [hP]; simp
    rw [hE];generalize (timerE k L kd a b d f).K = K9;generalize (timerE k L kd a b d f).L = L9;clear hE hP;go_enter Tryz.func258,Tryz.ntmps258;go_upto_region 1 with fail
    generalize hw1 : World.alloc (World.alloc _ _) _ = w1;have kb : Below w.heap.size w w1:=by rw [← hw1]; exact al_two _ _ _
    have kx : VBox w1 w.heap.size k:=by rw [← hw1]; exact (in_two w k _).2
    have kz : VBox w1 (w.heap.size + 1) vm0:=by rw [← hw1]; exact in_two0 w _
    have KS : Hid (w1.heap.size = w.heap.size + 1 + 1):=by show _ = _; rw [← hw1]; exact in_twos w _ _
    clear hw1;have X1:=zqh kx;have Z1:=zqh kz;have B1:=zqh kb;have KZ : Hid (w1.drew.heap.size = w.heap.size + 1 + 1):=KS;clear kx kz kb;go_upto_region 1 with fail
    refine wp_region_noPanic ?_;refine wp_region_held_drew (S:=fun a9 => Below w.heap.size w a9 ∧ VBox a9 w.heap.size k ∧ VBox a9 (w.heap.size + 1) vm0) (by kernel_rfl) ?_ (fun hHeld => ?_)
    · exact ⟨B1.out.drew,X1.out,Z1.out⟩
    refine zqf 0 (fun u hSu => (hSu.1.cell (p:=p) hl0).trans HP.out) ?_;refine zqa 1 ?_;refine zqa 2 ?_;refine zqf 3 (fun u hSu => (hSu.1.cell (p:=⟨g,o,none⟩) hg).trans C0.out) ?_;refine zqa 4 ?_;refine zqa 5 ?_;refine zqf 6 (fun u hSu => (hSu.1.cell (p:=⟨g,o + 1,none⟩) hg).trans C1.out) ?_;refine zqa 7 ?_;refine zqa 8 ?_;refine zqf 9 (fun u hSu => (hSu.1.cell (p:=⟨g,o + 2,none⟩) hg).trans C2.out) ?_;refine zqa 10 ?_;refine zqa 11 ?_;refine zqf 12 (fun u hSu => (hSu.1.cell (p:=⟨g,o + 3,none⟩) hg).trans C3.out) ?_;refine zqa 13 ?_;refine zqt (i:=14) (v:=?v14a2) ?y14a2 ?r14a2
    case y14a2 =>
      intro u hSu;(try dsimp only at hSu);obtain ⟨p0,p1,p2,p3,p4,p5,p6,p7,p8,p9,p10,p11,p12,p13,p14,p15,p16,p17,p18,p19,p20,p21,p22⟩:=hSu.2.1.use;clear p0 p1 p2 p3 p4 p5 p6 p7 p8 p9 p10 p11 p12 p13 p14 p15 p16 p17 p19 p20 p21 p22;go_simp;(try with_reducible rfl)
    (try simp only [zq,Act.put]);refine zqa 15 ?_;refine zqr 16 fun K hK => ?_
    go_simp;(go_wp2_with fail);have OV:=zqh (qbox_new w1.drew rq0);refine hK.out _ _ ⟨below_then hHeld.1 (al_one _ _),hHeld.2.1.keep (al_one _ _),hHeld.2.2.keep (al_one _ _)⟩ (fun hHeld => ?_);clear hK K;(try simp only [zq,Act.put]);refine zqr 17 fun K hK => ?_
    refine step_qst rfl _ _ rfl w1.drew.heap.size rq0 ⟨kd,a,b,d,f,k.next⟩ rfl rfl OV.out ?_;have kz : w.heap.size ≤ w1.drew.heap.size ∧ w.heap.size ≠ w1.drew.heap.size ∧ w.heap.size + 1 ≠ w1.drew.heap.size:=by have:=KZ.out; omega
    refine hK.out _ _ ⟨below_setRow hHeld.1 kz.1 _,vrow_fr hHeld.2.1 kz.2.1 _,vrow_fr hHeld.2.2 kz.2.2 _⟩ (fun hHeld9 => ?_);have YY:=zqh (qrow OV.out ⟨kd,a,b,d,f,k.next⟩);have SS:=zqh hHeld9;clear hHeld hHeld9 kz OV;clear hK K;(try simp only [zq,Act.put]);refine wpAnyH_done (by kernel_rfl) ?_ _;refine NoPanic.normal ?_;generalize hu : World.setRow _ _ _ = u;have BU : Below w.heap.size w u:=by rw [← hu]; exact SS.out.1
    have XU : VBox u w.heap.size k:=by rw [← hu]; exact SS.out.2.1
    have ZU : VBox u (w.heap.size + 1) vm0:=by rw [← hu]; exact SS.out.2.2
    have YY : Hid (QBox u w1.heap.size ⟨kd,a,b,d,f,k.next⟩):=by show QBox _ _ _; rw [← hu]; exact YY.out
    clear hu X1 Z1 B1;have X2:=zqh XU;have Z2:=zqh ZU;have B2:=zqh BU;have S2:=zqh YY.out.lt;obtain ⟨r0,r1,r2,r3,r4,r5⟩:=YY.out.use;clear BU XU ZU SS;(go_wp2_with (refine wpList_vload (by rfl) _ rfl w.heap.size k rfl X2.out ?_));refine (HH.out _ (V0.out.keep B2.out)).mono ?_;rintro e w3 ⟨rfl,bb⟩;have X3:=zqh (X2.out.keep bb);have Z3:=zqh (Z2.out.keep bb);have B3:=zqh (below_then B2.out bb);have Y3:=zqh (YY.out.keep bb);have S3:=zqh bb.size;clear HH bb r0 r1 r2 r3 r4 r5 YY X2 Z2 B2;(go_wp2_with (first | (refine wpList_vload (by rfl) _ rfl w.heap.size k rfl X3.out ?_) | (refine wpList_vstore (by rfl) _ _ rfl _ vm0 k rfl rfl Z3.out ?_)));have kb2:=below_setRow B3.out (show w.heap.size ≤ w.heap.size + 1 by omega) (vmC k);exact bodyPost_ret (res_ctt rfl _ _ _ _ rfl (vrow Z3.out _)) rfl ⟨k,none,0,0,rfl,fun hz => absurd (show (-259 : Int) = 0 from hz) (by decide),kb2⟩
  | true =>
    rw [hP] at HH
    by_cases h1 : 1 ≤ f
    · have g1 : decide (f < 1) = false:=by simp; omega
      by_cases h2 : f < 4294967296
      · have g2 : decide (4294967296 ≤ f) = false:=by simp; omega
        have hE : timerE k L kd a b d f = ⟨if postC L = 0 then (if k.free = 0 ∨ k.next = 4611686018427387904 then -258 else 0) else -257,[k.next],{ k with next:=wrap64 (k.next + 1),free:=wrap64 (k.free - 1) },{ L with e:=L.e ++ [⟨kd,a,b,d,f,k.next⟩] }⟩:=by
          unfold timerE timerC;rw [hP,if_pos rfl,if_pos ⟨h1,h2⟩]
        rw [hE];have hPC : postC L = 0 ∨ postC L = -257:=by unfold postC; split <;> simp
        generalize postC L = P at HC hPC ⊢;clear hE hP
        by_cases hp0 : P = 0
        · subst hp0
          rw [if_pos rfl];clear hPC
          by_cases hz9 : k.free = 0 ∨ k.next = 4611686018427387904
          · rw [if_pos hz9]
            by_cases hf0 : k.free = 0
            · have HF0:=zqh hf0
              clear hf0 hz9;go_enter Tryz.func258,Tryz.ntmps258;go_upto_region 1 with fail
              generalize hw1 : World.alloc (World.alloc _ _) _ = w1;have kb : Below w.heap.size w w1:=by rw [← hw1]; exact al_two _ _ _
              have kx : VBox w1 w.heap.size k:=by rw [← hw1]; exact (in_two w k _).2
              have kz : VBox w1 (w.heap.size + 1) vm0:=by rw [← hw1]; exact in_two0 w _
              have KS : Hid (w1.heap.size = w.heap.size + 1 + 1):=by show _ = _; rw [← hw1]; exact in_twos w _ _
              clear hw1;have X1:=zqh kx;have Z1:=zqh kz;have B1:=zqh kb;have KZ : Hid (w1.drew.heap.size = w.heap.size + 1 + 1):=KS;clear kx kz kb;go_upto_region 1 with fail
              refine wp_region_noPanic ?_;refine wp_region_held_drew (S:=fun a9 => Below w.heap.size w a9 ∧ VBox a9 w.heap.size k ∧ VBox a9 (w.heap.size + 1) vm0) (by kernel_rfl) ?_ (fun hHeld => ?_)
              · exact ⟨B1.out.drew,X1.out,Z1.out⟩
              refine zqf 0 (fun u hSu => (hSu.1.cell (p:=p) hl0).trans HP.out) ?_;refine zqa 1 ?_;refine zqa 2 ?_;refine zqf 3 (fun u hSu => (hSu.1.cell (p:=⟨g,o,none⟩) hg).trans C0.out) ?_;refine zqa 4 ?_;refine zqa 5 ?_;refine zqf 6 (fun u hSu => (hSu.1.cell (p:=⟨g,o + 1,none⟩) hg).trans C1.out) ?_;refine zqa 7 ?_;refine zqa 8 ?_;refine zqf 9 (fun u hSu => (hSu.1.cell (p:=⟨g,o + 2,none⟩) hg).trans C2.out) ?_;refine zqa 10 ?_;refine zqa 11 ?_;refine zqf 12 (fun u hSu => (hSu.1.cell (p:=⟨g,o + 3,none⟩) hg).trans C3.out) ?_;refine zqa 13 ?_;refine zqt (i:=14) (v:=?v14a3) ?y14a3 ?r14a3
              case y14a3 =>
                intro u hSu;(try dsimp only at hSu);obtain ⟨p0,p1,p2,p3,p4,p5,p6,p7,p8,p9,p10,p11,p12,p13,p14,p15,p16,p17,p18,p19,p20,p21,p22⟩:=hSu.2.1.use;clear p0 p1 p2 p3 p4 p5 p6 p7 p8 p9 p10 p11 p12 p13 p14 p15 p16 p17 p19 p20 p21 p22;go_simp;(try with_reducible rfl)
              (try simp only [zq,Act.put]);refine zqa 15 ?_;refine zqr 16 fun K hK => ?_
              go_simp;(go_wp2_with fail);have OV:=zqh (qbox_new w1.drew rq0);refine hK.out _ _ ⟨below_then hHeld.1 (al_one _ _),hHeld.2.1.keep (al_one _ _),hHeld.2.2.keep (al_one _ _)⟩ (fun hHeld => ?_);clear hK K;(try simp only [zq,Act.put]);refine zqr 17 fun K hK => ?_
              refine step_qst rfl _ _ rfl w1.drew.heap.size rq0 ⟨kd,a,b,d,f,k.next⟩ rfl rfl OV.out ?_;have kz : w.heap.size ≤ w1.drew.heap.size ∧ w.heap.size ≠ w1.drew.heap.size ∧ w.heap.size + 1 ≠ w1.drew.heap.size:=by have:=KZ.out; omega
              refine hK.out _ _ ⟨below_setRow hHeld.1 kz.1 _,vrow_fr hHeld.2.1 kz.2.1 _,vrow_fr hHeld.2.2 kz.2.2 _⟩ (fun hHeld9 => ?_);have YY:=zqh (qrow OV.out ⟨kd,a,b,d,f,k.next⟩);have SS:=zqh hHeld9;clear hHeld hHeld9 kz OV;clear hK K;(try simp only [zq,Act.put]);refine wpAnyH_done (by kernel_rfl) ?_ _;refine NoPanic.normal ?_;generalize hu : World.setRow _ _ _ = u;have BU : Below w.heap.size w u:=by rw [← hu]; exact SS.out.1
              have XU : VBox u w.heap.size k:=by rw [← hu]; exact SS.out.2.1
              have ZU : VBox u (w.heap.size + 1) vm0:=by rw [← hu]; exact SS.out.2.2
              have YY : Hid (QBox u w1.heap.size ⟨kd,a,b,d,f,k.next⟩):=by show QBox _ _ _; rw [← hu]; exact YY.out
              clear hu X1 Z1 B1;have X2:=zqh XU;have Z2:=zqh ZU;have B2:=zqh BU;have S2:=zqh YY.out.lt;obtain ⟨r0,r1,r2,r3,r4,r5⟩:=YY.out.use;clear BU XU ZU SS;(go_wp2_with (refine wpList_vload (by rfl) _ rfl w.heap.size k rfl X2.out ?_));refine (HH.out _ (V0.out.keep B2.out)).mono ?_;rintro e w3 ⟨rfl,bb⟩;have X3:=zqh (X2.out.keep bb);have Z3:=zqh (Z2.out.keep bb);have B3:=zqh (below_then B2.out bb);have Y3:=zqh (YY.out.keep bb);have S3:=zqh bb.size;clear HH bb r0 r1 r2 r3 r4 r5 YY X2 Z2 B2;obtain ⟨r0,r1,r2,r3,r4,r5⟩:=Y3.out.use;(go_wp2_with (refine wpList_vload (by rfl) _ rfl w.heap.size k rfl X3.out ?_));refine (HC.out _ (V0.out.keep B3.out)).mono ?_;rintro e w4 ⟨j,rfl,hr,bb⟩;have X4:=zqh (X3.out.keep bb);have Z4:=zqh (Z3.out.keep bb);have Y4:=zqh (Y3.out.keep bb);have B4:=zqh (below_then B3.out bb);have HR:=zqh hr;have S4:=zqh bb.size;clear HC bb hr r0 r1 r2 r3 r4 r5 X3 Z3 Y3;have hyn : w1.heap.size ≠ w.heap.size:=by have:=KS.out; omega
              have X5:=zqh (vrow X4.out j);have Z5:=zqh (vrow_fr Z4.out (by omega : w.heap.size + 1 ≠ w.heap.size) (vmC j));have Y5:=zqh (qbox_row Y4.out hyn (vmC j));have B5:=zqh (below_setRow B4.out (Nat.le_refl w.heap.size) (vmC j));have E5 : Hid (Ex (fun g => g = w.heap.size ∨ g = w.heap.size + 1) w4 (w4.setRow w.heap.size (vmC j))):=zqh ((Ex.refl _ _).row (.inl rfl) _);go_upto_region 7 with (refine wpList_vstore (by rfl) _ _ rfl w.heap.size k j rfl rfl X4.out ?_)
              generalize World.setRow _ _ _ = w5 at X5 Z5 Y5 B5 E5 ⊢;have e17 : j.free = 0:=by have:=(HR.out (by trivial)).2.1.free; have:=HF0.out; omega
              obtain ⟨p0,p1,p2,p3,p4,p5,p6,p7,p8,p9,p10,p11,p12,p13,p14,p15,p16,p17,p18,p19,p20,p21,p22⟩:=X5.out.use;clear p0 p1 p2 p3 p4 p5 p6 p7 p8 p9 p10 p11 p12 p13 p14 p15 p16 p19 p20 p21 p22;rw [e17] at p17;(go_wp2_with (first | (refine wpList_vload (by rfl) _ rfl w.heap.size j rfl X5.out ?_) | (refine wpList_vstore (by rfl) _ _ rfl (w.heap.size + 1) vm0 j rfl rfl Z5.out ?_)));have kb2:=below_setRow B5.out (show w.heap.size ≤ w.heap.size + 1 by omega) (vmC j);exact bodyPost_ret (res_ctt rfl _ _ _ _ rfl (vrow Z5.out _)) rfl ⟨j,none,0,0,rfl,fun hz => absurd (show (-258 : Int) = 0 from hz) (by decide),kb2⟩
            · have hn0 : k.next = 4611686018427387904:=hz9.resolve_left hf0
              have HF0:=zqh hf0;have HN0:=zqh hn0;clear hf0 hz9 hn0;go_enter Tryz.func258,Tryz.ntmps258;go_upto_region 1 with fail
              generalize hw1 : World.alloc (World.alloc _ _) _ = w1;have kb : Below w.heap.size w w1:=by rw [← hw1]; exact al_two _ _ _
              have kx : VBox w1 w.heap.size k:=by rw [← hw1]; exact (in_two w k _).2
              have kz : VBox w1 (w.heap.size + 1) vm0:=by rw [← hw1]; exact in_two0 w _
              have KS : Hid (w1.heap.size = w.heap.size + 1 + 1):=by show _ = _; rw [← hw1]; exact in_twos w _ _
              clear hw1;have X1:=zqh kx;have Z1:=zqh kz;have B1:=zqh kb;have KZ : Hid (w1.drew.heap.size = w.heap.size + 1 + 1):=KS;clear kx kz kb;go_upto_region 1 with fail
              refine wp_region_noPanic ?_;refine wp_region_held_drew (S:=fun a9 => Below w.heap.size w a9 ∧ VBox a9 w.heap.size k ∧ VBox a9 (w.heap.size + 1) vm0) (by kernel_rfl) ?_ (fun hHeld => ?_)
              · exact ⟨B1.out.drew,X1.out,Z1.out⟩
              refine zqf 0 (fun u hSu => (hSu.1.cell (p:=p) hl0).trans HP.out) ?_;refine zqa 1 ?_;refine zqa 2 ?_;refine zqf 3 (fun u hSu => (hSu.1.cell (p:=⟨g,o,none⟩) hg).trans C0.out) ?_;refine zqa 4 ?_;refine zqa 5 ?_;refine zqf 6 (fun u hSu => (hSu.1.cell (p:=⟨g,o + 1,none⟩) hg).trans C1.out) ?_;refine zqa 7 ?_;refine zqa 8 ?_;refine zqf 9 (fun u hSu => (hSu.1.cell (p:=⟨g,o + 2,none⟩) hg).trans C2.out) ?_;refine zqa 10 ?_;refine zqa 11 ?_;refine zqf 12 (fun u hSu => (hSu.1.cell (p:=⟨g,o + 3,none⟩) hg).trans C3.out) ?_;refine zqa 13 ?_;refine zqt (i:=14) (v:=?v14a4) ?y14a4 ?r14a4
              case y14a4 =>
                intro u hSu;(try dsimp only at hSu);obtain ⟨p0,p1,p2,p3,p4,p5,p6,p7,p8,p9,p10,p11,p12,p13,p14,p15,p16,p17,p18,p19,p20,p21,p22⟩:=hSu.2.1.use;clear p0 p1 p2 p3 p4 p5 p6 p7 p8 p9 p10 p11 p12 p13 p14 p15 p16 p17 p19 p20 p21 p22;go_simp;(try with_reducible rfl)
              (try simp only [zq,Act.put]);refine zqa 15 ?_;refine zqr 16 fun K hK => ?_
              go_simp;(go_wp2_with fail);have OV:=zqh (qbox_new w1.drew rq0);refine hK.out _ _ ⟨below_then hHeld.1 (al_one _ _),hHeld.2.1.keep (al_one _ _),hHeld.2.2.keep (al_one _ _)⟩ (fun hHeld => ?_);clear hK K;(try simp only [zq,Act.put]);refine zqr 17 fun K hK => ?_
              refine step_qst rfl _ _ rfl w1.drew.heap.size rq0 ⟨kd,a,b,d,f,k.next⟩ rfl rfl OV.out ?_;have kz : w.heap.size ≤ w1.drew.heap.size ∧ w.heap.size ≠ w1.drew.heap.size ∧ w.heap.size + 1 ≠ w1.drew.heap.size:=by have:=KZ.out; omega
              refine hK.out _ _ ⟨below_setRow hHeld.1 kz.1 _,vrow_fr hHeld.2.1 kz.2.1 _,vrow_fr hHeld.2.2 kz.2.2 _⟩ (fun hHeld9 => ?_);have YY:=zqh (qrow OV.out ⟨kd,a,b,d,f,k.next⟩);have SS:=zqh hHeld9;clear hHeld hHeld9 kz OV;clear hK K;(try simp only [zq,Act.put]);refine wpAnyH_done (by kernel_rfl) ?_ _;refine NoPanic.normal ?_;generalize hu : World.setRow _ _ _ = u;have BU : Below w.heap.size w u:=by rw [← hu]; exact SS.out.1
              have XU : VBox u w.heap.size k:=by rw [← hu]; exact SS.out.2.1
              have ZU : VBox u (w.heap.size + 1) vm0:=by rw [← hu]; exact SS.out.2.2
              have YY : Hid (QBox u w1.heap.size ⟨kd,a,b,d,f,k.next⟩):=by show QBox _ _ _; rw [← hu]; exact YY.out
              clear hu X1 Z1 B1;have X2:=zqh XU;have Z2:=zqh ZU;have B2:=zqh BU;have S2:=zqh YY.out.lt;obtain ⟨r0,r1,r2,r3,r4,r5⟩:=YY.out.use;clear BU XU ZU SS;(go_wp2_with (refine wpList_vload (by rfl) _ rfl w.heap.size k rfl X2.out ?_));refine (HH.out _ (V0.out.keep B2.out)).mono ?_;rintro e w3 ⟨rfl,bb⟩;have X3:=zqh (X2.out.keep bb);have Z3:=zqh (Z2.out.keep bb);have B3:=zqh (below_then B2.out bb);have Y3:=zqh (YY.out.keep bb);have S3:=zqh bb.size;clear HH bb r0 r1 r2 r3 r4 r5 YY X2 Z2 B2;obtain ⟨r0,r1,r2,r3,r4,r5⟩:=Y3.out.use;(go_wp2_with (refine wpList_vload (by rfl) _ rfl w.heap.size k rfl X3.out ?_));refine (HC.out _ (V0.out.keep B3.out)).mono ?_;rintro e w4 ⟨j,rfl,hr,bb⟩;have X4:=zqh (X3.out.keep bb);have Z4:=zqh (Z3.out.keep bb);have Y4:=zqh (Y3.out.keep bb);have B4:=zqh (below_then B3.out bb);have HR:=zqh hr;have S4:=zqh bb.size;clear HC bb hr r0 r1 r2 r3 r4 r5 X3 Z3 Y3;have hyn : w1.heap.size ≠ w.heap.size:=by have:=KS.out; omega
              have X5:=zqh (vrow X4.out j);have Z5:=zqh (vrow_fr Z4.out (by omega : w.heap.size + 1 ≠ w.heap.size) (vmC j));have Y5:=zqh (qbox_row Y4.out hyn (vmC j));have B5:=zqh (below_setRow B4.out (Nat.le_refl w.heap.size) (vmC j));have E5 : Hid (Ex (fun g => g = w.heap.size ∨ g = w.heap.size + 1) w4 (w4.setRow w.heap.size (vmC j))):=zqh ((Ex.refl _ _).row (.inl rfl) _);go_upto_region 7 with (refine wpList_vstore (by rfl) _ _ rfl w.heap.size k j rfl rfl X4.out ?_)
              generalize World.setRow _ _ _ = w5 at X5 Z5 Y5 B5 E5 ⊢;have e17 : (j.free == 0) = false:=by have:=(HR.out (by trivial)).2.1.free; have:=HF0.out; simp; omega
              have e18 : j.next = 4611686018427387904:=by have:=(HR.out (by trivial)).2.1.next; have:=HN0.out; omega
              obtain ⟨p0,p1,p2,p3,p4,p5,p6,p7,p8,p9,p10,p11,p12,p13,p14,p15,p16,p17,p18,p19,p20,p21,p22⟩:=X5.out.use;clear p0 p1 p2 p3 p4 p5 p6 p7 p8 p9 p10 p11 p12 p13 p14 p15 p16 p19 p20 p21 p22;rw [e18] at p18;(go_wp2_with (first | (refine wpList_vload (by rfl) _ rfl w.heap.size j rfl X5.out ?_) | (refine wpList_vstore (by rfl) _ _ rfl (w.heap.size + 1) vm0 j rfl rfl Z5.out ?_)));have kb2:=below_setRow B5.out (show w.heap.size ≤ w.heap.size + 1 by omega) (vmC j);exact bodyPost_ret (res_ctt rfl _ _ _ _ rfl (vrow Z5.out _)) rfl ⟨j,none,0,0,rfl,fun hz => absurd (show (-258 : Int) = 0 from hz) (by decide),kb2⟩
          · rw [if_neg hz9]
            have HF0 : Hid (k.free ≠ 0):=fun e => hz9 (.inl e)
            have HN0 : Hid (k.next ≠ 4611686018427387904):=fun e => hz9 (.inr e)
            clear hz9;go_enter Tryz.func258,Tryz.ntmps258;go_upto_region 1 with fail
            generalize hw1 : World.alloc (World.alloc _ _) _ = w1;have kb : Below w.heap.size w w1:=by rw [← hw1]; exact al_two _ _ _
            have kx : VBox w1 w.heap.size k:=by rw [← hw1]; exact (in_two w k _).2
            have kz : VBox w1 (w.heap.size + 1) vm0:=by rw [← hw1]; exact in_two0 w _
            have KS : Hid (w1.heap.size = w.heap.size + 1 + 1):=by show _ = _; rw [← hw1]; exact in_twos w _ _
            clear hw1;have X1:=zqh kx;have Z1:=zqh kz;have B1:=zqh kb;have KZ : Hid (w1.drew.heap.size = w.heap.size + 1 + 1):=KS;clear kx kz kb;go_upto_region 1 with fail
            refine wp_region_noPanic ?_;refine wp_region_held_drew (S:=fun a9 => Below w.heap.size w a9 ∧ VBox a9 w.heap.size k ∧ VBox a9 (w.heap.size + 1) vm0) (by kernel_rfl) ?_ (fun hHeld => ?_)
            · exact ⟨B1.out.drew,X1.out,Z1.out⟩
            refine zqf 0 (fun u hSu => (hSu.1.cell (p:=p) hl0).trans HP.out) ?_;refine zqa 1 ?_;refine zqa 2 ?_;refine zqf 3 (fun u hSu => (hSu.1.cell (p:=⟨g,o,none⟩) hg).trans C0.out) ?_;refine zqa 4 ?_;refine zqa 5 ?_;refine zqf 6 (fun u hSu => (hSu.1.cell (p:=⟨g,o + 1,none⟩) hg).trans C1.out) ?_;refine zqa 7 ?_;refine zqa 8 ?_;refine zqf 9 (fun u hSu => (hSu.1.cell (p:=⟨g,o + 2,none⟩) hg).trans C2.out) ?_;refine zqa 10 ?_;refine zqa 11 ?_;refine zqf 12 (fun u hSu => (hSu.1.cell (p:=⟨g,o + 3,none⟩) hg).trans C3.out) ?_;refine zqa 13 ?_;refine zqt (i:=14) (v:=?v14a5) ?y14a5 ?r14a5
            case y14a5 =>
              intro u hSu;(try dsimp only at hSu);obtain ⟨p0,p1,p2,p3,p4,p5,p6,p7,p8,p9,p10,p11,p12,p13,p14,p15,p16,p17,p18,p19,p20,p21,p22⟩:=hSu.2.1.use;clear p0 p1 p2 p3 p4 p5 p6 p7 p8 p9 p10 p11 p12 p13 p14 p15 p16 p17 p19 p20 p21 p22;go_simp;(try with_reducible rfl)
            (try simp only [zq,Act.put]);refine zqa 15 ?_;refine zqr 16 fun K hK => ?_
            go_simp;(go_wp2_with fail);have OV:=zqh (qbox_new w1.drew rq0);refine hK.out _ _ ⟨below_then hHeld.1 (al_one _ _),hHeld.2.1.keep (al_one _ _),hHeld.2.2.keep (al_one _ _)⟩ (fun hHeld => ?_);clear hK K;(try simp only [zq,Act.put]);refine zqr 17 fun K hK => ?_
            refine step_qst rfl _ _ rfl w1.drew.heap.size rq0 ⟨kd,a,b,d,f,k.next⟩ rfl rfl OV.out ?_;have kz : w.heap.size ≤ w1.drew.heap.size ∧ w.heap.size ≠ w1.drew.heap.size ∧ w.heap.size + 1 ≠ w1.drew.heap.size:=by have:=KZ.out; omega
            refine hK.out _ _ ⟨below_setRow hHeld.1 kz.1 _,vrow_fr hHeld.2.1 kz.2.1 _,vrow_fr hHeld.2.2 kz.2.2 _⟩ (fun hHeld9 => ?_);have YY:=zqh (qrow OV.out ⟨kd,a,b,d,f,k.next⟩);have SS:=zqh hHeld9;clear hHeld hHeld9 kz OV;clear hK K;(try simp only [zq,Act.put]);refine wpAnyH_done (by kernel_rfl) ?_ _;refine NoPanic.normal ?_;generalize hu : World.setRow _ _ _ = u;have BU : Below w.heap.size w u:=by rw [← hu]; exact SS.out.1
            have XU : VBox u w.heap.size k:=by rw [← hu]; exact SS.out.2.1
            have ZU : VBox u (w.heap.size + 1) vm0:=by rw [← hu]; exact SS.out.2.2
            have YY : Hid (QBox u w1.heap.size ⟨kd,a,b,d,f,k.next⟩):=by show QBox _ _ _; rw [← hu]; exact YY.out
            clear hu X1 Z1 B1;have X2:=zqh XU;have Z2:=zqh ZU;have B2:=zqh BU;have S2:=zqh YY.out.lt;obtain ⟨r0,r1,r2,r3,r4,r5⟩:=YY.out.use;clear BU XU ZU SS;(go_wp2_with (refine wpList_vload (by rfl) _ rfl w.heap.size k rfl X2.out ?_));refine (HH.out _ (V0.out.keep B2.out)).mono ?_;rintro e w3 ⟨rfl,bb⟩;have X3:=zqh (X2.out.keep bb);have Z3:=zqh (Z2.out.keep bb);have B3:=zqh (below_then B2.out bb);have Y3:=zqh (YY.out.keep bb);have S3:=zqh bb.size;clear HH bb r0 r1 r2 r3 r4 r5 YY X2 Z2 B2;obtain ⟨r0,r1,r2,r3,r4,r5⟩:=Y3.out.use;(go_wp2_with (refine wpList_vload (by rfl) _ rfl w.heap.size k rfl X3.out ?_));refine (HC.out _ (V0.out.keep B3.out)).mono ?_;rintro e w4 ⟨j,rfl,hr,bb⟩;have X4:=zqh (X3.out.keep bb);have Z4:=zqh (Z3.out.keep bb);have Y4:=zqh (Y3.out.keep bb);have B4:=zqh (below_then B3.out bb);have HR:=zqh hr;have S4:=zqh bb.size;clear HC bb hr r0 r1 r2 r3 r4 r5 X3 Z3 Y3;have hyn : w1.heap.size ≠ w.heap.size:=by have:=KS.out; omega
            have X5:=zqh (vrow X4.out j);have Z5:=zqh (vrow_fr Z4.out (by omega : w.heap.size + 1 ≠ w.heap.size) (vmC j));have Y5:=zqh (qbox_row Y4.out hyn (vmC j));have B5:=zqh (below_setRow B4.out (Nat.le_refl w.heap.size) (vmC j));have E5 : Hid (Ex (fun g => g = w.heap.size ∨ g = w.heap.size + 1) w4 (w4.setRow w.heap.size (vmC j))):=zqh ((Ex.refl _ _).row (.inl rfl) _);go_upto_region 7 with (refine wpList_vstore (by rfl) _ _ rfl w.heap.size k j rfl rfl X4.out ?_)
            generalize World.setRow _ _ _ = w5 at X5 Z5 Y5 B5 E5 ⊢;have e17 : (j.free == 0) = false:=by have:=(HR.out (by trivial)).2.1.free; have:=HF0.out; simp; omega
            have e18 : (j.next == 4611686018427387904) = false:=by have:=(HR.out (by trivial)).2.1.next; have:=HN0.out; simp; omega
            have F18:=X5.out.free.2.2.2.2.2.2.2.2.2.2.2.2.2.2.2.2.2.2.1;obtain ⟨p0,p1,p2,p3,p4,p5,p6,p7,p8,p9,p10,p11,p12,p13,p14,p15,p16,p17,p18,p19,p20,p21,p22⟩:=X5.out.use;clear p0 p1 p2 p3 p4 p5 p6 p7 p8 p9 p10 p11 p12 p13 p14 p15 p16 p19 p20 p21 p22;go_upto_region 12 with fail
            generalize hV : World.setCell _ _ _ = V;have X6 : Hid (VBox V w.heap.size { j with next:=wrap64 (j.next + 1) }):=by show VBox _ _ _; rw [← hV]; exact X5.out.set_next _
            have Z6 : Hid (VBox V (w.heap.size + 1) vm0):=by show VBox _ _ _; rw [← hV]; exact vset_far Z5.out (by omega)
            have Y6 : Hid (QBox V w1.heap.size ⟨kd,a,b,d,f,k.next⟩):=by show QBox _ _ _; rw [← hV]; exact qbox_cell Y5.out hyn _
            have B6 : Hid (Below w.heap.size w V):=by show Below _ _ _; rw [← hV]; exact B5.out.setCell (Nat.le_refl _) _
            have E6 : Hid (Ex (fun g => g = w.heap.size ∨ g = w.heap.size + 1) w4 V):=by show Ex _ _ _; rw [← hV]; exact E5.out.cell (.inl rfl) _
            have q17 : V.cell? ⟨w.heap.size,17,none⟩ = some (.int .i64 j.free):=X6.out.use.2.2.2.2.2.2.2.2.2.2.2.2.2.2.2.2.2.1;have F17:=X6.out.free.2.2.2.2.2.2.2.2.2.2.2.2.2.2.2.2.2.1;clear hV F18 p17 p18 e17 e18 X5 Z5 Y5 B5 E5;go_upto_region 13 with fail
            generalize hV : World.setCell _ _ _ = V2;have X7 : Hid (VBox V2 w.heap.size { { j with next:=wrap64 (j.next + 1) } with free:=wrap64 (j.free - 1) }):=by show VBox _ _ _; rw [← hV]; exact X6.out.set_free _
            have Z7 : Hid (VBox V2 (w.heap.size + 1) vm0):=by show VBox _ _ _; rw [← hV]; exact vset_far Z6.out (by omega)
            have Y7 : Hid (QBox V2 w1.heap.size ⟨kd,a,b,d,f,k.next⟩):=by show QBox _ _ _; rw [← hV]; exact qbox_cell Y6.out hyn _
            have B7 : Hid (Below w.heap.size w V2):=by show Below _ _ _; rw [← hV]; exact B6.out.setCell (Nat.le_refl _) _
            have E7 : Hid (Ex (fun g => g = w.heap.size ∨ g = w.heap.size + 1) w4 V2):=by show Ex _ _ _; rw [← hV]; exact E6.out.cell (.inl rfl) _
            clear hV F17 q17 X6 Z6 Y6 B6 E6;have FIN : Hid (∀ V,Ex (fun g => g = w.heap.size ∨ g = w.heap.size + 1) w4 V → IsVm V { { j with next:=wrap64 (j.next + 1) } with free:=wrap64 (j.free - 1) } { L with e:=L.e ++ [⟨kd,a,b,d,f,k.next⟩] } ∧ Sc { { j with next:=wrap64 (j.next + 1) } with free:=wrap64 (j.free - 1) } { k with next:=wrap64 (k.next + 1),free:=wrap64 (k.free - 1) } ∧ MLoc w.heap.size { { j with next:=wrap64 (j.next + 1) } with free:=wrap64 (j.free - 1) } k):=by
              intro V hV;obtain ⟨v4,s4,l4⟩:=HR.out (by trivial);have i4 : IsVm w4 { { j with next:=wrap64 (j.next + 1) } with free:=wrap64 (j.free - 1) } { L with e:=L.e ++ [⟨kd,a,b,d,f,k.next⟩] }:=⟨v4.m,v4.d,v4.r,v4.f,v4.dict,v4.o,v4.q,v4.e,v4.h⟩;have m4 : MLoc w3.heap.size { { j with next:=wrap64 (j.next + 1) } with free:=wrap64 (j.free - 1) } k:=⟨l4.p,l4.d,l4.e,l4.r,l4.f,l4.w,l4.h⟩;refine ⟨V0.out.ex i4 m4 hV ?_,⟨s4.cm,s4.cd,s4.cr,s4.cw,s4.co,s4.here,s4.last,s4.qo,by show wrap64 (j.free - 1) = wrap64 (k.free - 1); rw [s4.free],by show wrap64 (j.next + 1) = wrap64 (k.next + 1); rw [s4.next],s4.arg,s4.self,s4.now⟩,m4.le (by have:=KS.out; have:=S2.out; have:=S3.out; omega)⟩;intro g hg h;have:=KS.out;have:=S2.out;have:=S3.out
              rcases h with rfl | rfl
              · exact ⟨by omega,by omega,vbox_nou8 X4.out⟩
              · exact ⟨by omega,by omega,vbox_nou8 Z4.out⟩
            clear HR X4 Z4 Y4 B4;generalize { { j with next:=wrap64 (j.next + 1) } with free:=wrap64 (j.free - 1) } = J at X7 FIN ⊢;refine wp_region_noPanic ?_;refine wp_region_held_drew (S:=fun a9 => Below w.heap.size w a9 ∧ VBox a9 w.heap.size J ∧ QBox a9 w1.heap.size ⟨kd,a,b,d,f,k.next⟩ ∧ Ex (fun g => g = w.heap.size ∨ g = w.heap.size + 1) w4 a9 ∧ ∃ j0,VBox a9 (w.heap.size + 1) j0) (by kernel_rfl) ?_ (fun hHeld => ?_)
            · exact ⟨B7.out.drew,X7.out,Y7.out,⟨E7.out.size,E7.out.same⟩,_,Z7.out⟩
            refine zqt (i:=0) (v:=vmV J) (fun u hSu => exec_vl _ rfl w.heap.size J rfl hSu.2.1) ?_;(try simp only [zq,Act.put]);refine zqa 1 ?_;refine zqt (i:=2) (v:=?v2a1) ?y2a1 ?r2a1
            case y2a1 =>
              intro u hSu;(try dsimp only at hSu);obtain ⟨r0,r1,r2,r3,r4,r5⟩:=hSu.2.2.1.use;go_simp;(try with_reducible rfl)
            (try simp only [zq,Act.put]);obtain ⟨j0,hz⟩:=hHeld.2.2.2.2;have HS1 : Hid (w.heap.size + 2 ≤ V2.heap.size):=by show _ ≤ _; have:=KS.out; have:=Y7.out.lt; omega
            refine wpAnyH_ready (rs:=[3,4]) (by kernel_rfl) (by simp) ?_;refine AllReadyH.cons (o:=_) rfl (fun K hK => ?_) (AllReadyH.cons (o:=_) rfl (fun K hK => ?_) AllReadyH.nil)
            case refine_1 =>
              go_simp;(go_wp2_with fail);have h1:=below_then hHeld.1 (al_one V2.drew (.cells #[.int .i64 k.next] 3));have h2:=hHeld.2.1.keep (al_one V2.drew (.cells #[.int .i64 k.next] 3));have h3:=hz.keep (al_one V2.drew (.cells #[.int .i64 k.next] 3));have h4:=hHeld.2.2.1.keep (al_one V2.drew (.cells #[.int .i64 k.next] 3));have h5:=hHeld.2.2.2.1.below (al_one V2.drew (.cells #[.int .i64 k.next] 3));refine hK.out _ _ ⟨h1,h2,h4,h5,_,h3⟩ (fun hHeld2 => ?_);clear hK K;(try simp only [zq,Act.put]);refine zqr 4 fun K hK => ?_
              refine step_vst rfl _ _ rfl (w.heap.size + 1) j0 J rfl rfl h3 ?_;have kb2:=below_setRow h1 (show w.heap.size ≤ w.heap.size + 1 by omega) (vmC J);have ke2:=h5.row (.inr rfl) (vmC J);refine hK.out _ _ ⟨kb2,vrow_fr h2 (by omega) _,qbox_row h4 (by have:=KS.out; omega) _,ke2,J,vrow h3 J⟩ (fun hHeld3 => ?_);clear hK K;(try simp only [zq,Act.put]);refine zqa 5 ?_;refine zqa 6 ?_;refine wpAnyH_done (by kernel_rfl) ?_ _;refine NoPanic.normal ?_;(go_wp2_with fail);refine bodyPost_ret (res_ctt rfl _ _ _ _ rfl (vrow h3 J)) rfl ⟨J,_,_,_,rfl,fun hz => ⟨(FIN.out _ ke2).1,(FIN.out _ ke2).2.1,(FIN.out _ ke2).2.2,?_⟩,kb2⟩;exact (((rowN_one V2.drew k.next).le (HS1.out : w.heap.size + 1 + 1 ≤ V2.drew.heap.size)).row_set (by omega) _).le (by omega)
            case refine_2 =>
              refine step_vst rfl _ _ rfl (w.heap.size + 1) j0 J rfl rfl hz ?_;have kb1:=below_setRow hHeld.1 (show w.heap.size ≤ w.heap.size + 1 by omega) (vmC J);have h2:=vrow_fr hHeld.2.1 (by omega : w.heap.size ≠ w.heap.size + 1) (vmC J);have h3:=vrow hz J;have h4:=qbox_row hHeld.2.2.1 (by have:=KS.out; omega : w1.heap.size ≠ w.heap.size + 1) (vmC J);have h5:=hHeld.2.2.2.1.row (.inr rfl) (vmC J);have hs:=hHeld.1.size;refine hK.out _ _ ⟨kb1,h2,h4,h5,J,h3⟩ (fun hHeld2 => ?_);clear hK K;(try simp only [zq,Act.put]);have hus : w.heap.size ≤ (World.setRow V2.drew (w.heap.size + 1) (vmC J)).heap.size:=kb1.size;generalize hu : World.setRow _ _ _ = u at kb1 h2 h3 h4 h5 hus hHeld2 ⊢;refine zqr 3 fun K hK => ?_
              go_simp;(go_wp2_with fail);have kb2:=below_then kb1 (al_one u (.cells #[.int .i64 k.next] 3));have h6:=h3.keep (al_one u (.cells #[.int .i64 k.next] 3));have ke2:=h5.below (al_one u (.cells #[.int .i64 k.next] 3));refine hK.out _ _ ⟨kb2,h2.keep (al_one _ _),h4.keep (al_one _ _),ke2,J,h6⟩ (fun hHeld3 => ?_);clear hK K;(try simp only [zq,Act.put]);refine zqa 5 ?_;refine zqa 6 ?_;refine wpAnyH_done (by kernel_rfl) ?_ _;refine NoPanic.normal ?_;(go_wp2_with fail);refine bodyPost_ret (res_ctt rfl _ _ _ _ rfl h6) rfl ⟨J,_,_,_,rfl,fun hz => ⟨(FIN.out _ ke2).1,(FIN.out _ ke2).2.1,(FIN.out _ ke2).2.2,?_⟩,kb2⟩;exact (rowN_one u k.next).le hus
        · obtain rfl : P = -257:=hPC.resolve_left hp0
          rw [if_neg (by decide)];clear hPC hp0;go_enter Tryz.func258,Tryz.ntmps258;go_upto_region 1 with fail
          generalize hw1 : World.alloc (World.alloc _ _) _ = w1;have kb : Below w.heap.size w w1:=by rw [← hw1]; exact al_two _ _ _
          have kx : VBox w1 w.heap.size k:=by rw [← hw1]; exact (in_two w k _).2
          have kz : VBox w1 (w.heap.size + 1) vm0:=by rw [← hw1]; exact in_two0 w _
          have KS : Hid (w1.heap.size = w.heap.size + 1 + 1):=by show _ = _; rw [← hw1]; exact in_twos w _ _
          clear hw1;have X1:=zqh kx;have Z1:=zqh kz;have B1:=zqh kb;have KZ : Hid (w1.drew.heap.size = w.heap.size + 1 + 1):=KS;clear kx kz kb;go_upto_region 1 with fail
          refine wp_region_noPanic ?_;refine wp_region_held_drew (S:=fun a9 => Below w.heap.size w a9 ∧ VBox a9 w.heap.size k ∧ VBox a9 (w.heap.size + 1) vm0) (by kernel_rfl) ?_ (fun hHeld => ?_)
          · exact ⟨B1.out.drew,X1.out,Z1.out⟩
          refine zqf 0 (fun u hSu => (hSu.1.cell (p:=p) hl0).trans HP.out) ?_;refine zqa 1 ?_;refine zqa 2 ?_;refine zqf 3 (fun u hSu => (hSu.1.cell (p:=⟨g,o,none⟩) hg).trans C0.out) ?_;refine zqa 4 ?_;refine zqa 5 ?_;refine zqf 6 (fun u hSu => (hSu.1.cell (p:=⟨g,o + 1,none⟩) hg).trans C1.out) ?_;refine zqa 7 ?_;refine zqa 8 ?_;refine zqf 9 (fun u hSu => (hSu.1.cell (p:=⟨g,o + 2,none⟩) hg).trans C2.out) ?_;refine zqa 10 ?_;refine zqa 11 ?_;refine zqf 12 (fun u hSu => (hSu.1.cell (p:=⟨g,o + 3,none⟩) hg).trans C3.out) ?_;refine zqa 13 ?_;refine zqt (i:=14) (v:=?v14a6) ?y14a6 ?r14a6
          case y14a6 =>
            intro u hSu;(try dsimp only at hSu);obtain ⟨p0,p1,p2,p3,p4,p5,p6,p7,p8,p9,p10,p11,p12,p13,p14,p15,p16,p17,p18,p19,p20,p21,p22⟩:=hSu.2.1.use;clear p0 p1 p2 p3 p4 p5 p6 p7 p8 p9 p10 p11 p12 p13 p14 p15 p16 p17 p19 p20 p21 p22;go_simp;(try with_reducible rfl)
          (try simp only [zq,Act.put]);refine zqa 15 ?_;refine zqr 16 fun K hK => ?_
          go_simp;(go_wp2_with fail);have OV:=zqh (qbox_new w1.drew rq0);refine hK.out _ _ ⟨below_then hHeld.1 (al_one _ _),hHeld.2.1.keep (al_one _ _),hHeld.2.2.keep (al_one _ _)⟩ (fun hHeld => ?_);clear hK K;(try simp only [zq,Act.put]);refine zqr 17 fun K hK => ?_
          refine step_qst rfl _ _ rfl w1.drew.heap.size rq0 ⟨kd,a,b,d,f,k.next⟩ rfl rfl OV.out ?_;have kz : w.heap.size ≤ w1.drew.heap.size ∧ w.heap.size ≠ w1.drew.heap.size ∧ w.heap.size + 1 ≠ w1.drew.heap.size:=by have:=KZ.out; omega
          refine hK.out _ _ ⟨below_setRow hHeld.1 kz.1 _,vrow_fr hHeld.2.1 kz.2.1 _,vrow_fr hHeld.2.2 kz.2.2 _⟩ (fun hHeld9 => ?_);have YY:=zqh (qrow OV.out ⟨kd,a,b,d,f,k.next⟩);have SS:=zqh hHeld9;clear hHeld hHeld9 kz OV;clear hK K;(try simp only [zq,Act.put]);refine wpAnyH_done (by kernel_rfl) ?_ _;refine NoPanic.normal ?_;generalize hu : World.setRow _ _ _ = u;have BU : Below w.heap.size w u:=by rw [← hu]; exact SS.out.1
          have XU : VBox u w.heap.size k:=by rw [← hu]; exact SS.out.2.1
          have ZU : VBox u (w.heap.size + 1) vm0:=by rw [← hu]; exact SS.out.2.2
          have YY : Hid (QBox u w1.heap.size ⟨kd,a,b,d,f,k.next⟩):=by show QBox _ _ _; rw [← hu]; exact YY.out
          clear hu X1 Z1 B1;have X2:=zqh XU;have Z2:=zqh ZU;have B2:=zqh BU;have S2:=zqh YY.out.lt;obtain ⟨r0,r1,r2,r3,r4,r5⟩:=YY.out.use;clear BU XU ZU SS;(go_wp2_with (refine wpList_vload (by rfl) _ rfl w.heap.size k rfl X2.out ?_));refine (HH.out _ (V0.out.keep B2.out)).mono ?_;rintro e w3 ⟨rfl,bb⟩;have X3:=zqh (X2.out.keep bb);have Z3:=zqh (Z2.out.keep bb);have B3:=zqh (below_then B2.out bb);have Y3:=zqh (YY.out.keep bb);have S3:=zqh bb.size;clear HH bb r0 r1 r2 r3 r4 r5 YY X2 Z2 B2;obtain ⟨r0,r1,r2,r3,r4,r5⟩:=Y3.out.use;(go_wp2_with (refine wpList_vload (by rfl) _ rfl w.heap.size k rfl X3.out ?_));refine (HC.out _ (V0.out.keep B3.out)).mono ?_;rintro e w4 ⟨j,rfl,hr,bb⟩;have X4:=zqh (X3.out.keep bb);have Z4:=zqh (Z3.out.keep bb);have Y4:=zqh (Y3.out.keep bb);have B4:=zqh (below_then B3.out bb);have HR:=zqh hr;have S4:=zqh bb.size;clear HC bb hr r0 r1 r2 r3 r4 r5 X3 Z3 Y3;have hyn : w1.heap.size ≠ w.heap.size:=by have:=KS.out; omega
          have X5:=zqh (vrow X4.out j);have Z5:=zqh (vrow_fr Z4.out (by omega : w.heap.size + 1 ≠ w.heap.size) (vmC j));have Y5:=zqh (qbox_row Y4.out hyn (vmC j));have B5:=zqh (below_setRow B4.out (Nat.le_refl w.heap.size) (vmC j));have E5 : Hid (Ex (fun g => g = w.heap.size ∨ g = w.heap.size + 1) w4 (w4.setRow w.heap.size (vmC j))):=zqh ((Ex.refl _ _).row (.inl rfl) _);go_upto_region 7 with (refine wpList_vstore (by rfl) _ _ rfl w.heap.size k j rfl rfl X4.out ?_)
          generalize World.setRow _ _ _ = w5 at X5 Z5 Y5 B5 E5 ⊢;(go_wp2_with (first | (refine wpList_vload (by rfl) _ rfl w.heap.size j rfl X5.out ?_) | (refine wpList_vstore (by rfl) _ _ rfl (w.heap.size + 1) vm0 j rfl rfl Z5.out ?_)));have kb2:=below_setRow B5.out (show w.heap.size ≤ w.heap.size + 1 by omega) (vmC j);exact bodyPost_ret (res_ctt rfl _ _ _ _ rfl (vrow Z5.out _)) rfl ⟨j,none,0,0,rfl,fun hz => absurd (show (-257 : Int) = 0 from hz) (by decide),kb2⟩
      · have g2 : decide (4294967296 ≤ f) = true:=by simp; omega
        have hE : timerE k L kd a b d f = ⟨-24,[k.next],(timerE k L kd a b d f).K,(timerE k L kd a b d f).L⟩:=by unfold timerE timerC; rw [hP]; simp; omega
        rw [hE];generalize (timerE k L kd a b d f).K = K9;generalize (timerE k L kd a b d f).L = L9;clear hE hP;go_enter Tryz.func258,Tryz.ntmps258;go_upto_region 1 with fail
        generalize hw1 : World.alloc (World.alloc _ _) _ = w1;have kb : Below w.heap.size w w1:=by rw [← hw1]; exact al_two _ _ _
        have kx : VBox w1 w.heap.size k:=by rw [← hw1]; exact (in_two w k _).2
        have kz : VBox w1 (w.heap.size + 1) vm0:=by rw [← hw1]; exact in_two0 w _
        have KS : Hid (w1.heap.size = w.heap.size + 1 + 1):=by show _ = _; rw [← hw1]; exact in_twos w _ _
        clear hw1;have X1:=zqh kx;have Z1:=zqh kz;have B1:=zqh kb;have KZ : Hid (w1.drew.heap.size = w.heap.size + 1 + 1):=KS;clear kx kz kb;go_upto_region 1 with fail
        refine wp_region_noPanic ?_;refine wp_region_held_drew (S:=fun a9 => Below w.heap.size w a9 ∧ VBox a9 w.heap.size k ∧ VBox a9 (w.heap.size + 1) vm0) (by kernel_rfl) ?_ (fun hHeld => ?_)
        · exact ⟨B1.out.drew,X1.out,Z1.out⟩
        refine zqf 0 (fun u hSu => (hSu.1.cell (p:=p) hl0).trans HP.out) ?_;refine zqa 1 ?_;refine zqa 2 ?_;refine zqf 3 (fun u hSu => (hSu.1.cell (p:=⟨g,o,none⟩) hg).trans C0.out) ?_;refine zqa 4 ?_;refine zqa 5 ?_;refine zqf 6 (fun u hSu => (hSu.1.cell (p:=⟨g,o + 1,none⟩) hg).trans C1.out) ?_;refine zqa 7 ?_;refine zqa 8 ?_;refine zqf 9 (fun u hSu => (hSu.1.cell (p:=⟨g,o + 2,none⟩) hg).trans C2.out) ?_;refine zqa 10 ?_;refine zqa 11 ?_;refine zqf 12 (fun u hSu => (hSu.1.cell (p:=⟨g,o + 3,none⟩) hg).trans C3.out) ?_;refine zqa 13 ?_;refine zqt (i:=14) (v:=?v14a7) ?y14a7 ?r14a7
        case y14a7 =>
          intro u hSu;(try dsimp only at hSu);obtain ⟨p0,p1,p2,p3,p4,p5,p6,p7,p8,p9,p10,p11,p12,p13,p14,p15,p16,p17,p18,p19,p20,p21,p22⟩:=hSu.2.1.use;clear p0 p1 p2 p3 p4 p5 p6 p7 p8 p9 p10 p11 p12 p13 p14 p15 p16 p17 p19 p20 p21 p22;go_simp;(try with_reducible rfl)
        (try simp only [zq,Act.put]);refine zqa 15 ?_;refine zqr 16 fun K hK => ?_
        go_simp;(go_wp2_with fail);have OV:=zqh (qbox_new w1.drew rq0);refine hK.out _ _ ⟨below_then hHeld.1 (al_one _ _),hHeld.2.1.keep (al_one _ _),hHeld.2.2.keep (al_one _ _)⟩ (fun hHeld => ?_);clear hK K;(try simp only [zq,Act.put]);refine zqr 17 fun K hK => ?_
        refine step_qst rfl _ _ rfl w1.drew.heap.size rq0 ⟨kd,a,b,d,f,k.next⟩ rfl rfl OV.out ?_;have kz : w.heap.size ≤ w1.drew.heap.size ∧ w.heap.size ≠ w1.drew.heap.size ∧ w.heap.size + 1 ≠ w1.drew.heap.size:=by have:=KZ.out; omega
        refine hK.out _ _ ⟨below_setRow hHeld.1 kz.1 _,vrow_fr hHeld.2.1 kz.2.1 _,vrow_fr hHeld.2.2 kz.2.2 _⟩ (fun hHeld9 => ?_);have YY:=zqh (qrow OV.out ⟨kd,a,b,d,f,k.next⟩);have SS:=zqh hHeld9;clear hHeld hHeld9 kz OV;clear hK K;(try simp only [zq,Act.put]);refine wpAnyH_done (by kernel_rfl) ?_ _;refine NoPanic.normal ?_;generalize hu : World.setRow _ _ _ = u;have BU : Below w.heap.size w u:=by rw [← hu]; exact SS.out.1
        have XU : VBox u w.heap.size k:=by rw [← hu]; exact SS.out.2.1
        have ZU : VBox u (w.heap.size + 1) vm0:=by rw [← hu]; exact SS.out.2.2
        have YY : Hid (QBox u w1.heap.size ⟨kd,a,b,d,f,k.next⟩):=by show QBox _ _ _; rw [← hu]; exact YY.out
        clear hu X1 Z1 B1;have X2:=zqh XU;have Z2:=zqh ZU;have B2:=zqh BU;have S2:=zqh YY.out.lt;obtain ⟨r0,r1,r2,r3,r4,r5⟩:=YY.out.use;clear BU XU ZU SS;(go_wp2_with (refine wpList_vload (by rfl) _ rfl w.heap.size k rfl X2.out ?_));refine (HH.out _ (V0.out.keep B2.out)).mono ?_;rintro e w3 ⟨rfl,bb⟩;have X3:=zqh (X2.out.keep bb);have Z3:=zqh (Z2.out.keep bb);have B3:=zqh (below_then B2.out bb);have Y3:=zqh (YY.out.keep bb);have S3:=zqh bb.size;clear HH bb r0 r1 r2 r3 r4 r5 YY X2 Z2 B2;obtain ⟨r0,r1,r2,r3,r4,r5⟩:=Y3.out.use;(go_wp2_with (first | (refine wpList_vload (by rfl) _ rfl w.heap.size k rfl X3.out ?_) | (refine wpList_vstore (by rfl) _ _ rfl _ vm0 k rfl rfl Z3.out ?_)));have kb2:=below_setRow B3.out (show w.heap.size ≤ w.heap.size + 1 by omega) (vmC k);exact bodyPost_ret (res_ctt rfl _ _ _ _ rfl (vrow Z3.out _)) rfl ⟨k,none,0,0,rfl,fun hz => absurd (show (-24 : Int) = 0 from hz) (by decide),kb2⟩
    · have g1 : decide (f < 1) = true:=by simp; omega
      have hE : timerE k L kd a b d f = ⟨-24,[k.next],(timerE k L kd a b d f).K,(timerE k L kd a b d f).L⟩:=by unfold timerE timerC; rw [hP]; simp; omega
      rw [hE];generalize (timerE k L kd a b d f).K = K9;generalize (timerE k L kd a b d f).L = L9;clear hE hP;go_enter Tryz.func258,Tryz.ntmps258;go_upto_region 1 with fail
      generalize hw1 : World.alloc (World.alloc _ _) _ = w1;have kb : Below w.heap.size w w1:=by rw [← hw1]; exact al_two _ _ _
      have kx : VBox w1 w.heap.size k:=by rw [← hw1]; exact (in_two w k _).2
      have kz : VBox w1 (w.heap.size + 1) vm0:=by rw [← hw1]; exact in_two0 w _
      have KS : Hid (w1.heap.size = w.heap.size + 1 + 1):=by show _ = _; rw [← hw1]; exact in_twos w _ _
      clear hw1;have X1:=zqh kx;have Z1:=zqh kz;have B1:=zqh kb;have KZ : Hid (w1.drew.heap.size = w.heap.size + 1 + 1):=KS;clear kx kz kb;go_upto_region 1 with fail
      refine wp_region_noPanic ?_;refine wp_region_held_drew (S:=fun a9 => Below w.heap.size w a9 ∧ VBox a9 w.heap.size k ∧ VBox a9 (w.heap.size + 1) vm0) (by kernel_rfl) ?_ (fun hHeld => ?_)
      · exact ⟨B1.out.drew,X1.out,Z1.out⟩
      refine zqf 0 (fun u hSu => (hSu.1.cell (p:=p) hl0).trans HP.out) ?_;refine zqa 1 ?_;refine zqa 2 ?_;refine zqf 3 (fun u hSu => (hSu.1.cell (p:=⟨g,o,none⟩) hg).trans C0.out) ?_;refine zqa 4 ?_;refine zqa 5 ?_;refine zqf 6 (fun u hSu => (hSu.1.cell (p:=⟨g,o + 1,none⟩) hg).trans C1.out) ?_;refine zqa 7 ?_;refine zqa 8 ?_;refine zqf 9 (fun u hSu => (hSu.1.cell (p:=⟨g,o + 2,none⟩) hg).trans C2.out) ?_;refine zqa 10 ?_;refine zqa 11 ?_;refine zqf 12 (fun u hSu => (hSu.1.cell (p:=⟨g,o + 3,none⟩) hg).trans C3.out) ?_;refine zqa 13 ?_;refine zqt (i:=14) (v:=?v14a8) ?y14a8 ?r14a8
      case y14a8 =>
        intro u hSu;(try dsimp only at hSu);obtain ⟨p0,p1,p2,p3,p4,p5,p6,p7,p8,p9,p10,p11,p12,p13,p14,p15,p16,p17,p18,p19,p20,p21,p22⟩:=hSu.2.1.use;clear p0 p1 p2 p3 p4 p5 p6 p7 p8 p9 p10 p11 p12 p13 p14 p15 p16 p17 p19 p20 p21 p22;go_simp;(try with_reducible rfl)
      (try simp only [zq,Act.put]);refine zqa 15 ?_;refine zqr 16 fun K hK => ?_
      go_simp;(go_wp2_with fail);have OV:=zqh (qbox_new w1.drew rq0);refine hK.out _ _ ⟨below_then hHeld.1 (al_one _ _),hHeld.2.1.keep (al_one _ _),hHeld.2.2.keep (al_one _ _)⟩ (fun hHeld => ?_);clear hK K;(try simp only [zq,Act.put]);refine zqr 17 fun K hK => ?_
      refine step_qst rfl _ _ rfl w1.drew.heap.size rq0 ⟨kd,a,b,d,f,k.next⟩ rfl rfl OV.out ?_;have kz : w.heap.size ≤ w1.drew.heap.size ∧ w.heap.size ≠ w1.drew.heap.size ∧ w.heap.size + 1 ≠ w1.drew.heap.size:=by have:=KZ.out; omega
      refine hK.out _ _ ⟨below_setRow hHeld.1 kz.1 _,vrow_fr hHeld.2.1 kz.2.1 _,vrow_fr hHeld.2.2 kz.2.2 _⟩ (fun hHeld9 => ?_);have YY:=zqh (qrow OV.out ⟨kd,a,b,d,f,k.next⟩);have SS:=zqh hHeld9;clear hHeld hHeld9 kz OV;clear hK K;(try simp only [zq,Act.put]);refine wpAnyH_done (by kernel_rfl) ?_ _;refine NoPanic.normal ?_;generalize hu : World.setRow _ _ _ = u;have BU : Below w.heap.size w u:=by rw [← hu]; exact SS.out.1
      have XU : VBox u w.heap.size k:=by rw [← hu]; exact SS.out.2.1
      have ZU : VBox u (w.heap.size + 1) vm0:=by rw [← hu]; exact SS.out.2.2
      have YY : Hid (QBox u w1.heap.size ⟨kd,a,b,d,f,k.next⟩):=by show QBox _ _ _; rw [← hu]; exact YY.out
      clear hu X1 Z1 B1;have X2:=zqh XU;have Z2:=zqh ZU;have B2:=zqh BU;have S2:=zqh YY.out.lt;obtain ⟨r0,r1,r2,r3,r4,r5⟩:=YY.out.use;clear BU XU ZU SS;(go_wp2_with (refine wpList_vload (by rfl) _ rfl w.heap.size k rfl X2.out ?_));refine (HH.out _ (V0.out.keep B2.out)).mono ?_;rintro e w3 ⟨rfl,bb⟩;have X3:=zqh (X2.out.keep bb);have Z3:=zqh (Z2.out.keep bb);have B3:=zqh (below_then B2.out bb);have Y3:=zqh (YY.out.keep bb);have S3:=zqh bb.size;clear HH bb r0 r1 r2 r3 r4 r5 YY X2 Z2 B2;obtain ⟨r0,r1,r2,r3,r4,r5⟩:=Y3.out.use;(go_wp2_with (first | (refine wpList_vload (by rfl) _ rfl w.heap.size k rfl X3.out ?_) | (refine wpList_vstore (by rfl) _ _ rfl _ vm0 k rfl rfl Z3.out ?_)));have kb2:=below_setRow B3.out (show w.heap.size ≤ w.heap.size + 1 by omega) (vmC k);exact bodyPost_ret (res_ctt rfl _ _ _ _ rfl (vrow Z3.out _)) rfl ⟨k,none,0,0,rfl,fun hz => absurd (show (-24 : Int) = 0 from hz) (by decide),kb2⟩
end Go.Proofs.YtcmldhjicjmmgaaGreatDoor
