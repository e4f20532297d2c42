/- Part 47. -/
import Derived.Test.YtlgnijhemfkflaaGreatDoorPaBS
set_option linter.unusedVariables false
set_option linter.unusedSimpArgs false
set_option maxRecDepth 100000
set_option maxHeartbeats 4000000

namespace Go.Proofs.YtlgnijhemfkflaaGreatDoor
open Go.RowKit


set_option maxHeartbeats 40000000 in
theorem asks_any (h f : Int) (A : Option Addr) (n c : Nat) (l : List Q4) (w : World) (HT : Tab w) (h0 : 0 ≤ h) (h1 : h ≤ 255) (f0 : 0 ≤ f) (f1 : f ≤ 255) (hl : Rws q4E w (.slice A n c) l) (hr : ∀ q ∈ l,cellR q.a ∧ cellR q.b ∧ cellR q.c ∧ cellR q.d) : Calls Tryz.prog 9 #[.int .u8 h,.int .u8 f,.slice A n c] w fun e w' => e = .returned (.bool true) ∧ Below w.heap.size w w':=by
  have T0:=zqh HT;have TT0:=zqh HT;have B0:=zqh (Below.refl w.heap.size w);have PP0:=zqh hl;have HLR:=zqh hr;clear HT hl hr;obtain ⟨hn,hhn⟩ : ∃ x : Nat,h % 5 = (x : Int):=⟨(h % 5).toNat,by omega⟩;have hn5 : hn < 5:=by omega
  obtain ⟨F,hF⟩ : ∃ x : Int,f % 65 = x:=⟨_,rfl⟩;have hF0 : 0 ≤ F ∧ F ≤ 64:=by omega
  have HFF:=zqh hF0;have HN5:=zqh hn5;clear hF0;go_enter Tryz.func9,Tryz.ntmps9;(go_wp2_with fail);refine (shown_any _ T0.out).mono ?_;rintro e w1 ⟨rfl,bb⟩;have T1:=zqh (T0.out.keep bb);have B1:=zqh (below_then B0.out bb);clear bb T0 B0
  by_cases h20 : 20 < n
  · have g1 : (20 : Int) < (n : Int):=by omega
    (go_wp2_with fail);go_ret;exact ⟨rfl,B1.out⟩
  have g1 : decide ((20 : Int) < (n : Int)) = false:=by simp; omega
  have g2 : decide (20 < n) = false:=by simp; omega
  have H20:=zqh h20;clear h20;(go_wp2_with fail);refine (stocked_any none 0 0 [] _ (row_nil _)).mono ?_;rintro e w2 ⟨k0,rfl,hv,hs,_,bb⟩;have HS0:=zqh hs;clear hs g1 g2;have T2:=zqh (T1.out.keep bb);have B2:=zqh (below_then B1.out bb);have M2:=zqh hv;clear bb T1 B1;clear hv;have LBV : Hid (w.heap.size ≤ w2.heap.size):=zqh B2.out.size;have FRV:=zqh (free_of M2.out (Nat.le_refl _));go_upto_region 5 with (refine wpList_vstore (by rfl) _ _ rfl _ vm0 k0 rfl rfl (vbox_zero _) ?_)
  generalize hw3 : World.setRow _ _ _ = w3;have kb : Below w2.heap.size w2 w3:=by rw [← hw3]; exact below_setRow (al_one _ _) (Nat.le_refl _) _
  have hx : VBox w3 w2.heap.size k0:=by rw [← hw3]; exact vrow (vbox_zero w2) k0
  clear hw3;have T3:=zqh (T2.out.keep kb);have M3:=zqh (M2.out.keep kb);have B3:=zqh (below_then B2.out kb);have V3:=zqh hx;clear kb T2 M2 B2;clear hx;have hmk:=hands_make hn hn5;have lt8:=zqh V3.out.lt;have e5 : h.tmod 5 = (hn : Int):=by rw [Int.tmod_eq_emod_of_nonneg h0]; exact hhn
  have ka : Below w3.heap.size w3 (w3.alloc (.cells ((handsL hn).flatMap hnE).toArray 93)):=al_one _ _;have F9:=(V3.out.keep ka).free.2.2.2.2.2.2.2.2.2.2.2.2.2.2.2.2.2.2.2.2.2.2;have P9:=(V3.out.keep ka).use.2.2.2.2.2.2.2.2.2.2.2.2.2.2.2.2.2.2.2.2.2.2;go_upto_region 6 with fail
  have hV : ∃ V,World.setCell (w3.alloc (.cells ((handsL hn).flatMap hnE).toArray 93)) ⟨w2.heap.size,22,none⟩ (.slice (some ⟨w3.heap.size,0,none⟩) hn hn) = V:=⟨_,rfl⟩;obtain ⟨w4,hV⟩:=hV;have xe : Ex (fun g => g = w2.heap.size) (w3.alloc (.cells ((handsL hn).flatMap hnE).toArray 93)) w4:=by rw [← hV]; exact Ex.cell (X:=fun g => g = w2.heap.size) (Ex.refl _ _) rfl _
  have lt9:=V3.out.lt;have B4 : Hid (Below w.heap.size w w4):=by show Below _ _ _; rw [← hV]; exact (below_then B3.out ka).setCell LBV.out _
  have T4 : Hid (Tab w4):=zqh (TT0.out.keep B4.out);have M9:=isvm_free (M3.out.keep ka) FRV.out xe (V3.out.keep ka);have M4:=zqh (M9.set_h (rws_free (s:=4) (fun _ => rfl) (hands_made hn hn5 w3) (.inr fun q hq => by cases hq; show w3.heap.size ≠ w2.heap.size; omega) xe));have V4 : Hid (VBox w4 w2.heap.size { k0 with hA:=some ⟨w3.heap.size,0,none⟩,hn:=hn,hc:=hn }):=by show VBox _ _ _; rw [← hV]; exact (V3.out.keep ka).put_h _ _ _
  first | rw [hV] | (rw [show (World.setCell _ _ _) = _ from hV]) | (rw [show (World.setCell (World.alloc _ _) _ _) = _ from hV])
  clear hV ka xe lt9 F9 P9 M9 M3 V3 T3 B3;have HSH : Hid (Sc { k0 with hA:=some ⟨w3.heap.size,0,none⟩,hn:=hn,hc:=hn } stS):=zqh ⟨HS0.out.cm,HS0.out.cd,HS0.out.cr,HS0.out.cw,HS0.out.co,HS0.out.here,HS0.out.last,HS0.out.qo,HS0.out.free,HS0.out.next,HS0.out.arg,HS0.out.self,HS0.out.now⟩;have FRH : Hid (Free { k0 with hA:=some ⟨w3.heap.size,0,none⟩,hn:=hn,hc:=hn } w2.heap.size):=zqh ⟨FRV.out.p,FRV.out.d,FRV.out.r,FRV.out.f,FRV.out.w,FRV.out.e,.inr fun q hq e => by cases hq; have e2 : w3.heap.size = w2.heap.size:=e; have:=lt8.out; omega⟩;generalize hK : ({ k0 with hA:=some ⟨w3.heap.size,0,none⟩,hn:=hn,hc:=hn } : VmK) = kH at V4 M4 HSH FRH;clear hK;clear FRV HS0 hmk lt8 e5;have e6 : f.tmod 65 = F:=by rw [Int.tmod_eq_emod_of_nonneg f0]; exact hF
  have ka : Below w4.heap.size w4 w4:=Below.refl _ _;have F9:=(V4.out.keep ka).free.2.2.2.2.2.2.2.2.2.2.2.2.2.2.2.2.2.1;have P9:=(V4.out.keep ka).use.2.2.2.2.2.2.2.2.2.2.2.2.2.2.2.2.2.1;go_upto_region 7 with fail
  have hV : ∃ V,World.setCell w4 ⟨w2.heap.size,17,none⟩ (.int .i64 F) = V:=⟨_,rfl⟩;obtain ⟨w5,hV⟩:=hV;have xe : Ex (fun g => g = w2.heap.size) w4 w5:=by rw [← hV]; exact Ex.cell (X:=fun g => g = w2.heap.size) (Ex.refl _ _) rfl _
  have lt9:=V4.out.lt;have B5 : Hid (Below w.heap.size w w5):=by show Below _ _ _; rw [← hV]; exact (below_then B4.out ka).setCell LBV.out _
  have T5 : Hid (Tab w5):=zqh (TT0.out.keep B5.out);have M9:=isvm_free (M4.out.keep ka) FRH.out xe (V4.out.keep ka);have M5:=zqh ((⟨M9.m,M9.d,M9.r,M9.f,M9.dict,M9.o,M9.q,M9.e,M9.h⟩ : IsVm w5 { kH with free:=F } _));have V5 : Hid (VBox w5 w2.heap.size { kH with free:=F }):=by show VBox _ _ _; rw [← hV]; exact (V4.out.keep ka).set_free _
  first | rw [hV] | (rw [show (World.setCell _ _ _) = _ from hV]) | (rw [show (World.setCell (World.alloc _ _) _ _) = _ from hV])
  clear hV ka xe lt9 F9 P9 M9 M4 V4 T4 B4;have HA0 : Hid (AskAt hn F w w2.heap.size 0 0 0 w5 { kH with free:=F } []):=zqh ⟨LBV.out,V5.out,M5.out,⟨HSH.out.cm,HSH.out.cd,HSH.out.cr,HSH.out.cw,HSH.out.co,HSH.out.here,HSH.out.last,HSH.out.qo,by show F = F - 0; omega,HSH.out.next,HSH.out.arg,HSH.out.self,HSH.out.now⟩,⟨FRH.out.p,FRH.out.d,FRH.out.r,FRH.out.f,FRH.out.w,FRH.out.e,FRH.out.h⟩,rfl,by decide,by decide,HFF.out.1,by decide,B5.out⟩;clear V5 M5 T5 B5 FRH HSH LBV e6;(go_wp2_with fail)
  go_loopw [9,10,11] (fun s9 s10 s11 wr => ∃ (i many : Nat) (t : Int) (k : VmK) (E : List Rq),s9 = .int .i64 (many : Int) ∧ s10 = .int .i64 t ∧ s11 = .int .i64 (i : Int) ∧ Hid (AskAt hn F w w2.heap.size i many t wr k E)) (fun _ _ s11 _ => n - (intOf s11).toNat)
  case atStart => exact ⟨0,0,0,_,[],rfl,rfl,rfl,HA0⟩
  case round =>
    clear HA0;obtain ⟨i,many,t,k,E,rfl,rfl,rfl,HA⟩:=hrel
    by_cases hil : i < n
    · skip
      obtain ⟨g,o,a,b,c9,d,rfl,hc,ra,rb,rc,rd⟩:=q4_at PP0.out HLR.out hil;have CC0:=zqh hc;have HCR : Hid (∀ x ∈ [a,b,c9,d],cellR x):=zqh (by intro x hx; simp at hx; rcases hx with rfl | rfl | rfl | rfl <;> assumption);have HIL:=zqh hil;have hil2 : (i : Int) < (n : Int):=by omega
      have hi20 : i < 20:=by have:=H20.out; omega
      clear hc hil;obtain ⟨w20,rfl⟩ : ∃ x,x = wr:=⟨_,rfl⟩;have B20:=zqh HA.out.bel;have T20:=zqh (TT0.out.keep HA.out.bel);have C20:=zqh (CC0.out.keep HA.out.bel);have V20:=zqh HA.out.box;have M20:=zqh HA.out.vm;have HSV:=zqh HA.out.sc;have FRV:=zqh HA.out.free;obtain ⟨r,hr⟩ : ∃ r,i % 4 = r:=⟨_,rfl⟩;have hr4 : r < 4:=by omega
      obtain ⟨m9,hm9⟩ : ∃ x,120 + r = x:=⟨_,rfl⟩;go_upto_region 12 with fail
      go_cut [12] (fun s12 wx => ∃ s,s12 = .string s ∧ Hid (s = strB (nmP m9)) ∧ Hid (Below w20.heap.size w20 wx))
      case first =>
        have hq : r = 0 ∨ r = 1 ∨ r = 2 ∨ r = 3:=by omega
        subst hm9
        rcases hq with rfl | rfl | rfl | rfl
        · have e4 : (i : Int).tmod 4 = 0:=by rw [Int.tmod_eq_emod_of_nonneg (by omega)]; omega
          (go_wp2_with fail);go_meet;exact ⟨_,rfl,zqh (show ⟨#[80,79,83,84]⟩ = strB (nmP (120 + 0)) from by kernel_rfl),zqh (by first | exact al_one _ _ | exact drew_bel0 _)⟩
        · have e4 : (i : Int).tmod 4 = 1:=by rw [Int.tmod_eq_emod_of_nonneg (by omega)]; omega
          (go_wp2_with fail);go_meet;exact ⟨_,rfl,zqh (show ⟨#[65,70,84,69,82]⟩ = strB (nmP (120 + 1)) from by kernel_rfl),zqh (by first | exact al_one _ _ | exact drew_bel0 _)⟩
        · have e4 : (i : Int).tmod 4 = 2:=by rw [Int.tmod_eq_emod_of_nonneg (by omega)]; omega
          (go_wp2_with fail);go_meet;exact ⟨_,rfl,zqh (show ⟨#[69,86,69,82,89]⟩ = strB (nmP (120 + 2)) from by kernel_rfl),zqh (by first | exact al_one _ _ | exact drew_bel0 _)⟩
        · have e4 : (i : Int).tmod 4 = 3:=by rw [Int.tmod_eq_emod_of_nonneg (by omega)]; omega
          (go_wp2_with fail);go_meet;exact ⟨_,rfl,zqh (show ⟨#[67,65,78,67,69,76]⟩ = strB (nmP (120 + 3)) from by kernel_rfl),zqh (by first | exact al_one _ _ | exact drew_bel0 _)⟩
      case rest =>
        as_aux_lemma =>
          obtain ⟨s,rfl,HS9,hb9⟩:=hcut;obtain ⟨w21,rfl⟩ : ∃ x,x = wc:=⟨_,rfl⟩;have bb:=hb9.out;clear hb9;have T21:=zqh (T20.out.keep bb);have C21:=zqh (C20.out.keep bb);have V21:=zqh (V20.out.keep bb);have M21:=zqh (M20.out.keep bb);have B21:=zqh (below_then B20.out bb);clear bb T20 C20 V20 M20 B20;have FRX:=zqh (free_of M21.out (Nat.le_refl _));have NEX : Hid (w2.heap.size ≠ w21.heap.size):=zqh (by have:=V21.out.lt; omega);have LBX : Hid (w.heap.size ≤ w21.heap.size):=zqh B21.out.size;go_upto_region 14 with (first | (refine wpList_vload (by rfl) _ rfl w2.heap.size k rfl V21.out ?_) | (refine wpList_vstore (by rfl) _ _ rfl _ vm0 k rfl rfl (vbox_zero _) ?_))
          generalize hw2 : World.setRow _ _ _ = w22;have kb : Below w21.heap.size w21 w22:=by rw [← hw2]; exact below_setRow (al_one _ _) (Nat.le_refl _) _
          have hx : VBox w22 w21.heap.size k:=by rw [← hw2]; exact vrow (vbox_zero w21) k
          clear hw2;have T22:=zqh (T21.out.keep kb);have C22:=zqh (C21.out.keep kb);have V22:=zqh (V21.out.keep kb);have M22:=zqh (M21.out.keep kb);have B22:=zqh (below_then B21.out kb);have X22:=zqh hx;clear kb T21 C21 V21 M21 B21;clear hx;obtain ⟨lt9,q0,q1,q2,q3⟩:=C22.out
          go_still_tail 20,(by kernel_rfl)
          clear lt9 q0 q1 q2 q3
          change wpList _ _ _ _ _ w22.drew
          generalize hwd : World.drew w22 = w23;have bb : Below w22.heap.size w22 w23:=by rw [← hwd]; exact drew_bel0 _
          clear hwd;have T23:=zqh (T22.out.keep bb);have C23:=zqh (C22.out.keep bb);have V23:=zqh (V22.out.keep bb);have M23:=zqh (M22.out.keep bb);have X23:=zqh (X22.out.keep bb);have B23:=zqh (below_then B22.out bb);clear bb T22 C22 V22 M22 X22 B22;have ltX:=zqh X23.out.lt;have ltV:=zqh V23.out.lt;have ka : Below w23.heap.size w23 (w23.alloc (.cells #[.int .i64 a,.int .i64 b,.int .i64 c9,.int .i64 d] 3)):=al_one _ _;have F9:=(X23.out.keep ka).free.2.2.2.2.2.2.2.2.1;have P9:=(X23.out.keep ka).use.2.2.2.2.2.2.2.2.1;go_upto_region 15 with fail
          have hV : ∃ V,World.setCell (w23.alloc (.cells #[.int .i64 a,.int .i64 b,.int .i64 c9,.int .i64 d] 3)) ⟨w21.heap.size,8,none⟩ (.slice (some ⟨w23.heap.size,0,none⟩) 4 4) = V:=⟨_,rfl⟩;obtain ⟨w24,hV⟩:=hV;have xe : Ex (fun g => g = w21.heap.size) (w23.alloc (.cells #[.int .i64 a,.int .i64 b,.int .i64 c9,.int .i64 d] 3)) w24:=by rw [← hV]; exact Ex.cell (X:=fun g => g = w21.heap.size) (Ex.refl _ _) rfl _
          have lt9:=X23.out.lt;have B24 : Hid (Below w.heap.size w w24):=by show Below _ _ _; rw [← hV]; exact (below_then B23.out ka).setCell LBX.out _
          have T24 : Hid (Tab w24):=zqh (TT0.out.keep B24.out);have C24:=zqh (CC0.out.keep B24.out);have M9M:=isvm_free (M23.out.keep ka) FRX.out xe (X23.out.keep ka);have MX24:=zqh (M9M.set_d (row_free (row_lit w23 [a,b,c9,d] (by show 4 ≤ 65536; decide)) (.inr fun q hq => by cases hq; show w23.heap.size ≠ w21.heap.size; have:=ltX.out; omega) xe));have M24:=zqh M9M;have X24 : Hid (VBox w24 w21.heap.size { k with dA:=some ⟨w23.heap.size,0,none⟩,dn:=4,dc:=4 }):=by show VBox _ _ _; rw [← hV]; exact (X23.out.keep ka).put_d _ _ _
          have V24 : Hid (VBox w24 w2.heap.size k):=by show VBox _ _ _; rw [← hV]; exact vset_far (V23.out.keep ka) NEX.out
          first | rw [hV] | (rw [show (World.setCell _ _ _) = _ from hV]) | (rw [show (World.setCell (World.alloc _ _) _ _) = _ from hV])
          clear hV ka xe lt9 F9 P9 M9M M23 X23 V23 T23 C23 B23;have HSX:=zqh (sc_d HSV.out (some ⟨w23.heap.size,0,none⟩) 4 4);have FRXV : Hid (Free { k with dA:=some ⟨w23.heap.size,0,none⟩,dn:=4,dc:=4 } w2.heap.size):=zqh (free_d FRV.out w23.heap.size 4 4 (by have:=ltV.out; omega));generalize hK : ({ k with dA:=some ⟨w23.heap.size,0,none⟩,dn:=4,dc:=4 } : VmK) = kX at X24 MX24 HSX FRXV;clear hK ltX ltV FRX;obtain ⟨hy,hno⟩:=ask_all hr4 (F:=F) (t:=t) (hs:=handsL hn) (E:=E) (a:=a) (b:=b) (c:=c9) (d:=d) (by have:=HA.out.t1; omega) (by have:=HA.out.t0; have:=HFF.out.2; omega) HA.out.t0 (by have:=HA.out.t1; have:=HFF.out.2; omega);rw [hands_len,hm9] at hy hno;have hok:=(ask_ok (F:=F) (t:=t) (hs:=handsL hn) (E:=E) (d:=[a,b,c9,d]) (by have:=HA.out.t1; omega) (by have:=HA.out.t0; have:=HFF.out.2; omega) HA.out.t0 (by have:=HA.out.t1; have:=HFF.out.2; omega) (by rw [hands_len]; have:=HN5.out; omega) (by rw [HA.out.en]; exact HA.out.e16) (by show 4 ≤ 4; decide) HCR.out).sc HSX.out;obtain ⟨E9,he9⟩ : ∃ x,doE (m9 : Int) (askK F t) (askL (handsL hn) E [a,b,c9,d]) = x:=⟨_,rfl⟩;have DC:=zqh fun u (ht : Tab u) (hv : IsVm u kX (askL (handsL hn) E [a,b,c9,d])) => do_eq u ht hok hv HSX.out he9
          rw [he9] at hy hno;have HY:=zqh hy;have HNO:=zqh hno;have nc9:=number_any m9 (by omega);rw [← HS9.out] at nc9;have NC:=zqh nc9;clear nc9 hy hno hok he9
          go_cut [14,15] (fun s14 s15 wx => ∃ b j2,s14 = .pointer (some ⟨b,0,none⟩) ∧ s15 = .int .i64 E9.c ∧ Hid (DoneAt w24 wx b j2 kX E9))
          case first =>
            as_aux_lemma =>
              refine wp_region_noPanic ?_;refine wp_region_held_drew (S:=fun a9 => Below w24.heap.size w24 a9) (by kernel_rfl) (drew_bel0 _) (fun hHeld => ?_);refine zqt (i:=0) (v:=vmV kX) (fun u hSu => exec_vl _ rfl w21.heap.size kX rfl (X24.out.keep hSu)) ?_;(try simp only [zq,Act.put]);refine zqt (i:=1) (v:=?v1n12) ?y1n12 ?r1n12
              case y1n12 =>
                intro u hSu;go_simp;(try with_reducible rfl)
              (try simp only [zq,Act.put]);have W9:=zqh (Below.refl w24.heap.size w24);refine wpAnyH_ready (rs:=[2,7]) (by kernel_rfl) (by simp) ?_;refine AllReadyH.cons (o:=_) rfl (fun K hK => ?_) (AllReadyH.cons (o:=_) rfl (fun K hK => ?_) AllReadyH.nil)
              · skip
                go_simp;refine (NC.out _).mono ?_;rintro e uzn13 ⟨rfl,b9⟩;have hN : Below w24.heap.size w24 uzn13:=by first | exact below_then hHeld b9 | exact below_then (below_then hHeld (drew_bel0 _)) b9
                (go_wp2_with fail);clear hHeld b9;refine hK.out _ _ hN (fun hHeld => ?_);clear hK K hN;(try simp only [zq,Act.put]);refine wpAnyH_ready (rs:=[3,7]) (by kernel_rfl) (by simp) ?_;refine AllReadyH.cons (o:=_) rfl (fun K hK => ?_) (AllReadyH.cons (o:=_) rfl (fun K hK => ?_) AllReadyH.nil)
                · skip
                  go_simp;have hltuzn14:=hHeld.size;refine (DC.out _ (T24.out.keep hHeld) (MX24.out.keep hHeld)).mono ?_;rintro e uzn14 ⟨j2,rfl,hv,hs,hl,b9⟩;have HV:=zqh hv;have HS:=zqh hs;have HL:=zqh hl;have HU:=zqh (show w24.heap.size ≤ (uzn13).heap.size from hltuzn14);clear hv hs hl hltuzn14;have hN : Below w24.heap.size w24 uzn14:=by first | exact below_then hHeld b9 | exact below_then (below_then hHeld (drew_bel0 _)) b9
                  (go_wp2_with fail);clear hHeld b9;refine hK.out _ _ hN (fun hHeld => ?_);clear hK K hN;(try simp only [zq,Act.put]);refine zqt (i:=4) (v:=?v4n15) ?y4n15 ?r4n15
                  case y4n15 =>
                    intro u hSu;go_simp;(try with_reducible rfl)
                  (try simp only [zq,Act.put]);refine zqt (i:=5) (v:=?v5n16) ?y5n16 ?r5n16
                  case y5n16 =>
                    intro u hSu;go_simp;(try with_reducible rfl)
                  (try simp only [zq,Act.put]);refine zqt (i:=6) (v:=?v6n17) ?y6n17 ?r6n17
                  case y6n17 =>
                    intro u hSu;go_simp;(try with_reducible rfl)
                  (try simp only [zq,Act.put]);refine zqr 7 fun K hK => ?_
                  go_simp;refine hK.out _ _ (al_th0 hHeld) (fun hHeld2 => ?_);clear hK K;(try simp only [zq,Act.put]);generalize hwa : World.alloc _ _ = uzn18 at hHeld2 ⊢;have hz : VBox uzn18 uzn14.heap.size vm0:=by rw [← hwa]; exact vbox_zero _
                  have kz : Below (uzn14).heap.size (uzn14) uzn18:=by rw [← hwa]; exact al_one _ _
                  have hge : w24.heap.size ≤ uzn14.heap.size:=hHeld.size;have HZ:=zqh kz;clear hwa hHeld kz;have hHeld:=hHeld2;clear hHeld2;refine zqr 8 fun K hK => ?_
                  refine step_vst rfl _ _ rfl (uzn14.heap.size) vm0 j2 rfl rfl hz ?_;have kb2:=below_setRow hHeld hge (vmC j2);have hr2:=vrow hz j2;refine hK.out _ _ kb2 (fun hHeld2 => ?_);clear hK K;(try simp only [zq,Act.put]);refine zqt (i:=9) (v:=?v9n110) ?y9n110 ?r9n110
                  case y9n110 =>
                    intro u hSu;go_simp;(try with_reducible rfl)
                  (try simp only [zq,Act.put]);refine wpAnyH_done (by kernel_rfl) ?_ _;refine NoPanic.normal ?_;(go_wp2_with fail);go_meet;refine ⟨uzn14.heap.size,j2,rfl,rfl,zqh ⟨hge,hr2,?_,HS.out,HL.out.le HU.out,kb2⟩⟩;exact IsVm.ex (X:=fun g => g = uzn14.heap.size) MX24.out HV.out HL.out (Ex.row (X:=fun g => g = uzn14.heap.size) (b:=uzn14.heap.size) ((Ex.refl _ _).below HZ.out) rfl _) fun g hg e => by subst e; exact absurd hg (Nat.lt_irrefl _)
                · skip
                  go_simp;refine hK.out _ _ (al_th0 hHeld) (fun hHeld2 => ?_);clear hK K;(try simp only [zq,Act.put]);generalize hwa : World.alloc _ _ = uzn111 at hHeld2 ⊢;have hz : VBox uzn111 uzn13.heap.size vm0:=by rw [← hwa]; exact vbox_zero _
                  have kz : Below (uzn13).heap.size (uzn13) uzn111:=by rw [← hwa]; exact al_one _ _
                  have hge : w24.heap.size ≤ uzn13.heap.size:=hHeld.size;clear hwa hHeld kz;have hHeld:=hHeld2;clear hHeld2;refine zqr 3 fun K hK => ?_
                  go_simp;have hltuzn112:=hHeld.size;refine (DC.out _ (T24.out.keep hHeld) (MX24.out.keep hHeld)).mono ?_;rintro e uzn112 ⟨j2,rfl,hv,hs,hl,b9⟩;have HV:=zqh hv;have HS:=zqh hs;have HL:=zqh hl;have HU:=zqh (show w24.heap.size ≤ (uzn111).heap.size from hltuzn112);clear hv hs hl hltuzn112;have hz1 : VBox uzn112 (uzn13.heap.size) vm0:=by first | exact hz.keep b9 | exact VBox.keep (w:=World.drew uzn111) hz b9
                  have HZ1:=zqh hz.lt;have HZ2:=zqh hz1;clear hz;have hz:=hz1;clear hz1;have hN : Below w24.heap.size w24 uzn112:=by first | exact below_then hHeld b9 | exact below_then (below_then hHeld (drew_bel0 _)) b9
                  (go_wp2_with fail);clear hHeld b9;refine hK.out _ _ hN (fun hHeld => ?_);clear hK K hN;(try simp only [zq,Act.put]);refine zqt (i:=4) (v:=?v4n113) ?y4n113 ?r4n113
                  case y4n113 =>
                    intro u hSu;go_simp;(try with_reducible rfl)
                  (try simp only [zq,Act.put]);refine zqt (i:=5) (v:=?v5n114) ?y5n114 ?r5n114
                  case y5n114 =>
                    intro u hSu;go_simp;(try with_reducible rfl)
                  (try simp only [zq,Act.put]);refine zqt (i:=6) (v:=?v6n115) ?y6n115 ?r6n115
                  case y6n115 =>
                    intro u hSu;go_simp;(try with_reducible rfl)
                  (try simp only [zq,Act.put]);refine zqr 8 fun K hK => ?_
                  refine step_vst rfl _ _ rfl (uzn13.heap.size) vm0 j2 rfl rfl hz ?_;have kb2:=below_setRow hHeld hge (vmC j2);have hr2:=vrow hz j2;refine hK.out _ _ kb2 (fun hHeld2 => ?_);clear hK K;(try simp only [zq,Act.put]);refine zqt (i:=9) (v:=?v9n117) ?y9n117 ?r9n117
                  case y9n117 =>
                    intro u hSu;go_simp;(try with_reducible rfl)
                  (try simp only [zq,Act.put]);refine wpAnyH_done (by kernel_rfl) ?_ _;refine NoPanic.normal ?_;(go_wp2_with fail);go_meet;refine ⟨uzn13.heap.size,j2,rfl,rfl,zqh ⟨hge,hr2,?_,HS.out,HL.out.le HU.out,kb2⟩⟩;exact IsVm.ex (X:=fun g => g = uzn13.heap.size) MX24.out HV.out HL.out (Ex.row (X:=fun g => g = uzn13.heap.size) (b:=uzn13.heap.size) (Ex.refl _ _) rfl _) fun g hg e => by subst e; exact ⟨hge,HZ1.out,vbox_nou8 HZ2.out⟩
              · skip
                go_simp;refine hK.out _ _ (al_th0 hHeld) (fun hHeld2 => ?_);clear hK K;(try simp only [zq,Act.put]);generalize hwa : World.alloc _ _ = uzn118 at hHeld2 ⊢;have hz : VBox uzn118 w24.drew.heap.size vm0:=by rw [← hwa]; exact vbox_zero _
                have kz : Below (w24).heap.size (w24) uzn118:=by rw [← hwa]; exact al_one _ _
                have hge : w24.heap.size ≤ w24.drew.heap.size:=hHeld.size;clear hwa hHeld kz;have hHeld:=hHeld2;clear hHeld2;refine zqr 2 fun K hK => ?_
                go_simp;refine (NC.out _).mono ?_;rintro e uzn119 ⟨rfl,b9⟩;have hz1 : VBox uzn119 (w24.drew.heap.size) vm0:=by first | exact hz.keep b9 | exact VBox.keep (w:=World.drew uzn118) hz b9
                clear hz;have hz:=hz1;clear hz1;have hN : Below w24.heap.size w24 uzn119:=by first | exact below_then hHeld b9 | exact below_then (below_then hHeld (drew_bel0 _)) b9
                (go_wp2_with fail);clear hHeld b9;refine hK.out _ _ hN (fun hHeld => ?_);clear hK K hN;(try simp only [zq,Act.put]);refine zqr 3 fun K hK => ?_
                go_simp;have hltuzn120:=hHeld.size;refine (DC.out _ (T24.out.keep hHeld) (MX24.out.keep hHeld)).mono ?_;rintro e uzn120 ⟨j2,rfl,hv,hs,hl,b9⟩;have HV:=zqh hv;have HS:=zqh hs;have HL:=zqh hl;have HU:=zqh (show w24.heap.size ≤ (uzn119).heap.size from hltuzn120);clear hv hs hl hltuzn120;have hz1 : VBox uzn120 (w24.drew.heap.size) vm0:=by first | exact hz.keep b9 | exact VBox.keep (w:=World.drew uzn119) hz b9
                have HZ1:=zqh hz.lt;have HZ2:=zqh hz1;clear hz;have hz:=hz1;clear hz1;have hN : Below w24.heap.size w24 uzn120:=by first | exact below_then hHeld b9 | exact below_then (below_then hHeld (drew_bel0 _)) b9
                (go_wp2_with fail);clear hHeld b9;refine hK.out _ _ hN (fun hHeld => ?_);clear hK K hN;(try simp only [zq,Act.put]);refine zqt (i:=4) (v:=?v4n121) ?y4n121 ?r4n121
                case y4n121 =>
                  intro u hSu;go_simp;(try with_reducible rfl)
                (try simp only [zq,Act.put]);refine zqt (i:=5) (v:=?v5n122) ?y5n122 ?r5n122
                case y5n122 =>
                  intro u hSu;go_simp;(try with_reducible rfl)
                (try simp only [zq,Act.put]);refine zqt (i:=6) (v:=?v6n123) ?y6n123 ?r6n123
                case y6n123 =>
                  intro u hSu;go_simp;(try with_reducible rfl)
                (try simp only [zq,Act.put]);refine zqr 8 fun K hK => ?_
                refine step_vst rfl _ _ rfl (w24.drew.heap.size) vm0 j2 rfl rfl hz ?_;have kb2:=below_setRow hHeld hge (vmC j2);have hr2:=vrow hz j2;refine hK.out _ _ kb2 (fun hHeld2 => ?_);clear hK K;(try simp only [zq,Act.put]);refine zqt (i:=9) (v:=?v9n125) ?y9n125 ?r9n125
                case y9n125 =>
                  intro u hSu;go_simp;(try with_reducible rfl)
                (try simp only [zq,Act.put]);refine wpAnyH_done (by kernel_rfl) ?_ _;refine NoPanic.normal ?_;(go_wp2_with fail);go_meet;refine ⟨w24.drew.heap.size,j2,rfl,rfl,zqh ⟨hge,hr2,?_,HS.out,HL.out.le HU.out,kb2⟩⟩;exact IsVm.ex (X:=fun g => g = w24.drew.heap.size) MX24.out HV.out HL.out (Ex.row (X:=fun g => g = w24.drew.heap.size) (b:=w24.drew.heap.size) (Ex.refl _ _) rfl _) fun g hg e => by subst e; exact ⟨hge,HZ1.out,vbox_nou8 HZ2.out⟩
          case rest =>
            as_aux_lemma =>
              obtain ⟨bY,kY,rfl,rfl,HD⟩:=hcut;obtain ⟨w25,rfl⟩ : ∃ x,x = wc:=⟨_,rfl⟩;have bb:=HD.out.bel;have hp:=HD.out.box;have hv:=HD.out.vm;have HSY:=zqh HD.out.sc;have FRYV:=zqh (free_loc HD.out.loc FRXV.out V24.out.lt);have LBY : Hid (w24.heap.size ≤ bY):=zqh HD.out.lo;have NEY : Hid (w2.heap.size ≠ bY):=zqh (by have:=V24.out.lt; have:=HD.out.lo; omega);have LBW : Hid (w.heap.size ≤ bY):=zqh (Nat.le_trans B24.out.size HD.out.lo);clear NC DC HD;have T25:=zqh (T24.out.keep bb);have C25:=zqh (C24.out.keep bb);have V25:=zqh (V24.out.keep bb);have M25:=zqh (M24.out.keep bb);have B25:=zqh (below_then B24.out bb);have Y25:=zqh hp;have MY25:=zqh hv;clear bb T24 C24 V24 M24 B24;clear hp hv;clear X24 MX24 FRXV HSX LBX NEX LBY;go_upto_region 16 with fail
              obtain ⟨hb,hhb⟩ : ∃ x,decide (0 ≤ b ∧ b < (hn : Int) ∧ 0 ≤ c9 ∧ c9 < 4) = x:=⟨_,rfl⟩;have HHB:=zqh hhb;clear hhb
              go_cut [16] (fun s16 wx => s16 = .bool hb ∧ Hid (Below w25.heap.size w25 wx))
              case first =>
                as_aux_lemma =>
                  obtain ⟨lt9,q0,q1,q2,q3⟩:=C25.out;have hh : hn = k.hn:=(hands_len hn).symm.trans M25.out.h.len;obtain ⟨pV0,pV1,pV2,pV3,pV4,pV5,pV6,pV7,pV8,pV9,pV10,pV11,pV12,pV13,pV14,pV15,pV16,pV17,pV18,pV19,pV20,pV21,pV22⟩:=V25.out.use;clear pV0 pV1 pV2 pV3 pV4 pV5 pV6 pV7 pV8 pV9 pV10 pV11 pV12 pV13 pV14 pV15 pV16 pV17 pV18 pV19 pV20 pV21;rw [← hh] at pV22;clear hh
                  by_cases p0 : 0 ≤ b
                  · have g0 : (decide (0 ≤ b)) = true:=by simp; omega
                    by_cases p1 : b < (hn : Int)
                    · have g1 : (decide (b < (hn : Int))) = true:=by simp; omega
                      by_cases p2 : 0 ≤ c9
                      · have g2 : (decide (0 ≤ c9)) = true:=by simp; omega
                        by_cases p3 : c9 < 4
                        · have g3 : (decide (c9 < 4)) = true:=by simp; omega
                          as_aux_lemma =>
                            go_quiet (fail)
                            (go_wp2_with fail);go_meet;exact ⟨by rw [← HHB.out,decide_eq_true (by omega)],zqh (by first | exact drewN_b9 _ _ | exact drew_bel0 _)⟩
                        · have g3 : (decide (c9 < 4)) = false:=by simp; omega
                          as_aux_lemma =>
                            go_quiet (fail)
                            (go_wp2_with fail);go_meet;exact ⟨by rw [← HHB.out,decide_eq_false (by omega)],zqh (by first | exact drewN_b9 _ _ | exact drew_bel0 _)⟩
                      · have g2 : (decide (0 ≤ c9)) = false:=by simp; omega
                        as_aux_lemma =>
                          go_quiet (fail)
                          (go_wp2_with fail);go_meet;exact ⟨by rw [← HHB.out,decide_eq_false (by omega)],zqh (by first | exact drewN_b9 _ _ | exact drew_bel0 _)⟩
                    · have g1 : (decide (b < (hn : Int))) = false:=by simp; omega
                      as_aux_lemma =>
                        go_quiet (fail)
                        (go_wp2_with fail);go_meet;exact ⟨by rw [← HHB.out,decide_eq_false (by omega)],zqh (by first | exact drewN_b9 _ _ | exact drew_bel0 _)⟩
                  · have g0 : (decide (0 ≤ b)) = false:=by simp; omega
                    as_aux_lemma =>
                      go_quiet (fail)
                      (go_wp2_with fail);go_meet;exact ⟨by rw [← HHB.out,decide_eq_false (by omega)],zqh (by first | exact drewN_b9 _ _ | exact drew_bel0 _)⟩
              case rest =>
                as_aux_lemma =>
                  obtain ⟨rfl,hb9⟩:=hcut;obtain ⟨w26,rfl⟩ : ∃ x,x = wc:=⟨_,rfl⟩;have bb:=hb9.out;clear hb9;have T26:=zqh (T25.out.keep bb);have C26:=zqh (C25.out.keep bb);have V26:=zqh (V25.out.keep bb);have M26:=zqh (M25.out.keep bb);have Y26:=zqh (Y25.out.keep bb);have MY26:=zqh (MY25.out.keep bb);have B26:=zqh (below_then B25.out bb);clear bb T25 C25 V25 M25 Y25 MY25 B25;have hq : r = 0 ∨ r = 1 ∨ r = 2 ∨ r = 3:=by omega
                  rcases hq with rfl | rfl | rfl | rfl
                  · as_aux_lemma =>
                      subst hm9;obtain rfl : s = ⟨#[80,79,83,84]⟩:=HS9.out.trans (by kernel_rfl);clear HS9 hr hr4;go_upto_region 18 with fail
                      obtain ⟨hd,hhd⟩ : ∃ x,decide (0 ≤ c9 ∧ c9 < (hn : Int) ∧ 0 ≤ d ∧ d < 4) = x:=⟨_,rfl⟩;have HHD:=zqh hhd;clear hhd
                      go_cut [16] (fun s16 wx => s16 = .bool hd ∧ Hid (Below w26.heap.size w26 wx))
                      case first =>
                        as_aux_lemma =>
                          obtain ⟨lt9,q0,q1,q2,q3⟩:=C26.out;have hh : hn = k.hn:=(hands_len hn).symm.trans M26.out.h.len;obtain ⟨pV0,pV1,pV2,pV3,pV4,pV5,pV6,pV7,pV8,pV9,pV10,pV11,pV12,pV13,pV14,pV15,pV16,pV17,pV18,pV19,pV20,pV21,pV22⟩:=V26.out.use;clear pV0 pV1 pV2 pV3 pV4 pV5 pV6 pV7 pV8 pV9 pV10 pV11 pV12 pV13 pV14 pV15 pV16 pV17 pV18 pV19 pV20 pV21;rw [← hh] at pV22;clear hh
                          by_cases p0 : 0 ≤ c9
                          · have g0 : (decide (0 ≤ c9)) = true:=by simp; omega
                            by_cases p1 : c9 < (hn : Int)
                            · have g1 : (decide (c9 < (hn : Int))) = true:=by simp; omega
                              by_cases p2 : 0 ≤ d
                              · have g2 : (decide (0 ≤ d)) = true:=by simp; omega
                                by_cases p3 : d < 4
                                · have g3 : (decide (d < 4)) = true:=by simp; omega
                                  as_aux_lemma =>
                                    go_quiet (fail)
                                    (go_wp2_with fail);go_meet;exact ⟨by rw [← HHD.out,decide_eq_true (by omega)],zqh (by first | exact drewN_b9 _ _ | exact drew_bel0 _)⟩
                                · have g3 : (decide (d < 4)) = false:=by simp; omega
                                  as_aux_lemma =>
                                    go_quiet (fail)
                                    (go_wp2_with fail);go_meet;exact ⟨by rw [← HHD.out,decide_eq_false (by omega)],zqh (by first | exact drewN_b9 _ _ | exact drew_bel0 _)⟩
                              · have g2 : (decide (0 ≤ d)) = false:=by simp; omega
                                as_aux_lemma =>
                                  go_quiet (fail)
                                  (go_wp2_with fail);go_meet;exact ⟨by rw [← HHD.out,decide_eq_false (by omega)],zqh (by first | exact drewN_b9 _ _ | exact drew_bel0 _)⟩
                            · have g1 : (decide (c9 < (hn : Int))) = false:=by simp; omega
                              as_aux_lemma =>
                                go_quiet (fail)
                                (go_wp2_with fail);go_meet;exact ⟨by rw [← HHD.out,decide_eq_false (by omega)],zqh (by first | exact drewN_b9 _ _ | exact drew_bel0 _)⟩
                          · have g0 : (decide (0 ≤ c9)) = false:=by simp; omega
                            as_aux_lemma =>
                              go_quiet (fail)
                              (go_wp2_with fail);go_meet;exact ⟨by rw [← HHD.out,decide_eq_false (by omega)],zqh (by first | exact drewN_b9 _ _ | exact drew_bel0 _)⟩
                      case rest =>
                        as_aux_lemma =>
                          obtain ⟨rfl,hb9⟩:=hcut;obtain ⟨w27,rfl⟩ : ∃ x,x = wc:=⟨_,rfl⟩;have bb:=hb9.out;clear hb9;have T27:=zqh (T26.out.keep bb);have C27:=zqh (C26.out.keep bb);have V27:=zqh (V26.out.keep bb);have M27:=zqh (M26.out.keep bb);have Y27:=zqh (Y26.out.keep bb);have MY27:=zqh (MY26.out.keep bb);have B27:=zqh (below_then B26.out bb);clear bb T26 C26 V26 M26 Y26 MY26 B26;go_upto_region 20 with fail
                          go_cut [18] (fun s18 wx => s18 = .bool hd ∧ Hid (Below w27.heap.size w27 wx))
                          case first =>
                            cases hd with
                            | false =>
                              (go_wp2_with fail);go_meet;exact ⟨rfl,zqh (Below.refl _ _)⟩
                            | true =>
                              (go_wp2_with fail);go_meet;exact ⟨rfl,zqh (Below.refl _ _)⟩
                          case rest =>
                            obtain ⟨rfl,hb9⟩:=hcut;obtain ⟨w28,rfl⟩ : ∃ x,x = wc:=⟨_,rfl⟩;have bb:=hb9.out;clear hb9;have T28:=zqh (T27.out.keep bb);have C28:=zqh (C27.out.keep bb);have V28:=zqh (V27.out.keep bb);have M28:=zqh (M27.out.keep bb);have Y28:=zqh (Y27.out.keep bb);have MY28:=zqh (MY27.out.keep bb);have B28:=zqh (below_then B27.out bb);clear bb T27 C27 V27 M27 Y27 MY27 B27;go_upto_region 21 with fail
                            by_cases hmay : askMay 0 hn F t b c9 d ∧ E.length < 16
                            · as_aux_lemma =>
                                have hE : E9 = ⟨0,[],askK F t,(askL (handsL hn) (E ++ [⟨1,b,c9,d,0,0⟩]) [a])⟩:=HY.out hmay;have hM : 0 ≤ c9 ∧ c9 < (hn : Int) ∧ 0 ≤ d ∧ d < 4:=hmay.1;have e16 : many < 16:=by have:=HA.out.en; have:=hmay.2; omega
                                have HM:=zqh hM;have H16:=zqh e16;have e9 : E9.c = 0:=by rw [hE]
                                have MZ28 : Hid (IsVm w28 kY (askL (handsL hn) (E ++ [⟨1,b,c9,d,0,0⟩]) [a])):=by have h9:=MY28.out; rw [hE] at h9; exact h9
                                have HSZ : Hid (Sc kY (askK F t)):=by have h9:=HSY.out; rw [hE] at h9; exact h9
                                have g16 : decide ((many : Int) < 16) = true:=by simp; omega
                                obtain rfl : hd = true:=by rw [← HHD.out]; exact decide_eq_true hM
                                clear MY28 M28 HSY HY HNO hmay hM hE;have hrl:=right_to MZ28.out.lens ((ask_right (F:=F) (t:=t) (hs:=handsL hn) (E:=(E ++ [⟨1,b,c9,d,0,0⟩])) (d:=[a]) (by have:=HA.out.t1; omega) (by have:=HA.out.t0; have:=HFF.out.2; omega) (by have:=HA.out.t0; omega) (by have:=HA.out.t1; have:=HFF.out.2; omega) (by rw [hands_len]; have:=HN5.out; omega) (hands_right hn) (by rw [List.length_append,HA.out.en]; have:=H16.out; show many + 1 ≤ 16; omega) (by show 1 ≤ 4; decide)).sc HSZ.out);have hri:=rvright_any kY (askL (handsL hn) (E ++ [⟨1,b,c9,d,0,0⟩]) [a]) w28 (zqh (by have a9:=MZ28.out.lens.dict; rw [show (askL (handsL hn) (E ++ [⟨1,b,c9,d,0,0⟩]) [a]).dict.length = 167 from newW_len 167] at a9; omega)) MZ28.out;rw [hrl] at hri;have HRI:=zqh hri;clear hri hrl;(go_wp2_with (first | (refine wpList_vload (by rfl) _ rfl bY kY rfl Y28.out ?_)));refine (HRI.out).mono ?_;rintro e w29 ⟨rfl,bb⟩;clear HRI;have T29:=zqh (T28.out.keep bb);have C29:=zqh (C28.out.keep bb);have V29:=zqh (V28.out.keep bb);have Y29:=zqh (Y28.out.keep bb);have MZ29:=zqh (MZ28.out.keep bb);have B29:=zqh (below_then B28.out bb);clear bb T28 C28 V28 Y28 MZ28 B28;go_upto_region 25 with fail
                                as_aux_lemma =>
                                  have le : kY.en = many + 1:=by have h9:=MZ29.out.e.len; rw [← h9]; show (E ++ [_]).length = _; rw [List.length_append,HA.out.en]; rfl
                                  have ld : kY.dn = 1:=MZ29.out.d.1.symm;obtain ⟨pY0,pY1,pY2,pY3,pY4,pY5,pY6,pY7,pY8,pY9,pY10,pY11,pY12,pY13,pY14,pY15,pY16,pY17,pY18,pY19,pY20,pY21,pY22⟩:=Y29.out.use;clear pY0 pY1 pY2 pY3 pY4 pY5 pY6 pY7 pY9 pY10 pY11 pY12 pY13 pY14 pY15 pY17 pY18 pY19 pY20 pY21 pY22;rw [le] at pY16;rw [ld] at pY8;obtain ⟨g2,o2,ea,cq⟩:=ask_last MZ29.out HA.out.en;have cq : w29.cell? ⟨g2,o2 + many * 6 + 1,none⟩ = some (.int .i64 b):=cq;rw [ea] at pY16;obtain ⟨lt9,q0,q1,q2,q3⟩:=C29.out;have n1 : (0 : Int) ≤ (many : Int):=by omega
                                  have n2 : (many : Int) < 16:=by have:=H16.out; omega
                                  have n3 : IntKind.i64.wrap ((many : Int) + 1 - 1) = (many : Int):=by rw [IntWalk.i64_left]; exact (w64_id (by omega) (by omega)).trans (by omega)
                                  have n4 : wrap64 ((many : Int) + 1 - 1) = (many : Int):=(w64_id (by omega) (by omega)).trans (by omega)
                                  go_quiet (fail)
                                  clear le ld pY8 pY16 ea cq lt9 q0 q1 q2 q3 n1 n2 n3 n4;go_upto_region 29 with fail
                                  as_aux_lemma =>
                                    generalize hwd : World.drewN w29 _ = w30;have bb : Below w29.heap.size w29 w30:=by rw [← hwd]; exact drewN_b9 _ _
                                    clear hwd;have T30:=zqh (T29.out.keep bb);have C30:=zqh (C29.out.keep bb);have V30:=zqh (V29.out.keep bb);have Y30:=zqh (Y29.out.keep bb);have MZ30:=zqh (MZ29.out.keep bb);have B30:=zqh (below_then B29.out bb);clear bb T29 C29 V29 Y29 MZ29 B29;have FRY:=zqh (free_asked MZ30.out Y30.out);have MN30 : Hid (IsVm w30 { kY with dA:=none,dn:=0,dc:=0 } (askL (handsL hn) (E ++ [⟨1,b,c9,d,0,0⟩]) [])):=zqh (MZ30.out.set_d (row_nil _));clear MZ30;have ka : Below w30.heap.size w30 w30:=Below.refl _ _;have F9:=(Y30.out.keep ka).free.2.2.2.2.2.2.2.2.1;have P9:=(Y30.out.keep ka).use.2.2.2.2.2.2.2.2.1;go_upto_region 30 with fail
                                    have hV : ∃ V,World.setCell w30 ⟨bY,8,none⟩ (.slice none 0 0) = V:=⟨_,rfl⟩;obtain ⟨w31,hV⟩:=hV;have xe : Ex (fun g => g = bY) w30 w31:=by rw [← hV]; exact Ex.cell (X:=fun g => g = bY) (Ex.refl _ _) rfl _
                                    have lt9:=Y30.out.lt;have B31 : Hid (Below w.heap.size w w31):=by show Below _ _ _; rw [← hV]; exact (below_then B30.out ka).setCell LBW.out _
                                    have T31 : Hid (Tab w31):=zqh (TT0.out.keep B31.out);have C31:=zqh (CC0.out.keep B31.out);have M9MN:=isvm_free (MN30.out.keep ka) FRY.out xe (Y30.out.keep ka);have MN31:=zqh M9MN;have Y31 : Hid (VBox w31 bY { kY with dA:=none,dn:=0,dc:=0 }):=by show VBox _ _ _; rw [← hV]; exact (Y30.out.keep ka).put_d _ _ _
                                    have V31 : Hid (VBox w31 w2.heap.size k):=by show VBox _ _ _; rw [← hV]; exact vset_far (V30.out.keep ka) NEY.out
                                    first | rw [hV] | (rw [show (World.setCell _ _ _) = _ from hV]) | (rw [show (World.setCell (World.alloc _ _) _ _) = _ from hV])
                                    clear hV ka xe lt9 F9 P9 M9MN MN30 Y30 V30 T30 C30 B30;have HSN : Hid (Sc { kY with dA:=none,dn:=0,dc:=0 } (askK F t)):=zqh (sc_d HSZ.out none 0 0);have FRN : Hid (Free { kY with dA:=none,dn:=0,dc:=0 } w2.heap.size):=zqh ⟨FRYV.out.p,.inl rfl,FRYV.out.r,FRYV.out.f,FRYV.out.w,FRYV.out.e,FRYV.out.h⟩;clear FRY;generalize hK : ({ kY with dA:=none,dn:=0,dc:=0 } : VmK) = kN at Y31 MN31 HSN FRN;clear hK;go_upto_region 11 with (first | (refine wpList_vload (by rfl) _ rfl bY kN rfl Y31.out ?_) | (refine wpList_vstore (by rfl) _ _ rfl w2.heap.size k kN rfl rfl V31.out ?_))
                                    generalize hV : World.setRow _ _ _ = V;have P1 : VBox V w2.heap.size kN:=by rw [← hV]; exact vrow V31.out _
                                    have P3 : Below w.heap.size w V:=by rw [← hV]; exact below_setRow B31.out HA.out.lo _
                                    have P4 : IsVm V kN (askL (handsL hn) (E ++ [⟨1,b,c9,d,0,0⟩]) []):=by rw [← hV]; exact isvm_free MN31.out FRN.out (Ex.row (X:=fun g => g = w2.heap.size) (b:=w2.heap.size) (Ex.refl _ _) rfl _) V31.out
                                    have R2 : Hid (AskAt hn F w w2.heap.size (i + 1) (many + 1) t V kN (E ++ [⟨1,b,c9,d,0,0⟩])):=zqh ⟨HA.out.lo,P1,P4,HSN.out,FRN.out,by rw [List.length_append,HA.out.en]; rfl,by have:=H16.out; omega,by have:=HA.out.t0; omega,by exact HA.out.t1,by have:=HA.out.tm; omega,P3⟩;clear hV P1 P3 P4;(go_wp2_with fail)
                                    go_roundw
                                    case rel => exact ⟨i + 1,many + 1,t,kN,E ++ [⟨1,b,c9,d,0,0⟩],by simp,by first | rfl | simp,by simp,R2⟩
                                    case measure => have:=HIL.out; simp [intOf]; omega
                            · as_aux_lemma =>
                                obtain ⟨z,hz,hE⟩:=HNO.out hmay;have e9 : ¬ E9.c = 0:=by rw [hE]; exact hz
                                have g1 : (E9.c == 0) = false:=by simp [e9]
                                have g2 : (E9.c != 0) = true:=by simp [e9]
                                have g3 : decide (E9.c = 0) = false:=by simp [e9]
                                have MZ28 : Hid (IsVm w28 kY (askL (handsL hn) E [a,b,c9,d])):=by have h9:=MY28.out; rw [hE] at h9; exact h9
                                have HSZ : Hid (Sc kY (askK F t)):=by have h9:=HSY.out; rw [hE] at h9; exact h9
                                clear MY28 HSY HY HNO hE hz;have hrl:=right_to MZ28.out.lens ((ask_right (F:=F) (t:=t) (hs:=handsL hn) (E:=E) (d:=[a,b,c9,d]) (by have:=HA.out.t1; omega) (by have:=HA.out.t0; have:=HFF.out.2; omega) (by have:=HA.out.t0; omega) (by have:=HA.out.t1; have:=HFF.out.2; omega) (by rw [hands_len]; have:=HN5.out; omega) (hands_right hn) (by rw [HA.out.en]; exact HA.out.e16) (by show 4 ≤ 4; decide)).sc HSZ.out);have hri:=rvright_any kY (askL (handsL hn) E [a,b,c9,d]) w28 (zqh (by have a9:=MZ28.out.lens.dict; rw [show (askL (handsL hn) E [a,b,c9,d]).dict.length = 167 from newW_len 167] at a9; omega)) MZ28.out;rw [hrl] at hri;have HRI:=zqh hri;clear hri hrl;have HNM:=zqh hmay;clear hmay;cases hd with
                                | false =>
                                  as_aux_lemma =>
                                    (go_wp2_with (first | (refine wpList_vload (by rfl) _ rfl bY kY rfl Y28.out ?_)));refine (HRI.out).mono ?_;rintro e w29 ⟨rfl,bb⟩;clear HRI;have T29:=zqh (T28.out.keep bb);have C29:=zqh (C28.out.keep bb);have V29:=zqh (V28.out.keep bb);have M29:=zqh (M28.out.keep bb);have Y29:=zqh (Y28.out.keep bb);have MZ29:=zqh (MZ28.out.keep bb);have B29:=zqh (below_then B28.out bb);clear bb T28 C28 V28 M28 Y28 MZ28 B28;(go_wp2_with fail)
                                    go_roundw
                                    case rel => exact ⟨i + 1,many,t,k,E,by simp,by first | rfl | simp,by simp,zqh ⟨HA.out.lo,V29.out,M29.out,HSV.out,FRV.out,HA.out.en,HA.out.e16,HA.out.t0,HA.out.t1,HA.out.tm,B29.out⟩⟩
                                    case measure => have:=HIL.out; simp [intOf]; omega
                                | true =>
                                  have hm9 : 0 ≤ c9 ∧ c9 < (hn : Int) ∧ 0 ≤ d ∧ d < 4:=of_decide_eq_true HHD.out;have n16 : ¬ many < 16:=fun h9 => HNM.out ⟨hm9,by rw [HA.out.en]; exact h9⟩
                                  have g16 : decide ((many : Int) < 16) = false:=by simp; omega
                                  have g17 : decide (many < 16) = false:=by simp; omega
                                  clear hm9
                                  as_aux_lemma =>
                                    (go_wp2_with (first | (refine wpList_vload (by rfl) _ rfl bY kY rfl Y28.out ?_)));refine (HRI.out).mono ?_;rintro e w29 ⟨rfl,bb⟩;clear HRI;have T29:=zqh (T28.out.keep bb);have C29:=zqh (C28.out.keep bb);have V29:=zqh (V28.out.keep bb);have M29:=zqh (M28.out.keep bb);have Y29:=zqh (Y28.out.keep bb);have MZ29:=zqh (MZ28.out.keep bb);have B29:=zqh (below_then B28.out bb);clear bb T28 C28 V28 M28 Y28 MZ28 B28;(go_wp2_with fail)
                                    go_roundw
                                    case rel => exact ⟨i + 1,many,t,k,E,by simp,by first | rfl | simp,by simp,zqh ⟨HA.out.lo,V29.out,M29.out,HSV.out,FRV.out,HA.out.en,HA.out.e16,HA.out.t0,HA.out.t1,HA.out.tm,B29.out⟩⟩
                                    case measure => have:=HIL.out; simp [intOf]; omega
                  · as_aux_lemma =>
                      subst hm9;obtain rfl : s = ⟨#[65,70,84,69,82]⟩:=HS9.out.trans (by kernel_rfl);clear HS9 hr hr4;go_upto_region 20 with fail
                      obtain ⟨hm,hhm⟩ : ∃ x,decide ((0 ≤ b ∧ b < (hn : Int) ∧ 0 ≤ c9 ∧ c9 < 4) ∧ (1 ≤ d ∧ d < 4294967296) ∧ t < F) = x:=⟨_,rfl⟩;have HHM:=zqh hhm;clear hhm
                      go_cut [18] (fun s18 wx => s18 = .bool hm ∧ Hid (Below w26.heap.size w26 wx))
                      case first =>
                        as_aux_lemma =>
                          obtain ⟨lt9,q0,q1,q2,q3⟩:=C26.out;have e6 : f.tmod 65 = F:=by rw [Int.tmod_eq_emod_of_nonneg f0]; exact hF
                          have hb9:=HHB.out;cases hb with
                          | false =>
                            have hb9:=of_decide_eq_false hb9;(go_wp2_with fail);go_meet;exact ⟨by rw [← HHM.out,decide_eq_false (by omega)],zqh (Below.refl _ _)⟩
                          | true =>
                            have hb9:=of_decide_eq_true hb9
                            by_cases p0 : 1 ≤ d
                            · have g0 : (decide (1 ≤ d)) = true:=by simp; omega
                              by_cases p1 : d < 4294967296
                              · have g1 : (decide (d < 4294967296)) = true:=by simp; omega
                                by_cases p2 : t < F
                                · have g2 : (decide (t < F)) = true:=by simp; omega
                                  (go_wp2_with fail);go_meet;exact ⟨by rw [← HHM.out,decide_eq_true (by omega)],zqh (Below.refl _ _)⟩
                                · have g2 : (decide (t < F)) = false:=by simp; omega
                                  (go_wp2_with fail);go_meet;exact ⟨by rw [← HHM.out,decide_eq_false (by omega)],zqh (Below.refl _ _)⟩
                              · have g1 : (decide (d < 4294967296)) = false:=by simp; omega
                                (go_wp2_with fail);go_meet;exact ⟨by rw [← HHM.out,decide_eq_false (by omega)],zqh (Below.refl _ _)⟩
                            · have g0 : (decide (1 ≤ d)) = false:=by simp; omega
                              (go_wp2_with fail);go_meet;exact ⟨by rw [← HHM.out,decide_eq_false (by omega)],zqh (Below.refl _ _)⟩
                      case rest =>
                        obtain ⟨rfl,hb9⟩:=hcut;obtain ⟨w27,rfl⟩ : ∃ x,x = wc:=⟨_,rfl⟩;have bb:=hb9.out;clear hb9;have T27:=zqh (T26.out.keep bb);have C27:=zqh (C26.out.keep bb);have V27:=zqh (V26.out.keep bb);have M27:=zqh (M26.out.keep bb);have Y27:=zqh (Y26.out.keep bb);have MY27:=zqh (MY26.out.keep bb);have B27:=zqh (below_then B26.out bb);clear bb T26 C26 V26 M26 Y26 MY26 B26;go_upto_region 21 with fail
                        by_cases hmay : askMay 1 hn F t b c9 d ∧ E.length < 16
                        · as_aux_lemma =>
                            have hE : E9 = ⟨0,[],askK F (t + 1),(askL (handsL hn) (E ++ [⟨2,a,b,c9,d,t⟩]) [t])⟩:=HY.out hmay;have hM : (0 ≤ b ∧ b < (hn : Int) ∧ 0 ≤ c9 ∧ c9 < 4) ∧ (1 ≤ d ∧ d < 4294967296) ∧ t < F:=hmay.1;have e16 : many < 16:=by have:=HA.out.en; have:=hmay.2; omega
                            have HM:=zqh hM;have H16:=zqh e16;have e9 : E9.c = 0:=by rw [hE]
                            have tt0:=HA.out.t0;have tt1 : t ≤ 64:=by have:=HA.out.t1; have:=HFF.out.2; omega
                            have MZ27 : Hid (IsVm w27 kY (askL (handsL hn) (E ++ [⟨2,a,b,c9,d,t⟩]) [t])):=by have h9:=MY27.out; rw [hE] at h9; exact h9
                            have HSZ : Hid (Sc kY (askK F (t + 1))):=by have h9:=HSY.out; rw [hE] at h9; exact h9
                            have g16 : decide ((many : Int) < 16) = true:=by simp; omega
                            obtain rfl : hm = true:=by rw [← HHM.out]; exact decide_eq_true hM
                            clear MY27 M27 HSY HY HNO hmay hM hE;have hrl:=right_to MZ27.out.lens ((ask_right (F:=F) (t:=(t + 1)) (hs:=handsL hn) (E:=(E ++ [⟨2,a,b,c9,d,t⟩])) (d:=[t]) (by have:=HA.out.t1; have:=HM.out; omega) (by have:=HA.out.t0; have:=HFF.out.2; omega) (by have:=HA.out.t0; omega) (by have:=HA.out.t1; have:=HM.out; have:=HFF.out.2; omega) (by rw [hands_len]; have:=HN5.out; omega) (hands_right hn) (by rw [List.length_append,HA.out.en]; have:=H16.out; show many + 1 ≤ 16; omega) (by show 1 ≤ 4; decide)).sc HSZ.out);have hri:=rvright_any kY (askL (handsL hn) (E ++ [⟨2,a,b,c9,d,t⟩]) [t]) w27 (zqh (by have a9:=MZ27.out.lens.dict; rw [show (askL (handsL hn) (E ++ [⟨2,a,b,c9,d,t⟩]) [t]).dict.length = 167 from newW_len 167] at a9; omega)) MZ27.out;rw [hrl] at hri;have HRI:=zqh hri;clear hri hrl;(go_wp2_with (first | (refine wpList_vload (by rfl) _ rfl bY kY rfl Y27.out ?_)));refine (HRI.out).mono ?_;rintro e w28 ⟨rfl,bb⟩;clear HRI;have T28:=zqh (T27.out.keep bb);have C28:=zqh (C27.out.keep bb);have V28:=zqh (V27.out.keep bb);have Y28:=zqh (Y27.out.keep bb);have MZ28:=zqh (MZ27.out.keep bb);have B28:=zqh (below_then B27.out bb);clear bb T27 C27 V27 Y27 MZ27 B27;go_upto_region 25 with fail
                            as_aux_lemma =>
                              have le : kY.en = many + 1:=by have h9:=MZ28.out.e.len; rw [← h9]; show (E ++ [_]).length = _; rw [List.length_append,HA.out.en]; rfl
                              have ld : kY.dn = 1:=MZ28.out.d.1.symm;obtain ⟨pY0,pY1,pY2,pY3,pY4,pY5,pY6,pY7,pY8,pY9,pY10,pY11,pY12,pY13,pY14,pY15,pY16,pY17,pY18,pY19,pY20,pY21,pY22⟩:=Y28.out.use;clear pY0 pY1 pY2 pY3 pY4 pY5 pY6 pY7 pY9 pY10 pY11 pY12 pY13 pY14 pY15 pY18 pY19 pY20 pY21 pY22;rw [le] at pY16;rw [ld] at pY8;obtain ⟨g2,o2,ed,ea,lt2,cd⟩:=d1_of (x:=t) MZ28.out rfl;rw [ea] at pY8;clear ed lt2;obtain ⟨pV0,pV1,pV2,pV3,pV4,pV5,pV6,pV7,pV8,pV9,pV10,pV11,pV12,pV13,pV14,pV15,pV16,pV17,pV18,pV19,pV20,pV21,pV22⟩:=V28.out.use;clear pV0 pV1 pV2 pV3 pV4 pV5 pV6 pV7 pV8 pV9 pV10 pV11 pV12 pV13 pV14 pV15 pV16 pV18 pV19 pV20 pV21 pV22;obtain ⟨fv,hfv⟩ : ∃ x,k.free = x:=⟨_,rfl⟩;have f1 : fv = F - t:=by rw [← hfv]; exact HSV.out.free
                              have f2 : kY.free = fv - 1:=by rw [f1]; exact HSZ.out.free.trans (by show F - (t + 1) = _; omega)
                              rw [hfv] at pV17;rw [f2] at pY17;have n1 : 0 ≤ fv - 1:=by have:=HM.out; omega
                              have n2 : fv ≤ 64:=by have:=HFF.out.2; have:=HA.out.t0; omega
                              clear hfv f1 f2
                              go_quiet (fail)
                              clear le ld pY8 pY16 pY17 pV17 ea cd n1 n2;go_upto_region 29 with fail
                              as_aux_lemma =>
                                generalize hwd : World.drewN w28 _ = w29;have bb : Below w28.heap.size w28 w29:=by rw [← hwd]; exact drewN_b9 _ _
                                clear hwd;have T29:=zqh (T28.out.keep bb);have C29:=zqh (C28.out.keep bb);have V29:=zqh (V28.out.keep bb);have Y29:=zqh (Y28.out.keep bb);have MZ29:=zqh (MZ28.out.keep bb);have B29:=zqh (below_then B28.out bb);clear bb T28 C28 V28 Y28 MZ28 B28;have FRY:=zqh (free_asked MZ29.out Y29.out);have MN29 : Hid (IsVm w29 { kY with dA:=none,dn:=0,dc:=0 } (askL (handsL hn) (E ++ [⟨2,a,b,c9,d,t⟩]) [])):=zqh (MZ29.out.set_d (row_nil _));clear MZ29;have ka : Below w29.heap.size w29 w29:=Below.refl _ _;have F9:=(Y29.out.keep ka).free.2.2.2.2.2.2.2.2.1;have P9:=(Y29.out.keep ka).use.2.2.2.2.2.2.2.2.1;go_upto_region 30 with fail
                                have hV : ∃ V,World.setCell w29 ⟨bY,8,none⟩ (.slice none 0 0) = V:=⟨_,rfl⟩;obtain ⟨w30,hV⟩:=hV;have xe : Ex (fun g => g = bY) w29 w30:=by rw [← hV]; exact Ex.cell (X:=fun g => g = bY) (Ex.refl _ _) rfl _
                                have lt9:=Y29.out.lt;have B30 : Hid (Below w.heap.size w w30):=by show Below _ _ _; rw [← hV]; exact (below_then B29.out ka).setCell LBW.out _
                                have T30 : Hid (Tab w30):=zqh (TT0.out.keep B30.out);have C30:=zqh (CC0.out.keep B30.out);have M9MN:=isvm_free (MN29.out.keep ka) FRY.out xe (Y29.out.keep ka);have MN30:=zqh M9MN;have Y30 : Hid (VBox w30 bY { kY with dA:=none,dn:=0,dc:=0 }):=by show VBox _ _ _; rw [← hV]; exact (Y29.out.keep ka).put_d _ _ _
                                have V30 : Hid (VBox w30 w2.heap.size k):=by show VBox _ _ _; rw [← hV]; exact vset_far (V29.out.keep ka) NEY.out
                                first | rw [hV] | (rw [show (World.setCell _ _ _) = _ from hV]) | (rw [show (World.setCell (World.alloc _ _) _ _) = _ from hV])
                                clear hV ka xe lt9 F9 P9 M9MN MN29 Y29 V29 T29 C29 B29;have HSN : Hid (Sc { kY with dA:=none,dn:=0,dc:=0 } (askK F (t + 1))):=zqh (sc_d HSZ.out none 0 0);have FRN : Hid (Free { kY with dA:=none,dn:=0,dc:=0 } w2.heap.size):=zqh ⟨FRYV.out.p,.inl rfl,FRYV.out.r,FRYV.out.f,FRYV.out.w,FRYV.out.e,FRYV.out.h⟩;clear FRY;generalize hK : ({ kY with dA:=none,dn:=0,dc:=0 } : VmK) = kN at Y30 MN30 HSN FRN;clear hK;go_upto_region 11 with (first | (refine wpList_vload (by rfl) _ rfl bY kN rfl Y30.out ?_) | (refine wpList_vstore (by rfl) _ _ rfl w2.heap.size k kN rfl rfl V30.out ?_))
                                generalize hV : World.setRow _ _ _ = V;have P1 : VBox V w2.heap.size kN:=by rw [← hV]; exact vrow V30.out _
                                have P3 : Below w.heap.size w V:=by rw [← hV]; exact below_setRow B30.out HA.out.lo _
                                have P4 : IsVm V kN (askL (handsL hn) (E ++ [⟨2,a,b,c9,d,t⟩]) []):=by rw [← hV]; exact isvm_free MN30.out FRN.out (Ex.row (X:=fun g => g = w2.heap.size) (b:=w2.heap.size) (Ex.refl _ _) rfl _) V30.out
                                have R2 : Hid (AskAt hn F w w2.heap.size (i + 1) (many + 1) (t + 1) V kN (E ++ [⟨2,a,b,c9,d,t⟩])):=zqh ⟨HA.out.lo,P1,P4,HSN.out,FRN.out,by rw [List.length_append,HA.out.en]; rfl,by have:=H16.out; omega,by have:=HA.out.t0; omega,by have:=HM.out; omega,by have:=HA.out.tm; omega,P3⟩;clear hV P1 P3 P4;(go_wp2_with fail)
                                go_roundw
                                case rel => exact ⟨i + 1,many + 1,(t + 1),kN,E ++ [⟨2,a,b,c9,d,t⟩],by simp,by first | rfl | simp,by simp,R2⟩
                                case measure => have:=HIL.out; simp [intOf]; omega
                        · as_aux_lemma =>
                            obtain ⟨z,hz,hE⟩:=HNO.out hmay;have e9 : ¬ E9.c = 0:=by rw [hE]; exact hz
                            have g1 : (E9.c == 0) = false:=by simp [e9]
                            have g2 : (E9.c != 0) = true:=by simp [e9]
                            have g3 : decide (E9.c = 0) = false:=by simp [e9]
                            have MZ27 : Hid (IsVm w27 kY (askL (handsL hn) E [a,b,c9,d])):=by have h9:=MY27.out; rw [hE] at h9; exact h9
                            have HSZ : Hid (Sc kY (askK F t)):=by have h9:=HSY.out; rw [hE] at h9; exact h9
                            clear MY27 HSY HY HNO hE hz;have hrl:=right_to MZ27.out.lens ((ask_right (F:=F) (t:=t) (hs:=handsL hn) (E:=E) (d:=[a,b,c9,d]) (by have:=HA.out.t1; omega) (by have:=HA.out.t0; have:=HFF.out.2; omega) (by have:=HA.out.t0; omega) (by have:=HA.out.t1; have:=HFF.out.2; omega) (by rw [hands_len]; have:=HN5.out; omega) (hands_right hn) (by rw [HA.out.en]; exact HA.out.e16) (by show 4 ≤ 4; decide)).sc HSZ.out);have hri:=rvright_any kY (askL (handsL hn) E [a,b,c9,d]) w27 (zqh (by have a9:=MZ27.out.lens.dict; rw [show (askL (handsL hn) E [a,b,c9,d]).dict.length = 167 from newW_len 167] at a9; omega)) MZ27.out;rw [hrl] at hri;have HRI:=zqh hri;clear hri hrl;have HNM:=zqh hmay;clear hmay;cases hm with
                            | false =>
                              as_aux_lemma =>
                                (go_wp2_with (first | (refine wpList_vload (by rfl) _ rfl bY kY rfl Y27.out ?_)));refine (HRI.out).mono ?_;rintro e w28 ⟨rfl,bb⟩;clear HRI;have T28:=zqh (T27.out.keep bb);have C28:=zqh (C27.out.keep bb);have V28:=zqh (V27.out.keep bb);have M28:=zqh (M27.out.keep bb);have Y28:=zqh (Y27.out.keep bb);have MZ28:=zqh (MZ27.out.keep bb);have B28:=zqh (below_then B27.out bb);clear bb T27 C27 V27 M27 Y27 MZ27 B27;(go_wp2_with fail)
                                go_roundw
                                case rel => exact ⟨i + 1,many,t,k,E,by simp,by first | rfl | simp,by simp,zqh ⟨HA.out.lo,V28.out,M28.out,HSV.out,FRV.out,HA.out.en,HA.out.e16,HA.out.t0,HA.out.t1,HA.out.tm,B28.out⟩⟩
                                case measure => have:=HIL.out; simp [intOf]; omega
                            | true =>
                              have hm9 : (0 ≤ b ∧ b < (hn : Int) ∧ 0 ≤ c9 ∧ c9 < 4) ∧ (1 ≤ d ∧ d < 4294967296) ∧ t < F:=of_decide_eq_true HHM.out;have n16 : ¬ many < 16:=fun h9 => HNM.out ⟨hm9,by rw [HA.out.en]; exact h9⟩
                              have g16 : decide ((many : Int) < 16) = false:=by simp; omega
                              have g17 : decide (many < 16) = false:=by simp; omega
                              clear hm9
                              as_aux_lemma =>
                                (go_wp2_with (first | (refine wpList_vload (by rfl) _ rfl bY kY rfl Y27.out ?_)));refine (HRI.out).mono ?_;rintro e w28 ⟨rfl,bb⟩;clear HRI;have T28:=zqh (T27.out.keep bb);have C28:=zqh (C27.out.keep bb);have V28:=zqh (V27.out.keep bb);have M28:=zqh (M27.out.keep bb);have Y28:=zqh (Y27.out.keep bb);have MZ28:=zqh (MZ27.out.keep bb);have B28:=zqh (below_then B27.out bb);clear bb T27 C27 V27 M27 Y27 MZ27 B27;(go_wp2_with fail)
                                go_roundw
                                case rel => exact ⟨i + 1,many,t,k,E,by simp,by first | rfl | simp,by simp,zqh ⟨HA.out.lo,V28.out,M28.out,HSV.out,FRV.out,HA.out.en,HA.out.e16,HA.out.t0,HA.out.t1,HA.out.tm,B28.out⟩⟩
                                case measure => have:=HIL.out; simp [intOf]; omega
                  · as_aux_lemma =>
                      subst hm9;obtain rfl : s = ⟨#[69,86,69,82,89]⟩:=HS9.out.trans (by kernel_rfl);clear HS9 hr hr4;go_upto_region 20 with fail
                      obtain ⟨hm,hhm⟩ : ∃ x,decide ((0 ≤ b ∧ b < (hn : Int) ∧ 0 ≤ c9 ∧ c9 < 4) ∧ (1 ≤ d ∧ d < 4294967296) ∧ t < F) = x:=⟨_,rfl⟩;have HHM:=zqh hhm;clear hhm
                      go_cut [18] (fun s18 wx => s18 = .bool hm ∧ Hid (Below w26.heap.size w26 wx))
                      case first =>
                        as_aux_lemma =>
                          obtain ⟨lt9,q0,q1,q2,q3⟩:=C26.out;have e6 : f.tmod 65 = F:=by rw [Int.tmod_eq_emod_of_nonneg f0]; exact hF
                          have hb9:=HHB.out;cases hb with
                          | false =>
                            have hb9:=of_decide_eq_false hb9;(go_wp2_with fail);go_meet;exact ⟨by rw [← HHM.out,decide_eq_false (by omega)],zqh (Below.refl _ _)⟩
                          | true =>
                            have hb9:=of_decide_eq_true hb9
                            by_cases p0 : 1 ≤ d
                            · have g0 : (decide (1 ≤ d)) = true:=by simp; omega
                              by_cases p1 : d < 4294967296
                              · have g1 : (decide (d < 4294967296)) = true:=by simp; omega
                                by_cases p2 : t < F
                                · have g2 : (decide (t < F)) = true:=by simp; omega
                                  (go_wp2_with fail);go_meet;exact ⟨by rw [← HHM.out,decide_eq_true (by omega)],zqh (Below.refl _ _)⟩
                                · have g2 : (decide (t < F)) = false:=by simp; omega
                                  (go_wp2_with fail);go_meet;exact ⟨by rw [← HHM.out,decide_eq_false (by omega)],zqh (Below.refl _ _)⟩
                              · have g1 : (decide (d < 4294967296)) = false:=by simp; omega
                                (go_wp2_with fail);go_meet;exact ⟨by rw [← HHM.out,decide_eq_false (by omega)],zqh (Below.refl _ _)⟩
                            · have g0 : (decide (1 ≤ d)) = false:=by simp; omega
                              (go_wp2_with fail);go_meet;exact ⟨by rw [← HHM.out,decide_eq_false (by omega)],zqh (Below.refl _ _)⟩
                      case rest =>
                        obtain ⟨rfl,hb9⟩:=hcut;obtain ⟨w27,rfl⟩ : ∃ x,x = wc:=⟨_,rfl⟩;have bb:=hb9.out;clear hb9;have T27:=zqh (T26.out.keep bb);have C27:=zqh (C26.out.keep bb);have V27:=zqh (V26.out.keep bb);have M27:=zqh (M26.out.keep bb);have Y27:=zqh (Y26.out.keep bb);have MY27:=zqh (MY26.out.keep bb);have B27:=zqh (below_then B26.out bb);clear bb T26 C26 V26 M26 Y26 MY26 B26;go_upto_region 21 with fail
                        by_cases hmay : askMay 2 hn F t b c9 d ∧ E.length < 16
                        · as_aux_lemma =>
                            have hE : E9 = ⟨0,[],askK F (t + 1),(askL (handsL hn) (E ++ [⟨3,a,b,c9,d,t⟩]) [t])⟩:=HY.out hmay;have hM : (0 ≤ b ∧ b < (hn : Int) ∧ 0 ≤ c9 ∧ c9 < 4) ∧ (1 ≤ d ∧ d < 4294967296) ∧ t < F:=hmay.1;have e16 : many < 16:=by have:=HA.out.en; have:=hmay.2; omega
                            have HM:=zqh hM;have H16:=zqh e16;have e9 : E9.c = 0:=by rw [hE]
                            have tt0:=HA.out.t0;have tt1 : t ≤ 64:=by have:=HA.out.t1; have:=HFF.out.2; omega
                            have MZ27 : Hid (IsVm w27 kY (askL (handsL hn) (E ++ [⟨3,a,b,c9,d,t⟩]) [t])):=by have h9:=MY27.out; rw [hE] at h9; exact h9
                            have HSZ : Hid (Sc kY (askK F (t + 1))):=by have h9:=HSY.out; rw [hE] at h9; exact h9
                            have g16 : decide ((many : Int) < 16) = true:=by simp; omega
                            obtain rfl : hm = true:=by rw [← HHM.out]; exact decide_eq_true hM
                            clear MY27 M27 HSY HY HNO hmay hM hE;have hrl:=right_to MZ27.out.lens ((ask_right (F:=F) (t:=(t + 1)) (hs:=handsL hn) (E:=(E ++ [⟨3,a,b,c9,d,t⟩])) (d:=[t]) (by have:=HA.out.t1; have:=HM.out; omega) (by have:=HA.out.t0; have:=HFF.out.2; omega) (by have:=HA.out.t0; omega) (by have:=HA.out.t1; have:=HM.out; have:=HFF.out.2; omega) (by rw [hands_len]; have:=HN5.out; omega) (hands_right hn) (by rw [List.length_append,HA.out.en]; have:=H16.out; show many + 1 ≤ 16; omega) (by show 1 ≤ 4; decide)).sc HSZ.out);have hri:=rvright_any kY (askL (handsL hn) (E ++ [⟨3,a,b,c9,d,t⟩]) [t]) w27 (zqh (by have a9:=MZ27.out.lens.dict; rw [show (askL (handsL hn) (E ++ [⟨3,a,b,c9,d,t⟩]) [t]).dict.length = 167 from newW_len 167] at a9; omega)) MZ27.out;rw [hrl] at hri;have HRI:=zqh hri;clear hri hrl;(go_wp2_with (first | (refine wpList_vload (by rfl) _ rfl bY kY rfl Y27.out ?_)));refine (HRI.out).mono ?_;rintro e w28 ⟨rfl,bb⟩;clear HRI;have T28:=zqh (T27.out.keep bb);have C28:=zqh (C27.out.keep bb);have V28:=zqh (V27.out.keep bb);have Y28:=zqh (Y27.out.keep bb);have MZ28:=zqh (MZ27.out.keep bb);have B28:=zqh (below_then B27.out bb);clear bb T27 C27 V27 Y27 MZ27 B27;go_upto_region 25 with fail
                            as_aux_lemma =>
                              have le : kY.en = many + 1:=by have h9:=MZ28.out.e.len; rw [← h9]; show (E ++ [_]).length = _; rw [List.length_append,HA.out.en]; rfl
                              have ld : kY.dn = 1:=MZ28.out.d.1.symm;obtain ⟨pY0,pY1,pY2,pY3,pY4,pY5,pY6,pY7,pY8,pY9,pY10,pY11,pY12,pY13,pY14,pY15,pY16,pY17,pY18,pY19,pY20,pY21,pY22⟩:=Y28.out.use;clear pY0 pY1 pY2 pY3 pY4 pY5 pY6 pY7 pY9 pY10 pY11 pY12 pY13 pY14 pY15 pY18 pY19 pY20 pY21 pY22;rw [le] at pY16;rw [ld] at pY8;obtain ⟨g2,o2,ed,ea,lt2,cd⟩:=d1_of (x:=t) MZ28.out rfl;rw [ea] at pY8;clear ed lt2;obtain ⟨pV0,pV1,pV2,pV3,pV4,pV5,pV6,pV7,pV8,pV9,pV10,pV11,pV12,pV13,pV14,pV15,pV16,pV17,pV18,pV19,pV20,pV21,pV22⟩:=V28.out.use;clear pV0 pV1 pV2 pV3 pV4 pV5 pV6 pV7 pV8 pV9 pV10 pV11 pV12 pV13 pV14 pV15 pV16 pV18 pV19 pV20 pV21 pV22;obtain ⟨fv,hfv⟩ : ∃ x,k.free = x:=⟨_,rfl⟩;have f1 : fv = F - t:=by rw [← hfv]; exact HSV.out.free
                              have f2 : kY.free = fv - 1:=by rw [f1]; exact HSZ.out.free.trans (by show F - (t + 1) = _; omega)
                              rw [hfv] at pV17;rw [f2] at pY17;have n1 : 0 ≤ fv - 1:=by have:=HM.out; omega
                              have n2 : fv ≤ 64:=by have:=HFF.out.2; have:=HA.out.t0; omega
                              clear hfv f1 f2
                              go_quiet (fail)
                              clear le ld pY8 pY16 pY17 pV17 ea cd n1 n2;go_upto_region 29 with fail
                              as_aux_lemma =>
                                generalize hwd : World.drewN w28 _ = w29;have bb : Below w28.heap.size w28 w29:=by rw [← hwd]; exact drewN_b9 _ _
                                clear hwd;have T29:=zqh (T28.out.keep bb);have C29:=zqh (C28.out.keep bb);have V29:=zqh (V28.out.keep bb);have Y29:=zqh (Y28.out.keep bb);have MZ29:=zqh (MZ28.out.keep bb);have B29:=zqh (below_then B28.out bb);clear bb T28 C28 V28 Y28 MZ28 B28;have FRY:=zqh (free_asked MZ29.out Y29.out);have MN29 : Hid (IsVm w29 { kY with dA:=none,dn:=0,dc:=0 } (askL (handsL hn) (E ++ [⟨3,a,b,c9,d,t⟩]) [])):=zqh (MZ29.out.set_d (row_nil _));clear MZ29;have ka : Below w29.heap.size w29 w29:=Below.refl _ _;have F9:=(Y29.out.keep ka).free.2.2.2.2.2.2.2.2.1;have P9:=(Y29.out.keep ka).use.2.2.2.2.2.2.2.2.1;go_upto_region 30 with fail
                                have hV : ∃ V,World.setCell w29 ⟨bY,8,none⟩ (.slice none 0 0) = V:=⟨_,rfl⟩;obtain ⟨w30,hV⟩:=hV;have xe : Ex (fun g => g = bY) w29 w30:=by rw [← hV]; exact Ex.cell (X:=fun g => g = bY) (Ex.refl _ _) rfl _
                                have lt9:=Y29.out.lt;have B30 : Hid (Below w.heap.size w w30):=by show Below _ _ _; rw [← hV]; exact (below_then B29.out ka).setCell LBW.out _
                                have T30 : Hid (Tab w30):=zqh (TT0.out.keep B30.out);have C30:=zqh (CC0.out.keep B30.out);have M9MN:=isvm_free (MN29.out.keep ka) FRY.out xe (Y29.out.keep ka);have MN30:=zqh M9MN;have Y30 : Hid (VBox w30 bY { kY with dA:=none,dn:=0,dc:=0 }):=by show VBox _ _ _; rw [← hV]; exact (Y29.out.keep ka).put_d _ _ _
                                have V30 : Hid (VBox w30 w2.heap.size k):=by show VBox _ _ _; rw [← hV]; exact vset_far (V29.out.keep ka) NEY.out
                                first | rw [hV] | (rw [show (World.setCell _ _ _) = _ from hV]) | (rw [show (World.setCell (World.alloc _ _) _ _) = _ from hV])
                                clear hV ka xe lt9 F9 P9 M9MN MN29 Y29 V29 T29 C29 B29;have HSN : Hid (Sc { kY with dA:=none,dn:=0,dc:=0 } (askK F (t + 1))):=zqh (sc_d HSZ.out none 0 0);have FRN : Hid (Free { kY with dA:=none,dn:=0,dc:=0 } w2.heap.size):=zqh ⟨FRYV.out.p,.inl rfl,FRYV.out.r,FRYV.out.f,FRYV.out.w,FRYV.out.e,FRYV.out.h⟩;clear FRY;generalize hK : ({ kY with dA:=none,dn:=0,dc:=0 } : VmK) = kN at Y30 MN30 HSN FRN;clear hK;go_upto_region 11 with (first | (refine wpList_vload (by rfl) _ rfl bY kN rfl Y30.out ?_) | (refine wpList_vstore (by rfl) _ _ rfl w2.heap.size k kN rfl rfl V30.out ?_))
                                generalize hV : World.setRow _ _ _ = V;have P1 : VBox V w2.heap.size kN:=by rw [← hV]; exact vrow V30.out _
                                have P3 : Below w.heap.size w V:=by rw [← hV]; exact below_setRow B30.out HA.out.lo _
                                have P4 : IsVm V kN (askL (handsL hn) (E ++ [⟨3,a,b,c9,d,t⟩]) []):=by rw [← hV]; exact isvm_free MN30.out FRN.out (Ex.row (X:=fun g => g = w2.heap.size) (b:=w2.heap.size) (Ex.refl _ _) rfl _) V30.out
                                have R2 : Hid (AskAt hn F w w2.heap.size (i + 1) (many + 1) (t + 1) V kN (E ++ [⟨3,a,b,c9,d,t⟩])):=zqh ⟨HA.out.lo,P1,P4,HSN.out,FRN.out,by rw [List.length_append,HA.out.en]; rfl,by have:=H16.out; omega,by have:=HA.out.t0; omega,by have:=HM.out; omega,by have:=HA.out.tm; omega,P3⟩;clear hV P1 P3 P4;(go_wp2_with fail)
                                go_roundw
                                case rel => exact ⟨i + 1,many + 1,(t + 1),kN,E ++ [⟨3,a,b,c9,d,t⟩],by simp,by first | rfl | simp,by simp,R2⟩
                                case measure => have:=HIL.out; simp [intOf]; omega
                        · as_aux_lemma =>
                            obtain ⟨z,hz,hE⟩:=HNO.out hmay;have e9 : ¬ E9.c = 0:=by rw [hE]; exact hz
                            have g1 : (E9.c == 0) = false:=by simp [e9]
                            have g2 : (E9.c != 0) = true:=by simp [e9]
                            have g3 : decide (E9.c = 0) = false:=by simp [e9]
                            have MZ27 : Hid (IsVm w27 kY (askL (handsL hn) E [a,b,c9,d])):=by have h9:=MY27.out; rw [hE] at h9; exact h9
                            have HSZ : Hid (Sc kY (askK F t)):=by have h9:=HSY.out; rw [hE] at h9; exact h9
                            clear MY27 HSY HY HNO hE hz;have hrl:=right_to MZ27.out.lens ((ask_right (F:=F) (t:=t) (hs:=handsL hn) (E:=E) (d:=[a,b,c9,d]) (by have:=HA.out.t1; omega) (by have:=HA.out.t0; have:=HFF.out.2; omega) (by have:=HA.out.t0; omega) (by have:=HA.out.t1; have:=HFF.out.2; omega) (by rw [hands_len]; have:=HN5.out; omega) (hands_right hn) (by rw [HA.out.en]; exact HA.out.e16) (by show 4 ≤ 4; decide)).sc HSZ.out);have hri:=rvright_any kY (askL (handsL hn) E [a,b,c9,d]) w27 (zqh (by have a9:=MZ27.out.lens.dict; rw [show (askL (handsL hn) E [a,b,c9,d]).dict.length = 167 from newW_len 167] at a9; omega)) MZ27.out;rw [hrl] at hri;have HRI:=zqh hri;clear hri hrl;have HNM:=zqh hmay;clear hmay;cases hm with
                            | false =>
                              as_aux_lemma =>
                                (go_wp2_with (first | (refine wpList_vload (by rfl) _ rfl bY kY rfl Y27.out ?_)));refine (HRI.out).mono ?_;rintro e w28 ⟨rfl,bb⟩;clear HRI;have T28:=zqh (T27.out.keep bb);have C28:=zqh (C27.out.keep bb);have V28:=zqh (V27.out.keep bb);have M28:=zqh (M27.out.keep bb);have Y28:=zqh (Y27.out.keep bb);have MZ28:=zqh (MZ27.out.keep bb);have B28:=zqh (below_then B27.out bb);clear bb T27 C27 V27 M27 Y27 MZ27 B27;(go_wp2_with fail)
                                go_roundw
                                case rel => exact ⟨i + 1,many,t,k,E,by simp,by first | rfl | simp,by simp,zqh ⟨HA.out.lo,V28.out,M28.out,HSV.out,FRV.out,HA.out.en,HA.out.e16,HA.out.t0,HA.out.t1,HA.out.tm,B28.out⟩⟩
                                case measure => have:=HIL.out; simp [intOf]; omega
                            | true =>
                              have hm9 : (0 ≤ b ∧ b < (hn : Int) ∧ 0 ≤ c9 ∧ c9 < 4) ∧ (1 ≤ d ∧ d < 4294967296) ∧ t < F:=of_decide_eq_true HHM.out;have n16 : ¬ many < 16:=fun h9 => HNM.out ⟨hm9,by rw [HA.out.en]; exact h9⟩
                              have g16 : decide ((many : Int) < 16) = false:=by simp; omega
                              have g17 : decide (many < 16) = false:=by simp; omega
                              clear hm9
                              as_aux_lemma =>
                                (go_wp2_with (first | (refine wpList_vload (by rfl) _ rfl bY kY rfl Y27.out ?_)));refine (HRI.out).mono ?_;rintro e w28 ⟨rfl,bb⟩;clear HRI;have T28:=zqh (T27.out.keep bb);have C28:=zqh (C27.out.keep bb);have V28:=zqh (V27.out.keep bb);have M28:=zqh (M27.out.keep bb);have Y28:=zqh (Y27.out.keep bb);have MZ28:=zqh (MZ27.out.keep bb);have B28:=zqh (below_then B27.out bb);clear bb T27 C27 V27 M27 Y27 MZ27 B27;(go_wp2_with fail)
                                go_roundw
                                case rel => exact ⟨i + 1,many,t,k,E,by simp,by first | rfl | simp,by simp,zqh ⟨HA.out.lo,V28.out,M28.out,HSV.out,FRV.out,HA.out.en,HA.out.e16,HA.out.t0,HA.out.t1,HA.out.tm,B28.out⟩⟩
                                case measure => have:=HIL.out; simp [intOf]; omega
                  · as_aux_lemma =>
                      subst hm9;obtain rfl : s = ⟨#[67,65,78,67,69,76]⟩:=HS9.out.trans (by kernel_rfl);clear HS9 hr hr4;go_upto_region 21 with fail
                      by_cases hmay : askMay 3 hn F t b c9 d ∧ E.length < 16
                      · as_aux_lemma =>
                          have hE : E9 = ⟨0,[],askK F t,(askL (handsL hn) (E ++ [⟨4,0,0,0,0,d⟩]) [a,b,c9])⟩:=HY.out hmay;have hM : True:=hmay.1;have e16 : many < 16:=by have:=HA.out.en; have:=hmay.2; omega
                          have HM:=zqh hM;have H16:=zqh e16;have e9 : E9.c = 0:=by rw [hE]
                          have MZ26 : Hid (IsVm w26 kY (askL (handsL hn) (E ++ [⟨4,0,0,0,0,d⟩]) [a,b,c9])):=by have h9:=MY26.out; rw [hE] at h9; exact h9
                          have HSZ : Hid (Sc kY (askK F t)):=by have h9:=HSY.out; rw [hE] at h9; exact h9
                          have g16 : decide ((many : Int) < 16) = true:=by simp; omega
                          clear MY26 M26 HSY HY HNO hmay hM hE;have hrl:=right_to MZ26.out.lens ((ask_right (F:=F) (t:=t) (hs:=handsL hn) (E:=(E ++ [⟨4,0,0,0,0,d⟩])) (d:=[a,b,c9]) (by have:=HA.out.t1; omega) (by have:=HA.out.t0; have:=HFF.out.2; omega) (by have:=HA.out.t0; omega) (by have:=HA.out.t1; have:=HFF.out.2; omega) (by rw [hands_len]; have:=HN5.out; omega) (hands_right hn) (by rw [List.length_append,HA.out.en]; have:=H16.out; show many + 1 ≤ 16; omega) (by show 3 ≤ 4; decide)).sc HSZ.out);have hri:=rvright_any kY (askL (handsL hn) (E ++ [⟨4,0,0,0,0,d⟩]) [a,b,c9]) w26 (zqh (by have a9:=MZ26.out.lens.dict; rw [show (askL (handsL hn) (E ++ [⟨4,0,0,0,0,d⟩]) [a,b,c9]).dict.length = 167 from newW_len 167] at a9; omega)) MZ26.out;rw [hrl] at hri;have HRI:=zqh hri;clear hri hrl;(go_wp2_with (first | (refine wpList_vload (by rfl) _ rfl bY kY rfl Y26.out ?_)));refine (HRI.out).mono ?_;rintro e w27 ⟨rfl,bb⟩;clear HRI;have T27:=zqh (T26.out.keep bb);have C27:=zqh (C26.out.keep bb);have V27:=zqh (V26.out.keep bb);have Y27:=zqh (Y26.out.keep bb);have MZ27:=zqh (MZ26.out.keep bb);have B27:=zqh (below_then B26.out bb);clear bb T26 C26 V26 Y26 MZ26 B26;go_upto_region 25 with fail
                          as_aux_lemma =>
                            have le : kY.en = many + 1:=by have h9:=MZ27.out.e.len; rw [← h9]; show (E ++ [_]).length = _; rw [List.length_append,HA.out.en]; rfl
                            have ld : kY.dn = 3:=MZ27.out.d.1.symm;obtain ⟨pY0,pY1,pY2,pY3,pY4,pY5,pY6,pY7,pY8,pY9,pY10,pY11,pY12,pY13,pY14,pY15,pY16,pY17,pY18,pY19,pY20,pY21,pY22⟩:=Y27.out.use;clear pY0 pY1 pY2 pY3 pY4 pY5 pY6 pY7 pY9 pY10 pY11 pY12 pY13 pY14 pY15 pY17 pY18 pY19 pY20 pY21 pY22;rw [le] at pY16;rw [ld] at pY8
                            go_quiet (fail)
                            clear le ld pY8 pY16;go_upto_region 29 with fail
                            as_aux_lemma =>
                              generalize hwd : World.drewN w27 _ = w28;have bb : Below w27.heap.size w27 w28:=by rw [← hwd]; exact drewN_b9 _ _
                              clear hwd;have T28:=zqh (T27.out.keep bb);have C28:=zqh (C27.out.keep bb);have V28:=zqh (V27.out.keep bb);have Y28:=zqh (Y27.out.keep bb);have MZ28:=zqh (MZ27.out.keep bb);have B28:=zqh (below_then B27.out bb);clear bb T27 C27 V27 Y27 MZ27 B27;have FRY:=zqh (free_asked MZ28.out Y28.out);have MN28 : Hid (IsVm w28 { kY with dA:=none,dn:=0,dc:=0 } (askL (handsL hn) (E ++ [⟨4,0,0,0,0,d⟩]) [])):=zqh (MZ28.out.set_d (row_nil _));clear MZ28;have ka : Below w28.heap.size w28 w28:=Below.refl _ _;have F9:=(Y28.out.keep ka).free.2.2.2.2.2.2.2.2.1;have P9:=(Y28.out.keep ka).use.2.2.2.2.2.2.2.2.1;go_upto_region 30 with fail
                              have hV : ∃ V,World.setCell w28 ⟨bY,8,none⟩ (.slice none 0 0) = V:=⟨_,rfl⟩;obtain ⟨w29,hV⟩:=hV;have xe : Ex (fun g => g = bY) w28 w29:=by rw [← hV]; exact Ex.cell (X:=fun g => g = bY) (Ex.refl _ _) rfl _
                              have lt9:=Y28.out.lt;have B29 : Hid (Below w.heap.size w w29):=by show Below _ _ _; rw [← hV]; exact (below_then B28.out ka).setCell LBW.out _
                              have T29 : Hid (Tab w29):=zqh (TT0.out.keep B29.out);have C29:=zqh (CC0.out.keep B29.out);have M9MN:=isvm_free (MN28.out.keep ka) FRY.out xe (Y28.out.keep ka);have MN29:=zqh M9MN;have Y29 : Hid (VBox w29 bY { kY with dA:=none,dn:=0,dc:=0 }):=by show VBox _ _ _; rw [← hV]; exact (Y28.out.keep ka).put_d _ _ _
                              have V29 : Hid (VBox w29 w2.heap.size k):=by show VBox _ _ _; rw [← hV]; exact vset_far (V28.out.keep ka) NEY.out
                              first | rw [hV] | (rw [show (World.setCell _ _ _) = _ from hV]) | (rw [show (World.setCell (World.alloc _ _) _ _) = _ from hV])
                              clear hV ka xe lt9 F9 P9 M9MN MN28 Y28 V28 T28 C28 B28;have HSN : Hid (Sc { kY with dA:=none,dn:=0,dc:=0 } (askK F t)):=zqh (sc_d HSZ.out none 0 0);have FRN : Hid (Free { kY with dA:=none,dn:=0,dc:=0 } w2.heap.size):=zqh ⟨FRYV.out.p,.inl rfl,FRYV.out.r,FRYV.out.f,FRYV.out.w,FRYV.out.e,FRYV.out.h⟩;clear FRY;generalize hK : ({ kY with dA:=none,dn:=0,dc:=0 } : VmK) = kN at Y29 MN29 HSN FRN;clear hK;go_upto_region 11 with (first | (refine wpList_vload (by rfl) _ rfl bY kN rfl Y29.out ?_) | (refine wpList_vstore (by rfl) _ _ rfl w2.heap.size k kN rfl rfl V29.out ?_))
                              generalize hV : World.setRow _ _ _ = V;have P1 : VBox V w2.heap.size kN:=by rw [← hV]; exact vrow V29.out _
                              have P3 : Below w.heap.size w V:=by rw [← hV]; exact below_setRow B29.out HA.out.lo _
                              have P4 : IsVm V kN (askL (handsL hn) (E ++ [⟨4,0,0,0,0,d⟩]) []):=by rw [← hV]; exact isvm_free MN29.out FRN.out (Ex.row (X:=fun g => g = w2.heap.size) (b:=w2.heap.size) (Ex.refl _ _) rfl _) V29.out
                              have R2 : Hid (AskAt hn F w w2.heap.size (i + 1) (many + 1) t V kN (E ++ [⟨4,0,0,0,0,d⟩])):=zqh ⟨HA.out.lo,P1,P4,HSN.out,FRN.out,by rw [List.length_append,HA.out.en]; rfl,by have:=H16.out; omega,by have:=HA.out.t0; omega,by exact HA.out.t1,by have:=HA.out.tm; omega,P3⟩;clear hV P1 P3 P4;(go_wp2_with fail)
                              go_roundw
                              case rel => exact ⟨i + 1,many + 1,t,kN,E ++ [⟨4,0,0,0,0,d⟩],by simp,by first | rfl | simp,by simp,R2⟩
                              case measure => have:=HIL.out; simp [intOf]; omega
                      · as_aux_lemma =>
                          obtain ⟨z,hz,hE⟩:=HNO.out hmay;have e9 : ¬ E9.c = 0:=by rw [hE]; exact hz
                          have g1 : (E9.c == 0) = false:=by simp [e9]
                          have g2 : (E9.c != 0) = true:=by simp [e9]
                          have g3 : decide (E9.c = 0) = false:=by simp [e9]
                          have MZ26 : Hid (IsVm w26 kY (askL (handsL hn) E [a,b,c9,d])):=by have h9:=MY26.out; rw [hE] at h9; exact h9
                          have HSZ : Hid (Sc kY (askK F t)):=by have h9:=HSY.out; rw [hE] at h9; exact h9
                          clear MY26 HSY HY HNO hE hz;have hrl:=right_to MZ26.out.lens ((ask_right (F:=F) (t:=t) (hs:=handsL hn) (E:=E) (d:=[a,b,c9,d]) (by have:=HA.out.t1; omega) (by have:=HA.out.t0; have:=HFF.out.2; omega) (by have:=HA.out.t0; omega) (by have:=HA.out.t1; have:=HFF.out.2; omega) (by rw [hands_len]; have:=HN5.out; omega) (hands_right hn) (by rw [HA.out.en]; exact HA.out.e16) (by show 4 ≤ 4; decide)).sc HSZ.out);have hri:=rvright_any kY (askL (handsL hn) E [a,b,c9,d]) w26 (zqh (by have a9:=MZ26.out.lens.dict; rw [show (askL (handsL hn) E [a,b,c9,d]).dict.length = 167 from newW_len 167] at a9; omega)) MZ26.out;rw [hrl] at hri;have HRI:=zqh hri;clear hri hrl;have HNM:=zqh hmay;clear hmay;have hm9 : True:=trivial;have n16 : ¬ many < 16:=fun h9 => HNM.out ⟨hm9,by rw [HA.out.en]; exact h9⟩
                          have g16 : decide ((many : Int) < 16) = false:=by simp; omega
                          have g17 : decide (many < 16) = false:=by simp; omega
                          clear hm9
                          as_aux_lemma =>
                            (go_wp2_with (first | (refine wpList_vload (by rfl) _ rfl bY kY rfl Y26.out ?_)));refine (HRI.out).mono ?_;rintro e w27 ⟨rfl,bb⟩;clear HRI;have T27:=zqh (T26.out.keep bb);have C27:=zqh (C26.out.keep bb);have V27:=zqh (V26.out.keep bb);have M27:=zqh (M26.out.keep bb);have Y27:=zqh (Y26.out.keep bb);have MZ27:=zqh (MZ26.out.keep bb);have B27:=zqh (below_then B26.out bb);clear bb T26 C26 V26 M26 Y26 MZ26 B26;(go_wp2_with fail)
                            go_roundw
                            case rel => exact ⟨i + 1,many,t,k,E,by simp,by first | rfl | simp,by simp,zqh ⟨HA.out.lo,V27.out,M27.out,HSV.out,FRV.out,HA.out.en,HA.out.e16,HA.out.t0,HA.out.t1,HA.out.tm,B27.out⟩⟩
                            case measure => have:=HIL.out; simp [intOf]; omega
    · skip
      obtain ⟨w20,rfl⟩ : ∃ x,x = wr:=⟨_,rfl⟩;have hge : decide ((i : Int) < (n : Int)) = false:=by simp; omega
      have hge2 : decide (i < n) = false:=by simp; omega
      have V20:=zqh HA.out.box;have B20:=HA.out.bel;have hnx : k.next = t:=HA.out.sc.next;clear hil;obtain ⟨pV0,pV1,pV2,pV3,pV4,pV5,pV6,pV7,pV8,pV9,pV10,pV11,pV12,pV13,pV14,pV15,pV16,pV17,pV18,pV19,pV20,pV21,pV22⟩:=V20.out.use;clear pV0 pV1 pV2 pV3 pV4 pV5 pV6 pV7 pV8 pV9 pV10 pV11 pV12 pV13 pV14 pV15 pV16 pV17 pV19 pV20 pV21 pV22;rw [hnx] at pV18;(go_wp2_with fail);go_ret;exact ⟨rfl,B20⟩
end Go.Proofs.YtlgnijhemfkflaaGreatDoor
