/- Part 29. -/
import Derived.Test.YtcmldhjicjmmgaaGreatDoorXlBB
import Derived.StillTailTactics
set_option linter.unusedVariables false
set_option linter.unusedSimpArgs false
set_option maxRecDepth 100000
set_option maxHeartbeats 4000000

namespace Go.Proofs.YtcmldhjicjmmgaaGreatDoor
open Go.RowKit


theorem fetchesOne1 (W : World) (p : Addr) (g : FuncId) (cs : Array Value) (o C : PM → Int → Int) (eg : Ent g)
    (hc : ∀ w A P n c K d m a,Kp W w → MemIn w A P n c K d m → cellR a → Calls Tryz.prog g (#[.agg #[.slice A n c,.slice P K d],.int .i64 a] ++ cs) w fun e w' => e = .returned (.tuple #[.int .i64 (o m a),.int .i64 (C m a)]) ∧ Below w.heap.size w w')
    (hp : W.cell? p = some (.func (.func g) #[] cs)) (hpl : p.block < W.heap.size) (w : World) (A P : Option Addr) (n c K d : Nat) (m : PM) (a : Int) (b0 : Kp W w) (hm : MemIn w A P n c K d m) (ha : cellR a) :
    Calls Tryz.prog 228 #[.agg #[.slice A n c,.slice P K d],.int .i64 a,.pointer (some p)] w (CellOut [o m a] (C m a) w):=by
  go_enter Tryz.func228,Tryz.ntmps228;go_upto_region 1 with fail
  generalize hw1 : World.alloc _ _ = w1;have kb : Below w.heap.size w w1:=by rw [← hw1]; exact al_one _ _
  have c0 : w1.cell? ⟨w.heap.size,0,none⟩ = some (.slice A n c):=by rw [← hw1]; simp
  have c1 : w1.cell? ⟨w.heap.size,1,none⟩ = some (.slice P K d):=by rw [← hw1]; simp
  have hp1:=((kp_then b0 kb).cell (p:=p) hpl).trans hp;have HC:=zqh (hc w1 A P n c K d m a (kp_then b0 kb) (hm.keep kb) ha);have B1:=zqh kb;clear hc b0 kb hm hp hw1;(go_wp2_with fail);refine HC.out.mono ?_;rintro e w2 ⟨rfl,bb⟩;have B2:=zqh (below_then B1.out bb);clear HC bb;(go_wp2_with fail);go_ret2;exact ⟨_,_,_,rfl,fun hz => (rowN_one _ _).le B2.out.size,below_then B2.out (al_one _ _)⟩
theorem tells1 (W : World) (p : Addr) (g : FuncId) (cs : Array Value) (o : VmK → VmL → Int) (eg : Ent g)
    (hc : ∀ w k L,Kp W w → Ok k L → IsVm w k L → Calls Tryz.prog g (#[vmV k] ++ cs) w fun e w' => e = .returned (.int .i64 (o k L)) ∧ Below w.heap.size w w') (w : World) (k : VmK) (L : VmL) (A : Option Addr) (c : Nat) (x : List Int)
    (b0 : Kp W w) (hp : w.cell? p = some (.func (.func g) #[] cs)) (hpl : p.block < w.heap.size) (ok : Ok k L) (h : IsVm w k L) (hx : Takes w 0 A c x) :
    Calls Tryz.prog 234 #[vmV k,.slice A 0 c,.pointer (some p)] w (ActOut ⟨0,[o k L],k,L⟩ k w):=by
  go_enter Tryz.func234,Tryz.ntmps234;go_upto_region 1 with fail
  generalize hw1 : World.alloc (World.alloc _ _) _ = w1;have kb : Below w.heap.size w w1:=by rw [← hw1]; exact al_two _ _ _
  have kx : VBox w1 w.heap.size k:=by rw [← hw1]; exact (in_two w k _).2
  have kz : VBox w1 (w.heap.size + 1) vm0:=by rw [← hw1]; exact in_two0 w _
  have KS : Hid (w1.heap.size = w.heap.size + 1 + 1):=by show _ = _; rw [← hw1]; exact in_twos w _ _
  clear hw1;have HP:=zqh hp;have HC:=zqh fun w b0 hm => hc w k L b0 ok hm
  have X1:=zqh kx;have Z1:=zqh kz;have B1:=zqh kb;have V0:=zqh h;clear hc kb kx kz h hx hp ok;go_upto_region 1 with fail
  refine wp_region_noPanic ?_;refine wp_region_held_drew (S:=fun a => Below w.heap.size w a ∧ VBox a w.heap.size k ∧ ∃ j0,VBox a (w.heap.size + 1) j0) (by kernel_rfl) ?_ (fun hHeld => ?_)
  · exact ⟨B1.out.drew,X1.out,_,Z1.out⟩
  refine zqt (i:=0) (v:=vmV k) (fun u hSu => exec_vl _ rfl w.heap.size k rfl hSu.2.1) ?_;(try simp only [zq,Act.put]);refine zqf 1 (fun u hSu => (hSu.1.cell (p:=p) hpl).trans HP.out) ?_;refine zqt (i:=2) (v:=vmV k) (fun u hSu => exec_vl _ rfl w.heap.size k rfl hSu.2.1) ?_;(try simp only [zq,Act.put]);refine zqr 3 fun K hK => ?_
  go_simp;refine (HC.out _ (kp_then b0 hHeld.1) (V0.out.keep hHeld.1)).mono ?_;rintro e u1 ⟨rfl,bb⟩;obtain ⟨j0,hz⟩:=hHeld.2.2;have HS1 : Hid (w.heap.size + 1 < u1.heap.size):=(hz.keep bb).lt;have hN : Below w.heap.size w u1 ∧ VBox u1 w.heap.size k ∧ ∃ j0,VBox u1 (w.heap.size + 1) j0:=⟨below_then hHeld.1 bb,hHeld.2.1.keep bb,j0,hz.keep bb⟩;(go_wp2_with fail);clear bb hz;clear hHeld;refine hK.out _ _ hN (fun hHeld => ?_);clear hK K hN;(try simp only [zq,Act.put]);obtain ⟨j0,hz⟩:=hHeld.2.2;refine wpAnyH_ready (rs:=[4,5]) (by kernel_rfl) (by simp) ?_;refine AllReadyH.cons (o:=_) rfl (fun K hK => ?_) (AllReadyH.cons (o:=_) rfl (fun K hK => ?_) AllReadyH.nil)
  case refine_1 =>
    go_simp;(go_wp2_with fail);have h1:=below_then hHeld.1 (al_one u1 (.cells #[.int .i64 (o k L)] 3));have h2:=hHeld.2.1.keep (al_one u1 (.cells #[.int .i64 (o k L)] 3));have h3:=hz.keep (al_one u1 (.cells #[.int .i64 (o k L)] 3));refine hK.out _ _ ⟨h1,h2,_,h3⟩ (fun hHeld2 => ?_);clear hK K;(try simp only [zq,Act.put]);refine zqr 5 fun K hK => ?_
    refine step_vst rfl _ _ rfl (w.heap.size + 1) j0 k rfl rfl h3 ?_;have kb2:=below_setRow h1 (show w.heap.size ≤ w.heap.size + 1 by omega) (vmC k);refine hK.out _ _ ⟨kb2,vrow_fr h2 (by omega) _,k,vrow h3 k⟩ (fun hHeld3 => ?_);clear hK K;(try simp only [zq,Act.put]);refine zqa 6 ?_;refine zqa 7 ?_;refine wpAnyH_done (by kernel_rfl) ?_ _;refine NoPanic.normal ?_;(go_wp2_with fail);refine bodyPost_ret (res_ctt rfl _ _ _ _ rfl (vrow h3 k)) rfl ⟨k,_,_,_,rfl,fun hz => ⟨V0.out.keep kb2,Sc.refl _,MLoc.refl _ _,?_⟩,kb2⟩;exact (((rowN_one u1 (o k L)).le (HS1.out : w.heap.size + 1 + 1 ≤ u1.heap.size)).row_set (by omega) _).le (by omega)
  case refine_2 =>
    refine step_vst rfl _ _ rfl (w.heap.size + 1) j0 k rfl rfl hz ?_;have kb1:=below_setRow hHeld.1 (show w.heap.size ≤ w.heap.size + 1 by omega) (vmC k);have h2:=vrow_fr hHeld.2.1 (by omega : w.heap.size ≠ w.heap.size + 1) (vmC k);have h3:=vrow hz k;refine hK.out _ _ ⟨kb1,h2,k,h3⟩ (fun hHeld2 => ?_);clear hK K;(try simp only [zq,Act.put]);generalize hu : World.setRow _ _ _ = u at kb1 h2 h3 hHeld2 ⊢;refine zqr 4 fun K hK => ?_
    go_simp;(go_wp2_with fail);have kb2:=below_then kb1 (al_one u (.cells #[.int .i64 (o k L)] 3));have h5:=h3.keep (al_one u (.cells #[.int .i64 (o k L)] 3));refine hK.out _ _ ⟨kb2,h2.keep (al_one _ _),k,h5⟩ (fun hHeld3 => ?_);clear hK K;(try simp only [zq,Act.put]);refine zqa 6 ?_;refine zqa 7 ?_;refine wpAnyH_done (by kernel_rfl) ?_ _;refine NoPanic.normal ?_;(go_wp2_with fail);refine bodyPost_ret (res_ctt rfl _ _ _ _ rfl h5) rfl ⟨k,_,_,_,rfl,fun hz => ⟨V0.out.keep kb2,Sc.refl _,MLoc.refl _ _,?_⟩,kb2⟩;exact (rowN_one u (o k L)).le kb1.size


theorem stores1 (W : World) (p : Addr) (g : FuncId) (cs : Array Value) (t : Nat) (f : PM → List Int → PM) (C : PM → List Int → Int) (eg : Ent g)
    (hc : ∀ w A P n c K d m B c2 x,Kp W w → MemIn w A P n c K d m → Takes w t B c2 x → Calls Tryz.prog g (#[.agg #[.slice A n c,.slice P K d],.slice B t c2] ++ cs) w (MemOut P K (f m x) (C m x) w)) (w : World) (k : VmK) (L : VmL) (A : Option Addr) (c : Nat) (x : List Int)
    (b0 : Kp W w) (hp : w.cell? p = some (.func (.func g) #[] cs)) (hpl : p.block < w.heap.size) (ok : Ok k L) (h : IsVm w k L) (hx : Takes w t A c x) :
    Calls Tryz.prog 229 #[vmV k,.slice A t c,.pointer (some p)] w (TurnOut (memE k L (f L.m x) (C L.m x)) k w):=by
  show Calls _ _ _ _ (TurnOut ⟨C L.m x,[],k,{ L with m:=f L.m x }⟩ k w);go_enter Tryz.func229,Tryz.ntmps229;go_upto_region 1 with fail
  generalize hw1 : World.alloc (World.alloc _ _) _ = w1;have kb : Below w.heap.size w w1:=by rw [← hw1]; exact al_two _ _ _
  have kx : VBox w1 w.heap.size k:=by rw [← hw1]; exact (in_two w k _).2
  have kz : VBox w1 (w.heap.size + 1) vm0:=by rw [← hw1]; exact in_two0 w _
  have KS : Hid (w1.heap.size = w.heap.size + 1 + 1):=by show _ = _; rw [← hw1]; exact in_twos w _ _
  clear hw1;have hp1:=(kb.cell (p:=p) hpl).trans hp;have HC:=zqh (hc w1 k.mA k.pA k.mn k.mc k.pn k.pc L.m A c x (kp_then b0 kb) ((ok.mem h).keep kb) (hx.keep kb));have X1:=zqh kx;have Z1:=zqh kz;have B1:=zqh kb;have V0:=zqh h;obtain ⟨p0,p1,p2,p3,p4,p5,p6,p7,p8,p9,p10,p11,p12,p13,p14,p15,p16,p17,p18,p19,p20,p21,p22⟩:=kx.use;clear p0 p1 p2 p3 p4 p7 p8 p9 p10 p11 p12 p13 p14 p15 p16 p17 p18 p19 p20 p21 p22;clear hc b0 kb kx kz h hx hp ok;(go_wp2_with fail);refine HC.out.mono ?_;rintro e w2 ⟨A2,n2,c2,P2,K2,d2,rfl,hr,bb⟩;have X2:=zqh (X1.out.keep bb);have Z2:=zqh (Z1.out.keep bb);have B2:=zqh (below_then B1.out bb);have HR:=zqh hr;have F5:=X2.out.free.2.2.2.2.2.1;have F6:=X2.out.free.2.2.2.2.2.2.1;obtain ⟨p0,p1,p2,p3,p4,P5,P6,p7,p8,p9,p10,p11,p12,p13,p14,p15,p16,p17,p18,p19,p20,p21,p22⟩:=X2.out.use;clear p0 p1 p2 p3 p4 p7 p8 p9 p10 p11 p12 p13 p14 p15 p16 p17 p18 p19 p20 p21 p22;clear HC X1 Z1 B1 bb hr p5 p6;go_upto_region 3 with fail
  generalize hV : World.setCell _ _ _ = V;have XW : Hid (VBox V w.heap.size { k with mA:=A2,mn:=n2,mc:=c2,pA:=P2,pn:=K2,pc:=d2 }):=by show VBox _ _ _; rw [← hV]; exact (X2.out.put_m _ _ _).put_p _ _ _
  have ZW : Hid (VBox V (w.heap.size + 1) vm0):=by show VBox _ _ _; rw [← hV]; exact vset_far (vset_far Z2.out (by omega)) (by omega)
  have BW : Hid (Below w.heap.size w V):=by show Below _ _ _; rw [← hV]; exact (B2.out.setCell (Nat.le_refl _) _).setCell (Nat.le_refl _) _
  have EW : Hid (Ex (fun g => g = w.heap.size ∨ g = w.heap.size + 1) w2 V):=by show Ex _ _ _; rw [← hV]; exact ((Ex.refl _ _).cell (.inl rfl) _).cell (.inl rfl) _
  clear hV F5 F6 P5 P6;(go_wp2_with (first | (refine wpList_vload (by rfl) _ rfl _ _ rfl XW.out ?_) | (refine wpList_vstore (by rfl) _ _ rfl _ vm0 _ rfl rfl ZW.out ?_)));have kb2:=below_setRow BW.out (show w.heap.size ≤ w.heap.size + 1 by omega) (vmC { k with mA:=A2,mn:=n2,mc:=c2,pA:=P2,pn:=K2,pc:=d2 });refine bodyPost_ret (res_ct rfl _ _ _ _ rfl (vrow ZW.out _)) rfl ⟨_,rfl,fun hz => ?_,kb2⟩;have hm:=HR.out hz;have v2:=V0.out.keep B2.out;have hl : MLoc w1.heap.size { k with mA:=A2,mn:=n2,mc:=c2,pA:=P2,pn:=K2,pc:=d2 } k:=⟨hm.2 _ _ _ _ rfl,.refl _ _ _,.refl _ _ _,⟨rfl,rfl⟩,⟨rfl,rfl⟩,⟨rfl,rfl⟩,⟨rfl,rfl⟩⟩;have hj : IsVm w2 { k with mA:=A2,mn:=n2,mc:=c2,pA:=P2,pn:=K2,pc:=d2 } { L with m:=f L.m x }:=⟨hm.1,v2.d,v2.r,v2.f,v2.dict,v2.o,v2.q,v2.e,v2.h⟩;refine ⟨V0.out.ex hj hl (EW.out.row (.inr rfl) _) ?_,⟨rfl,rfl,rfl,rfl,rfl,rfl,rfl,rfl,rfl,rfl,rfl,rfl,rfl⟩,hl.le (by have:=KS.out; omega)⟩;intro g hg h;have:=KS.out
  rcases h with rfl | rfl
  · exact ⟨by omega,by omega,vbox_nou8 X2.out⟩
  · exact ⟨by omega,by omega,vbox_nou8 Z2.out⟩


theorem lays1 (W : World) (p : Addr) (g : FuncId) (cs : Array Value) (t : Nat) (f : PM → Int → List Int → PM) (p9 C : PM → Int → List Int → Int) (eg : Ent g)
    (hc : ∀ w A P n c K d m h B c2 x,Kp W w → MemIn w A P n c K d m → 1368 ≤ h → h ≤ (n : Int) → Takes w t B c2 x → Calls Tryz.prog g (#[.agg #[.slice A n c,.slice P K d],.int .i64 h,.slice B t c2] ++ cs) w (LayOut P K (f m h x) (p9 m h x) (C m h x) w)) (w : World) (k : VmK) (L : VmL) (A : Option Addr) (c : Nat) (x : List Int)
    (b0 : Kp W w) (hp : w.cell? p = some (.func (.func g) #[] cs)) (hpl : p.block < w.heap.size) (ok : Ok k L) (h : IsVm w k L) (hx : Takes w t A c x) :
    Calls Tryz.prog 235 #[vmV k,.slice A t c,.pointer (some p)] w (TurnOut (hereE k L (f L.m k.here x) (p9 L.m k.here x) (C L.m k.here x)) k w):=by
  show Calls _ _ _ _ (TurnOut ⟨C L.m k.here x,[],{ k with here:=p9 L.m k.here x },{ L with m:=f L.m k.here x }⟩ k w);have HC0:=fun w b1 hm h1 h2 hx => hc w k.mA k.pA k.mn k.mc k.pn k.pc L.m k.here A c x b1 hm h1 h2 hx
  generalize p9 L.m k.here x = pp at HC0 ⊢;generalize f L.m k.here x = mm at HC0 ⊢;generalize C L.m k.here x = cc at HC0 ⊢;go_enter Tryz.func235,Tryz.ntmps235;go_upto_region 1 with fail
  generalize hw1 : World.alloc (World.alloc _ _) _ = w1;have kb : Below w.heap.size w w1:=by rw [← hw1]; exact al_two _ _ _
  have kx : VBox w1 w.heap.size k:=by rw [← hw1]; exact (in_two w k _).2
  have kz : VBox w1 (w.heap.size + 1) vm0:=by rw [← hw1]; exact in_two0 w _
  have KS : Hid (w1.heap.size = w.heap.size + 1 + 1):=by show _ = _; rw [← hw1]; exact in_twos w _ _
  clear hw1;have hp1:=(kb.cell (p:=p) hpl).trans hp;have HC:=zqh (HC0 w1 (kp_then b0 kb) ((ok.mem h).keep kb) ok.hr0 (by have:=ok.hr1; rw [h.m.len1] at this; exact this) (hx.keep kb));clear HC0;have X1:=zqh kx;have Z1:=zqh kz;have B1:=zqh kb;have V0:=zqh h;obtain ⟨p0,p1,p2,p3,p4,p5,p6,p7,p8,p9,p10,p11,p12,p13,p14,p15,p16,p17,p18,p19,p20,p21,p22⟩:=kx.use;clear p0 p1 p2 p3 p4 p8 p9 p10 p11 p12 p13 p14 p15 p16 p17 p18 p19 p20 p21 p22;clear hc b0 kb kx kz h hx hp ok;(go_wp2_with fail);refine HC.out.mono ?_;rintro e w2 ⟨A2,n2,c2,P2,K2,d2,rfl,hr,bb⟩;have X2:=zqh (X1.out.keep bb);have Z2:=zqh (Z1.out.keep bb);have B2:=zqh (below_then B1.out bb);have HR:=zqh hr;have F5:=X2.out.free.2.2.2.2.2.1;have F6:=X2.out.free.2.2.2.2.2.2.1;have F7:=X2.out.free.2.2.2.2.2.2.2.1;obtain ⟨p0,p1,p2,p3,p4,P5,P6,P7,p8,p9,p10,p11,p12,p13,p14,p15,p16,p17,p18,p19,p20,p21,p22⟩:=X2.out.use;clear p0 p1 p2 p3 p4 p8 p9 p10 p11 p12 p13 p14 p15 p16 p17 p18 p19 p20 p21 p22;clear HC X1 Z1 B1 bb hr p5 p6 p7;go_upto_region 3 with fail
  generalize hV : World.setCell _ _ _ = V;have XW : Hid (VBox V w.heap.size { k with mA:=A2,mn:=n2,mc:=c2,pA:=P2,pn:=K2,pc:=d2,here:=pp }):=by show VBox _ _ _; rw [← hV]; exact ((X2.out.put_m _ _ _).put_p _ _ _).set_here _
  have ZW : Hid (VBox V (w.heap.size + 1) vm0):=by show VBox _ _ _; rw [← hV]; exact vset_far (vset_far (vset_far Z2.out (by omega)) (by omega)) (by omega)
  have BW : Hid (Below w.heap.size w V):=by show Below _ _ _; rw [← hV]; exact ((B2.out.setCell (Nat.le_refl _) _).setCell (Nat.le_refl _) _).setCell (Nat.le_refl _) _
  have EW : Hid (Ex (fun g => g = w.heap.size ∨ g = w.heap.size + 1) w2 V):=by show Ex _ _ _; rw [← hV]; exact (((Ex.refl _ _).cell (.inl rfl) _).cell (.inl rfl) _).cell (.inl rfl) _
  clear hV F5 F6 F7 P5 P6 P7;(go_wp2_with (first | (refine wpList_vload (by rfl) _ rfl _ _ rfl XW.out ?_) | (refine wpList_vstore (by rfl) _ _ rfl _ vm0 _ rfl rfl ZW.out ?_)));have kb2:=below_setRow BW.out (show w.heap.size ≤ w.heap.size + 1 by omega) (vmC { k with mA:=A2,mn:=n2,mc:=c2,pA:=P2,pn:=K2,pc:=d2,here:=pp });refine bodyPost_ret (res_ct rfl _ _ _ _ rfl (vrow ZW.out _)) rfl ⟨_,rfl,fun hz => ?_,kb2⟩;have hm:=HR.out hz;have v2:=V0.out.keep B2.out;have hl : MLoc w1.heap.size { k with mA:=A2,mn:=n2,mc:=c2,pA:=P2,pn:=K2,pc:=d2,here:=pp } k:=⟨hm.2 _ _ _ _ rfl,.refl _ _ _,.refl _ _ _,⟨rfl,rfl⟩,⟨rfl,rfl⟩,⟨rfl,rfl⟩,⟨rfl,rfl⟩⟩;have hj : IsVm w2 { k with mA:=A2,mn:=n2,mc:=c2,pA:=P2,pn:=K2,pc:=d2,here:=pp } { L with m:=mm }:=⟨hm.1,v2.d,v2.r,v2.f,v2.dict,v2.o,v2.q,v2.e,v2.h⟩;refine ⟨V0.out.ex hj hl (EW.out.row (.inr rfl) _) ?_,⟨rfl,rfl,rfl,rfl,rfl,rfl,rfl,rfl,rfl,rfl,rfl,rfl,rfl⟩,hl.le (by have:=KS.out; omega)⟩;intro g hg h;have:=KS.out
  rcases h with rfl | rfl
  · exact ⟨by omega,by omega,vbox_nou8 X2.out⟩
  · exact ⟨by omega,by omega,vbox_nou8 Z2.out⟩


def Makes (F : VmK → VmL → Eff) (w : World) (e : Ending) (w' : World) : Prop:=∃ d,e = .returned d ∧ IsDeed w' d F ∧ Below w.heap.size w w'
abbrev rkF (o : List Int → List Int) (C : List Int → Int) : Fn3:=fun k L x => ⟨C x,o x,k,L⟩
abbrev tnF (f : Fn3) : Fn3:=fun k L x => ⟨(f k L x).c,[],(f k L x).K,(f k L x).L⟩
abbrev feF (o : PM → Int → List Int) (C : PM → Int → Int) : Fn3:=fun k L x => ⟨C L.m (x.getD 0 0),o L.m (x.getD 0 0),k,L⟩
abbrev teF (o : VmK → VmL → Int) : Fn3:=fun k L x => ⟨0,[o k L],k,L⟩
abbrev stF (f : PM → List Int → PM) (C : PM → List Int → Int) : Fn3:=fun k L x => memE k L (f L.m x) (C L.m x)
abbrev laF (f : PM → Int → List Int → PM) (p C : PM → Int → List Int → Int) : Fn3:=fun k L x => hereE k L (f L.m k.here x) (p L.m k.here x) (C L.m k.here x)
theorem taking_is (t : Nat) (f : Fn3) (ht : t ≤ 4) (ho : ∀ k L x,(f k L x).o.length ≤ 4) (w : World) (v : Value) (h0 : IsAct w v t f) : Calls Tryz.prog 186 #[.int .i64 (t : Int),v] w (Makes (deedE t f) w):=by
  obtain ⟨g,cs,rfl,eg,hc⟩:=h0;refine (taking_any t g cs w).mono ?_;rintro e w1 ⟨p,q,rfl,cp,cq,⟨lp,lq⟩,kb⟩;refine ⟨_,rfl,⟨_,_,rfl,(enters_of Tryz.func250 (by kernel_rfl) rfl),fun w2 k L b2 ok hv => ?_⟩,kb⟩;have hc2 : ∀ w k L A c x,Kp w1 w → Ok k L → IsVm w k L → Takes w t A c x → Calls Tryz.prog g (#[vmV k,.slice A t c] ++ cs) w (ActOut (f k L x) k w):=fun w3 k L A c x b3 => hc w3 k L A c x (kp_after kb b3)
  by_cases hu : L.d.length < t
  · have e1 : deedE t f k L = ⟨-4,[],k,L⟩:=by unfold deedE; rw [if_pos hu]
    rw [e1];exact take_under w1 p q g cs t f eg ht hc2 w2 k L b2 ((b2.cell lp).trans cp) ((b2.cell lq).trans cq) (Nat.lt_of_lt_of_le lp b2.size) (Nat.lt_of_lt_of_le lq b2.size) ok hv hu
  · obtain ⟨low,hlow⟩ : ∃ low,L.d.length = low + t:=⟨L.d.length - t,by omega⟩
    exact take_more w1 p q g cs t f eg ht hc2 w2 k L b2 ((b2.cell lp).trans cp) ((b2.cell lq).trans cq) (Nat.lt_of_lt_of_le lp b2.size) (Nat.lt_of_lt_of_le lq b2.size) ok hv low hlow (ho k L)
theorem reckons_is (t : Nat) (o : List Int → List Int) (C : List Int → Int) (ht : t ≤ 4) (ho : ∀ x,(o x).length ≤ 4) (w : World) (v : Value) (h0 : IsReck w v t o C) : Calls Tryz.prog 121 #[.int .i64 (t : Int),v] w (Makes (deedE t (rkF o C)) w):=by
  obtain ⟨g,cs,rfl,eg,hc⟩:=h0;have hmf : ∀ (fn : Fn) (first cap : Array Value) (w : World),(Instr.makeFunc fn first cap).run Tryz.prog w = .ok (.func fn first cap) w:=fun _ _ _ _ => rfl
  go_enter Tryz.func121,Tryz.ntmps121;(go_wp2_with fail);generalize hw1 : World.alloc _ _ = w1;have kb : Below w.heap.size w w1:=by rw [← hw1]; exact al_one _ _
  have c0 : w1.cell? ⟨w.heap.size,0,none⟩ = some (.func (.func g) #[] cs):=by rw [← hw1]; simp
  have hl : w.heap.size < w1.heap.size:=by rw [← hw1]; simp
  have HA : IsAct w1 (.func (.func 213) #[] #[.pointer (some ⟨w.heap.size,0,none⟩)]) t (rkF o C):=⟨_,_,rfl,(enters_of Tryz.func213 (by kernel_rfl) rfl),fun w2 k L A c x b2 ok hv hx => reckons1 w1 _ g cs t o C eg (fun w3 A c x b3 => hc w3 A c x (kp_after kb b3)) w2 k L A c x b2 ((b2.cell hl).trans c0) (Nat.lt_of_lt_of_le hl b2.size) hv hx⟩;have B1:=zqh kb;clear c0 kb hw1;refine (taking_is t _ ht (fun _ _ x => ho x) w1 _ HA).mono ?_;rintro e w2 ⟨d,rfl,hd,bb⟩;have B2:=zqh (below_then B1.out bb);clear B1 bb HA hl;(go_wp2_with fail);go_ret;exact ⟨d,rfl,hd,B2.out⟩
theorem turns_is (t : Nat) (f : Fn3) (ht : t ≤ 4) (w : World) (v : Value) (h0 : IsTurn w v t f) : Calls Tryz.prog 183 #[.int .i64 (t : Int),v] w (Makes (deedE t (tnF f)) w):=by
  obtain ⟨g,cs,rfl,eg,hc⟩:=h0;have hmf : ∀ (fn : Fn) (first cap : Array Value) (w : World),(Instr.makeFunc fn first cap).run Tryz.prog w = .ok (.func fn first cap) w:=fun _ _ _ _ => rfl
  go_enter Tryz.func183,Tryz.ntmps183;(go_wp2_with fail);generalize hw1 : World.alloc _ _ = w1;have kb : Below w.heap.size w w1:=by rw [← hw1]; exact al_one _ _
  have c0 : w1.cell? ⟨w.heap.size,0,none⟩ = some (.func (.func g) #[] cs):=by rw [← hw1]; simp
  have hl : w.heap.size < w1.heap.size:=by rw [← hw1]; simp
  have HA : IsAct w1 (.func (.func 249) #[] #[.pointer (some ⟨w.heap.size,0,none⟩)]) t (tnF f):=⟨_,_,rfl,(enters_of Tryz.func249 (by kernel_rfl) rfl),fun w2 k L A c x b2 ok hv hx => turns1 w1 _ g cs t f eg (fun w3 k L A c x b3 => hc w3 k L A c x (kp_after kb b3)) w2 k L A c x b2 ((b2.cell hl).trans c0) (Nat.lt_of_lt_of_le hl b2.size) ok hv hx⟩;have B1:=zqh kb;clear c0 kb hw1;refine (taking_is t _ ht (fun _ _ _ => Nat.zero_le _) w1 _ HA).mono ?_;rintro e w2 ⟨d,rfl,hd,bb⟩;have B2:=zqh (below_then B1.out bb);clear B1 bb HA hl;(go_wp2_with fail);go_ret;exact ⟨d,rfl,hd,B2.out⟩
theorem fetches_is (o : PM → Int → List Int) (C : PM → Int → Int) (ho : ∀ m a,(o m a).length ≤ 4) (w : World) (v : Value) (h0 : IsFetch w v o C) : Calls Tryz.prog 152 #[v] w (Makes (deedE 1 (feF o C)) w):=by
  obtain ⟨g,cs,rfl,eg,hc⟩:=h0;have hmf : ∀ (fn : Fn) (first cap : Array Value) (w : World),(Instr.makeFunc fn first cap).run Tryz.prog w = .ok (.func fn first cap) w:=fun _ _ _ _ => rfl
  go_enter Tryz.func152,Tryz.ntmps152;(go_wp2_with fail);generalize hw1 : World.alloc _ _ = w1;have kb : Below w.heap.size w w1:=by rw [← hw1]; exact al_one _ _
  have c0 : w1.cell? ⟨w.heap.size,0,none⟩ = some (.func (.func g) #[] cs):=by rw [← hw1]; simp
  have hl : w.heap.size < w1.heap.size:=by rw [← hw1]; simp
  have HA : IsAct w1 (.func (.func 232) #[] #[.pointer (some ⟨w.heap.size,0,none⟩)]) 1 (feF o C):=⟨_,_,rfl,(enters_of Tryz.func232 (by kernel_rfl) rfl),fun w2 k L A c x b2 ok hv hx => fetches1 w1 _ g cs o C eg (fun w3 A P n c K d m a b3 => hc w3 A P n c K d m a (kp_after kb b3)) w2 k L A c x b2 ((b2.cell hl).trans c0) (Nat.lt_of_lt_of_le hl b2.size) ok hv hx⟩;have B1:=zqh kb;clear c0 kb hw1;refine (taking_is 1 _ (by decide) (fun _ _ _ => ho _ _) w1 _ HA).mono ?_;rintro e w2 ⟨d,rfl,hd,bb⟩;have B2:=zqh (below_then B1.out bb);clear B1 bb HA hl;(go_wp2_with fail);go_ret;exact ⟨d,rfl,hd,B2.out⟩
theorem tells_is (o : VmK → VmL → Int) (w : World) (v : Value) (h0 : IsTell w v o) : Calls Tryz.prog 161 #[v] w (Makes (deedE 0 (teF o)) w):=by
  obtain ⟨g,cs,rfl,eg,hc⟩:=h0;have hmf : ∀ (fn : Fn) (first cap : Array Value) (w : World),(Instr.makeFunc fn first cap).run Tryz.prog w = .ok (.func fn first cap) w:=fun _ _ _ _ => rfl
  go_enter Tryz.func161,Tryz.ntmps161;(go_wp2_with fail);generalize hw1 : World.alloc _ _ = w1;have kb : Below w.heap.size w w1:=by rw [← hw1]; exact al_one _ _
  have c0 : w1.cell? ⟨w.heap.size,0,none⟩ = some (.func (.func g) #[] cs):=by rw [← hw1]; simp
  have hl : w.heap.size < w1.heap.size:=by rw [← hw1]; simp
  have HA : IsAct w1 (.func (.func 234) #[] #[.pointer (some ⟨w.heap.size,0,none⟩)]) 0 (teF o):=⟨_,_,rfl,(enters_of Tryz.func234 (by kernel_rfl) rfl),fun w2 k L A c x b2 ok hv hx => tells1 w1 _ g cs o eg (fun w3 k L b3 => hc w3 k L (kp_after kb b3)) w2 k L A c x b2 ((b2.cell hl).trans c0) (Nat.lt_of_lt_of_le hl b2.size) ok hv hx⟩;have B1:=zqh kb;clear c0 kb hw1;refine (taking_is 0 _ (by decide) (fun _ _ _ => by show 1 ≤ 4; decide) w1 _ HA).mono ?_;rintro e w2 ⟨d,rfl,hd,bb⟩;have B2:=zqh (below_then B1.out bb);clear B1 bb HA hl;(go_wp2_with fail);go_ret;exact ⟨d,rfl,hd,B2.out⟩
theorem stores_is (t : Nat) (f : PM → List Int → PM) (C : PM → List Int → Int) (ht : t ≤ 4) (w : World) (v : Value) (h0 : IsStore w v t f C) : Calls Tryz.prog 144 #[.int .i64 (t : Int),v] w (Makes (deedE t (tnF (stF f C))) w):=by
  obtain ⟨g,cs,rfl,eg,hc⟩:=h0;have hmf : ∀ (fn : Fn) (first cap : Array Value) (w : World),(Instr.makeFunc fn first cap).run Tryz.prog w = .ok (.func fn first cap) w:=fun _ _ _ _ => rfl
  go_enter Tryz.func144,Tryz.ntmps144;(go_wp2_with fail);generalize hw1 : World.alloc _ _ = w1;have kb : Below w.heap.size w w1:=by rw [← hw1]; exact al_one _ _
  have c0 : w1.cell? ⟨w.heap.size,0,none⟩ = some (.func (.func g) #[] cs):=by rw [← hw1]; simp
  have hl : w.heap.size < w1.heap.size:=by rw [← hw1]; simp
  have HA : IsTurn w1 (.func (.func 229) #[] #[.pointer (some ⟨w.heap.size,0,none⟩)]) t (stF f C):=⟨_,_,rfl,(enters_of Tryz.func229 (by kernel_rfl) rfl),fun w2 k L A c x b2 ok hv hx => stores1 w1 _ g cs t f C eg (fun w3 A P n c K d m B c2 x b3 => hc w3 A P n c K d m B c2 x (kp_after kb b3)) w2 k L A c x b2 ((b2.cell hl).trans c0) (Nat.lt_of_lt_of_le hl b2.size) ok hv hx⟩;have B1:=zqh kb;clear c0 kb hw1;refine (turns_is t _ ht w1 _ HA).mono ?_;rintro e w2 ⟨d,rfl,hd,bb⟩;have B2:=zqh (below_then B1.out bb);clear B1 bb HA hl;(go_wp2_with fail);go_ret;exact ⟨d,rfl,hd,B2.out⟩
theorem lays_is (t : Nat) (f : PM → Int → List Int → PM) (p C : PM → Int → List Int → Int) (ht : t ≤ 4) (w : World) (v : Value) (h0 : IsLay w v t f p C) : Calls Tryz.prog 163 #[.int .i64 (t : Int),v] w (Makes (deedE t (tnF (laF f p C))) w):=by
  obtain ⟨g,cs,rfl,eg,hc⟩:=h0;have hmf : ∀ (fn : Fn) (first cap : Array Value) (w : World),(Instr.makeFunc fn first cap).run Tryz.prog w = .ok (.func fn first cap) w:=fun _ _ _ _ => rfl
  go_enter Tryz.func163,Tryz.ntmps163;(go_wp2_with fail);generalize hw1 : World.alloc _ _ = w1;have kb : Below w.heap.size w w1:=by rw [← hw1]; exact al_one _ _
  have c0 : w1.cell? ⟨w.heap.size,0,none⟩ = some (.func (.func g) #[] cs):=by rw [← hw1]; simp
  have hl : w.heap.size < w1.heap.size:=by rw [← hw1]; simp
  have HA : IsTurn w1 (.func (.func 235) #[] #[.pointer (some ⟨w.heap.size,0,none⟩)]) t (laF f p C):=⟨_,_,rfl,(enters_of Tryz.func235 (by kernel_rfl) rfl),fun w2 k L A c x b2 ok hv hx => lays1 w1 _ g cs t f p C eg (fun w3 A P n c K d m h B c2 x b3 => hc w3 A P n c K d m h B c2 x (kp_after kb b3)) w2 k L A c x b2 ((b2.cell hl).trans c0) (Nat.lt_of_lt_of_le hl b2.size) ok hv hx⟩;have B1:=zqh kb;clear c0 kb hw1;refine (turns_is t _ ht w1 _ HA).mono ?_;rintro e w2 ⟨d,rfl,hd,bb⟩;have B2:=zqh (below_then B1.out bb);clear B1 bb HA hl;(go_wp2_with fail);go_ret;exact ⟨d,rfl,hd,B2.out⟩
theorem fetchesOne_is (o C : PM → Int → Int) (w : World) (v : Value) (h0 : IsOne w v o C) : Calls Tryz.prog 143 #[v] w (Makes (deedE 1 (feF (fun m a => [o m a]) C)) w):=by
  obtain ⟨g,cs,rfl,eg,hc⟩:=h0;have hmf : ∀ (fn : Fn) (first cap : Array Value) (w : World),(Instr.makeFunc fn first cap).run Tryz.prog w = .ok (.func fn first cap) w:=fun _ _ _ _ => rfl
  go_enter Tryz.func143,Tryz.ntmps143;(go_wp2_with fail);generalize hw1 : World.alloc _ _ = w1;have kb : Below w.heap.size w w1:=by rw [← hw1]; exact al_one _ _
  have c0 : w1.cell? ⟨w.heap.size,0,none⟩ = some (.func (.func g) #[] cs):=by rw [← hw1]; simp
  have hl : w.heap.size < w1.heap.size:=by rw [← hw1]; simp
  have HA : IsFetch w1 (.func (.func 228) #[] #[.pointer (some ⟨w.heap.size,0,none⟩)]) (fun m a => [o m a]) C:=⟨_,_,rfl,(enters_of Tryz.func228 (by kernel_rfl) rfl),fun w2 A P n c K d m a b2 hm ha => fetchesOne1 w1 _ g cs o C eg (fun w3 A P n c K d m a b3 => hc w3 A P n c K d m a (kp_after kb b3)) c0 hl w2 A P n c K d m a b2 hm ha⟩;have B1:=zqh kb;clear c0 kb hw1;refine (fetches_is _ _ (fun _ _ => by show 1 ≤ 4; decide) w1 _ HA).mono ?_;rintro e w2 ⟨d,rfl,hd,bb⟩;have B2:=zqh (below_then B1.out bb);clear B1 bb HA hl;(go_wp2_with fail);go_ret;exact ⟨d,rfl,hd,B2.out⟩
end Go.Proofs.YtcmldhjicjmmgaaGreatDoor
