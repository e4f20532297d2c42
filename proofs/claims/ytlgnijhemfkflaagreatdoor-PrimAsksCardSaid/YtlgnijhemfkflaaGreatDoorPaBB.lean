/- Part 28. -/
import Derived.Test.YtlgnijhemfkflaaGreatDoorPaBA
import Derived.StillTailTactics
set_option linter.unusedVariables false
set_option linter.unusedSimpArgs false
set_option maxRecDepth 100000
set_option maxHeartbeats 4000000

namespace Go.Proofs.YtlgnijhemfkflaaGreatDoor
open Go.RowKit


theorem fetches1 (W : World) (p : Addr) (g : FuncId) (cs : Array Value) (o : PM → Int → List Int) (C : PM → Int → Int) (eg : Ent g)
    (hc : ∀ w A P n c K d m a,Kp W w → MemIn w A P n c K d m → cellR a → Calls Tryz.prog g (#[.agg #[.slice A n c,.slice P K d],.int .i64 a] ++ cs) w (CellOut (o m a) (C m a) w)) (w : World) (k : VmK) (L : VmL) (A : Option Addr) (c : Nat) (x : List Int)
    (b0 : Kp W w) (hp : w.cell? p = some (.func (.func g) #[] cs)) (hpl : p.block < w.heap.size) (ok : Ok k L) (h : IsVm w k L) (hx : Takes w 1 A c x) :
    Calls Tryz.prog 222 #[vmV k,.slice A 1 c,.pointer (some p)] w (ActOut ⟨C L.m (x.getD 0 0),o L.m (x.getD 0 0),k,L⟩ k w):=by
  obtain ⟨a,g9,o9,rfl,rfl,hg,c0,ha⟩:=hx.one;show Calls _ _ _ _ (ActOut ⟨C L.m a,o L.m a,k,L⟩ k w);go_enter Tryz.func222,Tryz.ntmps222;go_upto_region 1 with fail
  generalize hw1 : World.alloc (World.alloc _ _) _ = w1;have kb : Below w.heap.size w w1:=by rw [← hw1]; exact al_two _ _ _
  have kx : VBox w1 w.heap.size k:=by rw [← hw1]; exact (in_two w k _).2
  have kz : VBox w1 (w.heap.size + 1) vm0:=by rw [← hw1]; exact in_two0 w _
  have KS : Hid (w1.heap.size = w.heap.size + 1 + 1):=by show _ = _; rw [← hw1]; exact in_twos w _ _
  clear hw1;have HP : Hid (w1.cell? p = some (.func (.func g) #[] cs)):=(kb.cell (p:=p) hpl).trans hp;have hp1l : p.block < w1.heap.size:=by have:=KS.out; omega
  have hg1 : g9 < w1.heap.size:=by have:=KS.out; omega
  have C0:=zqh ((kb.cell (p:=⟨g9,o9,none⟩) hg).trans c0);have HC:=zqh fun w b0 hm => hc w k.mA k.pA k.mn k.mc k.pn k.pc L.m a b0 hm ha
  have HM:=zqh (MemIn.keep (ok.mem h) kb);have X1:=zqh kx;have Z1:=zqh kz;have B1:=zqh (kp_then b0 kb);have B1w:=zqh kb;have V0:=zqh h;clear hc b0 kb kx kz h hx hp c0 ok;go_upto_region 1 with fail
  refine wp_region_noPanic ?_;refine wp_region_held_drew (S:=fun a => Below w1.heap.size w1 a) (by kernel_rfl) ?_ (fun hHeld => ?_)
  · exact (Below.refl _ _).drew
  refine zqt (i:=0) (v:=?v0a10) ?y0a10 ?r0a10
  case y0a10 =>
    intro u hSu;(try dsimp only at hSu);have qp:=(hSu.cell (p:=p) hp1l).trans HP.out;go_simp;(try with_reducible rfl)
  (try simp only [zq,Act.put]);refine zqt (i:=1) (v:=?v1a10) ?y1a10 ?r1a10
  case y1a10 =>
    intro u hSu;go_simp;(try with_reducible rfl)
  (try simp only [zq,Act.put]);refine zqt (i:=2) (v:=?v2a10) ?y2a10 ?r2a10
  case y2a10 =>
    intro u hSu;(try dsimp only at hSu);have hx1:=X1.out.keep hSu;obtain ⟨p0,p1,p2,p3,p4,p5,p6,p7,p8,p9,p10,p11,p12,p13,p14,p15,p16,p17,p18,p19,p20,p21,p22⟩:=hx1.use;clear p0 p1 p2 p3 p4 p7 p8 p9 p10 p11 p12 p13 p14 p15 p16 p17 p18 p19 p20 p21 p22;go_simp;(try with_reducible rfl)
  (try simp only [zq,Act.put]);refine zqt (i:=3) (v:=?v3a10) ?y3a10 ?r3a10
  case y3a10 =>
    intro u hSu;go_simp;(try with_reducible rfl)
  (try simp only [zq,Act.put]);refine zqt (i:=4) (v:=?v4a10) ?y4a10 ?r4a10
  case y4a10 =>
    intro u hSu;go_simp;(try with_reducible rfl)
  (try simp only [zq,Act.put]);refine zqt (i:=5) (v:=?v5a10) ?y5a10 ?r5a10
  case y5a10 =>
    intro u hSu;(try dsimp only at hSu);have q0:=(hSu.cell (p:=⟨g9,o9,none⟩) hg1).trans C0.out;go_simp;(try with_reducible rfl)
  (try simp only [zq,Act.put]);refine zqr 6 fun K hK => ?_
  go_simp;refine (HC.out _ (kp_then B1.out hHeld) (HM.out.keep hHeld)).mono ?_;rintro e u1 ⟨B,m,d,rfl,hr,bb⟩;have hN:=below_then hHeld bb;have HR:=zqh hr;have HB:=zqh hN;have HS:=zqh hHeld.size;(go_wp2_with fail);clear bb hr;clear hHeld;refine hK.out _ _ hN (fun hHeld => ?_);clear hK K hN;(try simp only [zq,Act.put]);refine zqt (i:=7) (v:=?v7a10) ?y7a10 ?r7a10
  case y7a10 =>
    intro u hSu;go_simp;(try with_reducible rfl)
  (try simp only [zq,Act.put]);refine zqt (i:=8) (v:=?v8a10) ?y8a10 ?r8a10
  case y8a10 =>
    intro u hSu;go_simp;(try with_reducible rfl)
  (try simp only [zq,Act.put]);refine zqt (i:=9) (v:=?v9a10) ?y9a10 ?r9a10
  case y9a10 =>
    intro u hSu;go_simp;(try with_reducible rfl)
  (try simp only [zq,Act.put]);refine zqt (i:=10) (v:=?v10a10) ?y10a10 ?r10a10
  case y10a10 =>
    intro u hSu;go_simp;(try with_reducible rfl)
  (try simp only [zq,Act.put]);refine zqt (i:=11) (v:=?v11a10) ?y11a10 ?r11a10
  case y11a10 =>
    intro u hSu;go_simp;(try with_reducible rfl)
  (try simp only [zq,Act.put]);refine wpAnyH_done (by kernel_rfl) ?_ _;refine NoPanic.normal ?_;have X2:=zqh (X1.out.keep HB.out);have Z2:=zqh (Z1.out.keep HB.out);have B2:=zqh (below_then B1w.out HB.out);have S2:=zqh HB.out.size;(go_wp2_with (first | (refine wpList_vload (by rfl) _ rfl w.heap.size k rfl X2.out ?_) | (refine wpList_vstore (by rfl) _ _ rfl _ vm0 k rfl rfl Z2.out ?_)));have kb2:=below_setRow B2.out (show w.heap.size ≤ w.heap.size + 1 by omega) (vmC k);refine bodyPost_ret (res_ctt rfl _ _ _ _ rfl (vrow Z2.out k)) rfl ⟨k,B,m,d,rfl,fun hz => ⟨V0.out.keep kb2,Sc.refl _,MLoc.refl _ _,?_⟩,kb2⟩;exact (((HR.out hz).le HS.out).row_set (by have:=KS.out; omega) _).le (by have:=KS.out; omega)
end Go.Proofs.YtlgnijhemfkflaaGreatDoor

namespace Go.Proofs.YtlgnijhemfkflaaGreatDoor
open Go.RowKit


theorem fetchesOne1 (W : World) (p : Addr) (g : FuncId) (cs : Array Value) (o C : PM → Int → Int) (eg : Ent g)
    (hc : ∀ w A P n c K d m a,Kp W w → MemIn w A P n c K d m → cellR a → Calls Tryz.prog g (#[.agg #[.slice A n c,.slice P K d],.int .i64 a] ++ cs) w fun e w' => e = .returned (.tuple #[.int .i64 (o m a),.int .i64 (C m a)]) ∧ Below w.heap.size w w')
    (hp : W.cell? p = some (.func (.func g) #[] cs)) (hpl : p.block < W.heap.size) (w : World) (A P : Option Addr) (n c K d : Nat) (m : PM) (a : Int) (b0 : Kp W w) (hm : MemIn w A P n c K d m) (ha : cellR a) :
    Calls Tryz.prog 215 #[.agg #[.slice A n c,.slice P K d],.int .i64 a,.pointer (some p)] w (CellOut [o m a] (C m a) w):=by
  go_enter Tryz.func215,Tryz.ntmps215;go_upto_region 1 with fail
  generalize hw1 : World.alloc _ _ = w1;have kb : Below w.heap.size w w1:=by rw [← hw1]; exact al_one _ _
  have c0 : w1.cell? ⟨w.heap.size,0,none⟩ = some (.slice A n c):=by rw [← hw1]; simp
  have c1 : w1.cell? ⟨w.heap.size,1,none⟩ = some (.slice P K d):=by rw [← hw1]; simp
  have hp1:=((kp_then b0 kb).cell (p:=p) hpl).trans hp;have HC:=zqh (hc w1 A P n c K d m a (kp_then b0 kb) (hm.keep kb) ha);have B1:=zqh kb;clear hc b0 kb hm hp hw1;(go_wp2_with fail);refine HC.out.mono ?_;rintro e w2 ⟨rfl,bb⟩;have B2:=zqh (below_then B1.out bb);clear HC bb;(go_wp2_with fail);go_ret2;exact ⟨_,_,_,rfl,fun hz => (rowN_one _ _).le B2.out.size,below_then B2.out (al_one _ _)⟩
theorem tells1 (W : World) (p : Addr) (g : FuncId) (cs : Array Value) (o : VmK → VmL → Int) (eg : Ent g)
    (hc : ∀ w k L,Kp W w → Ok k L → IsVm w k L → Calls Tryz.prog g (#[vmV k] ++ cs) w fun e w' => e = .returned (.int .i64 (o k L)) ∧ Below w.heap.size w w') (w : World) (k : VmK) (L : VmL) (A : Option Addr) (c : Nat) (x : List Int)
    (b0 : Kp W w) (hp : w.cell? p = some (.func (.func g) #[] cs)) (hpl : p.block < w.heap.size) (ok : Ok k L) (h : IsVm w k L) (hx : Takes w 0 A c x) :
    Calls Tryz.prog 225 #[vmV k,.slice A 0 c,.pointer (some p)] w (ActOut ⟨0,[o k L],k,L⟩ k w):=by
  go_enter Tryz.func225,Tryz.ntmps225;go_upto_region 1 with fail
  generalize hw1 : World.alloc (World.alloc _ _) _ = w1;have kb : Below w.heap.size w w1:=by rw [← hw1]; exact al_two _ _ _
  have kx : VBox w1 w.heap.size k:=by rw [← hw1]; exact (in_two w k _).2
  have kz : VBox w1 (w.heap.size + 1) vm0:=by rw [← hw1]; exact in_two0 w _
  have KS : Hid (w1.heap.size = w.heap.size + 1 + 1):=by show _ = _; rw [← hw1]; exact in_twos w _ _
  clear hw1;have HP:=zqh hp;have HC:=zqh fun w b0 hm => hc w k L b0 ok hm
  have X1:=zqh kx;have Z1:=zqh kz;have B1:=zqh kb;have V0:=zqh h;clear hc kb kx kz h hx hp ok;go_upto_region 1 with fail
  refine wp_region_noPanic ?_;refine wp_region_held_drew (S:=fun a => Below w.heap.size w a ∧ VBox a w.heap.size k ∧ ∃ j0,VBox a (w.heap.size + 1) j0) (by kernel_rfl) ?_ (fun hHeld => ?_)
  · exact ⟨B1.out.drew,X1.out,_,Z1.out⟩
  refine zqt (i:=0) (v:=vmV k) (fun u hSu => exec_vl _ rfl w.heap.size k rfl hSu.2.1) ?_;(try simp only [zq,Act.put]);refine zqt (i:=1) (v:=?v1a11) ?y1a11 ?r1a11
  case y1a11 =>
    intro u hSu;(try dsimp only at hSu);have qp:=(hSu.1.cell (p:=p) hpl).trans HP.out;go_simp;(try with_reducible rfl)
  (try simp only [zq,Act.put]);refine zqt (i:=2) (v:=vmV k) (fun u hSu => exec_vl _ rfl w.heap.size k rfl hSu.2.1) ?_;(try simp only [zq,Act.put]);refine zqr 3 fun K hK => ?_
  go_simp;refine (HC.out _ (kp_then b0 hHeld.1) (V0.out.keep hHeld.1)).mono ?_;rintro e u1 ⟨rfl,bb⟩;obtain ⟨j0,hz⟩:=hHeld.2.2;have HS1 : Hid (w.heap.size + 1 < u1.heap.size):=(hz.keep bb).lt;have hN : Below w.heap.size w u1 ∧ VBox u1 w.heap.size k ∧ ∃ j0,VBox u1 (w.heap.size + 1) j0:=⟨below_then hHeld.1 bb,hHeld.2.1.keep bb,j0,hz.keep bb⟩;(go_wp2_with fail);clear bb hz;clear hHeld;refine hK.out _ _ hN (fun hHeld => ?_);clear hK K hN;(try simp only [zq,Act.put]);obtain ⟨j0,hz⟩:=hHeld.2.2;refine wpAnyH_ready (rs:=[4,5]) (by kernel_rfl) (by simp) ?_;refine AllReadyH.cons (o:=_) rfl (fun K hK => ?_) (AllReadyH.cons (o:=_) rfl (fun K hK => ?_) AllReadyH.nil)
  case refine_1 =>
    go_simp;(go_wp2_with fail);have h1:=below_then hHeld.1 (al_one u1 (.cells #[.int .i64 (o k L)] 3));have h2:=hHeld.2.1.keep (al_one u1 (.cells #[.int .i64 (o k L)] 3));have h3:=hz.keep (al_one u1 (.cells #[.int .i64 (o k L)] 3));refine hK.out _ _ ⟨h1,h2,_,h3⟩ (fun hHeld2 => ?_);clear hK K;(try simp only [zq,Act.put]);refine zqr 5 fun K hK => ?_
    refine step_vst rfl _ _ rfl (w.heap.size + 1) j0 k rfl rfl h3 ?_;have kb2:=below_setRow h1 (show w.heap.size ≤ w.heap.size + 1 by omega) (vmC k);refine hK.out _ _ ⟨kb2,vrow_fr h2 (by omega) _,k,vrow h3 k⟩ (fun hHeld3 => ?_);clear hK K;(try simp only [zq,Act.put]);refine zqt (i:=6) (v:=?v6A) ?y6A ?r6A
    case y6A =>
      intro u hSu;go_simp;(try with_reducible rfl)
    (try simp only [zq,Act.put]);refine zqt (i:=7) (v:=?v7A) ?y7A ?r7A
    case y7A =>
      intro u hSu;go_simp;(try with_reducible rfl)
    (try simp only [zq,Act.put]);refine wpAnyH_done (by kernel_rfl) ?_ _;refine NoPanic.normal ?_;(go_wp2_with fail);refine bodyPost_ret (res_ctt rfl _ _ _ _ rfl (vrow h3 k)) rfl ⟨k,_,_,_,rfl,fun hz => ⟨V0.out.keep kb2,Sc.refl _,MLoc.refl _ _,?_⟩,kb2⟩;exact (((rowN_one u1 (o k L)).le (HS1.out : w.heap.size + 1 + 1 ≤ u1.heap.size)).row_set (by omega) _).le (by omega)
  case refine_2 =>
    refine step_vst rfl _ _ rfl (w.heap.size + 1) j0 k rfl rfl hz ?_;have kb1:=below_setRow hHeld.1 (show w.heap.size ≤ w.heap.size + 1 by omega) (vmC k);have h2:=vrow_fr hHeld.2.1 (by omega : w.heap.size ≠ w.heap.size + 1) (vmC k);have h3:=vrow hz k;refine hK.out _ _ ⟨kb1,h2,k,h3⟩ (fun hHeld2 => ?_);clear hK K;(try simp only [zq,Act.put]);generalize hu : World.setRow _ _ _ = u at kb1 h2 h3 hHeld2 ⊢;refine zqr 4 fun K hK => ?_
    go_simp;(go_wp2_with fail);have kb2:=below_then kb1 (al_one u (.cells #[.int .i64 (o k L)] 3));have h5:=h3.keep (al_one u (.cells #[.int .i64 (o k L)] 3));refine hK.out _ _ ⟨kb2,h2.keep (al_one _ _),k,h5⟩ (fun hHeld3 => ?_);clear hK K;(try simp only [zq,Act.put]);refine zqt (i:=6) (v:=?v6B) ?y6B ?r6B
    case y6B =>
      intro u hSu;go_simp;(try with_reducible rfl)
    (try simp only [zq,Act.put]);refine zqt (i:=7) (v:=?v7B) ?y7B ?r7B
    case y7B =>
      intro u hSu;go_simp;(try with_reducible rfl)
    (try simp only [zq,Act.put]);refine wpAnyH_done (by kernel_rfl) ?_ _;refine NoPanic.normal ?_;(go_wp2_with fail);refine bodyPost_ret (res_ctt rfl _ _ _ _ rfl h5) rfl ⟨k,_,_,_,rfl,fun hz => ⟨V0.out.keep kb2,Sc.refl _,MLoc.refl _ _,?_⟩,kb2⟩;exact (rowN_one u (o k L)).le kb1.size
end Go.Proofs.YtlgnijhemfkflaaGreatDoor

namespace Go.Proofs.YtlgnijhemfkflaaGreatDoor
open Go.RowKit


theorem stores1 (W : World) (p : Addr) (g : FuncId) (cs : Array Value) (t : Nat) (f : PM → List Int → PM) (C : PM → List Int → Int) (eg : Ent g)
    (hc : ∀ w A P n c K d m B c2 x,Kp W w → MemIn w A P n c K d m → Takes w t B c2 x → Calls Tryz.prog g (#[.agg #[.slice A n c,.slice P K d],.slice B t c2] ++ cs) w (MemOut P K (f m x) (C m x) w)) (w : World) (k : VmK) (L : VmL) (A : Option Addr) (c : Nat) (x : List Int)
    (b0 : Kp W w) (hp : w.cell? p = some (.func (.func g) #[] cs)) (hpl : p.block < w.heap.size) (ok : Ok k L) (h : IsVm w k L) (hx : Takes w t A c x) :
    Calls Tryz.prog 218 #[vmV k,.slice A t c,.pointer (some p)] w (TurnOut (memE k L (f L.m x) (C L.m x)) k w):=by
  show Calls _ _ _ _ (TurnOut ⟨C L.m x,[],k,{ L with m:=f L.m x }⟩ k w);go_enter Tryz.func218,Tryz.ntmps218;go_upto_region 1 with fail
  generalize hw1 : World.alloc (World.alloc _ _) _ = w1;have kb : Below w.heap.size w w1:=by rw [← hw1]; exact al_two _ _ _
  have kx : VBox w1 w.heap.size k:=by rw [← hw1]; exact (in_two w k _).2
  have kz : VBox w1 (w.heap.size + 1) vm0:=by rw [← hw1]; exact in_two0 w _
  have KS : Hid (w1.heap.size = w.heap.size + 1 + 1):=by show _ = _; rw [← hw1]; exact in_twos w _ _
  clear hw1;have hp1:=(kb.cell (p:=p) hpl).trans hp;have HC:=zqh (hc w1 k.mA k.pA k.mn k.mc k.pn k.pc L.m A c x (kp_then b0 kb) ((ok.mem h).keep kb) (hx.keep kb));have X1:=zqh kx;have Z1:=zqh kz;have B1:=zqh kb;have V0:=zqh h;obtain ⟨p0,p1,p2,p3,p4,p5,p6,p7,p8,p9,p10,p11,p12,p13,p14,p15,p16,p17,p18,p19,p20,p21,p22⟩:=kx.use;clear p0 p1 p2 p3 p4 p7 p8 p9 p10 p11 p12 p13 p14 p15 p16 p17 p18 p19 p20 p21 p22;clear hc b0 kb kx kz h hx hp ok;(go_wp2_with fail);refine HC.out.mono ?_;rintro e w2 ⟨A2,n2,c2,P2,K2,d2,rfl,hr,bb⟩;have X2:=zqh (X1.out.keep bb);have Z2:=zqh (Z1.out.keep bb);have B2:=zqh (below_then B1.out bb);have HR:=zqh hr;have F5:=X2.out.free.2.2.2.2.2.1;have F6:=X2.out.free.2.2.2.2.2.2.1;obtain ⟨p0,p1,p2,p3,p4,P5,P6,p7,p8,p9,p10,p11,p12,p13,p14,p15,p16,p17,p18,p19,p20,p21,p22⟩:=X2.out.use;clear p0 p1 p2 p3 p4 p7 p8 p9 p10 p11 p12 p13 p14 p15 p16 p17 p18 p19 p20 p21 p22;clear HC X1 Z1 B1 bb hr p5 p6;go_upto_region 3 with fail
  generalize hV : World.setCell _ _ _ = V;have XW : Hid (VBox V w.heap.size { k with mA:=A2,mn:=n2,mc:=c2,pA:=P2,pn:=K2,pc:=d2 }):=by show VBox _ _ _; rw [← hV]; exact (X2.out.put_m _ _ _).put_p _ _ _
  have ZW : Hid (VBox V (w.heap.size + 1) vm0):=by show VBox _ _ _; rw [← hV]; exact vset_far (vset_far Z2.out (by omega)) (by omega)
  have BW : Hid (Below w.heap.size w V):=by show Below _ _ _; rw [← hV]; exact (B2.out.setCell (Nat.le_refl _) _).setCell (Nat.le_refl _) _
  have EW : Hid (Ex (fun g => g = w.heap.size ∨ g = w.heap.size + 1) w2 V):=by show Ex _ _ _; rw [← hV]; exact ((Ex.refl _ _).cell (.inl rfl) _).cell (.inl rfl) _
  clear hV F5 F6 P5 P6;(go_wp2_with (first | (refine wpList_vload (by rfl) _ rfl _ _ rfl XW.out ?_) | (refine wpList_vstore (by rfl) _ _ rfl _ vm0 _ rfl rfl ZW.out ?_)));have kb2:=below_setRow BW.out (show w.heap.size ≤ w.heap.size + 1 by omega) (vmC { k with mA:=A2,mn:=n2,mc:=c2,pA:=P2,pn:=K2,pc:=d2 });refine bodyPost_ret (res_ct rfl _ _ _ _ rfl (vrow ZW.out _)) rfl ⟨_,rfl,fun hz => ?_,kb2⟩;have hm:=HR.out hz;have v2:=V0.out.keep B2.out;have hl : MLoc w1.heap.size { k with mA:=A2,mn:=n2,mc:=c2,pA:=P2,pn:=K2,pc:=d2 } k:=⟨hm.2 _ _ _ _ rfl,.refl _ _ _,.refl _ _ _,⟨rfl,rfl⟩,⟨rfl,rfl⟩,⟨rfl,rfl⟩,⟨rfl,rfl⟩⟩;have hj : IsVm w2 { k with mA:=A2,mn:=n2,mc:=c2,pA:=P2,pn:=K2,pc:=d2 } { L with m:=f L.m x }:=⟨hm.1,v2.d,v2.r,v2.f,v2.dict,v2.o,v2.q,v2.e,v2.h⟩;refine ⟨V0.out.ex hj hl (EW.out.row (.inr rfl) _) ?_,⟨rfl,rfl,rfl,rfl,rfl,rfl,rfl,rfl,rfl,rfl,rfl,rfl,rfl⟩,hl.le (by have:=KS.out; omega)⟩;intro g hg h;have:=KS.out
  rcases h with rfl | rfl
  · exact ⟨by omega,by omega,vbox_nou8 X2.out⟩
  · exact ⟨by omega,by omega,vbox_nou8 Z2.out⟩
end Go.Proofs.YtlgnijhemfkflaaGreatDoor

namespace Go.Proofs.YtlgnijhemfkflaaGreatDoor
open Go.RowKit


theorem lays1 (W : World) (p : Addr) (g : FuncId) (cs : Array Value) (t : Nat) (f : PM → Int → List Int → PM) (p9 C : PM → Int → List Int → Int) (eg : Ent g)
    (hc : ∀ w A P n c K d m h B c2 x,Kp W w → MemIn w A P n c K d m → 1368 ≤ h → h ≤ (n : Int) → Takes w t B c2 x → Calls Tryz.prog g (#[.agg #[.slice A n c,.slice P K d],.int .i64 h,.slice B t c2] ++ cs) w (LayOut P K (f m h x) (p9 m h x) (C m h x) w)) (w : World) (k : VmK) (L : VmL) (A : Option Addr) (c : Nat) (x : List Int)
    (b0 : Kp W w) (hp : w.cell? p = some (.func (.func g) #[] cs)) (hpl : p.block < w.heap.size) (ok : Ok k L) (h : IsVm w k L) (hx : Takes w t A c x) :
    Calls Tryz.prog 226 #[vmV k,.slice A t c,.pointer (some p)] w (TurnOut (hereE k L (f L.m k.here x) (p9 L.m k.here x) (C L.m k.here x)) k w):=by
  show Calls _ _ _ _ (TurnOut ⟨C L.m k.here x,[],{ k with here:=p9 L.m k.here x },{ L with m:=f L.m k.here x }⟩ k w);have HC0:=fun w b1 hm h1 h2 hx => hc w k.mA k.pA k.mn k.mc k.pn k.pc L.m k.here A c x b1 hm h1 h2 hx
  generalize p9 L.m k.here x = pp at HC0 ⊢;generalize f L.m k.here x = mm at HC0 ⊢;generalize C L.m k.here x = cc at HC0 ⊢;go_enter Tryz.func226,Tryz.ntmps226;go_upto_region 1 with fail
  generalize hw1 : World.alloc (World.alloc _ _) _ = w1;have kb : Below w.heap.size w w1:=by rw [← hw1]; exact al_two _ _ _
  have kx : VBox w1 w.heap.size k:=by rw [← hw1]; exact (in_two w k _).2
  have kz : VBox w1 (w.heap.size + 1) vm0:=by rw [← hw1]; exact in_two0 w _
  have KS : Hid (w1.heap.size = w.heap.size + 1 + 1):=by show _ = _; rw [← hw1]; exact in_twos w _ _
  clear hw1;have hp1:=(kb.cell (p:=p) hpl).trans hp;have HC:=zqh (HC0 w1 (kp_then b0 kb) ((ok.mem h).keep kb) ok.hr0 (by have:=ok.hr1; rw [h.m.len1] at this; exact this) (hx.keep kb));clear HC0;have X1:=zqh kx;have Z1:=zqh kz;have B1:=zqh kb;have V0:=zqh h;obtain ⟨p0,p1,p2,p3,p4,p5,p6,p7,p8,p9,p10,p11,p12,p13,p14,p15,p16,p17,p18,p19,p20,p21,p22⟩:=kx.use;clear p0 p1 p2 p3 p4 p8 p9 p10 p11 p12 p13 p14 p15 p16 p17 p18 p19 p20 p21 p22;clear hc b0 kb kx kz h hx hp ok;(go_wp2_with fail);refine HC.out.mono ?_;rintro e w2 ⟨A2,n2,c2,P2,K2,d2,rfl,hr,bb⟩;have X2:=zqh (X1.out.keep bb);have Z2:=zqh (Z1.out.keep bb);have B2:=zqh (below_then B1.out bb);have HR:=zqh hr;have F5:=X2.out.free.2.2.2.2.2.1;have F6:=X2.out.free.2.2.2.2.2.2.1;have F7:=X2.out.free.2.2.2.2.2.2.2.1;obtain ⟨p0,p1,p2,p3,p4,P5,P6,P7,p8,p9,p10,p11,p12,p13,p14,p15,p16,p17,p18,p19,p20,p21,p22⟩:=X2.out.use;clear p0 p1 p2 p3 p4 p8 p9 p10 p11 p12 p13 p14 p15 p16 p17 p18 p19 p20 p21 p22;clear HC X1 Z1 B1 bb hr p5 p6 p7;go_upto_region 3 with fail
  generalize hV : World.setCell _ _ _ = V;have XW : Hid (VBox V w.heap.size { k with mA:=A2,mn:=n2,mc:=c2,pA:=P2,pn:=K2,pc:=d2,here:=pp }):=by show VBox _ _ _; rw [← hV]; exact ((X2.out.put_m _ _ _).put_p _ _ _).set_here _
  have ZW : Hid (VBox V (w.heap.size + 1) vm0):=by show VBox _ _ _; rw [← hV]; exact vset_far (vset_far (vset_far Z2.out (by omega)) (by omega)) (by omega)
  have BW : Hid (Below w.heap.size w V):=by show Below _ _ _; rw [← hV]; exact ((B2.out.setCell (Nat.le_refl _) _).setCell (Nat.le_refl _) _).setCell (Nat.le_refl _) _
  have EW : Hid (Ex (fun g => g = w.heap.size ∨ g = w.heap.size + 1) w2 V):=by show Ex _ _ _; rw [← hV]; exact (((Ex.refl _ _).cell (.inl rfl) _).cell (.inl rfl) _).cell (.inl rfl) _
  clear hV F5 F6 F7 P5 P6 P7;(go_wp2_with (first | (refine wpList_vload (by rfl) _ rfl _ _ rfl XW.out ?_) | (refine wpList_vstore (by rfl) _ _ rfl _ vm0 _ rfl rfl ZW.out ?_)));have kb2:=below_setRow BW.out (show w.heap.size ≤ w.heap.size + 1 by omega) (vmC { k with mA:=A2,mn:=n2,mc:=c2,pA:=P2,pn:=K2,pc:=d2,here:=pp });refine bodyPost_ret (res_ct rfl _ _ _ _ rfl (vrow ZW.out _)) rfl ⟨_,rfl,fun hz => ?_,kb2⟩;have hm:=HR.out hz;have v2:=V0.out.keep B2.out;have hl : MLoc w1.heap.size { k with mA:=A2,mn:=n2,mc:=c2,pA:=P2,pn:=K2,pc:=d2,here:=pp } k:=⟨hm.2 _ _ _ _ rfl,.refl _ _ _,.refl _ _ _,⟨rfl,rfl⟩,⟨rfl,rfl⟩,⟨rfl,rfl⟩,⟨rfl,rfl⟩⟩;have hj : IsVm w2 { k with mA:=A2,mn:=n2,mc:=c2,pA:=P2,pn:=K2,pc:=d2,here:=pp } { L with m:=mm }:=⟨hm.1,v2.d,v2.r,v2.f,v2.dict,v2.o,v2.q,v2.e,v2.h⟩;refine ⟨V0.out.ex hj hl (EW.out.row (.inr rfl) _) ?_,⟨rfl,rfl,rfl,rfl,rfl,rfl,rfl,rfl,rfl,rfl,rfl,rfl,rfl⟩,hl.le (by have:=KS.out; omega)⟩;intro g hg h;have:=KS.out
  rcases h with rfl | rfl
  · exact ⟨by omega,by omega,vbox_nou8 X2.out⟩
  · exact ⟨by omega,by omega,vbox_nou8 Z2.out⟩
end Go.Proofs.YtlgnijhemfkflaaGreatDoor

namespace Go.Proofs.YtlgnijhemfkflaaGreatDoor
open Go.RowKit


theorem prints1 (W : World) (p : Addr) (g : FuncId) (cs : Array Value) (t : Nat) (s : VmK → VmL → List Int → List UInt8) (C : VmK → VmL → List Int → Int) (eg : Ent g)
    (hc : ∀ w k L A c x,Kp W w → Ok k L → IsVm w k L → Takes w t A c x → Calls Tryz.prog g (#[vmV k,.slice A t c] ++ cs) w fun e w' => e = .returned (.tuple #[.string (strB (s k L x)),.int .i64 (C k L x)]) ∧ (C k L x = 0 → (s k L x).length ≤ 100000) ∧ Below w.heap.size w w') (w : World) (k : VmK) (L : VmL) (A : Option Addr) (c : Nat) (x : List Int)
    (b0 : Kp W w) (hp : w.cell? p = some (.func (.func g) #[] cs)) (hpl : p.block < w.heap.size) (ok : Ok k L) (h : IsVm w k L) (hx : Takes w t A c x) :
    Calls Tryz.prog 231 #[vmV k,.slice A t c,.pointer (some p)] w (TurnOut (printE k L (s k L x) (C k L x)) k w):=by
  have HC0:=fun w b1 ho hv hx => hc w k L A c x b1 ho hv hx
  generalize s k L x = S at HC0 ⊢;generalize C k L x = cc at HC0 ⊢;obtain ⟨D,hD⟩ : ∃ D,printE k L S cc = D:=⟨_,rfl⟩;rw [hD];go_enter Tryz.func231,Tryz.ntmps231;go_upto_region 1 with fail
  generalize hw1 : World.alloc (World.alloc _ _) _ = w1;have kb : Below w.heap.size w w1:=by rw [← hw1]; exact al_two _ _ _
  have kx : VBox w1 w.heap.size k:=by rw [← hw1]; exact (in_two w k _).2
  have kz : VBox w1 (w.heap.size + 1) vm0:=by rw [← hw1]; exact in_two0 w _
  have KS : Hid (w1.heap.size = w.heap.size + 1 + 1):=by show _ = _; rw [← hw1]; exact in_twos w _ _
  clear hw1;have hp1:=(kb.cell (p:=p) hpl).trans hp;have HC:=zqh (HC0 w1 (kp_then b0 kb) ok (h.keep kb) (hx.keep kb));clear HC0;have X1:=zqh kx;have Z1:=zqh kz;have B1:=zqh kb;have V0:=zqh h;have OK:=zqh ok;have hon : k.on ≤ 65536:=by have:=ok.o1; rw [h.o.len] at this; omega
  clear hc b0 kb kx kz h hx hp ok;(go_wp2_with (refine wpList_vload (by rfl) _ rfl w.heap.size k rfl X1.out ?_));refine HC.out.mono ?_;rintro e w2 ⟨rfl,hs9,bb⟩;have X2:=zqh (X1.out.keep bb);have Z2:=zqh (Z1.out.keep bb);have B2:=zqh (below_then B1.out bb);have S2:=zqh bb.size;clear HC X1 Z1 B1 bb
  by_cases hC : cc = 0
  · subst hC
    obtain rfl : D = ⟨printC L.o S k.co,[],k,printV k L S⟩:=by rw [← hD]; unfold printE; rw [if_pos rfl]
    have HSL:=zqh (hs9 rfl);clear hD hs9;have HP:=zqh fun w h => vprint_any k L.o S w hon OK.out.co0 OK.out.co1 HSL.out (zqh h)
    (go_wp2_with (refine wpList_vload (by rfl) _ rfl w.heap.size k rfl X2.out ?_));refine (HP.out _ (V0.out.keep B2.out).o).mono ?_;rintro e w3 ⟨B,m,d,rfl,hr,bb⟩;have Z3:=zqh (Z2.out.keep bb);have X3:=zqh (X2.out.keep bb);have B3:=zqh (below_then B2.out bb);have HR:=zqh hr;have S3:=zqh bb.size;clear HP bb hr;(go_wp2_with (refine wpList_vstore (by rfl) _ _ rfl (w.heap.size + 1) vm0 { k with oA:=B,on:=m,oc:=d } rfl rfl Z3.out ?_));have kb2:=below_setRow B3.out (show w.heap.size ≤ w.heap.size + 1 by omega) (vmC { k with oA:=B,on:=m,oc:=d });refine bodyPost_ret (res_ct rfl _ _ _ _ rfl (vrow Z3.out _)) rfl ⟨_,rfl,fun hz => ?_,kb2⟩;have v2:=V0.out.keep B3.out;have hl : MLoc w1.heap.size { k with oA:=B,on:=m,oc:=d } k:=⟨.refl _ _ _,.refl _ _ _,.refl _ _ _,⟨rfl,rfl⟩,⟨rfl,rfl⟩,⟨rfl,rfl⟩,⟨rfl,rfl⟩⟩;have hj : IsVm w3 { k with oA:=B,on:=m,oc:=d } (printV k L S):=⟨v2.m,v2.d,v2.r,v2.f,v2.dict,HR.out,v2.q,v2.e,v2.h⟩;refine ⟨V0.out.ex hj hl ((Ex.refl (fun g => g = w.heap.size + 1) w3).row rfl _) ?_,⟨rfl,rfl,rfl,rfl,rfl,rfl,rfl,rfl,rfl,rfl,rfl,rfl,rfl⟩,hl.le (by have:=KS.out; omega)⟩;intro g hg h;subst h;have:=KS.out;exact ⟨by omega,by omega,vbox_nou8 Z3.out⟩
  · have hC2 : (cc != 0) = true:=by simpa using hC
    obtain rfl : D = ⟨cc,[],k,printV k L S⟩:=by rw [← hD]; unfold printE; rw [if_neg hC]
    clear hD hs9;(go_wp2_with (first | (refine wpList_vload (by rfl) _ rfl w.heap.size k rfl X2.out ?_) | (refine wpList_vstore (by rfl) _ _ rfl (w.heap.size + 1) vm0 k rfl rfl Z2.out ?_)));have kb2:=below_setRow B2.out (show w.heap.size ≤ w.heap.size + 1 by omega) (vmC k);exact bodyPost_ret (res_ct rfl _ _ _ _ rfl (vrow Z2.out _)) rfl ⟨k,rfl,fun hz => absurd hz hC,kb2⟩
end Go.Proofs.YtlgnijhemfkflaaGreatDoor

namespace Go.Proofs.YtlgnijhemfkflaaGreatDoor
open Go.RowKit


theorem holds1 (W : World) (p : Addr) (g : FuncId) (cs : Array Value) (f : Bool → List UInt8 → Int → List UInt8) (C : Bool → List UInt8 → Int → Int) (eg : Ent g)
    (hc : ∀ w A n c o l a,Kp W w → Byt w (.slice A n c) l → l.length ≤ 900 → cellR a → Calls Tryz.prog g (#[.agg #[.slice A n c,.bool o],.int .i64 a] ++ cs) w (PicOut o (f o l a) (C o l a) w)) (w : World) (k : VmK) (L : VmL) (A : Option Addr) (c : Nat) (x : List Int)
    (b0 : Kp W w) (hp : w.cell? p = some (.func (.func g) #[] cs)) (hpl : p.block < w.heap.size) (ok : Ok k L) (h : IsVm w k L) (hx : Takes w 1 A c x) :
    Calls Tryz.prog 245 #[vmV k,.slice A 1 c,.pointer (some p)] w (TurnOut (picE k L (f k.qo L.q (x.getD 0 0)) k.qo [] (C k.qo L.q (x.getD 0 0))) k w):=by
  obtain ⟨a,g9,o9,rfl,rfl,hg,c0,ha⟩:=hx.one;show Calls _ _ _ _ (TurnOut ⟨C k.qo L.q a,[],{ k with qo:=k.qo },{ L with q:=f k.qo L.q a }⟩ k w);have HC:=zqh (fun w b9 hq => hc w k.qA k.qn k.qc k.qo L.q a b9 hq ok.q1 ha);generalize f k.qo L.q a = mm at HC ⊢;generalize C k.qo L.q a = cc at HC ⊢;go_enter Tryz.func245,Tryz.ntmps245;go_upto_region 1 with fail
  generalize hw1 : World.alloc (World.alloc _ _) _ = w1;have kb : Below w.heap.size w w1:=by rw [← hw1]; exact al_two _ _ _
  have kx : VBox w1 w.heap.size k:=by rw [← hw1]; exact (in_two w k _).2
  have kz : VBox w1 (w.heap.size + 1) vm0:=by rw [← hw1]; exact in_two0 w _
  have KS : Hid (w1.heap.size = w.heap.size + 1 + 1):=by show _ = _; rw [← hw1]; exact in_twos w _ _
  clear hw1;have HP:=zqh hp;have C0:=zqh c0;have X1:=zqh kx;have Z1:=zqh kz;have B1:=zqh kb;have V0:=zqh h;have KZ : Hid (w1.drew.heap.size = w.heap.size + 1 + 1):=KS;clear hc kb kx kz h hx hp ok c0;go_upto_region 2 with fail
  refine wp_region_noPanic ?_;refine wp_region_held_drew (S:=fun a => Below w.heap.size w a) (by kernel_rfl) ?_ (fun hHeld => ?_)
  · exact B1.out.drew
  refine zqt (i:=0) (v:=?v0a12) ?y0a12 ?r0a12
  case y0a12 =>
    intro u hSu;(try dsimp only at hSu);have qp:=(hSu.cell (p:=p) hpl).trans HP.out;go_simp;(try with_reducible rfl)
  (try simp only [zq,Act.put]);refine zqt (i:=1) (v:=?v1a12) ?y1a12 ?r1a12
  case y1a12 =>
    intro u hSu;go_simp;(try with_reducible rfl)
  (try simp only [zq,Act.put]);refine zqt (i:=3) (v:=?v3a12) ?y3a12 ?r3a12
  case y3a12 =>
    intro u hSu;go_simp;(try with_reducible rfl)
  (try simp only [zq,Act.put]);refine zqt (i:=4) (v:=?v4a12) ?y4a12 ?r4a12
  case y4a12 =>
    intro u hSu;go_simp;(try with_reducible rfl)
  (try simp only [zq,Act.put]);refine zqt (i:=5) (v:=?v5a12) ?y5a12 ?r5a12
  case y5a12 =>
    intro u hSu;(try dsimp only at hSu);have q0:=(hSu.cell (p:=⟨g9,o9,none⟩) hg).trans C0.out;go_simp;(try with_reducible rfl)
  (try simp only [zq,Act.put]);refine zqr 2 fun K hK => ?_
  have hx9:=X1.out.keep (Below.refl _ _).drew;obtain ⟨p0,p1,p2,p3,p4,p5,p6,p7,p8,p9,p10,p11,p12,p13,p14,p15,p16,p17,p18,p19,p20,p21,p22⟩:=hx9.use;clear p0 p1 p2 p3 p4 p5 p6 p7 p8 p9 p10 p11 p12 p13 p16 p17 p18 p19 p20 p21 p22;go_simp;(go_wp2_with fail);refine hK.out _ _ hHeld (fun hHeld => ?_);clear p14 p15 hx9;clear hK K;(try simp only [zq,Act.put]);refine zqr 6 fun K hK => ?_
  go_simp;refine (HC.out _ (kp_then b0 hHeld) (V0.out.keep hHeld).q).mono ?_;rintro e w2 ⟨A2,n2,c2,rfl,hr,bb⟩;have X2:=zqh ((X1.out.keep (Below.refl _ _).drew).keep bb);have Z2:=zqh ((Z1.out.keep (Below.refl _ _).drew).keep bb);have hN:=below_then hHeld bb;have B2:=zqh hN;have HR:=zqh hr;have S2:=zqh bb.size;clear bb hr;(go_wp2_with fail);clear hHeld;refine hK.out _ _ hN (fun hHeld => ?_);clear hK K hN;(try simp only [zq,Act.put]);refine zqt (i:=7) (v:=?v7a12) ?y7a12 ?r7a12
  case y7a12 =>
    intro u hSu;go_simp;(try with_reducible rfl)
  (try simp only [zq,Act.put]);refine zqt (i:=8) (v:=?v8a12) ?y8a12 ?r8a12
  case y8a12 =>
    intro u hSu;go_simp;(try with_reducible rfl)
  (try simp only [zq,Act.put]);refine zqt (i:=9) (v:=?v9a12) ?y9a12 ?r9a12
  case y9a12 =>
    intro u hSu;go_simp;(try with_reducible rfl)
  (try simp only [zq,Act.put]);refine zqt (i:=10) (v:=?v10a12) ?y10a12 ?r10a12
  case y10a12 =>
    intro u hSu;go_simp;(try with_reducible rfl)
  (try simp only [zq,Act.put]);refine zqr 11 fun K hK => ?_
  have F14:=X2.out.free.2.2.2.2.2.2.2.2.2.2.2.2.2.2.1;have F15:=X2.out.free.2.2.2.2.2.2.2.2.2.2.2.2.2.2.2.1;obtain ⟨p0,p1,p2,p3,p4,p5,p6,p7,p8,p9,p10,p11,p12,p13,P14,P15,p16,p17,p18,p19,p20,p21,p22⟩:=X2.out.use;clear p0 p1 p2 p3 p4 p5 p6 p7 p8 p9 p10 p11 p12 p13 p16 p17 p18 p19 p20 p21 p22;go_simp;(go_wp2_with fail);refine hK.out _ _ ((B2.out.setCell (Nat.le_refl _) _).setCell (Nat.le_refl _) _) (fun hHeld => ?_);clear F14 F15 P14 P15;generalize hV : World.setCell _ _ _ = V at hHeld ⊢;have XW : Hid (VBox V w.heap.size { k with qA:=A2,qn:=n2,qc:=c2,qo:=k.qo }):=by show VBox _ _ _; rw [← hV]; exact (X2.out.put_q _ _ _).set_qo _
  have ZW : Hid (VBox V (w.heap.size + 1) vm0):=by show VBox _ _ _; rw [← hV]; exact vset_far (vset_far Z2.out (by omega)) (by omega)
  have BW : Hid (Below w.heap.size w V):=zqh hHeld;have EW : Hid (Ex (fun g => g = w.heap.size ∨ g = w.heap.size + 1) w2 V):=by show Ex _ _ _; rw [← hV]; exact ((Ex.refl _ _).cell (.inl rfl) _).cell (.inl rfl) _
  clear hV;clear hK K;(try simp only [zq,Act.put]);refine zqt (i:=12) (v:=?v12a12) ?y12a12 ?r12a12
  case y12a12 =>
    intro u hSu;go_simp;(try with_reducible rfl)
  (try simp only [zq,Act.put]);refine wpAnyH_done (by kernel_rfl) ?_ _;refine NoPanic.normal ?_;(go_wp2_with (first | (refine wpList_vload (by rfl) _ rfl _ _ rfl XW.out ?_) | (refine wpList_vstore (by rfl) _ _ rfl _ vm0 _ rfl rfl ZW.out ?_)));have kb2:=below_setRow BW.out (show w.heap.size ≤ w.heap.size + 1 by omega) (vmC { k with qA:=A2,qn:=n2,qc:=c2,qo:=k.qo });refine bodyPost_ret (res_ct rfl _ _ _ _ rfl (vrow ZW.out _)) rfl ⟨_,rfl,fun hz => ?_,kb2⟩;have v2:=V0.out.keep B2.out;have hl : MLoc (w.heap.size + 1 + 1) { k with qA:=A2,qn:=n2,qc:=c2,qo:=k.qo } k:=⟨.refl _ _ _,.refl _ _ _,.refl _ _ _,⟨rfl,rfl⟩,⟨rfl,rfl⟩,⟨rfl,rfl⟩,⟨rfl,rfl⟩⟩;have hj : IsVm w2 { k with qA:=A2,qn:=n2,qc:=c2,qo:=k.qo } { L with q:=mm }:=⟨v2.m,v2.d,v2.r,v2.f,v2.dict,v2.o,HR.out,v2.e,v2.h⟩;refine ⟨V0.out.ex hj hl (EW.out.row (.inr rfl) _) ?_,⟨rfl,rfl,rfl,rfl,rfl,rfl,rfl,rfl,rfl,rfl,rfl,rfl,rfl⟩,hl.le (by omega)⟩;intro g hg h;have:=KZ.out
  rcases h with rfl | rfl
  · exact ⟨by omega,by omega,vbox_nou8 X2.out⟩
  · exact ⟨by omega,by omega,vbox_nou8 Z2.out⟩
end Go.Proofs.YtlgnijhemfkflaaGreatDoor
