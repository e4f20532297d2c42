/- Part 32. -/
import Derived.Test.YtlgnijhemfkflaaGreatDoorPaBE
set_option linter.unusedVariables false
set_option linter.unusedSimpArgs false
set_option maxRecDepth 100000
set_option maxHeartbeats 4000000

namespace Go.Proofs.YtlgnijhemfkflaaGreatDoor
open Go.RowKit


theorem emit1 (k : VmK) (w : World) (A : Option Addr) (c : Nat) (x : List Int) (hx : Takes w 1 A c x) : Calls Tryz.prog 134 #[vmV k,.slice A 1 c] w fun e w' => e = .returned (.tuple #[.string (strB [lowB (x.getD 0 0)]),.int .i64 0]) ∧ Below w.heap.size w w':=by
  obtain ⟨a,g,o,rfl,rfl,hg,c0,ha⟩:=hx.one;show Calls _ _ _ _ (fun e w' => e = .returned (.tuple #[.string (strB [lowB a]),.int .i64 0]) ∧ Below w.heap.size w w');obtain ⟨xb,hxb⟩ : ∃ xb,lowB a = xb:=⟨_,rfl⟩;have h1 : a % 256 = (xb.toNat : Int):=by rw [← hxb]; exact (lowB_nat a).symm
  rw [hxb];have hx2:=xb.toNat_lt;clear hxb hx;go_enter Tryz.func134,Tryz.ntmps134;go_upto_region 1 with fail
  generalize hw1 : World.alloc _ _ = w1;have kb : Below w.heap.size w w1:=by rw [← hw1]; exact al_one _ _
  have q0:=(kb.cell (p:=⟨g,o,none⟩) hg).trans c0;clear hw1 c0;have B1:=zqh kb;have cv:=conv_any (byt_one w1 xb);clear kb;(go_wp2_with fail);go_ret2;exact ⟨rfl,below_then B1.out (al_one _ _)⟩
theorem same1 (W : World) (p : Addr) (s : ByteArray) (hp : W.cell? p = some (.string s)) (hpl : p.block < W.heap.size) (k : VmK) (A : Option Addr) (c : Nat) (w : World) (b0 : Kp W w) : Calls Tryz.prog 233 #[vmV k,.slice A 0 c,.pointer (some p)] w fun e w' => e = .returned (.tuple #[.string s,.int .i64 0]) ∧ Below w.heap.size w w':=by
  have hp0:=(b0.cell hpl).trans hp;have hl0:=Nat.lt_of_lt_of_le hpl b0.size;go_enter Tryz.func233,Tryz.ntmps233;go_upto_region 1 with fail
  generalize hw1 : World.alloc _ _ = w1;have kb : Below w.heap.size w w1:=by rw [← hw1]; exact al_one _ _
  have hp1:=(kb.cell hl0).trans hp0;clear hw1 hp0;have B1:=zqh kb;clear kb;(go_wp2_with fail);go_ret2;exact ⟨rfl,B1.out⟩
theorem base_any (k : VmK) (L : VmL) (w : World) (ok : Ok k L) (h : IsVm w k L) : Calls Tryz.prog 236 #[vmV k] w fun e w' => e = .returned (.int .i64 (fetchF L.m 0)) ∧ Below w.heap.size w w':=by
  have HF:=zqh fun w h => fetch_at k.mA k.pA k.mn k.mc k.pn k.pc L.m 0 w (zqh h) (by have:=(ok.mem ‹IsVm _ k L›).n2; omega)
  have V0:=zqh h;generalize fetchF L.m 0 = x at HF ⊢;generalize cellC k.mn 0 = C at HF;clear ok h;go_enter Tryz.func236,Tryz.ntmps236;go_upto_region 1 with fail
  generalize hw1 : World.alloc _ _ = w1;have kb : Below w.heap.size w w1:=by rw [← hw1]; exact al_one _ _
  have kx : VBox w1 w.heap.size k:=by rw [← hw1]; exact vbox_new w k
  obtain ⟨p0,p1,p2,p3,p4,p5,p6,p7,p8,p9,p10,p11,p12,p13,p14,p15,p16,p17,p18,p19,p20,p21,p22⟩:=kx.use;clear p0 p1 p2 p3 p4 p7 p8 p9 p10 p11 p12 p13 p14 p15 p16 p17 p18 p19 p20 p21 p22;clear hw1 kx;have B1:=zqh kb;clear kb;(go_wp2_with fail);refine (HF.out _ (V0.out.keep B1.out).m).mono ?_;rintro e w2 ⟨rfl,bb⟩;have B2:=zqh (below_then B1.out bb);clear HF bb p5 p6;(go_wp2_with fail);go_ret;exact ⟨rfl,B2.out⟩
theorem typed_any (k : VmK) (L : VmL) (w : World) (A : Option Addr) (c : Nat) (x : List Int) (ok : Ok k L) (h : IsVm w k L) (hx : Takes w 2 A c x) : Calls Tryz.prog 137 #[vmV k,.slice A 2 c] w fun e w' => e = .returned (.tuple #[.string (strB (textF L.m (x.getD 0 0) (x.getD 1 0))),.int .i64 (codeF (okB L.m.1.length (x.getD 0 0) (x.getD 1 0)))]) ∧ Below w.heap.size w w':=by
  obtain ⟨a,b,g,o,rfl,rfl,hg,c0,c1,ha,hb⟩:=hx.two;rw [h.m.len1];show Calls _ _ _ _ (fun e w' => e = .returned (.tuple #[.string (strB (textF L.m a b)),.int .i64 (codeF (okB k.mn a b))]) ∧ Below w.heap.size w w');have HT:=zqh fun w h => text_at k.mA k.pA k.mn k.mc k.pn k.pc L.m a b w h (by have:=(ok.mem ‹IsVm _ k L›).n2; omega) hb.2
  have V0:=zqh h;have C0:=zqh c0;have C1:=zqh c1;generalize textF L.m a b = T at HT ⊢;generalize codeF (okB k.mn a b) = C at HT ⊢;clear ok h hx c0 c1;go_enter Tryz.func137,Tryz.ntmps137;go_upto_region 1 with fail
  generalize hw1 : World.alloc _ _ = w1;have kb : Below w.heap.size w w1:=by rw [← hw1]; exact al_one _ _
  have kx : VBox w1 w.heap.size k:=by rw [← hw1]; exact vbox_new w k
  clear hw1;have X1:=zqh kx;have B1:=zqh kb;clear kb kx;refine wp_region_noPanic ?_;refine wp_region_held_drew (S:=fun a => Below w.heap.size w a ∧ VBox a w.heap.size k) (by kernel_rfl) ?_ (fun hHeld => ?_)
  · exact ⟨B1.out.drew,X1.out⟩
  refine zqt (i:=0) (v:=?v0a29) ?y0a29 ?r0a29
  case y0a29 =>
    intro u hSu;go_simp;(try with_reducible rfl)
  (try simp only [zq,Act.put]);refine zqt (i:=1) (v:=?v1a29) ?y1a29 ?r1a29
  case y1a29 =>
    intro u hSu;(try dsimp only at hSu);obtain ⟨p0,p1,p2,p3,p4,p5,p6,p7,p8,p9,p10,p11,p12,p13,p14,p15,p16,p17,p18,p19,p20,p21,p22⟩:=hSu.2.use;clear p0 p1 p2 p3 p4 p7 p8 p9 p10 p11 p12 p13 p14 p15 p16 p17 p18 p19 p20 p21 p22;go_simp;(try with_reducible rfl)
  (try simp only [zq,Act.put]);refine zqt (i:=2) (v:=?v2a29) ?y2a29 ?r2a29
  case y2a29 =>
    intro u hSu;go_simp;(try with_reducible rfl)
  (try simp only [zq,Act.put]);refine zqt (i:=3) (v:=?v3a29) ?y3a29 ?r3a29
  case y3a29 =>
    intro u hSu;go_simp;(try with_reducible rfl)
  (try simp only [zq,Act.put]);refine zqt (i:=4) (v:=?v4a29) ?y4a29 ?r4a29
  case y4a29 =>
    intro u hSu;(try dsimp only at hSu);have q0:=(hSu.1.cell (p:=⟨g,o,none⟩) hg).trans C0.out;go_simp;(try with_reducible rfl)
  (try simp only [zq,Act.put]);refine zqt (i:=5) (v:=?v5a29) ?y5a29 ?r5a29
  case y5a29 =>
    intro u hSu;go_simp;(try with_reducible rfl)
  (try simp only [zq,Act.put]);refine zqt (i:=6) (v:=?v6a29) ?y6a29 ?r6a29
  case y6a29 =>
    intro u hSu;go_simp;(try with_reducible rfl)
  (try simp only [zq,Act.put]);refine zqt (i:=7) (v:=?v7a29) ?y7a29 ?r7a29
  case y7a29 =>
    intro u hSu;(try dsimp only at hSu);have q1:=(hSu.1.cell (p:=⟨g,o + 1,none⟩) hg).trans C1.out;go_simp;(try with_reducible rfl)
  (try simp only [zq,Act.put]);refine zqr 8 fun K hK => ?_
  go_simp;refine (HT.out _ (V0.out.keep hHeld.1).m).mono ?_;rintro e u1 ⟨B,n9,c9,rfl,hr,bb⟩;have hN : Below w.heap.size w u1 ∧ VBox u1 w.heap.size k:=⟨below_then hHeld.1 bb,hHeld.2.keep bb⟩;have HR:=zqh hr;have HB:=zqh hN.1;(go_wp2_with fail);clear bb hr;clear hHeld;refine hK.out _ _ hN (fun hHeld => ?_);clear hK K hN;(try simp only [zq,Act.put]);refine zqt (i:=9) (v:=?v9a29) ?y9a29 ?r9a29
  case y9a29 =>
    intro u hSu;go_simp;(try with_reducible rfl)
  (try simp only [zq,Act.put]);refine zqt (i:=10) (v:=?v10a29) ?y10a29 ?r10a29
  case y10a29 =>
    intro u hSu;go_simp;(try with_reducible rfl)
  (try simp only [zq,Act.put]);refine zqt (i:=11) (v:=?v11a29) ?y11a29 ?r11a29
  case y11a29 =>
    intro u hSu;go_simp;(try with_reducible rfl)
  (try simp only [zq,Act.put]);refine zqt (i:=12) (v:=?v12a29) ?y12a29 ?r12a29
  case y12a29 =>
    intro u hSu;go_simp;(try with_reducible rfl)
  (try simp only [zq,Act.put]);refine zqt (i:=13) (v:=?v13a29) ?y13a29 ?r13a29
  case y13a29 =>
    intro u hSu;go_simp;(try with_reducible rfl)
  (try simp only [zq,Act.put]);refine wpAnyH_done (by kernel_rfl) ?_ _;refine NoPanic.normal ?_;have cv:=conv_any HR.out;(go_wp2_with fail);go_ret2;exact ⟨rfl,HB.out⟩
end Go.Proofs.YtlgnijhemfkflaaGreatDoor

namespace Go.Proofs.YtlgnijhemfkflaaGreatDoor
open Go.RowKit


theorem shuffled1 (W : World) (p : Addr) (s : ByteArray) (hp : W.cell? p = some (.string s)) (hpl : p.block < W.heap.size) (w : World) (k : VmK) (L : VmL) (b0 : Kp W w) (ok : Ok k L) (h : IsVm w k L) :
    Calls Tryz.prog 76 #[vmV k,.pointer (some p)] w (DeedOut (shufE s.data.toList k L) k w):=by
  show Calls _ _ _ _ (DeedOut ⟨codeR (resF (kindF s.data.toList) L.d) k.cd,[],k,{ L with d:=listR (resF (kindF s.data.toList) L.d) L.d k.cd }⟩ k w);have hp0:=(b0.cell hpl).trans hp;have hl0:=Nat.lt_of_lt_of_le hpl b0.size;have hdn : k.dn ≤ 65536:=by have:=ok.d1; have:=h.d.1; omega
  have HC:=zqh fun w h => shuffle_atN k.dA k.dn k.dc s L.d k.cd w hdn (zqh h)
  have V0:=zqh h;generalize listR (resF (kindF s.data.toList) L.d) L.d k.cd = l9 at HC ⊢;generalize codeR (resF (kindF s.data.toList) L.d) k.cd = C at HC ⊢;generalize knownR (resF (kindF s.data.toList) L.d) = Z at HC;clear b0 hp hpl ok h;go_enter Tryz.func76,Tryz.ntmps76;go_upto_region 1 with fail
  generalize hw1 : World.alloc (World.alloc _ _) _ = w1;have kb : Below w.heap.size w w1:=by rw [← hw1]; exact al_two _ _ _
  have kx : VBox w1 w.heap.size k:=by rw [← hw1]; exact (in_two w k _).2
  have kz : VBox w1 (w.heap.size + 1) vm0:=by rw [← hw1]; exact in_two0 w _
  have KS : Hid (w1.heap.size = w.heap.size + 1 + 1):=by show _ = _; rw [← hw1]; exact in_twos w _ _
  clear hw1;have hp1:=(kb.cell hl0).trans hp0;have X1:=zqh kx;have Z1:=zqh kz;have B1:=zqh kb;obtain ⟨p0,p1,p2,p3,p4,p5,p6,p7,p8,p9,p10,p11,p12,p13,p14,p15,p16,p17,p18,p19,p20,p21,p22⟩:=kx.use;clear p0 p2 p3 p4 p5 p6 p7 p9 p10 p11 p12 p13 p14 p15 p16 p17 p18 p19 p20 p21 p22;clear kb kx kz hp0;(go_wp2_with fail);refine (HC.out _ (V0.out.keep B1.out).d).mono ?_;rintro e w2 ⟨B,m,d,rfl,hr,bb⟩;have X2:=zqh (X1.out.keep bb);have Z2:=zqh (Z1.out.keep bb);have B2:=zqh (below_then B1.out bb);have HR:=zqh hr;have F8:=X2.out.free.2.2.2.2.2.2.2.2.1;obtain ⟨p0,p1,p2,p3,p4,p5,p6,p7,P8,p9,p10,p11,p12,p13,p14,p15,p16,p17,p18,p19,p20,p21,p22⟩:=X2.out.use;clear p0 p1 p2 p3 p4 p5 p6 p7 p9 p10 p11 p12 p13 p14 p15 p16 p17 p18 p19 p20 p21 p22;clear HC X1 Z1 B1 bb hr p1 p8;go_upto_region 3 with fail
  generalize hV : World.setCell _ _ _ = V;have XW : Hid (VBox V w.heap.size { k with dA:=B,dn:=m,dc:=d }):=by show VBox _ _ _; rw [← hV]; exact X2.out.put_d _ _ _
  have ZW : Hid (VBox V (w.heap.size + 1) vm0):=by show VBox _ _ _; rw [← hV]; exact vset_far Z2.out (by omega)
  have BW : Hid (Below w.heap.size w V):=by show Below _ _ _; rw [← hV]; exact B2.out.setCell (Nat.le_refl _) _
  have EW : Hid (Ex (fun g => g = w.heap.size ∨ g = w.heap.size + 1) w2 V):=by show Ex _ _ _; rw [← hV]; exact (Ex.refl _ _).cell (.inl rfl) _
  clear hV F8 P8;(go_wp2_with (first | (refine wpList_vload (by rfl) _ rfl _ _ rfl XW.out ?_) | (refine wpList_vstore (by rfl) _ _ rfl _ vm0 _ rfl rfl ZW.out ?_)));have kb2:=below_setRow BW.out (show w.heap.size ≤ w.heap.size + 1 by omega) (vmC { k with dA:=B,dn:=m,dc:=d });have v2:=V0.out.keep B2.out;have hl : MLoc w1.heap.size { k with dA:=B,dn:=m,dc:=d } k:=⟨.refl _ _ _,.inr HR.out.2,.refl _ _ _,⟨rfl,rfl⟩,⟨rfl,rfl⟩,⟨rfl,rfl⟩,⟨rfl,rfl⟩⟩;have hj : IsVm w2 { k with dA:=B,dn:=m,dc:=d } { L with d:=l9 }:=⟨v2.m,HR.out.1,v2.r,v2.f,v2.dict,v2.o,v2.q,v2.e,v2.h⟩;refine bodyPost_ret (res_ct rfl _ _ _ _ rfl (vrow ZW.out _)) rfl ⟨{ k with dA:=B,dn:=m,dc:=d },rfl,V0.out.ex hj hl (EW.out.row (.inr rfl) _) ?_,⟨rfl,rfl,rfl,rfl,rfl,rfl,rfl,rfl,rfl,rfl,rfl,rfl,rfl⟩,hl.le (by have:=KS.out; omega),kb2⟩;intro g hg h;have:=KS.out
  rcases h with rfl | rfl
  · exact ⟨by omega,by omega,vbox_nou8 X2.out⟩
  · exact ⟨by omega,by omega,vbox_nou8 Z2.out⟩
theorem str_app (l m : List UInt8) : strB l ++ strB m = strB (l ++ m):=by
  unfold strB
  apply ByteArray.ext
  simp
theorem number1 (W : World) (p : Addr) (g0 : FuncId) (eg : Ent g0) (hp : W.cell? p = some (.func (.func g0) #[] #[])) (hpl : p.block < W.heap.size) (s9 : Int → Int → List UInt8) (C9 : Int → Int)
    (hc : ∀ a b w,cellR a → cellR b → Calls Tryz.prog g0 #[.int .i64 a,.int .i64 b] w fun e w' => e = .returned (.tuple #[.string (strB (s9 a b)),.int .i64 (C9 b)]) ∧ Below w.heap.size w w')
    (hlen : ∀ a b,cellR a → cellR b → (s9 a b).length ≤ 1000) (w : World) (k : VmK) (L : VmL) (A : Option Addr) (c : Nat) (x : List Int) (b0 : Kp W w) (ok : Ok k L) (h : IsVm w k L) (hf : cellR (fetchF L.m 0)) (hx : Takes w 1 A c x) :
    Calls Tryz.prog 235 #[vmV k,.slice A 1 c,.pointer (some p)] w fun e w' => e = .returned (.tuple #[.string (strB (s9 (x.getD 0 0) (fetchF L.m 0) ++ [32])),.int .i64 (C9 (fetchF L.m 0))]) ∧ Below w.heap.size w w':=by
  obtain ⟨a,g,o,rfl,rfl,hg,c0,ha⟩:=hx.one;show Calls _ _ _ _ (fun e w' => e = .returned (.tuple #[.string (strB (s9 a (fetchF L.m 0) ++ [32])),.int .i64 (C9 (fetchF L.m 0))]) ∧ Below w.heap.size w w');have HBS:=zqh fun w h => base_any k L w ok h
  have HC:=zqh fun w => hc a (fetchF L.m 0) w ha hf
  have HP : Hid (w.cell? p = some (.func (.func g0) #[] #[])):=(b0.cell hpl).trans hp;have hl0:=Nat.lt_of_lt_of_le hpl b0.size;have V0:=zqh h;have C0:=zqh c0;have hT : (strB (s9 a (fetchF L.m 0))).size ≤ 1000:=hlen a (fetchF L.m 0) ha hf;rw [← str_app];have e32 : strB [32] = ⟨#[32]⟩:=rfl;rw [e32];generalize strB (s9 a (fetchF L.m 0)) = T at HC hT ⊢;generalize C9 (fetchF L.m 0) = C at HC ⊢;generalize fetchF L.m 0 = bs at HBS HC;clear ok h hx c0 hc hp hpl b0 hf e32 hlen;go_enter Tryz.func235,Tryz.ntmps235;go_upto_region 1 with fail
  generalize hw1 : World.alloc _ _ = w1;have kb : Below w.heap.size w w1:=by rw [← hw1]; exact al_one _ _
  have kx : VBox w1 w.heap.size k:=by rw [← hw1]; exact vbox_new w k
  clear hw1;have X1:=zqh kx;have B1:=zqh kb;clear kb kx;refine wp_region_noPanic ?_;refine wp_region_held_drew (S:=fun a => Below w.heap.size w a ∧ VBox a w.heap.size k) (by kernel_rfl) ?_ (fun hHeld => ?_)
  · exact ⟨B1.out.drew,X1.out⟩
  refine zqt (i:=0) (v:=?v0a30) ?y0a30 ?r0a30
  case y0a30 =>
    intro u hSu;(try dsimp only at hSu);have qp:=(hSu.1.cell (p:=p) hl0).trans HP.out;go_simp;(try with_reducible rfl)
  (try simp only [zq,Act.put]);refine zqt (i:=1) (v:=?v1a30) ?y1a30 ?r1a30
  case y1a30 =>
    intro u hSu;go_simp;(try with_reducible rfl)
  (try simp only [zq,Act.put]);refine zqt (i:=2) (v:=?v2a30) ?y2a30 ?r2a30
  case y2a30 =>
    intro u hSu;go_simp;(try with_reducible rfl)
  (try simp only [zq,Act.put]);refine zqt (i:=3) (v:=?v3a30) ?y3a30 ?r3a30
  case y3a30 =>
    intro u hSu;(try dsimp only at hSu);have q0:=(hSu.1.cell (p:=⟨g,o,none⟩) hg).trans C0.out;go_simp;(try with_reducible rfl)
  (try simp only [zq,Act.put]);refine zqt (i:=4) (v:=vmV k) (fun u hSu => exec_vl _ rfl w.heap.size k rfl hSu.2) ?_;(try simp only [zq,Act.put]);refine zqr 5 fun K hK => ?_
  go_simp;refine (HBS.out _ (V0.out.keep hHeld.1)).mono ?_;rintro e u1 ⟨rfl,bb⟩;have hN : Below w.heap.size w u1 ∧ VBox u1 w.heap.size k:=⟨below_then hHeld.1 bb,hHeld.2.keep bb⟩;(go_wp2_with fail);clear bb;clear hHeld;refine hK.out _ _ hN (fun hHeld => ?_);clear hK K hN;(try simp only [zq,Act.put]);refine zqr 6 fun K hK => ?_
  go_simp;refine (HC.out _).mono ?_;rintro e u2 ⟨rfl,bb⟩;have hN : Below w.heap.size w u2 ∧ VBox u2 w.heap.size k:=⟨below_then hHeld.1 bb,hHeld.2.keep bb⟩;have HB:=zqh hN.1;(go_wp2_with fail);clear bb;clear hHeld;refine hK.out _ _ hN (fun hHeld => ?_);clear hK K hN;(try simp only [zq,Act.put]);refine zqt (i:=7) (v:=?v7a30) ?y7a30 ?r7a30
  case y7a30 =>
    intro u hSu;go_simp;(try with_reducible rfl)
  (try simp only [zq,Act.put]);refine zqt (i:=8) (v:=?v8a30) ?y8a30 ?r8a30
  case y8a30 =>
    intro u hSu;go_simp;(try with_reducible rfl)
  (try simp only [zq,Act.put]);refine zqt (i:=9) (v:=?v9a30) ?y9a30 ?r9a30
  case y9a30 =>
    intro u hSu;go_simp;(try with_reducible rfl)
  (try simp only [zq,Act.put]);refine zqt (i:=10) (v:=?v10a30) ?y10a30 ?r10a30
  case y10a30 =>
    intro u hSu;go_simp;(try with_reducible rfl)
  (try simp only [zq,Act.put]);refine zqt (i:=11) (v:=?v11a30) ?y11a30 ?r11a30
  case y11a30 =>
    intro u hSu;go_simp;(try with_reducible rfl)
  (try simp only [zq,Act.put]);refine wpAnyH_done (by kernel_rfl) ?_ _;refine NoPanic.normal ?_;(go_wp2_with fail);go_ret2;exact ⟨rfl,HB.out⟩
end Go.Proofs.YtlgnijhemfkflaaGreatDoor

namespace Go.Proofs.YtlgnijhemfkflaaGreatDoor
open Go.RowKit


theorem cellR_wrap (n : Int) : cellR (wrap64 n):=by
  unfold cellR wrap64;omega
theorem fetch_cell (m : PM) (p : Int) : cellR (fetchF m p):=by
  unfold fetchF
  split
  · exact cellR_wrap _
  · unfold cellR; omega
theorem multiplied_is (g : FuncId) (eg : Ent g) (X Y : Int → Int → Int) (hc : ∀ a b w,cellR a → cellR b → Calls Tryz.prog g #[.int .i64 a,.int .i64 b] w fun e w' => e = .returned (.tuple #[.int .i64 (X a b),.int .i64 (Y a b)]) ∧ Below w.heap.size w w') (w : World) : Calls Tryz.prog 89 #[.func (.func g) #[] #[]] w (Makes (deedE 2 (rkF (fun x => [X (x.getD 0 0) (x.getD 1 0),Y (x.getD 0 0) (x.getD 1 0)]) (fun _ => 0))) w):=by
  have hmf : ∀ (fn : Fn) (first cap : Array Value) (w : World),(Instr.makeFunc fn first cap).run Tryz.prog w = .ok (.func fn first cap) w:=fun _ _ _ _ => rfl
  go_enter Tryz.func89,Tryz.ntmps89;(go_wp2_with fail);generalize hw1 : World.alloc _ _ = w1;have kb : Below w.heap.size w w1:=by rw [← hw1]; exact al_one _ _
  have c0 : w1.cell? ⟨w.heap.size,0,none⟩ = some (.func (.func g) #[] #[]):=by rw [← hw1]; simp
  have hl : w.heap.size < w1.heap.size:=by rw [← hw1]; simp
  have HA : IsReck w1 (.func (.func 207) #[] #[.pointer (some ⟨w.heap.size,0,none⟩)]) 2 (fun x => [X (x.getD 0 0) (x.getD 1 0),Y (x.getD 0 0) (x.getD 1 0)]) (fun _ => 0):=⟨_,_,rfl,(enters_of Tryz.func207 (by kernel_rfl) rfl),fun w2 A c x b2 hx => multiplied1 w1 _ g eg c0 hl X Y hc w2 A c x b2 hx⟩;have B1:=zqh kb;clear c0 kb hw1;refine (reckons_is 2 _ _ (by decide) (fun _ => by show 2 ≤ 4; decide) w1 _ HA).mono ?_;rintro e w2 ⟨d,rfl,hd,bb⟩;have B2:=zqh (below_then B1.out bb);clear B1 bb HA hl;(go_wp2_with fail);go_ret;exact ⟨d,rfl,hd,B2.out⟩
theorem divided_is (g : FuncId) (eg : Ent g) (Q R C : Int → Int → Int → Int) (hc : ∀ a b d w,cellR a → cellR b → cellR d → Calls Tryz.prog g #[.int .i64 a,.int .i64 b,.int .i64 d] w fun e w' => e = .returned (.tuple #[.int .i64 (Q a b d),.int .i64 (R a b d),.int .i64 (C a b d)]) ∧ Below w.heap.size w w') (w : World) : Calls Tryz.prog 91 #[.func (.func g) #[] #[]] w (Makes (deedE 3 (rkF (fun x => [R (x.getD 0 0) (x.getD 1 0) (x.getD 2 0),Q (x.getD 0 0) (x.getD 1 0) (x.getD 2 0)]) (fun x => C (x.getD 0 0) (x.getD 1 0) (x.getD 2 0)))) w):=by
  have hmf : ∀ (fn : Fn) (first cap : Array Value) (w : World),(Instr.makeFunc fn first cap).run Tryz.prog w = .ok (.func fn first cap) w:=fun _ _ _ _ => rfl
  go_enter Tryz.func91,Tryz.ntmps91;(go_wp2_with fail);generalize hw1 : World.alloc _ _ = w1;have kb : Below w.heap.size w w1:=by rw [← hw1]; exact al_one _ _
  have c0 : w1.cell? ⟨w.heap.size,0,none⟩ = some (.func (.func g) #[] #[]):=by rw [← hw1]; simp
  have hl : w.heap.size < w1.heap.size:=by rw [← hw1]; simp
  have HA : IsReck w1 (.func (.func 209) #[] #[.pointer (some ⟨w.heap.size,0,none⟩)]) 3 (fun x => [R (x.getD 0 0) (x.getD 1 0) (x.getD 2 0),Q (x.getD 0 0) (x.getD 1 0) (x.getD 2 0)]) (fun x => C (x.getD 0 0) (x.getD 1 0) (x.getD 2 0)):=⟨_,_,rfl,(enters_of Tryz.func209 (by kernel_rfl) rfl),fun w2 A c x b2 hx => divided1 w1 _ g eg c0 hl Q R C hc w2 A c x b2 hx⟩;have B1:=zqh kb;clear c0 kb hw1;refine (reckons_is 3 _ _ (by decide) (fun _ => by show 2 ≤ 4; decide) w1 _ HA).mono ?_;rintro e w2 ⟨d,rfl,hd,bb⟩;have B2:=zqh (below_then B1.out bb);clear B1 bb HA hl;(go_wp2_with fail);go_ret;exact ⟨d,rfl,hd,B2.out⟩
theorem reckonedOfTwo_is (s : ByteArray) (w : World) : Calls Tryz.prog 47 #[.string s] w (Makes (deedE 2 (fun k L x => twoE s.data.toList k L (x.getD 0 0) (x.getD 1 0))) w):=by
  have hmf : ∀ (fn : Fn) (first cap : Array Value) (w : World),(Instr.makeFunc fn first cap).run Tryz.prog w = .ok (.func fn first cap) w:=fun _ _ _ _ => rfl
  go_enter Tryz.func47,Tryz.ntmps47;(go_wp2_with fail);generalize hw1 : World.alloc _ _ = w1;have kb : Below w.heap.size w w1:=by rw [← hw1]; exact al_one _ _
  have c0 : w1.cell? ⟨w.heap.size,0,none⟩ = some (.string s):=by rw [← hw1]; simp
  have hl : w.heap.size < w1.heap.size:=by rw [← hw1]; simp
  have HA : IsReck w1 (.func (.func 79) #[] #[.pointer (some ⟨w.heap.size,0,none⟩)]) 2 (fun x => [(twoF s.data.toList (x.getD 0 0) (x.getD 1 0)).getD 0]) (fun x => divC s.data.toList (x.getD 1 0)):=⟨_,_,rfl,(enters_of Tryz.func79 (by kernel_rfl) rfl),fun w2 A c x b2 hx => reckonedOfTwo1 w1 _ s c0 hl w2 A c x b2 hx⟩;have B1:=zqh kb;clear c0 kb hw1;refine (reckons_is 2 _ _ (by decide) (fun _ => by show 1 ≤ 4; decide) w1 _ HA).mono ?_;rintro e w2 ⟨d,rfl,hd,bb⟩;have B2:=zqh (below_then B1.out bb);clear B1 bb HA hl;(go_wp2_with fail);go_ret;exact ⟨d,rfl,hd,B2.out⟩
theorem reckonedOfOne_is (s : ByteArray) (w : World) : Calls Tryz.prog 48 #[.string s] w (Makes (deedE 1 (fun k L x => oneE s.data.toList k L (x.getD 0 0))) w):=by
  have hmf : ∀ (fn : Fn) (first cap : Array Value) (w : World),(Instr.makeFunc fn first cap).run Tryz.prog w = .ok (.func fn first cap) w:=fun _ _ _ _ => rfl
  go_enter Tryz.func48,Tryz.ntmps48;(go_wp2_with fail);generalize hw1 : World.alloc _ _ = w1;have kb : Below w.heap.size w w1:=by rw [← hw1]; exact al_one _ _
  have c0 : w1.cell? ⟨w.heap.size,0,none⟩ = some (.string s):=by rw [← hw1]; simp
  have hl : w.heap.size < w1.heap.size:=by rw [← hw1]; simp
  have HA : IsReck w1 (.func (.func 81) #[] #[.pointer (some ⟨w.heap.size,0,none⟩)]) 1 (fun x => [(oneF s.data.toList (x.getD 0 0)).getD 0]) (fun _ => 0):=⟨_,_,rfl,(enters_of Tryz.func81 (by kernel_rfl) rfl),fun w2 A c x b2 hx => reckonedOfOne1 w1 _ s c0 hl w2 A c x b2 hx⟩;have B1:=zqh kb;clear c0 kb hw1;refine (reckons_is 1 _ _ (by decide) (fun _ => by show 1 ≤ 4; decide) w1 _ HA).mono ?_;rintro e w2 ⟨d,rfl,hd,bb⟩;have B2:=zqh (below_then B1.out bb);clear B1 bb HA hl;(go_wp2_with fail);go_ret;exact ⟨d,rfl,hd,B2.out⟩
theorem known_is (n : Int) (w : World) : Calls Tryz.prog 131 #[.int .i64 n] w (Makes (deedE 0 (teF (fun _ _ => n))) w):=by
  have hmf : ∀ (fn : Fn) (first cap : Array Value) (w : World),(Instr.makeFunc fn first cap).run Tryz.prog w = .ok (.func fn first cap) w:=fun _ _ _ _ => rfl
  go_enter Tryz.func131,Tryz.ntmps131;(go_wp2_with fail);generalize hw1 : World.alloc _ _ = w1;have kb : Below w.heap.size w w1:=by rw [← hw1]; exact al_one _ _
  have c0 : w1.cell? ⟨w.heap.size,0,none⟩ = some (.int .i64 n):=by rw [← hw1]; simp
  have hl : w.heap.size < w1.heap.size:=by rw [← hw1]; simp
  have HA : IsTell w1 (.func (.func 229) #[] #[.pointer (some ⟨w.heap.size,0,none⟩)]) (fun _ _ => n):=⟨_,_,rfl,(enters_of Tryz.func229 (by kernel_rfl) rfl),fun w2 k L b2 ok hv => known1 w1 _ n c0 hl k w2 b2⟩;have B1:=zqh kb;clear c0 kb hw1;refine (tells_is _ w1 _ HA).mono ?_;rintro e w2 ⟨d,rfl,hd,bb⟩;have B2:=zqh (below_then B1.out bb);clear B1 bb HA hl;(go_wp2_with fail);go_ret;exact ⟨d,rfl,hd,B2.out⟩
theorem based_is (n : Int) (w : World) : Calls Tryz.prog 132 #[.int .i64 n] w (Makes (deedE 0 (tnF (stF (fun m _ => storeF m 0 n) (fun m _ => cellC m.1.length 0)))) w):=by
  have hmf : ∀ (fn : Fn) (first cap : Array Value) (w : World),(Instr.makeFunc fn first cap).run Tryz.prog w = .ok (.func fn first cap) w:=fun _ _ _ _ => rfl
  go_enter Tryz.func132,Tryz.ntmps132;(go_wp2_with fail);generalize hw1 : World.alloc _ _ = w1;have kb : Below w.heap.size w w1:=by rw [← hw1]; exact al_one _ _
  have c0 : w1.cell? ⟨w.heap.size,0,none⟩ = some (.int .i64 n):=by rw [← hw1]; simp
  have hl : w.heap.size < w1.heap.size:=by rw [← hw1]; simp
  have HA : IsStore w1 (.func (.func 230) #[] #[.pointer (some ⟨w.heap.size,0,none⟩)]) 0 (fun m _ => storeF m 0 n) (fun m _ => cellC m.1.length 0):=⟨_,_,rfl,(enters_of Tryz.func230 (by kernel_rfl) rfl),fun w2 A P n9 c K d m B c2 x b2 hm hx => based1 w1 _ n c0 hl A P n9 c K d m B c2 x w2 b2 hm⟩;have B1:=zqh kb;clear c0 kb hw1;refine (stores_is 0 _ _ (by decide) w1 _ HA).mono ?_;rintro e w2 ⟨d,rfl,hd,bb⟩;have B2:=zqh (below_then B1.out bb);clear B1 bb HA hl;(go_wp2_with fail);go_ret;exact ⟨d,rfl,hd,B2.out⟩
theorem printsSame_is (s : List UInt8) (hs : s.length ≤ 100000) (w : World) : Calls Tryz.prog 135 #[.string (strB s)] w (Makes (deedE 0 (tnF (prF (fun _ _ _ => s) (fun _ _ _ => 0)))) w):=by
  have hmf : ∀ (fn : Fn) (first cap : Array Value) (w : World),(Instr.makeFunc fn first cap).run Tryz.prog w = .ok (.func fn first cap) w:=fun _ _ _ _ => rfl
  go_enter Tryz.func135,Tryz.ntmps135;(go_wp2_with fail);generalize hw1 : World.alloc _ _ = w1;have kb : Below w.heap.size w w1:=by rw [← hw1]; exact al_one _ _
  have c0 : w1.cell? ⟨w.heap.size,0,none⟩ = some (.string (strB s)):=by rw [← hw1]; simp
  have hl : w.heap.size < w1.heap.size:=by rw [← hw1]; simp
  have HA : IsText w1 (.func (.func 233) #[] #[.pointer (some ⟨w.heap.size,0,none⟩)]) 0 (fun _ _ _ => s) (fun _ _ _ => 0):=⟨_,_,rfl,(enters_of Tryz.func233 (by kernel_rfl) rfl),fun w2 k L A c x b2 ok hv hx => (same1 w1 _ (strB s) c0 hl k A c w2 b2).mono fun e w' h => ⟨h.1,fun _ => hs,h.2⟩⟩;have B1:=zqh kb;clear c0 kb hw1;refine (prints_is 0 _ _ (by decide) w1 _ HA).mono ?_;rintro e w2 ⟨d,rfl,hd,bb⟩;have B2:=zqh (below_then B1.out bb);clear B1 bb HA hl;(go_wp2_with fail);go_ret;exact ⟨d,rfl,hd,B2.out⟩
theorem printsNumber_is (g : FuncId) (eg : Ent g) (s9 : Int → Int → List UInt8) (C9 : Int → Int) (hc : ∀ a b w,cellR a → cellR b → Calls Tryz.prog g #[.int .i64 a,.int .i64 b] w fun e w' => e = .returned (.tuple #[.string (strB (s9 a b)),.int .i64 (C9 b)]) ∧ Below w.heap.size w w') (hlen : ∀ a b,cellR a → cellR b → (s9 a b).length ≤ 1000) (w : World) : Calls Tryz.prog 138 #[.func (.func g) #[] #[]] w (Makes (deedE 1 (tnF (prF (fun k L x => s9 (x.getD 0 0) (fetchF L.m 0) ++ [32]) (fun k L x => C9 (fetchF L.m 0))))) w):=by
  have hmf : ∀ (fn : Fn) (first cap : Array Value) (w : World),(Instr.makeFunc fn first cap).run Tryz.prog w = .ok (.func fn first cap) w:=fun _ _ _ _ => rfl
  go_enter Tryz.func138,Tryz.ntmps138;(go_wp2_with fail);generalize hw1 : World.alloc _ _ = w1;have kb : Below w.heap.size w w1:=by rw [← hw1]; exact al_one _ _
  have c0 : w1.cell? ⟨w.heap.size,0,none⟩ = some (.func (.func g) #[] #[]):=by rw [← hw1]; simp
  have hl : w.heap.size < w1.heap.size:=by rw [← hw1]; simp
  have HA : IsText w1 (.func (.func 235) #[] #[.pointer (some ⟨w.heap.size,0,none⟩)]) 1 (fun k L x => s9 (x.getD 0 0) (fetchF L.m 0) ++ [32]) (fun k L x => C9 (fetchF L.m 0)):=⟨_,_,rfl,(enters_of Tryz.func235 (by kernel_rfl) rfl),fun w2 k L A c x b2 ok hv hx => (number1 w1 _ g eg c0 hl s9 C9 hc hlen w2 k L A c x b2 ok hv (fetch_cell _ _) hx).mono fun e w' h => ⟨h.1,fun _ => by obtain ⟨a,_,_,rfl,_,_,_,ha⟩:=hx.one; have:=hlen a _ ha (fetch_cell L.m 0); simp; omega,h.2⟩⟩;have B1:=zqh kb;clear c0 kb hw1;refine (prints_is 1 _ _ (by decide) w1 _ HA).mono ?_;rintro e w2 ⟨d,rfl,hd,bb⟩;have B2:=zqh (below_then B1.out bb);clear B1 bb HA hl;(go_wp2_with fail);go_ret;exact ⟨d,rfl,hd,B2.out⟩
theorem shuffled_is (s : ByteArray) (w : World) : Calls Tryz.prog 46 #[.string s] w (Makes (shufE s.data.toList) w):=by
  have hmf : ∀ (fn : Fn) (first cap : Array Value) (w : World),(Instr.makeFunc fn first cap).run Tryz.prog w = .ok (.func fn first cap) w:=fun _ _ _ _ => rfl
  go_enter Tryz.func46,Tryz.ntmps46;(go_wp2_with fail);go_ret;refine ⟨_,rfl,⟨_,_,rfl,(enters_of Tryz.func76 (by kernel_rfl) rfl),fun w2 k L b2 ok hv => ?_⟩,al_one _ _⟩;exact shuffled1 (w.alloc _) ⟨w.heap.size,0,none⟩ s (by simp) (by simp) w2 k L b2 ok hv
end Go.Proofs.YtlgnijhemfkflaaGreatDoor
