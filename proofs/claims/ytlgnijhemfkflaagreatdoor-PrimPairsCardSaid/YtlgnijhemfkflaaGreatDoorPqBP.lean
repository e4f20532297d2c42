/- Part 42. -/
import Derived.Test.YtlgnijhemfkflaaGreatDoorPqBO
set_option linter.unusedVariables false
set_option linter.unusedSimpArgs false
set_option maxRecDepth 100000
set_option maxHeartbeats 4000000

namespace Go.Proofs.YtlgnijhemfkflaaGreatDoor
open Go.RowKit


theorem does_any (n : Int) (w : World) : Calls Tryz.prog 16 #[.int .i64 n] w fun e w' => e = .returned (.bool (decide (23 ≤ n ∧ n ≤ 129))) ∧ w = w':=by
  by_cases h1 : 23 ≤ n
  · by_cases h2 : n < 130
    · have H:=zqh (decide_eq_true (show 23 ≤ n ∧ n ≤ 129 from ⟨h1,by omega⟩))
      rw [H.out];go_enter Tryz.func16,Tryz.ntmps16;go_wp2;go_ret;exact ⟨rfl,rfl⟩
    · have H:=zqh (decide_eq_false (show ¬ (23 ≤ n ∧ n ≤ 129) from fun h => by omega))
      have g2 : decide (n < 130) = false:=by simp; omega
      rw [H.out];clear h2;go_enter Tryz.func16,Tryz.ntmps16;go_wp2;go_ret;exact ⟨rfl,rfl⟩
  · have H:=zqh (decide_eq_false (show ¬ (23 ≤ n ∧ n ≤ 129) from fun h => by omega))
    have g1 : decide (23 ≤ n) = false:=by simp; omega
    rw [H.out];clear h1;go_enter Tryz.func16,Tryz.ntmps16;go_wp2;go_ret;exact ⟨rfl,rfl⟩
theorem nodup_first {l : DRow} (h : (l.map (·.1)).Nodup) {j : Nat} {k : ByteArray} {F : VmK → VmL → Eff} (hj : l[j]? = some (k,F)) : ∀ (a : Nat),a < j → ∀ x,l[a]? = some x → x.1 ≠ k:=by
  intro a ha x hx e;obtain ⟨h1,e1⟩:=List.getElem?_eq_some_iff.1 hj;obtain ⟨h2,e2⟩:=List.getElem?_eq_some_iff.1 hx;rw [List.Nodup,List.pairwise_iff_getElem] at h;have:=h a j (by simpa using h2) (by simpa using h1) ha;simp [e1,e2] at this;exact this e
theorem nmP_at (m : Nat) (h : m < 130) : primL[m]? = some (nmP m):=by
  have hl : primL.length = 130:=by decide +kernel
  unfold nmP;rw [List.getD_eq_getElem?_getD,List.getElem?_eq_getElem (by omega)];rfl
theorem doE_no {n : Int} (h : ¬ (23 ≤ n ∧ n ≤ 129)) (k : VmK) (L : VmL) : doE n k L = ⟨-24,[],k,L⟩:=by unfold doE; rw [if_neg h]
theorem sts_row {w : World} {g b n c : Nat} {l : List (List UInt8)} (h : Sts w (.slice (some ⟨g,0,none⟩) n c) l) (hne : g ≠ b) (cs : Array Value) : Sts (w.setRow b cs) (.slice (some ⟨g,0,none⟩) n c) l:=by
  obtain ⟨A',c',e,h1,h2,h4⟩:=h;refine ⟨A',c',e,h1,h2,?_⟩;injection e with e1 e2 e3
  subst e1
  rcases h4 with h4 | ⟨g',o,e,hg,hc⟩
  · exact .inl h4
  · injection e with e
    injection e with ea eo _
    subst ea eo;refine .inr ⟨g,0,rfl,by rw [size_setRow]; exact hg,fun j v hv => ?_⟩;have:=hc j v hv;unfold World.cell? at this ⊢;rw [show (w.setRow b cs).heap[(⟨g,0 + j,none⟩ : Addr).block]? = w.heap[(⟨g,0 + j,none⟩ : Addr).block]? from setRow_other w b g cs (by omega)];exact this
theorem sts_is {w : World} {b n c : Nat} {l : List (List UInt8)} (h : Sts w (.slice (some ⟨b,0,none⟩) n c) l) {i : Nat} {s : List UInt8} (hs : l[i]? = some s) : w.cell? ⟨b,i,none⟩ = some (.string (strB s)):=by
  obtain ⟨hi,hv⟩:=List.getElem?_eq_some_iff.1 hs;obtain ⟨g,o,e,hc⟩:=sts_cell h hi;injection e with e
  injection e with e1 e2 _
  subst e1 e2;rw [hv,Nat.zero_add] at hc;exact hc
theorem do_any (k : VmK) (L : VmL) (n : Int) (w : World) (HT : Tab w) (ok : Ok k L) (h : IsVm w k L) : Calls Tryz.prog 14 #[vmV k,.int .i64 n] w (DeedOut (doE n k L) k w):=by
  have V0:=zqh h;have T0:=zqh HT;have ok9:=zqh ok
  by_cases hn : 23 ≤ n ∧ n ≤ 129
  · obtain ⟨m,rfl⟩ : ∃ m : Nat,n = (m : Int):=⟨n.toNat,by omega⟩
    have HQ:=zqh fun w => does_any (m : Int) w
    rw [decide_eq_true hn] at HQ;have hm0 : 23 ≤ m:=by omega
    have hm2 : m < 130:=by omega
    have HM:=zqh (And.intro hm0 hm2);have HN : Hid (primL[m]? = some (nmP m)):=zqh (nmP_at m (by omega));have hm1 : (m : Int) < 130:=by omega
    clear h HT ok hn hm0 hm2;go_enter Tryz.func14,Tryz.ntmps14;go_upto_region 1 with fail
    generalize hw1 : World.alloc (World.alloc _ _) _ = w1;have kb : Below w.heap.size w w1:=by rw [← hw1]; exact al_two _ _ _
    have kx : VBox w1 w.heap.size k:=by rw [← hw1]; exact (in_two w k _).2
    have kz : VBox w1 (w.heap.size + 1) vm0:=by rw [← hw1]; exact in_two0 w _
    have KS : Hid (w1.heap.size = w.heap.size + 1 + 1):=by show _ = _; rw [← hw1]; exact in_twos w _ _
    clear hw1;have X1:=zqh kx;have Z1:=zqh kz;have B1:=zqh kb;clear kx kz kb;(go_wp2_with fail);refine (HQ.out _).mono ?_;rintro e w9 ⟨rfl,rfl⟩;clear HQ;(go_wp2_with fail);refine (names_any _ (T0.out.keep B1.out)).mono ?_;rintro e w2 ⟨rfl,hs,bb⟩;have X2:=zqh (X1.out.keep bb);have Z2:=zqh (Z1.out.keep bb);have B2:=zqh (below_then B1.out bb);have S2:=zqh hs;have HC:=zqh fun w hs => deeds_any m HM.out.1 HM.out.2 w1.heap.size w hs
    clear X1 Z1 B1 bb hs T0;go_upto_region 4 with fail
    refine wp_region_noPanic ?_;refine wp_region_held_drew (S:=fun a9 => Below w.heap.size w a9 ∧ VBox a9 w.heap.size k ∧ (∃ j0,VBox a9 (w.heap.size + 1) j0) ∧ Sts a9 (.slice (some ⟨w1.heap.size,0,none⟩) 130 130) primL) (by kernel_rfl) ?_ (fun hHeld => ?_)
    · exact ⟨B2.out.drew,X2.out,⟨_,Z2.out⟩,S2.out⟩
    refine zqt (i:=0) (v:=?v0a1) ?y0a1 ?r0a1
    case y0a1 =>
      intro u hSu;go_simp;(try with_reducible rfl)
    (try simp only [zq,Act.put]);refine zqt (i:=1) (v:=?v1a1) ?y1a1 ?r1a1
    case y1a1 =>
      intro u hSu;go_simp;(try with_reducible rfl)
    (try simp only [zq,Act.put]);refine zqt (i:=3) (v:=?v3a1) ?y3a1 ?r3a1
    case y3a1 =>
      intro u hSu;go_simp;(try with_reducible rfl)
    (try simp only [zq,Act.put]);refine zqt (i:=4) (v:=?v4a1) ?y4a1 ?r4a1
    case y4a1 =>
      intro u hSu;go_simp;(try with_reducible rfl)
    (try simp only [zq,Act.put]);refine zqt (i:=5) (v:=?v5a1) ?y5a1 ?r5a1
    case y5a1 =>
      intro u hSu;go_simp;(try with_reducible rfl)
    (try simp only [zq,Act.put]);refine zqt (i:=6) (v:=?v6a1) ?y6a1 ?r6a1
    case y6a1 =>
      intro u hSu;(try dsimp only at hSu);have qs:=sts_is hSu.2.2.2 HN.out;go_simp;(try with_reducible rfl)
    (try simp only [zq,Act.put]);refine zqt (i:=8) (v:=vmV k) (fun u hSu => exec_vl _ rfl w.heap.size k rfl hSu.2.1) ?_;(try simp only [zq,Act.put]);refine zqr 2 fun K hK => ?_
    go_simp;refine (HC.out _ hHeld.2.2.2).mono ?_;rintro e u1 ⟨b,l,j9,rfl,hm,hj,hd,bb⟩;obtain ⟨j0,hz⟩:=hHeld.2.2.1;have hN : Below w.heap.size w u1 ∧ VBox u1 w.heap.size k ∧ (∃ j0,VBox u1 (w.heap.size + 1) j0) ∧ Sts u1 (.slice (some ⟨w1.heap.size,0,none⟩) 130 130) primL:=⟨below_then hHeld.1 bb,hHeld.2.1.keep bb,⟨j0,hz.keep bb⟩,hHeld.2.2.2.keep bb⟩;obtain ⟨v9,hv9,hi9⟩:=run_lookD hm (strB (nmP m)) (doF m) j9 hj (nodup_first hd hj);(go_wp2_with fail);clear bb hz hm hj hd;clear hHeld;refine hK.out _ _ hN (fun hHeld => ?_);clear hK K hN;(try simp only [zq,Act.put]);refine zqr 7 fun K hK => ?_
    go_simp;have hN:=hHeld;clear hv9;clear hHeld;refine hK.out _ _ hN (fun hHeld => ?_);clear hK K hN;(try simp only [zq,Act.put]);refine zqr 9 fun K hK => ?_
    obtain ⟨g9,cs9,rfl,eg9,hc9⟩:=hi9;have HD:=zqh (hc9 u1 k L (kp_of (Below.refl _ _)) ok9.out (V0.out.keep hHeld.1));have HB9:=zqh hHeld.1.size;clear hc9;go_simp;refine HD.out.mono ?_;rintro e u2 ⟨j,rfl,hv,hs,hl,bb⟩;obtain ⟨j0,hz⟩:=hHeld.2.2.1;have hN : Below w.heap.size w u2 ∧ VBox u2 w.heap.size k ∧ (∃ j0,VBox u2 (w.heap.size + 1) j0) ∧ Sts u2 (.slice (some ⟨w1.heap.size,0,none⟩) 130 130) primL:=⟨below_then hHeld.1 bb,hHeld.2.1.keep bb,⟨j0,hz.keep bb⟩,hHeld.2.2.2.keep bb⟩;have HZ:=zqh hz.lt;have HV:=zqh hv;have HS:=zqh hs;have HL:=zqh hl;have HZ0:=zqh (hz.keep bb);(go_wp2_with fail);clear bb hz hv hs hl;clear hHeld;refine hK.out _ _ hN (fun hHeld => ?_);clear hK K hN;(try simp only [zq,Act.put]);refine zqt (i:=10) (v:=?v10a1) ?y10a1 ?r10a1
    case y10a1 =>
      intro u hSu;go_simp;(try with_reducible rfl)
    (try simp only [zq,Act.put]);refine zqt (i:=11) (v:=?v11a1) ?y11a1 ?r11a1
    case y11a1 =>
      intro u hSu;go_simp;(try with_reducible rfl)
    (try simp only [zq,Act.put]);refine zqr 12 fun K hK => ?_
    obtain ⟨j7,hz⟩:=hHeld.2.2.1;refine step_vst rfl _ _ rfl (w.heap.size + 1) j7 j rfl rfl hz ?_;have kb2:=below_setRow hHeld.1 (show w.heap.size ≤ w.heap.size + 1 by omega) (vmC j);have hr2:=vrow hz j;refine hK.out _ _ ⟨kb2,vrow_fr hHeld.2.1 (by omega) _,⟨j,hr2⟩,sts_row hHeld.2.2.2 (by have:=KS.out; omega) _⟩ (fun hHeld2 => ?_);clear hK K;(try simp only [zq,Act.put]);refine zqt (i:=13) (v:=?v13a1) ?y13a1 ?r13a1
    case y13a1 =>
      intro u hSu;go_simp;(try with_reducible rfl)
    (try simp only [zq,Act.put]);refine wpAnyH_done (by kernel_rfl) ?_ _;refine NoPanic.normal ?_;(go_wp2_with fail);refine bodyPost_ret (res_ct rfl _ _ _ _ rfl hr2) rfl ⟨j,rfl,?_,HS.out,HL.out.le HB9.out,kb2⟩;refine V0.out.ex (X:=fun g => g = w.heap.size + 1) HV.out HL.out (Ex.row (X:=fun g => g = w.heap.size + 1) (b:=w.heap.size + 1) (Ex.refl _ _) rfl _) fun g hg e => ?_
    subst e;exact ⟨by omega,HZ.out,vbox_nou8 HZ0.out⟩
  · have HQ:=zqh fun w => does_any n w
    rw [decide_eq_false hn] at HQ;rw [doE_no hn];clear h HT ok hn;go_enter Tryz.func14,Tryz.ntmps14;go_upto_region 1 with fail
    generalize hw1 : World.alloc (World.alloc _ _) _ = w1;have kb : Below w.heap.size w w1:=by rw [← hw1]; exact al_two _ _ _
    have kx : VBox w1 w.heap.size k:=by rw [← hw1]; exact (in_two w k _).2
    have kz : VBox w1 (w.heap.size + 1) vm0:=by rw [← hw1]; exact in_two0 w _
    have KS : Hid (w1.heap.size = w.heap.size + 1 + 1):=by show _ = _; rw [← hw1]; exact in_twos w _ _
    clear hw1;have X1:=zqh kx;have Z1:=zqh kz;have B1:=zqh kb;clear kx kz kb;(go_wp2_with fail);refine (HQ.out _).mono ?_;rintro e w9 ⟨rfl,rfl⟩;clear HQ;(go_wp2_with (first | (refine wpList_vload (by rfl) _ rfl w.heap.size k rfl X1.out ?_) | (refine wpList_vstore (by rfl) _ _ rfl _ vm0 k rfl rfl Z1.out ?_)));have kb2:=below_setRow B1.out (show w.heap.size ≤ w.heap.size + 1 by omega) (vmC k);have hv2:=vrow Z1.out k;refine bodyPost_ret (res_ct rfl _ _ _ _ rfl hv2) rfl ⟨k,rfl,V0.out.keep kb2,Sc.refl _,MLoc.refl _ _,kb2⟩
end Go.Proofs.YtlgnijhemfkflaaGreatDoor

namespace Go.Proofs.YtlgnijhemfkflaaGreatDoor
open Go.RowKit


theorem drew_bel0 (w : World) : Below w.heap.size w w.drew:=⟨rfl,rfl,rfl,Nat.le_refl _,fun _ _ => rfl⟩
theorem al_th0 {w0 w : World} {o : Obj} (h : Below w0.heap.size w0 w) : Below w0.heap.size w0 (w.alloc o):=h.alloc h.size o
structure DoneAt (wS wx : World) (b : Nat) (j2 j : VmK) (E : Eff) : Prop where
  lo : wS.heap.size ≤ b
  box : VBox wx b j2
  vm : IsVm wx j2 E.L
  sc : Sc j2 E.K
  loc : MLoc wS.heap.size j2 j
  bel : Below wS.heap.size wS wx
def stS : VmK:={ vm0 with cm:=2048,cd:=32,cr:=32,cw:=200,co:=500,here:=1368 }
def stL (l : List Int) : VmL:={ newL 2048 with d:=l }
theorem res_c1 {fn : Func} {p : Tmp} (h : fn.results = #[.cell p 36]) (tmps : Array Value) (w : World) (b : Nat) (k : VmK) (hp : tmps.getD p undef = .pointer (some ⟨b,0,none⟩)) (hb : VBox w b k) :
    (results fn tmps).run Tryz.prog w = .ok (vmV k) w:=by
  have hp' : tmps[p]?.getD undef = .pointer (some ⟨b,0,none⟩):=by simpa using hp
  simp [results,h,hp',asAddr,vm_load hb]
theorem vbox_nostr {w : World} {b : Nat} {k : VmK} (h : VBox w b k) (o : Nat) (s : ByteArray) : w.cell? ⟨b,o,none⟩ ≠ some (.string s):=by
  intro e;unfold VBox at h;unfold World.cell? at e;rw [h] at e;have e' : (vmC k)[o]? = some (.string s):=by simpa using e
  have hm:=Array.mem_of_getElem? e';simp at hm
theorem newW_first : ∃ s,(wds (newW 167))[0]? = some (.string s):=⟨strB (wordN 0).nm,by kernel_rfl⟩
theorem new_ex {u V : World} {k j : VmK} {N b : Nat} (h : IsVm u k (newL N)) (x : Ex (fun g => g = b) u V) (hb : VBox u b j) : IsVm V k (newL N):=by
  have hv : ∀ g,g < u.heap.size → V.heap[g]? = u.heap[g]? ∨ NoU8 u g:=fun g hg => by
    by_cases e : g = b
    · subst e; exact .inr (vbox_nou8 hb)
    · exact .inl (x.same g hg e)
  refine ⟨?_,⟨h.d.1,h.d.2.1,h.d.2.2.1,.inl rfl⟩,⟨h.r.1,h.r.2.1,h.r.2.2.1,.inl rfl⟩,?_,?_,byt_across h.o x.size hv,byt_across h.q x.size hv,?_,?_⟩
  · obtain ⟨b0,o0,e,h1,A,c,qs,g1,g2,g3,g4,g5⟩:=h.m
    have hq : qs = []:=by
      have : qs.length = 0:=g5.1;exact List.eq_nil_of_length_eq_zero this
    subst hq;exact ⟨b0,o0,e,byt_across h1 x.size hv,A,c,[],g1,g2,g3,.inl rfl,g5.1,fun i q p hq hp => by cases hq⟩
  · obtain ⟨A',c',e,h1,h2,_⟩:=h.f
    exact ⟨A',c',e,h1,h2,.inl rfl⟩
  · obtain ⟨A',c',e,h1,h2,h4⟩:=h.dict
    refine ⟨A',c',e,h1,h2,?_⟩
    rcases h4 with h4 | ⟨g,o,e,hg,hc⟩
    · exact .inl h4
    · have hgb : g ≠ b:=by
        intro eg;subst eg;obtain ⟨s,hs⟩:=newW_first;exact vbox_nostr hb _ _ (hc 0 _ hs)
      refine .inr ⟨g,o,e,Nat.lt_of_lt_of_le hg x.size,fun i v hi => ?_⟩;have:=hc i v hi;unfold World.cell? at this ⊢;rw [x.same g hg hgb];exact this
  · obtain ⟨A',c',e,h1,h2,_⟩:=h.e
    exact ⟨A',c',e,h1,h2,.inl rfl⟩
  · obtain ⟨A',c',e,h1,h2,_⟩:=h.h
    exact ⟨A',c',e,h1,h2,.inl rfl⟩
theorem stocked_any (A : Option Addr) (n c : Nat) (l : List Int) (w : World) (h : Row w A n c l) : Calls Tryz.prog 21 #[.slice A n c] w fun e w' => ∃ k,e = .returned (vmV k) ∧ IsVm w' k (stL l) ∧ Sc k stS ∧ k.dA = A ∧ Below w.heap.size w w':=by
  have HR:=zqh h;clear h;go_enter Tryz.func21,Tryz.ntmps21;go_upto_region 1 with fail
  generalize hw1 : World.alloc _ _ = w1;have kb : Below w.heap.size w w1:=by rw [← hw1]; exact al_one _ _
  have kz : VBox w1 w.heap.size vm0:=by rw [← hw1]; exact vbox_zero _
  have KS : Hid (w1.heap.size = w.heap.size + 1):=by show _ = _; rw [← hw1]; simp
  clear hw1;have Z1:=zqh kz;have B1:=zqh kb;clear kz kb;(go_wp2_with fail);refine (rnew_any 2048 32 32 200 500 w1).mono ?_;rintro e w2 ⟨h1,_,bb⟩;obtain ⟨L,g,A2,c2,hL,rfl,hv⟩:=h1 (by decide);obtain rfl : L = 2048:=by omega
  have V2:=zqh hv;have S2 : Hid (Sc (newK 2048 32 32 200 500 g A2 c2) stS):=⟨rfl,rfl,rfl,rfl,rfl,rfl,rfl,rfl,rfl,rfl,rfl,rfl,rfl⟩;have Z2:=zqh (Z1.out.keep bb);have B2:=zqh (below_then B1.out bb);have KS2 : Hid (w.heap.size + 1 ≤ w2.heap.size):=by show _ ≤ _; have:=bb.size; have:=KS.out; omega
  clear hv bb hL Z1 B1 h1;generalize newK 2048 32 32 200 500 g A2 c2 = k at V2 S2 ⊢;go_upto_region 2 with (refine wpList_vstore (by rfl) _ _ rfl _ vm0 k rfl rfl (vbox_zero _) ?_)
  generalize hw3 : World.setRow _ _ _ = w3;have kb : Below w2.heap.size w2 w3:=by rw [← hw3]; exact below_setRow (al_one _ _) (Nat.le_refl _) _
  have hx : VBox w3 w2.heap.size k:=by rw [← hw3]; exact vrow (vbox_zero w2) k
  have kb0:=kb.size;clear hw3;have X3:=zqh hx;have Z3:=zqh (Z2.out.keep kb);have V3:=zqh (V2.out.keep kb);have B3:=zqh (below_then B2.out kb);have F8:=X3.out.free.2.2.2.2.2.2.2.2.1;obtain ⟨p0,p1,p2,p3,p4,p5,p6,p7,P8,p9,p10,p11,p12,p13,p14,p15,p16,p17,p18,p19,p20,p21,p22⟩:=X3.out.use;clear p0 p1 p2 p3 p4 p5 p6 p7 p9 p10 p11 p12 p13 p14 p15 p16 p17 p18 p19 p20 p21 p22;clear kb hx Z2 V2 B2;go_upto_region 3 with fail
  generalize hV : World.setCell _ _ _ = V;have XW : Hid (VBox V w2.heap.size { k with dA:=A,dn:=n,dc:=c }):=by show VBox _ _ _; rw [← hV]; exact X3.out.put_d _ _ _
  have ZW : Hid (VBox V w.heap.size vm0):=by show VBox _ _ _; rw [← hV]; exact vset_far Z3.out (by have:=KS2.out; omega)
  have BW : Hid (Below w.heap.size w V):=by show Below _ _ _; rw [← hV]; exact B3.out.setCell (by have:=KS2.out; show w.heap.size ≤ w2.heap.size; omega) _
  have VW : Hid (IsVm V k (newL 2048)):=by show IsVm _ _ _; rw [← hV]; exact new_ex V3.out ((Ex.refl _ _).cell (X:=fun g => g = w2.heap.size) (b:=w2.heap.size) rfl _) X3.out
  clear hV F8 P8 X3 Z3 V3 B3;(go_wp2_with (first | (refine wpList_vload (by rfl) _ rfl _ _ rfl XW.out ?_) | (refine wpList_vstore (by rfl) _ _ rfl _ vm0 _ rfl rfl ZW.out ?_)));have kb2:=below_setRow BW.out (Nat.le_refl w.heap.size) (vmC { k with dA:=A,dn:=n,dc:=c });have hf:=new_ex VW.out (Ex.row (X:=fun g => g = w.heap.size) (b:=w.heap.size) (Ex.refl _ _) rfl (vmC { k with dA:=A,dn:=n,dc:=c })) ZW.out;refine bodyPost_ret (res_c1 rfl _ _ _ _ rfl (vrow ZW.out _)) rfl ⟨{ k with dA:=A,dn:=n,dc:=c },rfl,⟨hf.m,HR.out.keep kb2,hf.r,hf.f,hf.dict,hf.o,hf.q,hf.e,hf.h⟩,⟨S2.out.cm,S2.out.cd,S2.out.cr,S2.out.cw,S2.out.co,S2.out.here,S2.out.last,S2.out.qo,S2.out.free,S2.out.next,S2.out.arg,S2.out.self,S2.out.now⟩,rfl,kb2⟩
structure RunAt (ns : List Nat) (k : VmK) (L : VmL) (w : World) (i : Nat) (wr : World) (j k' : VmK) (L' : VmL) : Prop where
  le : i ≤ ns.length
  res : runE (ns.drop i) k' L' = runE ns k L
  ok : OkRun (ns.drop i) k' L'
  sc : Sc j k'
  vm : IsVm wr j L'
  loc : MLoc (w.heap.size + 2) j k
  box : VBox wr w.heap.size j
  zbox : VBox wr (w.heap.size + 1) vm0
  bel : Below w.heap.size w wr
theorem run_any (ns : List Nat) (hns : ∀ n ∈ ns,n < 130) (hl : ns.length ≤ 100) (k : VmK) (L : VmL) (A : Option Addr) (c : Nat) (w : World) (HT : Tab w) (h : IsVm w k L) (ho : OkRun ns k L) (hs : Sts w (.slice A ns.length c) (ns.map nmP)) :
    Calls Tryz.prog 20 #[vmV k,.slice A ns.length c] w fun e w' => ∃ j,e = .returned (.tuple #[vmV j,.bool (runE ns k L).1]) ∧ IsVm w' j (runE ns k L).2.2 ∧ Sc j (runE ns k L).2.1 ∧ MLoc w.heap.size j k ∧ Below w.heap.size w w':=by
  have V0:=zqh h;have T0:=zqh HT;have S0:=zqh hs;have HO:=zqh ho;have HN:=zqh hns;have HLL : Hid (ns.length ≤ 100):=hl;clear h HT hs ho hns hl;go_enter Tryz.func20,Tryz.ntmps20;go_upto_region 1 with fail
  generalize hw1 : World.alloc (World.alloc _ _) _ = w1;have kb : Below w.heap.size w w1:=by rw [← hw1]; exact al_two _ _ _
  have kx : VBox w1 w.heap.size k:=by rw [← hw1]; exact (in_two w k _).2
  have kz : VBox w1 (w.heap.size + 1) vm0:=by rw [← hw1]; exact in_two0 w _
  have KS : Hid (w1.heap.size = w.heap.size + 1 + 1):=by show _ = _; rw [← hw1]; exact in_twos w _ _
  clear hw1;have X1:=zqh kx;have Z1:=zqh kz;have B1:=zqh kb;clear kx kz kb;(go_wp2_with fail)
  go_loopw [6] (fun s6 wr => ∃ (i : Nat) (j k' : VmK) (L' : VmL),s6 = .int .i64 (i : Int) ∧ Hid (RunAt ns k L w i wr j k' L')) (fun s6 _ => ns.length - (intOf s6).toNat)
  case atStart => exact ⟨0,k,k,L,rfl,zqh ⟨Nat.zero_le _,rfl,HO.out,Sc.refl _,V0.out.keep B1.out,MLoc.refl _ _,X1.out,Z1.out,B1.out⟩⟩
  case round =>
    obtain ⟨i,j,k',L',rfl,HR⟩:=hrel;have XB:=zqh HR.out.box;have ZB:=zqh HR.out.zbox
    by_cases hil : i < ns.length
    · obtain ⟨n,hn⟩ : ∃ n,ns[i] = n:=⟨_,rfl⟩
      have hd : ns.drop i = n :: ns.drop (i + 1):=by rw [List.drop_eq_getElem_cons hil,hn]
      have h130 : n < 130:=HN.out n (by rw [← hn]; exact List.getElem_mem hil);obtain ⟨g,o,rfl,c1⟩:=sts_cell (S0.out.keep HR.out.bel) (k:=i) (by simpa using hil);have e1 : (ns.map nmP)[i]'(by simpa using hil) = nmP n:=by simp [hn]
      rw [e1] at c1;have C1:=zqh c1;have HGL : Hid (g < wr.heap.size):=zqh (World.block_lt_of_cell? _ _ c1);have TT : Hid (Tab wr):=zqh (T0.out.keep HR.out.bel);have VV:=zqh HR.out.vm;have NC:=zqh fun w => number_any n h130 w
      obtain ⟨hok,hnx⟩ : Ok k' L' ∧ ((doE (n : Int) k' L').c = 0 → OkRun (ns.drop (i + 1)) (doE (n : Int) k' L').K (doE (n : Int) k' L').L):=by
        have:=HR.out.ok;rw [hd] at this;exact this
      have DC:=zqh fun u ht hv => do_any j L' (n : Int) u ht (hok.sc HR.out.sc) hv
      have hsc:=doE_sc HR.out.sc (n : Int) L';have RS : Hid (runE ns k L = if (doE (n : Int) k' L').c = 0 then runE (ns.drop (i + 1)) (doE (n : Int) k' L').K (doE (n : Int) k' L').L else (false,k',L')):=by
        show _ = _;rw [← HR.out.res,hd];rfl
      generalize doE (n : Int) k' L' = F at hnx hsc RS;generalize doE (n : Int) j L' = E at hsc DC;have SC:=zqh hsc;have NX:=zqh hnx;have hil' : (i : Int) < (ns.length : Int):=by omega
      have hl9:=HLL.out;have HIL:=zqh hil;clear hd h130 c1 e1 hok hnx hsc hn hil;go_upto_region 4 with fail
      go_cut [7,8] (fun s7 s8 wx => ∃ b j2,s7 = .pointer (some ⟨b,0,none⟩) ∧ s8 = .int .i64 E.c ∧ Hid (DoneAt wr wx b j2 j E))
      case first =>
        refine wp_region_noPanic ?_;refine wp_region_held_drew (S:=fun a9 => Below wr.heap.size wr a9) (by kernel_rfl) (drew_bel0 _) (fun hHeld => ?_);refine zqt (i:=0) (v:=vmV j) (fun u hSu => exec_vl _ rfl w.heap.size j rfl (XB.out.keep hSu)) ?_;(try simp only [zq,Act.put]);refine zqt (i:=1) (v:=?v1n12) ?y1n12 ?r1n12
        case y1n12 =>
          intro u hSu;go_simp;(try with_reducible rfl)
        (try simp only [zq,Act.put]);refine zqt (i:=2) (v:=?v2n13) ?y2n13 ?r2n13
        case y2n13 =>
          intro u hSu;go_simp;(try with_reducible rfl)
        (try simp only [zq,Act.put]);refine zqt (i:=3) (v:=?v3n14) ?y3n14 ?r3n14
        case y3n14 =>
          intro u hSu;(try dsimp only at hSu);have hg2:=HGL.out;go_simp;(try with_reducible rfl)
        (try simp only [zq,Act.put]);refine zqt (i:=4) (v:=?v4n15) ?y4n15 ?r4n15
        case y4n15 =>
          intro u hSu;(try dsimp only at hSu);have q0:=(hSu.cell (p:=⟨g,o + i,none⟩) HGL.out).trans C1.out;go_simp;(try with_reducible rfl)
        (try simp only [zq,Act.put]);have W9:=zqh (Below.refl wr.heap.size wr);refine wpAnyH_ready (rs:=[5,10]) (by kernel_rfl) (by simp) ?_;refine AllReadyH.cons (o:=_) rfl (fun K hK => ?_) (AllReadyH.cons (o:=_) rfl (fun K hK => ?_) AllReadyH.nil)
        · skip
          go_simp;refine (NC.out _).mono ?_;rintro e uzn16 ⟨rfl,b9⟩;have hN : Below wr.heap.size wr uzn16:=by first | exact below_then hHeld b9 | exact below_then (below_then hHeld (drew_bel0 _)) b9
          (go_wp2_with fail);clear hHeld b9;refine hK.out _ _ hN (fun hHeld => ?_);clear hK K hN;(try simp only [zq,Act.put]);refine wpAnyH_ready (rs:=[6,10]) (by kernel_rfl) (by simp) ?_;refine AllReadyH.cons (o:=_) rfl (fun K hK => ?_) (AllReadyH.cons (o:=_) rfl (fun K hK => ?_) AllReadyH.nil)
          · skip
            go_simp;have hltuzn17:=hHeld.size;refine (DC.out _ (TT.out.keep hHeld) (VV.out.keep hHeld)).mono ?_;rintro e uzn17 ⟨j2,rfl,hv,hs,hl,b9⟩;have HV:=zqh hv;have HS:=zqh hs;have HL:=zqh hl;have HU:=zqh (show wr.heap.size ≤ (uzn16).heap.size from hltuzn17);clear hv hs hl hltuzn17;have hN : Below wr.heap.size wr uzn17:=by first | exact below_then hHeld b9 | exact below_then (below_then hHeld (drew_bel0 _)) b9
            (go_wp2_with fail);clear hHeld b9;refine hK.out _ _ hN (fun hHeld => ?_);clear hK K hN;(try simp only [zq,Act.put]);refine zqt (i:=7) (v:=?v7n18) ?y7n18 ?r7n18
            case y7n18 =>
              intro u hSu;go_simp;(try with_reducible rfl)
            (try simp only [zq,Act.put]);refine zqt (i:=8) (v:=?v8n19) ?y8n19 ?r8n19
            case y8n19 =>
              intro u hSu;go_simp;(try with_reducible rfl)
            (try simp only [zq,Act.put]);refine zqt (i:=9) (v:=?v9n110) ?y9n110 ?r9n110
            case y9n110 =>
              intro u hSu;go_simp;(try with_reducible rfl)
            (try simp only [zq,Act.put]);refine zqr 10 fun K hK => ?_
            go_simp;refine hK.out _ _ (al_th0 hHeld) (fun hHeld2 => ?_);clear hK K;(try simp only [zq,Act.put]);generalize hwa : World.alloc _ _ = uzn111 at hHeld2 ⊢;have hz : VBox uzn111 uzn17.heap.size vm0:=by rw [← hwa]; exact vbox_zero _
            have kz : Below (uzn17).heap.size (uzn17) uzn111:=by rw [← hwa]; exact al_one _ _
            have hge : wr.heap.size ≤ uzn17.heap.size:=hHeld.size;have HZ:=zqh kz;clear hwa hHeld kz;have hHeld:=hHeld2;clear hHeld2;refine zqr 11 fun K hK => ?_
            refine step_vst rfl _ _ rfl (uzn17.heap.size) vm0 j2 rfl rfl hz ?_;have kb2:=below_setRow hHeld hge (vmC j2);have hr2:=vrow hz j2;refine hK.out _ _ kb2 (fun hHeld2 => ?_);clear hK K;(try simp only [zq,Act.put]);refine zqt (i:=12) (v:=?v12n113) ?y12n113 ?r12n113
            case y12n113 =>
              intro u hSu;go_simp;(try with_reducible rfl)
            (try simp only [zq,Act.put]);refine wpAnyH_done (by kernel_rfl) ?_ _;refine NoPanic.normal ?_;(go_wp2_with fail);go_meet;refine ⟨uzn17.heap.size,j2,rfl,rfl,zqh ⟨hge,hr2,?_,HS.out,HL.out.le HU.out,kb2⟩⟩;exact IsVm.ex (X:=fun g => g = uzn17.heap.size) VV.out HV.out HL.out (Ex.row (X:=fun g => g = uzn17.heap.size) (b:=uzn17.heap.size) ((Ex.refl _ _).below HZ.out) rfl _) fun g hg e => by subst e; exact absurd hg (Nat.lt_irrefl _)
          · skip
            go_simp;refine hK.out _ _ (al_th0 hHeld) (fun hHeld2 => ?_);clear hK K;(try simp only [zq,Act.put]);generalize hwa : World.alloc _ _ = uzn114 at hHeld2 ⊢;have hz : VBox uzn114 uzn16.heap.size vm0:=by rw [← hwa]; exact vbox_zero _
            have kz : Below (uzn16).heap.size (uzn16) uzn114:=by rw [← hwa]; exact al_one _ _
            have hge : wr.heap.size ≤ uzn16.heap.size:=hHeld.size;clear hwa hHeld kz;have hHeld:=hHeld2;clear hHeld2;refine zqr 6 fun K hK => ?_
            go_simp;have hltuzn115:=hHeld.size;refine (DC.out _ (TT.out.keep hHeld) (VV.out.keep hHeld)).mono ?_;rintro e uzn115 ⟨j2,rfl,hv,hs,hl,b9⟩;have HV:=zqh hv;have HS:=zqh hs;have HL:=zqh hl;have HU:=zqh (show wr.heap.size ≤ (uzn114).heap.size from hltuzn115);clear hv hs hl hltuzn115;have hz1 : VBox uzn115 (uzn16.heap.size) vm0:=by first | exact hz.keep b9 | exact VBox.keep (w:=World.drew uzn114) hz b9
            have HZ1:=zqh hz.lt;have HZ2:=zqh hz1;clear hz;have hz:=hz1;clear hz1;have hN : Below wr.heap.size wr uzn115:=by first | exact below_then hHeld b9 | exact below_then (below_then hHeld (drew_bel0 _)) b9
            (go_wp2_with fail);clear hHeld b9;refine hK.out _ _ hN (fun hHeld => ?_);clear hK K hN;(try simp only [zq,Act.put]);refine zqt (i:=7) (v:=?v7n116) ?y7n116 ?r7n116
            case y7n116 =>
              intro u hSu;go_simp;(try with_reducible rfl)
            (try simp only [zq,Act.put]);refine zqt (i:=8) (v:=?v8n117) ?y8n117 ?r8n117
            case y8n117 =>
              intro u hSu;go_simp;(try with_reducible rfl)
            (try simp only [zq,Act.put]);refine zqt (i:=9) (v:=?v9n118) ?y9n118 ?r9n118
            case y9n118 =>
              intro u hSu;go_simp;(try with_reducible rfl)
            (try simp only [zq,Act.put]);refine zqr 11 fun K hK => ?_
            refine step_vst rfl _ _ rfl (uzn16.heap.size) vm0 j2 rfl rfl hz ?_;have kb2:=below_setRow hHeld hge (vmC j2);have hr2:=vrow hz j2;refine hK.out _ _ kb2 (fun hHeld2 => ?_);clear hK K;(try simp only [zq,Act.put]);refine zqt (i:=12) (v:=?v12n120) ?y12n120 ?r12n120
            case y12n120 =>
              intro u hSu;go_simp;(try with_reducible rfl)
            (try simp only [zq,Act.put]);refine wpAnyH_done (by kernel_rfl) ?_ _;refine NoPanic.normal ?_;(go_wp2_with fail);go_meet;refine ⟨uzn16.heap.size,j2,rfl,rfl,zqh ⟨hge,hr2,?_,HS.out,HL.out.le HU.out,kb2⟩⟩;exact IsVm.ex (X:=fun g => g = uzn16.heap.size) VV.out HV.out HL.out (Ex.row (X:=fun g => g = uzn16.heap.size) (b:=uzn16.heap.size) (Ex.refl _ _) rfl _) fun g hg e => by subst e; exact ⟨hge,HZ1.out,vbox_nou8 HZ2.out⟩
        · skip
          go_simp;refine hK.out _ _ (al_th0 hHeld) (fun hHeld2 => ?_);clear hK K;(try simp only [zq,Act.put]);generalize hwa : World.alloc _ _ = uzn121 at hHeld2 ⊢;have hz : VBox uzn121 wr.drew.heap.size vm0:=by rw [← hwa]; exact vbox_zero _
          have kz : Below (wr).heap.size (wr) uzn121:=by rw [← hwa]; exact al_one _ _
          have hge : wr.heap.size ≤ wr.drew.heap.size:=hHeld.size;clear hwa hHeld kz;have hHeld:=hHeld2;clear hHeld2;refine zqr 5 fun K hK => ?_
          go_simp;refine (NC.out _).mono ?_;rintro e uzn122 ⟨rfl,b9⟩;have hz1 : VBox uzn122 (wr.drew.heap.size) vm0:=by first | exact hz.keep b9 | exact VBox.keep (w:=World.drew uzn121) hz b9
          clear hz;have hz:=hz1;clear hz1;have hN : Below wr.heap.size wr uzn122:=by first | exact below_then hHeld b9 | exact below_then (below_then hHeld (drew_bel0 _)) b9
          (go_wp2_with fail);clear hHeld b9;refine hK.out _ _ hN (fun hHeld => ?_);clear hK K hN;(try simp only [zq,Act.put]);refine zqr 6 fun K hK => ?_
          go_simp;have hltuzn123:=hHeld.size;refine (DC.out _ (TT.out.keep hHeld) (VV.out.keep hHeld)).mono ?_;rintro e uzn123 ⟨j2,rfl,hv,hs,hl,b9⟩;have HV:=zqh hv;have HS:=zqh hs;have HL:=zqh hl;have HU:=zqh (show wr.heap.size ≤ (uzn122).heap.size from hltuzn123);clear hv hs hl hltuzn123;have hz1 : VBox uzn123 (wr.drew.heap.size) vm0:=by first | exact hz.keep b9 | exact VBox.keep (w:=World.drew uzn122) hz b9
          have HZ1:=zqh hz.lt;have HZ2:=zqh hz1;clear hz;have hz:=hz1;clear hz1;have hN : Below wr.heap.size wr uzn123:=by first | exact below_then hHeld b9 | exact below_then (below_then hHeld (drew_bel0 _)) b9
          (go_wp2_with fail);clear hHeld b9;refine hK.out _ _ hN (fun hHeld => ?_);clear hK K hN;(try simp only [zq,Act.put]);refine zqt (i:=7) (v:=?v7n124) ?y7n124 ?r7n124
          case y7n124 =>
            intro u hSu;go_simp;(try with_reducible rfl)
          (try simp only [zq,Act.put]);refine zqt (i:=8) (v:=?v8n125) ?y8n125 ?r8n125
          case y8n125 =>
            intro u hSu;go_simp;(try with_reducible rfl)
          (try simp only [zq,Act.put]);refine zqt (i:=9) (v:=?v9n126) ?y9n126 ?r9n126
          case y9n126 =>
            intro u hSu;go_simp;(try with_reducible rfl)
          (try simp only [zq,Act.put]);refine zqr 11 fun K hK => ?_
          refine step_vst rfl _ _ rfl (wr.drew.heap.size) vm0 j2 rfl rfl hz ?_;have kb2:=below_setRow hHeld hge (vmC j2);have hr2:=vrow hz j2;refine hK.out _ _ kb2 (fun hHeld2 => ?_);clear hK K;(try simp only [zq,Act.put]);refine zqt (i:=12) (v:=?v12n128) ?y12n128 ?r12n128
          case y12n128 =>
            intro u hSu;go_simp;(try with_reducible rfl)
          (try simp only [zq,Act.put]);refine wpAnyH_done (by kernel_rfl) ?_ _;refine NoPanic.normal ?_;(go_wp2_with fail);go_meet;refine ⟨wr.drew.heap.size,j2,rfl,rfl,zqh ⟨hge,hr2,?_,HS.out,HL.out.le HU.out,kb2⟩⟩;exact IsVm.ex (X:=fun g => g = wr.drew.heap.size) VV.out HV.out HL.out (Ex.row (X:=fun g => g = wr.drew.heap.size) (b:=wr.drew.heap.size) (Ex.refl _ _) rfl _) fun g hg e => by subst e; exact ⟨hge,HZ1.out,vbox_nou8 HZ2.out⟩
      case rest =>
        obtain ⟨b,j2,rfl,rfl,HD⟩:=hcut;have ZB2:=zqh (ZB.out.keep HD.out.bel);have XB2:=zqh (XB.out.keep HD.out.bel);have BX:=zqh HD.out.box
        by_cases hc : E.c = 0
        · have g1 : (E.c != 0) = false:=by simp [hc]
          have HC:=zqh hc;clear hc;go_upto_region 3 with (first | (refine wpList_vload (by rfl) _ rfl b j2 rfl BX.out ?_) | (refine wpList_vstore (by rfl) _ _ rfl w.heap.size j j2 rfl rfl XB2.out ?_))
          have bl:=HD.out.bel.size;generalize hv : World.setRow _ _ _ = V;have P1 : VBox V w.heap.size j2:=by rw [← hv]; exact vrow XB2.out _
          have P2 : VBox V (w.heap.size + 1) vm0:=by rw [← hv]; exact vrow_fr ZB2.out (by omega) _
          have P3 : Below w.heap.size w V:=by rw [← hv]; exact below_setRow (below_then HR.out.bel HD.out.bel) (Nat.le_refl _) _
          have ML : MLoc (w.heap.size + 2) j2 k:=(HD.out.loc.le (by have:=ZB.out.lt; omega)).trans HR.out.loc;have P4 : IsVm V j2 E.L:=by
            rw [← hv];exact IsVm.ex (X:=fun g => g = w.heap.size) V0.out HD.out.vm ML (Ex.row (X:=fun g => g = w.heap.size) (b:=w.heap.size) (Ex.refl _ _) rfl _) fun g hg e => by subst e; exact ⟨Nat.le_refl _,by omega,vbox_nou8 XB2.out⟩
          have R2 : Hid (RunAt ns k L w (i + 1) V j2 F.K F.L):=by
            obtain ⟨s1,s2,s3,s4⟩:=SC.out;have hF : F.c = 0:=by rw [← s1]; exact HC.out
            refine ⟨HIL.out,?_,NX.out hF,HD.out.sc.trans s4,by rw [← s3]; exact P4,ML,P1,P2,P3⟩;have:=RS.out;rw [if_pos hF] at this;exact this.symm
          clear hv P1 P2 P3 P4 ML bl;(go_wp2_with fail)
          go_roundw
          case rel => exact ⟨i + 1,j2,F.K,F.L,by simp,R2⟩
          case measure => have:=HIL.out; simp [intOf]; omega
        · have g1 : (E.c != 0) = true:=by simp [hc]
          have HC : Hid (E.c ≠ 0):=hc;clear hc;(go_wp2_with (first | (refine wpList_vload (by rfl) _ rfl w.heap.size j rfl XB2.out ?_) | (refine wpList_vstore (by rfl) _ _ rfl _ vm0 j rfl rfl ZB2.out ?_)));have bl:=HD.out.bel.size;have kb2:=below_setRow (below_then HR.out.bel HD.out.bel) (show w.heap.size ≤ w.heap.size + 1 by omega) (vmC j);have P4:=IsVm.ex (X:=fun g => g = w.heap.size + 1) V0.out (HR.out.vm.keep HD.out.bel) HR.out.loc (Ex.row (X:=fun g => g = w.heap.size + 1) (b:=w.heap.size + 1) (Ex.refl _ _) rfl (vmC j)) fun g hg e => by subst e; exact ⟨by omega,by omega,vbox_nou8 ZB2.out⟩
          have hF : ¬ F.c = 0:=by have:=SC.out.1; have:=HC.out; omega
          have hR:=RS.out;rw [if_neg hF] at hR;refine bodyPost_ret (res_ct rfl _ _ _ _ rfl (vrow ZB2.out j)) rfl ⟨j,by rw [hR]; first | done | rfl,by rw [hR]; exact P4,by rw [hR]; exact HR.out.sc,HR.out.loc.le (by omega),kb2⟩
    · have hi2:=HR.out.le
      obtain rfl : i = ns.length:=by omega
      have hkk : decide ((ns.length : Int) < (ns.length : Int)) = false:=by simp
      have RS : Hid (runE ns k L = (true,k',L')):=by
        show _ = _;rw [← HR.out.res,List.drop_length];rfl
      clear hil hi2;(go_wp2_with (first | (refine wpList_vload (by rfl) _ rfl w.heap.size j rfl XB.out ?_) | (refine wpList_vstore (by rfl) _ _ rfl _ vm0 j rfl rfl ZB.out ?_)));have kb2:=below_setRow HR.out.bel (show w.heap.size ≤ w.heap.size + 1 by omega) (vmC j);have P4:=IsVm.ex (X:=fun g => g = w.heap.size + 1) V0.out HR.out.vm HR.out.loc (Ex.row (X:=fun g => g = w.heap.size + 1) (b:=w.heap.size + 1) (Ex.refl _ _) rfl (vmC j)) fun g hg e => by subst e; exact ⟨by omega,by omega,vbox_nou8 ZB.out⟩
      have hR:=RS.out;refine bodyPost_ret (res_ct rfl _ _ _ _ rfl (vrow ZB.out j)) rfl ⟨j,by rw [hR]; first | done | rfl,by rw [hR]; exact P4,by rw [hR]; exact HR.out.sc,HR.out.loc.le (by omega),kb2⟩
end Go.Proofs.YtlgnijhemfkflaaGreatDoor
