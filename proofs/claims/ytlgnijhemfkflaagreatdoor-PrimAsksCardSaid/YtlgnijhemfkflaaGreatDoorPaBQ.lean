/- Part 43. -/
import Derived.Test.YtlgnijhemfkflaaGreatDoorPaBP
set_option linter.unusedVariables false
set_option linter.unusedSimpArgs false
set_option maxRecDepth 100000
set_option maxHeartbeats 4000000

namespace Go.Proofs.YtlgnijhemfkflaaGreatDoor
open Go.RowKit


theorem does_any (n : Int) (w : World) : Calls Tryz.prog 16 #[.int .i64 n] w fun e w' => e = .returned (.bool (decide (23 ≤ n ∧ n ≤ 129))) ∧ w = w':=by
  by_cases h1 : 23 ≤ n
  · by_cases h2 : n < 130
    · have H:=zqh (decide_eq_true (show 23 ≤ n ∧ n ≤ 129 from ⟨h1,by omega⟩))
      rw [H.out];go_enter Tryz.func16,Tryz.ntmps16;go_wp2;go_ret;exact ⟨rfl,rfl⟩
    · have H:=zqh (decide_eq_false (show ¬ (23 ≤ n ∧ n ≤ 129) from fun h => by omega))
      have g2 : decide (n < 130) = false:=by simp; omega
      rw [H.out];clear h2;go_enter Tryz.func16,Tryz.ntmps16;go_wp2;go_ret;exact ⟨rfl,rfl⟩
  · have H:=zqh (decide_eq_false (show ¬ (23 ≤ n ∧ n ≤ 129) from fun h => by omega))
    have g1 : decide (23 ≤ n) = false:=by simp; omega
    rw [H.out];clear h1;go_enter Tryz.func16,Tryz.ntmps16;go_wp2;go_ret;exact ⟨rfl,rfl⟩
theorem nodup_first {l : DRow} (h : (l.map (·.1)).Nodup) {j : Nat} {k : ByteArray} {F : VmK → VmL → Eff} (hj : l[j]? = some (k,F)) : ∀ (a : Nat),a < j → ∀ x,l[a]? = some x → x.1 ≠ k:=by
  intro a ha x hx e;obtain ⟨h1,e1⟩:=List.getElem?_eq_some_iff.1 hj;obtain ⟨h2,e2⟩:=List.getElem?_eq_some_iff.1 hx;rw [List.Nodup,List.pairwise_iff_getElem] at h;have:=h a j (by simpa using h2) (by simpa using h1) ha;simp [e1,e2] at this;exact this e
theorem nmP_at (m : Nat) (h : m < 130) : primL[m]? = some (nmP m):=by
  have hl : primL.length = 130:=by decide +kernel
  unfold nmP;rw [List.getD_eq_getElem?_getD,List.getElem?_eq_getElem (by omega)];rfl
theorem doE_no {n : Int} (h : ¬ (23 ≤ n ∧ n ≤ 129)) (k : VmK) (L : VmL) : doE n k L = ⟨-24,[],k,L⟩:=by unfold doE; rw [if_neg h]
theorem sts_row {w : World} {g b n c : Nat} {l : List (List UInt8)} (h : Sts w (.slice (some ⟨g,0,none⟩) n c) l) (hne : g ≠ b) (cs : Array Value) : Sts (w.setRow b cs) (.slice (some ⟨g,0,none⟩) n c) l:=by
  obtain ⟨A',c',e,h1,h2,h4⟩:=h;refine ⟨A',c',e,h1,h2,?_⟩;injection e with e1 e2 e3
  subst e1
  rcases h4 with h4 | ⟨g',o,e,hg,hc⟩
  · exact .inl h4
  · injection e with e
    injection e with ea eo _
    subst ea eo;refine .inr ⟨g,0,rfl,by rw [size_setRow]; exact hg,fun j v hv => ?_⟩;have:=hc j v hv;unfold World.cell? at this ⊢;rw [show (w.setRow b cs).heap[(⟨g,0 + j,none⟩ : Addr).block]? = w.heap[(⟨g,0 + j,none⟩ : Addr).block]? from setRow_other w b g cs (by omega)];exact this
theorem sts_is {w : World} {b n c : Nat} {l : List (List UInt8)} (h : Sts w (.slice (some ⟨b,0,none⟩) n c) l) {i : Nat} {s : List UInt8} (hs : l[i]? = some s) : w.cell? ⟨b,i,none⟩ = some (.string (strB s)):=by
  obtain ⟨hi,hv⟩:=List.getElem?_eq_some_iff.1 hs;obtain ⟨g,o,e,hc⟩:=sts_cell h hi;injection e with e
  injection e with e1 e2 _
  subst e1 e2;rw [hv,Nat.zero_add] at hc;exact hc
theorem do_any (k : VmK) (L : VmL) (n : Int) (w : World) (HT : Tab w) (ok : Ok k L) (h : IsVm w k L) : Calls Tryz.prog 14 #[vmV k,.int .i64 n] w (DeedOut (doE n k L) k w):=by
  have V0:=zqh h;have T0:=zqh HT;have ok9:=zqh ok
  by_cases hn : 23 ≤ n ∧ n ≤ 129
  · obtain ⟨m,rfl⟩ : ∃ m : Nat,n = (m : Int):=⟨n.toNat,by omega⟩
    have HQ:=zqh fun w => does_any (m : Int) w
    rw [decide_eq_true hn] at HQ;have hm0 : 23 ≤ m:=by omega
    have hm2 : m < 130:=by omega
    have HM:=zqh (And.intro hm0 hm2);have HN : Hid (primL[m]? = some (nmP m)):=zqh (nmP_at m (by omega));have hm1 : (m : Int) < 130:=by omega
    clear h HT ok hn hm0 hm2;go_enter Tryz.func14,Tryz.ntmps14;go_upto_region 1 with fail
    generalize hw1 : World.alloc (World.alloc _ _) _ = w1;have kb : Below w.heap.size w w1:=by rw [← hw1]; exact al_two _ _ _
    have kx : VBox w1 w.heap.size k:=by rw [← hw1]; exact (in_two w k _).2
    have kz : VBox w1 (w.heap.size + 1) vm0:=by rw [← hw1]; exact in_two0 w _
    have KS : Hid (w1.heap.size = w.heap.size + 1 + 1):=by show _ = _; rw [← hw1]; exact in_twos w _ _
    clear hw1;have X1:=zqh kx;have Z1:=zqh kz;have B1:=zqh kb;clear kx kz kb;(go_wp2_with fail);refine (HQ.out _).mono ?_;rintro e w9 ⟨rfl,rfl⟩;clear HQ;(go_wp2_with fail);refine (names_any _ (T0.out.keep B1.out)).mono ?_;rintro e w2 ⟨rfl,hs,bb⟩;have X2:=zqh (X1.out.keep bb);have Z2:=zqh (Z1.out.keep bb);have B2:=zqh (below_then B1.out bb);have S2:=zqh hs;have HC:=zqh fun w hs => deeds_any m HM.out.1 HM.out.2 w1.heap.size w hs
    clear X1 Z1 B1 bb hs T0;go_upto_region 4 with fail
    refine wp_region_noPanic ?_;refine wp_region_held_drew (S:=fun a9 => Below w.heap.size w a9 ∧ VBox a9 w.heap.size k ∧ (∃ j0,VBox a9 (w.heap.size + 1) j0) ∧ Sts a9 (.slice (some ⟨w1.heap.size,0,none⟩) 130 130) primL) (by kernel_rfl) ?_ (fun hHeld => ?_)
    · exact ⟨B2.out.drew,X2.out,⟨_,Z2.out⟩,S2.out⟩
    refine zqt (i:=0) (v:=?v0a1) ?y0a1 ?r0a1
    case y0a1 =>
      intro u hSu;go_simp;(try with_reducible rfl)
    (try simp only [zq,Act.put]);refine zqt (i:=1) (v:=?v1a1) ?y1a1 ?r1a1
    case y1a1 =>
      intro u hSu;go_simp;(try with_reducible rfl)
    (try simp only [zq,Act.put]);refine zqt (i:=3) (v:=?v3a1) ?y3a1 ?r3a1
    case y3a1 =>
      intro u hSu;go_simp;(try with_reducible rfl)
    (try simp only [zq,Act.put]);refine zqt (i:=4) (v:=?v4a1) ?y4a1 ?r4a1
    case y4a1 =>
      intro u hSu;go_simp;(try with_reducible rfl)
    (try simp only [zq,Act.put]);refine zqt (i:=5) (v:=?v5a1) ?y5a1 ?r5a1
    case y5a1 =>
      intro u hSu;go_simp;(try with_reducible rfl)
    (try simp only [zq,Act.put]);refine zqt (i:=6) (v:=?v6a1) ?y6a1 ?r6a1
    case y6a1 =>
      intro u hSu;(try dsimp only at hSu);have qs:=sts_is hSu.2.2.2 HN.out;go_simp;(try with_reducible rfl)
    (try simp only [zq,Act.put]);refine zqt (i:=8) (v:=vmV k) (fun u hSu => exec_vl _ rfl w.heap.size k rfl hSu.2.1) ?_;(try simp only [zq,Act.put]);refine zqr 2 fun K hK => ?_
    go_simp;refine (HC.out _ hHeld.2.2.2).mono ?_;rintro e u1 ⟨b,l,j9,rfl,hm,hj,hd,bb⟩;obtain ⟨j0,hz⟩:=hHeld.2.2.1;have hN : Below w.heap.size w u1 ∧ VBox u1 w.heap.size k ∧ (∃ j0,VBox u1 (w.heap.size + 1) j0) ∧ Sts u1 (.slice (some ⟨w1.heap.size,0,none⟩) 130 130) primL:=⟨below_then hHeld.1 bb,hHeld.2.1.keep bb,⟨j0,hz.keep bb⟩,hHeld.2.2.2.keep bb⟩;obtain ⟨v9,hv9,hi9⟩:=run_lookD hm (strB (nmP m)) (doF m) j9 hj (nodup_first hd hj);(go_wp2_with fail);clear bb hz hm hj hd;clear hHeld;refine hK.out _ _ hN (fun hHeld => ?_);clear hK K hN;(try simp only [zq,Act.put]);refine zqr 7 fun K hK => ?_
    go_simp;have hN:=hHeld;clear hv9;clear hHeld;refine hK.out _ _ hN (fun hHeld => ?_);clear hK K hN;(try simp only [zq,Act.put]);refine zqr 9 fun K hK => ?_
    obtain ⟨g9,cs9,rfl,eg9,hc9⟩:=hi9;have HD:=zqh (hc9 u1 k L (kp_of (Below.refl _ _)) ok9.out (V0.out.keep hHeld.1));have HB9:=zqh hHeld.1.size;clear hc9;go_simp;refine HD.out.mono ?_;rintro e u2 ⟨j,rfl,hv,hs,hl,bb⟩;obtain ⟨j0,hz⟩:=hHeld.2.2.1;have hN : Below w.heap.size w u2 ∧ VBox u2 w.heap.size k ∧ (∃ j0,VBox u2 (w.heap.size + 1) j0) ∧ Sts u2 (.slice (some ⟨w1.heap.size,0,none⟩) 130 130) primL:=⟨below_then hHeld.1 bb,hHeld.2.1.keep bb,⟨j0,hz.keep bb⟩,hHeld.2.2.2.keep bb⟩;have HZ:=zqh hz.lt;have HV:=zqh hv;have HS:=zqh hs;have HL:=zqh hl;have HZ0:=zqh (hz.keep bb);(go_wp2_with fail);clear bb hz hv hs hl;clear hHeld;refine hK.out _ _ hN (fun hHeld => ?_);clear hK K hN;(try simp only [zq,Act.put]);refine zqt (i:=10) (v:=?v10a1) ?y10a1 ?r10a1
    case y10a1 =>
      intro u hSu;go_simp;(try with_reducible rfl)
    (try simp only [zq,Act.put]);refine zqt (i:=11) (v:=?v11a1) ?y11a1 ?r11a1
    case y11a1 =>
      intro u hSu;go_simp;(try with_reducible rfl)
    (try simp only [zq,Act.put]);refine zqr 12 fun K hK => ?_
    obtain ⟨j7,hz⟩:=hHeld.2.2.1;refine step_vst rfl _ _ rfl (w.heap.size + 1) j7 j rfl rfl hz ?_;have kb2:=below_setRow hHeld.1 (show w.heap.size ≤ w.heap.size + 1 by omega) (vmC j);have hr2:=vrow hz j;refine hK.out _ _ ⟨kb2,vrow_fr hHeld.2.1 (by omega) _,⟨j,hr2⟩,sts_row hHeld.2.2.2 (by have:=KS.out; omega) _⟩ (fun hHeld2 => ?_);clear hK K;(try simp only [zq,Act.put]);refine zqt (i:=13) (v:=?v13a1) ?y13a1 ?r13a1
    case y13a1 =>
      intro u hSu;go_simp;(try with_reducible rfl)
    (try simp only [zq,Act.put]);refine wpAnyH_done (by kernel_rfl) ?_ _;refine NoPanic.normal ?_;(go_wp2_with fail);refine bodyPost_ret (res_ct rfl _ _ _ _ rfl hr2) rfl ⟨j,rfl,?_,HS.out,HL.out.le HB9.out,kb2⟩;refine V0.out.ex (X:=fun g => g = w.heap.size + 1) HV.out HL.out (Ex.row (X:=fun g => g = w.heap.size + 1) (b:=w.heap.size + 1) (Ex.refl _ _) rfl _) fun g hg e => ?_
    subst e;exact ⟨by omega,HZ.out,vbox_nou8 HZ0.out⟩
  · have HQ:=zqh fun w => does_any n w
    rw [decide_eq_false hn] at HQ;rw [doE_no hn];clear h HT ok hn;go_enter Tryz.func14,Tryz.ntmps14;go_upto_region 1 with fail
    generalize hw1 : World.alloc (World.alloc _ _) _ = w1;have kb : Below w.heap.size w w1:=by rw [← hw1]; exact al_two _ _ _
    have kx : VBox w1 w.heap.size k:=by rw [← hw1]; exact (in_two w k _).2
    have kz : VBox w1 (w.heap.size + 1) vm0:=by rw [← hw1]; exact in_two0 w _
    have KS : Hid (w1.heap.size = w.heap.size + 1 + 1):=by show _ = _; rw [← hw1]; exact in_twos w _ _
    clear hw1;have X1:=zqh kx;have Z1:=zqh kz;have B1:=zqh kb;clear kx kz kb;(go_wp2_with fail);refine (HQ.out _).mono ?_;rintro e w9 ⟨rfl,rfl⟩;clear HQ;(go_wp2_with (first | (refine wpList_vload (by rfl) _ rfl w.heap.size k rfl X1.out ?_) | (refine wpList_vstore (by rfl) _ _ rfl _ vm0 k rfl rfl Z1.out ?_)));have kb2:=below_setRow B1.out (show w.heap.size ≤ w.heap.size + 1 by omega) (vmC k);have hv2:=vrow Z1.out k;refine bodyPost_ret (res_ct rfl _ _ _ _ rfl hv2) rfl ⟨k,rfl,V0.out.keep kb2,Sc.refl _,MLoc.refl _ _,kb2⟩
end Go.Proofs.YtlgnijhemfkflaaGreatDoor

namespace Go.Proofs.YtlgnijhemfkflaaGreatDoor
open Go.RowKit


theorem drew_bel0 (w : World) : Below w.heap.size w w.drew:=⟨rfl,rfl,rfl,Nat.le_refl _,fun _ _ => rfl⟩
theorem al_th0 {w0 w : World} {o : Obj} (h : Below w0.heap.size w0 w) : Below w0.heap.size w0 (w.alloc o):=h.alloc h.size o
structure DoneAt (wS wx : World) (b : Nat) (j2 j : VmK) (E : Eff) : Prop where
  lo : wS.heap.size ≤ b
  box : VBox wx b j2
  vm : IsVm wx j2 E.L
  sc : Sc j2 E.K
  loc : MLoc wS.heap.size j2 j
  bel : Below wS.heap.size wS wx
def stS : VmK:={ vm0 with cm:=2048,cd:=32,cr:=32,cw:=200,co:=500,here:=1368 }
def stL (l : List Int) : VmL:={ newL 2048 with d:=l }
theorem res_c1 {fn : Func} {p : Tmp} (h : fn.results = #[.cell p 36]) (tmps : Array Value) (w : World) (b : Nat) (k : VmK) (hp : tmps.getD p undef = .pointer (some ⟨b,0,none⟩)) (hb : VBox w b k) :
    (results fn tmps).run Tryz.prog w = .ok (vmV k) w:=by
  have hp' : tmps[p]?.getD undef = .pointer (some ⟨b,0,none⟩):=by simpa using hp
  simp [results,h,hp',asAddr,vm_load hb]
theorem vbox_nostr {w : World} {b : Nat} {k : VmK} (h : VBox w b k) (o : Nat) (s : ByteArray) : w.cell? ⟨b,o,none⟩ ≠ some (.string s):=by
  intro e;unfold VBox at h;unfold World.cell? at e;rw [h] at e;have e' : (vmC k)[o]? = some (.string s):=by simpa using e
  have hm:=Array.mem_of_getElem? e';simp at hm
theorem newW_first : ∃ s,(wds (newW 167))[0]? = some (.string s):=⟨strB (wordN 0).nm,by kernel_rfl⟩
theorem new_ex {u V : World} {k j : VmK} {N b : Nat} (h : IsVm u k (newL N)) (x : Ex (fun g => g = b) u V) (hb : VBox u b j) : IsVm V k (newL N):=by
  have hv : ∀ g,g < u.heap.size → V.heap[g]? = u.heap[g]? ∨ NoU8 u g:=fun g hg => by
    by_cases e : g = b
    · subst e; exact .inr (vbox_nou8 hb)
    · exact .inl (x.same g hg e)
  refine ⟨?_,⟨h.d.1,h.d.2.1,h.d.2.2.1,.inl rfl⟩,⟨h.r.1,h.r.2.1,h.r.2.2.1,.inl rfl⟩,?_,?_,byt_across h.o x.size hv,byt_across h.q x.size hv,?_,?_⟩
  · obtain ⟨b0,o0,e,h1,A,c,qs,g1,g2,g3,g4,g5⟩:=h.m
    have hq : qs = []:=by
      have : qs.length = 0:=g5.1;exact List.eq_nil_of_length_eq_zero this
    subst hq;exact ⟨b0,o0,e,byt_across h1 x.size hv,A,c,[],g1,g2,g3,.inl rfl,g5.1,fun i q p hq hp => by cases hq⟩
  · obtain ⟨A',c',e,h1,h2,_⟩:=h.f
    exact ⟨A',c',e,h1,h2,.inl rfl⟩
  · obtain ⟨A',c',e,h1,h2,h4⟩:=h.dict
    refine ⟨A',c',e,h1,h2,?_⟩
    rcases h4 with h4 | ⟨g,o,e,hg,hc⟩
    · exact .inl h4
    · have hgb : g ≠ b:=by
        intro eg;subst eg;obtain ⟨s,hs⟩:=newW_first;exact vbox_nostr hb _ _ (hc 0 _ hs)
      refine .inr ⟨g,o,e,Nat.lt_of_lt_of_le hg x.size,fun i v hi => ?_⟩;have:=hc i v hi;unfold World.cell? at this ⊢;rw [x.same g hg hgb];exact this
  · obtain ⟨A',c',e,h1,h2,_⟩:=h.e
    exact ⟨A',c',e,h1,h2,.inl rfl⟩
  · obtain ⟨A',c',e,h1,h2,_⟩:=h.h
    exact ⟨A',c',e,h1,h2,.inl rfl⟩
theorem stocked_any (A : Option Addr) (n c : Nat) (l : List Int) (w : World) (h : Row w A n c l) : Calls Tryz.prog 21 #[.slice A n c] w fun e w' => ∃ k,e = .returned (vmV k) ∧ IsVm w' k (stL l) ∧ Sc k stS ∧ k.dA = A ∧ Below w.heap.size w w':=by
  have HR:=zqh h;clear h;go_enter Tryz.func21,Tryz.ntmps21;go_upto_region 1 with fail
  generalize hw1 : World.alloc _ _ = w1;have kb : Below w.heap.size w w1:=by rw [← hw1]; exact al_one _ _
  have kz : VBox w1 w.heap.size vm0:=by rw [← hw1]; exact vbox_zero _
  have KS : Hid (w1.heap.size = w.heap.size + 1):=by show _ = _; rw [← hw1]; simp
  clear hw1;have Z1:=zqh kz;have B1:=zqh kb;clear kz kb;(go_wp2_with fail);refine (rnew_any 2048 32 32 200 500 w1).mono ?_;rintro e w2 ⟨h1,_,bb⟩;obtain ⟨L,g,A2,c2,hL,rfl,hv⟩:=h1 (by decide);obtain rfl : L = 2048:=by omega
  have V2:=zqh hv;have S2 : Hid (Sc (newK 2048 32 32 200 500 g A2 c2) stS):=⟨rfl,rfl,rfl,rfl,rfl,rfl,rfl,rfl,rfl,rfl,rfl,rfl,rfl⟩;have Z2:=zqh (Z1.out.keep bb);have B2:=zqh (below_then B1.out bb);have KS2 : Hid (w.heap.size + 1 ≤ w2.heap.size):=by show _ ≤ _; have:=bb.size; have:=KS.out; omega
  clear hv bb hL Z1 B1 h1;generalize newK 2048 32 32 200 500 g A2 c2 = k at V2 S2 ⊢;go_upto_region 2 with (refine wpList_vstore (by rfl) _ _ rfl _ vm0 k rfl rfl (vbox_zero _) ?_)
  generalize hw3 : World.setRow _ _ _ = w3;have kb : Below w2.heap.size w2 w3:=by rw [← hw3]; exact below_setRow (al_one _ _) (Nat.le_refl _) _
  have hx : VBox w3 w2.heap.size k:=by rw [← hw3]; exact vrow (vbox_zero w2) k
  have kb0:=kb.size;clear hw3;have X3:=zqh hx;have Z3:=zqh (Z2.out.keep kb);have V3:=zqh (V2.out.keep kb);have B3:=zqh (below_then B2.out kb);have F8:=X3.out.free.2.2.2.2.2.2.2.2.1;obtain ⟨p0,p1,p2,p3,p4,p5,p6,p7,P8,p9,p10,p11,p12,p13,p14,p15,p16,p17,p18,p19,p20,p21,p22⟩:=X3.out.use;clear p0 p1 p2 p3 p4 p5 p6 p7 p9 p10 p11 p12 p13 p14 p15 p16 p17 p18 p19 p20 p21 p22;clear kb hx Z2 V2 B2;go_upto_region 3 with fail
  generalize hV : World.setCell _ _ _ = V;have XW : Hid (VBox V w2.heap.size { k with dA:=A,dn:=n,dc:=c }):=by show VBox _ _ _; rw [← hV]; exact X3.out.put_d _ _ _
  have ZW : Hid (VBox V w.heap.size vm0):=by show VBox _ _ _; rw [← hV]; exact vset_far Z3.out (by have:=KS2.out; omega)
  have BW : Hid (Below w.heap.size w V):=by show Below _ _ _; rw [← hV]; exact B3.out.setCell (by have:=KS2.out; show w.heap.size ≤ w2.heap.size; omega) _
  have VW : Hid (IsVm V k (newL 2048)):=by show IsVm _ _ _; rw [← hV]; exact new_ex V3.out ((Ex.refl _ _).cell (X:=fun g => g = w2.heap.size) (b:=w2.heap.size) rfl _) X3.out
  clear hV F8 P8 X3 Z3 V3 B3;(go_wp2_with (first | (refine wpList_vload (by rfl) _ rfl _ _ rfl XW.out ?_) | (refine wpList_vstore (by rfl) _ _ rfl _ vm0 _ rfl rfl ZW.out ?_)));have kb2:=below_setRow BW.out (Nat.le_refl w.heap.size) (vmC { k with dA:=A,dn:=n,dc:=c });have hf:=new_ex VW.out (Ex.row (X:=fun g => g = w.heap.size) (b:=w.heap.size) (Ex.refl _ _) rfl (vmC { k with dA:=A,dn:=n,dc:=c })) ZW.out;refine bodyPost_ret (res_c1 rfl _ _ _ _ rfl (vrow ZW.out _)) rfl ⟨{ k with dA:=A,dn:=n,dc:=c },rfl,⟨hf.m,HR.out.keep kb2,hf.r,hf.f,hf.dict,hf.o,hf.q,hf.e,hf.h⟩,⟨S2.out.cm,S2.out.cd,S2.out.cr,S2.out.cw,S2.out.co,S2.out.here,S2.out.last,S2.out.qo,S2.out.free,S2.out.next,S2.out.arg,S2.out.self,S2.out.now⟩,rfl,kb2⟩
end Go.Proofs.YtlgnijhemfkflaaGreatDoor

namespace Go.Proofs.YtlgnijhemfkflaaGreatDoor
open Go.RowKit


theorem row_lit (w : World) (l : List Int) (h : l.length ≤ 65536) : Row (w.alloc (.cells (ints l).toArray 3)) (some ⟨w.heap.size,0,none⟩) l.length l.length l:=⟨rfl,Nat.le_refl _,by unfold maxLen; omega,lies_block (heap_alloc_new w _)⟩
theorem st_len {l : List Int} : (stL l).m.1.length = 2048:=rowN_len 2048 167
theorem ok_st {k : VmK} (hs : Sc k stS) {l : List Int} (hl : l.length ≤ 32) (hr : ∀ x ∈ l,cellR x) : Ok k (stL l):=by
  have e:=st_len (l:=l);refine Ok.sc hs ⟨by rw [e]; decide,by rw [e]; decide,by show ([] : List Pt).length ≤ 900; decide,by show l.length ≤ _; omega,hr,by show ([] : List UInt8).length ≤ 60000; decide,by show ([] : List UInt8).length ≤ 900; decide,by show ([] : List Rq).length ≤ 100; decide,by show ([] : List Hn).length ≤ 1000; decide,by decide,by decide,by decide,by decide,by decide,by rw [e]; decide,by rw [e]; rfl⟩
theorem do_at {k K : VmK} {L M : VmL} {n C : Int} (w : World) (HT : Tab w) (ok : Ok k L) (h : IsVm w k L) (s : Sc k K) (hc : (doE n K L).c = C) (hm : (doE n K L).L = M) :
    Calls Tryz.prog 14 #[vmV k,.int .i64 n] w (DeedOut ⟨C,[],(doE n K L).K,M⟩ k w):=by
  refine (do_any k L n w HT ok h).mono ?_;rintro e w1 ⟨j,rfl,hv,hs,hl,bb⟩;obtain ⟨s1,s2,s3,s4⟩:=doE_sc s n L;refine ⟨j,by rw [s1,hc],?_,hs.trans s4,hl,bb⟩;show IsVm w1 j M;rw [← hm,← s3];exact hv
theorem fit_st {l : List Int} (h : l.length ≤ 301) : LFit (stL l):=⟨by rw [st_len]; decide,h,by show ([] : List Int).length ≤ _; decide,by show ([] : List Fm).length ≤ _; decide,by show (newW 167).length ≤ _; decide +kernel,by show ([] : List UInt8).length ≤ _; decide,by show ([] : List Rq).length ≤ _; decide,by show ([] : List Hn).length ≤ _; decide⟩
theorem deed_st {t : Nat} {f : VmK → VmL → List Int → Eff} {k : VmK} {L : VmL} {lo x : List Int} (hd : L.d = lo ++ x) (ht : x.length = t) :
    deedE t f k L = if (f k L x).c = 0 then (if k.cd < ((lo.length + (f k L x).o.length : Nat) : Int) then ⟨-3,[],k,L⟩ else ⟨0,[],(f k L x).K,{ (f k L x).L with d:=lo ++ (f k L x).o }⟩) else ⟨(f k L x).c,[],k,L⟩:=by
  have e1 : L.d.length - t = lo.length:=by rw [hd,List.length_append]; omega
  have e2 : L.d.drop (L.d.length - t) = x:=by rw [e1,hd,List.drop_left]
  have e3 : L.d.take (L.d.length - t) = lo:=by rw [e1,hd,List.take_left]
  unfold deedE;rw [if_neg (by rw [hd,List.length_append]; omega),e2,e3,e1]
theorem do_deed (n : Nat) (h1 : 39 ≤ n) (h2 : n ≤ 129) (k : VmK) (L : VmL) : doE (n : Int) k L = deedE (takesF n) (effF n) k L:=by
  unfold doE;rw [if_pos (by omega),if_neg (by omega),show ((n : Int)).toNat = n from by omega]
theorem do_st (n : Nat) (h1 : 39 ≤ n) (h2 : n ≤ 129) {k : VmK} {L : VmL} (lo x : List Int) {E : Eff} (hE : effF n k L x = E) (hd : L.d = lo ++ x) (hx : x.length = takesF n) (hlim : ((lo.length + E.o.length : Nat) : Int) ≤ k.cd) :
    doE (n : Int) k L = if E.c = 0 then ⟨0,[],E.K,{ E.L with d:=lo ++ E.o }⟩ else ⟨E.c,[],k,L⟩:=by
  rw [do_deed n h1 h2,deed_st hd hx,hE,if_neg (show ¬ k.cd < ((lo.length + E.o.length : Nat) : Int) by omega)]
def D2 (w : World) (k : VmK) (x y : Int) : Prop:=∃ g o,k.dn = 2 ∧ k.dA = some ⟨g,o,none⟩ ∧ g < w.heap.size ∧ w.cell? ⟨g,o,none⟩ = some (.int .i64 x) ∧ w.cell? ⟨g,o + 1,none⟩ = some (.int .i64 y)
theorem D2.keep {w w' : World} {k : VmK} {x y : Int} (h : D2 w k x y) (b : Below w.heap.size w w') : D2 w' k x y:=by
  obtain ⟨g,o,e1,e2,hg,c0,c1⟩:=h;exact ⟨g,o,e1,e2,Nat.lt_of_lt_of_le hg b.size,(b.cell (p:=⟨g,o,none⟩) hg).trans c0,(b.cell (p:=⟨g,o + 1,none⟩) hg).trans c1⟩
def D1 (w : World) (k : VmK) (x : Int) : Prop:=∃ g o,k.dn = 1 ∧ k.dA = some ⟨g,o,none⟩ ∧ g < w.heap.size ∧ w.cell? ⟨g,o,none⟩ = some (.int .i64 x)
theorem D1.keep {w w' : World} {k : VmK} {x : Int} (h : D1 w k x) (b : Below w.heap.size w w') : D1 w' k x:=by
  obtain ⟨g,o,e1,e2,hg,c0⟩:=h;exact ⟨g,o,e1,e2,Nat.lt_of_lt_of_le hg b.size,(b.cell (p:=⟨g,o,none⟩) hg).trans c0⟩
theorem d1_of {w : World} {k : VmK} {L : VmL} {x : Int} (h : IsVm w k L) (e : L.d = [x]) : D1 w k x:=by
  have hd:=h.d;rw [e] at hd;obtain ⟨h1,h2,h3,h4⟩:=hd
  rcases h4 with h4 | ⟨g,o,e9,hg,hc⟩
  · cases h4
  · refine ⟨g,o,h1.symm,e9,hg,?_⟩
    have:=hc 0 _ rfl
    rwa [Nat.add_zero] at this
end Go.Proofs.YtlgnijhemfkflaaGreatDoor

namespace Go.Proofs.YtlgnijhemfkflaaGreatDoor
open Go.RowKit


structure RightL (k : VmK) (L : VmL) : Prop where
  fit : fitsV k = true
  m : rightB L.m = true
  dict : dRight L.dict = true
  q : pRight k.qo L.q = true
  len : (L.m.1.length : Int) = k.cm
  h0 : 1368 ≤ k.here
  h1 : k.here ≤ k.cm
  f : L.f.all frB = true
  h : L.h.all hnB = true
  d : (L.d.length : Int) ≤ k.cd
  r : (L.r.length : Int) ≤ k.cr
  fl : L.f.length ≤ 64
  w : (L.dict.length : Int) ≤ k.cw
  o : (L.o.length : Int) ≤ k.co
  e : L.e.length ≤ 16
  free0 : 0 ≤ k.free
  free1 : k.free ≤ 64
  next0 : 0 ≤ k.next
  next1 : k.next ≤ 4611686018427387904
  hl : L.h.length ≤ 64
theorem right_to {k : VmK} {L : VmL} (l : Lens k L) (h : RightL k L) : vRight k L = true:=by
  have:=l.m; have:=l.d; have:=l.r; have:=l.f; have:=l.dict; have:=l.o; have:=l.e; have:=l.h;have:=h.len; have:=h.d; have:=h.r; have:=h.fl; have:=h.w; have:=h.o; have:=h.e; have:=h.hl;have g5 : headB k = true:=by unfold headB; rw [decide_eq_true_eq]; exact ⟨by omega,h.h0,h.h1⟩
  have g8 : tailB k = true:=by unfold tailB; rw [decide_eq_true_eq]; exact ⟨by omega,by omega,by omega,by omega,by omega,by omega,h.free0,h.free1,h.next0,h.next1,by omega⟩
  unfold vRight;rw [h.fit,h.m,h.dict,h.q,g5,h.f,h.h,g8];rfl
theorem RightL.sc {j k : VmK} {L : VmL} (s : Sc j k) (h : RightL k L) : RightL j L:=by
  have hf : fitsV j = fitsV k:=by unfold fitsV; rw [s.cm,s.cd,s.cr,s.cw,s.co]
  exact ⟨by rw [hf]; exact h.fit,h.m,h.dict,by rw [s.qo]; exact h.q,by rw [s.cm]; exact h.len,by rw [s.here]; exact h.h0,by rw [s.here,s.cm]; exact h.h1,h.f,h.h,by rw [s.cd]; exact h.d,by rw [s.cr]; exact h.r,h.fl,by rw [s.cw]; exact h.w,by rw [s.co]; exact h.o,h.e,by rw [s.free]; exact h.free0,by rw [s.free]; exact h.free1,by rw [s.next]; exact h.next0,by rw [s.next]; exact h.next1,h.hl⟩
end Go.Proofs.YtlgnijhemfkflaaGreatDoor
