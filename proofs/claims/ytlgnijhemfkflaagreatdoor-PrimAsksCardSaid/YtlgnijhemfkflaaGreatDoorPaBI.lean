/- Part 35. -/
import Derived.Test.YtlgnijhemfkflaaGreatDoorPaBF
import Derived.Test.YtlgnijhemfkflaaGreatDoorPaBH
set_option linter.unusedVariables false
set_option linter.unusedSimpArgs false
set_option maxRecDepth 100000
set_option maxHeartbeats 4000000

namespace Go.Proofs.YtlgnijhemfkflaaGreatDoor
open Go.RowKit


theorem bodyCode_any (k : VmK) (L : VmL) (a : Int) (w : World) (ok : Ok k L) (h : IsVm w k L) : Calls Tryz.prog 152 #[vmV k,.int .i64 a] w fun e w' => e = .returned (.int .i64 (bodyC L.m L.m.1.length a)) ∧ Below w.heap.size w w':=by
  have HC:=zqh fun w h => vkind_any k L.m a w (zqh h) (by have:=(ok.mem ‹IsVm _ k L›).n2; omega)
  have V0:=zqh h;unfold bodyC;rw [h.m.len1];generalize kindV L.m k.mn a = v at HC ⊢;generalize kindC L.m k.mn a = C at HC ⊢;clear ok h
  by_cases h0 : C = 0
  · subst h0
    rw [if_pos rfl]
    by_cases e1 : v = 257
    · subst e1
      rw [if_pos (by omega)];go_enter Tryz.func152,Tryz.ntmps152;go_upto_region 1 with fail
      generalize hw1 : World.alloc _ _ = w1;have kb : Below w.heap.size w w1:=by rw [← hw1]; exact al_one _ _
      have kx : VBox w1 w.heap.size k:=by rw [← hw1]; exact vbox_new w k
      clear hw1;have X1:=zqh kx;have B1:=zqh kb;clear kb kx;(go_wp2_with (refine wpList_vload (by rfl) _ rfl w.heap.size k rfl X1.out ?_));refine (HC.out _ (V0.out.keep B1.out).m).mono ?_;rintro e w2 ⟨rfl,bb⟩;have B2:=zqh (below_then B1.out bb);clear HC bb;(go_wp2_with fail);go_ret;exact ⟨rfl,B2.out⟩
    · by_cases e2 : v = 258
      · subst e2
        rw [if_pos (by omega)];go_enter Tryz.func152,Tryz.ntmps152;go_upto_region 1 with fail
        generalize hw1 : World.alloc _ _ = w1;have kb : Below w.heap.size w w1:=by rw [← hw1]; exact al_one _ _
        have kx : VBox w1 w.heap.size k:=by rw [← hw1]; exact vbox_new w k
        clear hw1;have X1:=zqh kx;have B1:=zqh kb;clear kb kx;(go_wp2_with (refine wpList_vload (by rfl) _ rfl w.heap.size k rfl X1.out ?_));refine (HC.out _ (V0.out.keep B1.out).m).mono ?_;rintro e w2 ⟨rfl,bb⟩;have B2:=zqh (below_then B1.out bb);clear HC bb;(go_wp2_with fail);go_ret;exact ⟨rfl,B2.out⟩
      · by_cases e3 : v = 259
        · subst e3
          rw [if_pos (by omega)];go_enter Tryz.func152,Tryz.ntmps152;go_upto_region 1 with fail
          generalize hw1 : World.alloc _ _ = w1;have kb : Below w.heap.size w w1:=by rw [← hw1]; exact al_one _ _
          have kx : VBox w1 w.heap.size k:=by rw [← hw1]; exact vbox_new w k
          clear hw1;have X1:=zqh kx;have B1:=zqh kb;clear kb kx;(go_wp2_with (refine wpList_vload (by rfl) _ rfl w.heap.size k rfl X1.out ?_));refine (HC.out _ (V0.out.keep B1.out).m).mono ?_;rintro e w2 ⟨rfl,bb⟩;have B2:=zqh (below_then B1.out bb);clear HC bb;(go_wp2_with fail);go_ret;exact ⟨rfl,B2.out⟩
        · by_cases e4 : v = 260
          · subst e4
            rw [if_pos (by omega)];go_enter Tryz.func152,Tryz.ntmps152;go_upto_region 1 with fail
            generalize hw1 : World.alloc _ _ = w1;have kb : Below w.heap.size w w1:=by rw [← hw1]; exact al_one _ _
            have kx : VBox w1 w.heap.size k:=by rw [← hw1]; exact vbox_new w k
            clear hw1;have X1:=zqh kx;have B1:=zqh kb;clear kb kx;(go_wp2_with (refine wpList_vload (by rfl) _ rfl w.heap.size k rfl X1.out ?_));refine (HC.out _ (V0.out.keep B1.out).m).mono ?_;rintro e w2 ⟨rfl,bb⟩;have B2:=zqh (below_then B1.out bb);clear HC bb;(go_wp2_with fail);go_ret;exact ⟨rfl,B2.out⟩
          · rw [if_neg (by omega)]
            have g1 : (v == 257) = false:=by simpa using e1
            have g2 : (v == 258) = false:=by simpa using e2
            have g3 : (v == 259) = false:=by simpa using e3
            have g4 : (v == 260) = false:=by simpa using e4
            go_enter Tryz.func152,Tryz.ntmps152;go_upto_region 1 with fail
            generalize hw1 : World.alloc _ _ = w1;have kb : Below w.heap.size w w1:=by rw [← hw1]; exact al_one _ _
            have kx : VBox w1 w.heap.size k:=by rw [← hw1]; exact vbox_new w k
            clear hw1;have X1:=zqh kx;have B1:=zqh kb;clear kb kx;(go_wp2_with (refine wpList_vload (by rfl) _ rfl w.heap.size k rfl X1.out ?_));refine (HC.out _ (V0.out.keep B1.out).m).mono ?_;rintro e w2 ⟨rfl,bb⟩;have B2:=zqh (below_then B1.out bb);clear HC bb;(go_wp2_with fail);go_ret;exact ⟨rfl,B2.out⟩
  · rw [if_neg h0]
    have hC2 : (C != 0) = true:=by simpa using h0
    go_enter Tryz.func152,Tryz.ntmps152;go_upto_region 1 with fail
    generalize hw1 : World.alloc _ _ = w1;have kb : Below w.heap.size w w1:=by rw [← hw1]; exact al_one _ _
    have kx : VBox w1 w.heap.size k:=by rw [← hw1]; exact vbox_new w k
    clear hw1;have X1:=zqh kx;have B1:=zqh kb;clear kb kx;(go_wp2_with (refine wpList_vload (by rfl) _ rfl w.heap.size k rfl X1.out ?_));refine (HC.out _ (V0.out.keep B1.out).m).mono ?_;rintro e w2 ⟨rfl,bb⟩;have B2:=zqh (below_then B1.out bb);clear HC bb;(go_wp2_with fail);go_ret;exact ⟨rfl,B2.out⟩
theorem word1 (k : VmK) (L : VmL) (A : Option Addr) (c : Nat) (x : List Int) (w : World) (ok : Ok k L) (h : IsVm w k L) (hx : Takes w 1 A c x) : Calls Tryz.prog 151 #[vmV k,.slice A 1 c] w (ActOut ⟨bodyC L.m L.m.1.length (x.getD 0 0),[wrap64 (x.getD 0 0 + 16)],k,L⟩ k w):=by
  obtain ⟨a,g,o,rfl,rfl,hg,c0,ha⟩:=hx.one;show Calls _ _ _ _ (ActOut ⟨bodyC L.m L.m.1.length a,[wrap64 (a + 16)],k,L⟩ k w);rw [← IntWalk.i64_left (a + 16)];have HC:=zqh fun w h => bodyCode_any k L a w ok h
  have V0:=zqh h;have C0:=zqh c0;generalize bodyC L.m L.m.1.length a = C at HC ⊢;clear ok h hx c0;go_enter Tryz.func151,Tryz.ntmps151;go_upto_region 1 with fail
  generalize hw1 : World.alloc (World.alloc _ _) _ = w1;have kb : Below w.heap.size w w1:=by rw [← hw1]; exact al_two _ _ _
  have kx : VBox w1 w.heap.size k:=by rw [← hw1]; exact (in_two w k _).2
  have kz : VBox w1 (w.heap.size + 1) vm0:=by rw [← hw1]; exact in_two0 w _
  have KS : Hid (w1.heap.size = w.heap.size + 1 + 1):=by show _ = _; rw [← hw1]; exact in_twos w _ _
  clear hw1;have X1:=zqh kx;have Z1:=zqh kz;have B1:=zqh kb;have KZ : w1.drew.heap.size = w.heap.size + 1 + 1:=KS.out;clear kx kz kb;go_upto_region 1 with fail
  refine wp_region_noPanic ?_;refine wp_region_held_drew (S:=fun a => Below w.heap.size w a ∧ VBox a w.heap.size k ∧ ∃ j0,VBox a (w.heap.size + 1) j0) (by kernel_rfl) ?_ (fun hHeld => ?_)
  · exact ⟨B1.out.drew,X1.out,_,Z1.out⟩
  refine zqt (i:=0) (v:=vmV k) (fun u hSu => exec_vl _ rfl w.heap.size k rfl hSu.2.1) ?_;(try simp only [zq,Act.put]);refine zqt (i:=1) (v:=?v1a31) ?y1a31 ?r1a31
  case y1a31 =>
    intro u hSu;go_simp;(try with_reducible rfl)
  (try simp only [zq,Act.put]);refine zqt (i:=2) (v:=?v2a31) ?y2a31 ?r2a31
  case y2a31 =>
    intro u hSu;go_simp;(try with_reducible rfl)
  (try simp only [zq,Act.put]);refine zqt (i:=3) (v:=?v3a31) ?y3a31 ?r3a31
  case y3a31 =>
    intro u hSu;(try dsimp only at hSu);have q0:=(hSu.1.cell (p:=⟨g,o,none⟩) hg).trans C0.out;go_simp;(try with_reducible rfl)
  (try simp only [zq,Act.put]);refine zqt (i:=4) (v:=?v4a31) ?y4a31 ?r4a31
  case y4a31 =>
    intro u hSu;go_simp;(try with_reducible rfl)
  (try simp only [zq,Act.put]);refine zqt (i:=6) (v:=vmV k) (fun u hSu => exec_vl _ rfl w.heap.size k rfl hSu.2.1) ?_;(try simp only [zq,Act.put]);refine zqt (i:=7) (v:=?v7a31) ?y7a31 ?r7a31
  case y7a31 =>
    intro u hSu;go_simp;(try with_reducible rfl)
  (try simp only [zq,Act.put]);refine zqt (i:=8) (v:=?v8a31) ?y8a31 ?r8a31
  case y8a31 =>
    intro u hSu;go_simp;(try with_reducible rfl)
  (try simp only [zq,Act.put]);refine zqt (i:=9) (v:=?v9a31) ?y9a31 ?r9a31
  case y9a31 =>
    intro u hSu;(try dsimp only at hSu);have q0:=(hSu.1.cell (p:=⟨g,o,none⟩) hg).trans C0.out;go_simp;(try with_reducible rfl)
  (try simp only [zq,Act.put]);have S0:=hHeld;clear hHeld;refine wpAnyH_ready (rs:=[5,10]) (by kernel_rfl) (by simp) ?_;refine AllReadyH.cons (o:=_) rfl (fun K hK => ?_) (AllReadyH.cons (o:=_) rfl (fun K hK => ?_) AllReadyH.nil)
  case refine_1 =>
    obtain ⟨y0,z0⟩:=S0.2.2;go_simp;(go_wp2_with fail);have A0:=rowN_one w1.drew (IntKind.i64.wrap (a + 16));rw [KZ] at A0;have N0:=below_then S0.1 (al_one w1.drew (.cells #[.int .i64 (IntKind.i64.wrap (a + 16))] 3));have T0:=S0.2.1.keep (al_one w1.drew (.cells #[.int .i64 (IntKind.i64.wrap (a + 16))] 3));have U0:=z0.keep (al_one w1.drew (.cells #[.int .i64 (IntKind.i64.wrap (a + 16))] 3));refine hK.out _ _ ⟨N0,T0,y0,U0⟩ (fun S1 => ?_);clear hK K;(try simp only [zq,Act.put]);refine zqr 10 fun K hK => ?_
    obtain ⟨y1,z1⟩:=S1.2.2;go_simp;refine (HC.out _ (V0.out.keep S1.1)).mono ?_;rintro e u1 ⟨rfl,bb⟩;(go_wp2_with fail);refine hK.out _ _ ⟨below_then S1.1 bb,S1.2.1.keep bb,y1,z1.keep bb⟩ (fun S2 => ?_);clear hK K;(try simp only [zq,Act.put]);refine zqr 11 fun K hK => ?_
    obtain ⟨y2,z2⟩:=S2.2.2;refine step_vst rfl _ _ rfl (w.heap.size + 1) y2 k rfl rfl z2 ?_;have N2:=below_setRow S2.1 (show w.heap.size ≤ w.heap.size + 1 by omega) (vmC k);have T2:=vrow_fr S2.2.1 (by omega : w.heap.size ≠ w.heap.size + 1) (vmC k);have U2:=vrow z2 k;refine hK.out _ _ ⟨N2,T2,k,U2⟩ (fun S3 => ?_);clear hK K;(try simp only [zq,Act.put]);refine zqt (i:=12) (v:=?v12A) ?y12A ?r12A
    case y12A =>
      intro u hSu;go_simp;(try with_reducible rfl)
    (try simp only [zq,Act.put]);refine zqt (i:=13) (v:=?v13A) ?y13A ?r13A
    case y13A =>
      intro u hSu;go_simp;(try with_reducible rfl)
    (try simp only [zq,Act.put]);refine wpAnyH_done (by kernel_rfl) ?_ _;refine NoPanic.normal ?_;(go_wp2_with fail);exact bodyPost_ret (res_ctt rfl _ _ _ _ rfl U2) rfl ⟨k,_,_,_,rfl,fun hz => ⟨V0.out.keep N2,Sc.refl _,MLoc.refl _ _,((A0.keep bb).row_set (by omega : w.heap.size + 1 < w.heap.size + 1 + 1) _).le (by omega)⟩,N2⟩
  case refine_2 =>
    obtain ⟨y0,z0⟩:=S0.2.2;go_simp;refine (HC.out _ (V0.out.keep S0.1)).mono ?_;rintro e u1 ⟨rfl,bb⟩;(go_wp2_with fail);refine hK.out _ _ ⟨below_then S0.1 bb,S0.2.1.keep bb,y0,z0.keep bb⟩ (fun S1 => ?_);clear hK K;(try simp only [zq,Act.put]);have hu1:=bb.size;refine wpAnyH_ready (rs:=[5,11]) (by kernel_rfl) (by simp) ?_;refine AllReadyH.cons (o:=_) rfl (fun K hK => ?_) (AllReadyH.cons (o:=_) rfl (fun K hK => ?_) AllReadyH.nil)
    case refine_1 =>
      obtain ⟨y1,z1⟩:=S1.2.2;go_simp;(go_wp2_with fail);have A1:=rowN_one u1 (IntKind.i64.wrap (a + 16));have N1:=below_then S1.1 (al_one u1 (.cells #[.int .i64 (IntKind.i64.wrap (a + 16))] 3));have T1:=S1.2.1.keep (al_one u1 (.cells #[.int .i64 (IntKind.i64.wrap (a + 16))] 3));have U1:=z1.keep (al_one u1 (.cells #[.int .i64 (IntKind.i64.wrap (a + 16))] 3));refine hK.out _ _ ⟨N1,T1,y1,U1⟩ (fun S2 => ?_);clear hK K;(try simp only [zq,Act.put]);refine zqr 11 fun K hK => ?_
      obtain ⟨y2,z2⟩:=S2.2.2;refine step_vst rfl _ _ rfl (w.heap.size + 1) y2 k rfl rfl z2 ?_;have N2:=below_setRow S2.1 (show w.heap.size ≤ w.heap.size + 1 by omega) (vmC k);have T2:=vrow_fr S2.2.1 (by omega : w.heap.size ≠ w.heap.size + 1) (vmC k);have U2:=vrow z2 k;refine hK.out _ _ ⟨N2,T2,k,U2⟩ (fun S3 => ?_);clear hK K;(try simp only [zq,Act.put]);refine zqt (i:=12) (v:=?v12B) ?y12B ?r12B
      case y12B =>
        intro u hSu;go_simp;(try with_reducible rfl)
      (try simp only [zq,Act.put]);refine zqt (i:=13) (v:=?v13B) ?y13B ?r13B
      case y13B =>
        intro u hSu;go_simp;(try with_reducible rfl)
      (try simp only [zq,Act.put]);refine wpAnyH_done (by kernel_rfl) ?_ _;refine NoPanic.normal ?_;(go_wp2_with fail);exact bodyPost_ret (res_ctt rfl _ _ _ _ rfl U2) rfl ⟨k,_,_,_,rfl,fun hz => ⟨V0.out.keep N2,Sc.refl _,MLoc.refl _ _,((A1.le (by omega : w.heap.size + 1 + 1 ≤ u1.heap.size)).row_set (by omega : w.heap.size + 1 < w.heap.size + 1 + 1) _).le (by omega)⟩,N2⟩
    case refine_2 =>
      obtain ⟨y1,z1⟩:=S1.2.2;refine step_vst rfl _ _ rfl (w.heap.size + 1) y1 k rfl rfl z1 ?_;have N1:=below_setRow S1.1 (show w.heap.size ≤ w.heap.size + 1 by omega) (vmC k);have T1:=vrow_fr S1.2.1 (by omega : w.heap.size ≠ w.heap.size + 1) (vmC k);have U1:=vrow z1 k;refine hK.out _ _ ⟨N1,T1,k,U1⟩ (fun S2 => ?_);clear hK K;(try simp only [zq,Act.put]);generalize hu : World.setRow _ _ _ = u at N1 T1 U1 S2 ⊢;refine zqr 5 fun K hK => ?_
      obtain ⟨y2,z2⟩:=S2.2.2;go_simp;(go_wp2_with fail);have A2:=rowN_one u (IntKind.i64.wrap (a + 16));have N2:=below_then S2.1 (al_one u (.cells #[.int .i64 (IntKind.i64.wrap (a + 16))] 3));have T2:=S2.2.1.keep (al_one u (.cells #[.int .i64 (IntKind.i64.wrap (a + 16))] 3));have U2:=z2.keep (al_one u (.cells #[.int .i64 (IntKind.i64.wrap (a + 16))] 3));refine hK.out _ _ ⟨N2,T2,y2,U2⟩ (fun S3 => ?_);clear hK K;(try simp only [zq,Act.put]);refine zqt (i:=12) (v:=?v12C) ?y12C ?r12C
      case y12C =>
        intro u hSu;go_simp;(try with_reducible rfl)
      (try simp only [zq,Act.put]);refine zqt (i:=13) (v:=?v13C) ?y13C ?r13C
      case y13C =>
        intro u hSu;go_simp;(try with_reducible rfl)
      (try simp only [zq,Act.put]);refine wpAnyH_done (by kernel_rfl) ?_ _;refine NoPanic.normal ?_;(go_wp2_with fail);exact bodyPost_ret (res_ctt rfl _ _ _ _ rfl (U1.keep (al_one u (.cells #[.int .i64 (IntKind.i64.wrap (a + 16))] 3)))) rfl ⟨k,_,_,_,rfl,fun hz => ⟨V0.out.keep N2,Sc.refl _,MLoc.refl _ _,A2.le N1.size⟩,N2⟩
end Go.Proofs.YtlgnijhemfkflaaGreatDoor

namespace Go.Proofs.YtlgnijhemfkflaaGreatDoor
open Go.RowKit Go.ChangeMaps


abbrev DRow:=List (ByteArray × (VmK → VmL → Eff))
def Ents (w : World) : List MapEntry → DRow → Prop
  | [],[] => True
  | e :: es,x :: l => e.key = .string x.1 ∧ IsDeed w e.val x.2 ∧ Ents w es l
  | _,_ => False
def DMap (w : World) (b : Nat) (l : DRow) : Prop:=∃ es clock,w.heap[b]? = some (.map es clock) ∧ Ents w es.toList l
theorem Ents.keep {w w' : World} (k : Kp w w') : ∀ {es : List MapEntry} {l : DRow},Ents w es l → Ents w' es l
  | [],[],_ => trivial
  | e :: es,x :: l,⟨h1,h2,h3⟩ => ⟨h1,h2.keep k,Ents.keep k h3⟩
theorem Ents.snoc {w : World} {e : MapEntry} {x : ByteArray × (VmK → VmL → Eff)} (h1 : e.key = .string x.1) (h2 : IsDeed w e.val x.2) : ∀ {es : List MapEntry} {l : DRow},Ents w es l → Ents w (es ++ [e]) (l ++ [x])
  | [],[],_ => ⟨h1,h2,trivial⟩
  | e :: es,x :: l,⟨g1,g2,g3⟩ => ⟨g1,g2,Ents.snoc h1 h2 g3⟩
theorem same_no {k x : ByteArray} (h : x ≠ k) : Instr.sameNow .string (.string k) (.string x) = Option.some false:=by
  obtain ⟨r,hr,hi⟩:=MapKept.sameNow_of_keys (d:=.string) (a:=.string k) (b:=.string x) (by simp [MapKept.IsKey]) (by simp [MapKept.IsKey]);cases r with
  | false => exact hr
  | true => have:=hi.1 rfl; injection this with e; exact absurd e.symm h
theorem same_yes (k : ByteArray) : Instr.sameNow .string (.string k) (.string k) = Option.some true:=by
  obtain ⟨r,hr,hi⟩:=MapKept.sameNow_of_keys (d:=.string) (a:=.string k) (b:=.string k) (by simp [MapKept.IsKey]) (by simp [MapKept.IsKey]);rw [hi.2 rfl] at hr;exact hr
theorem Ents.none {w : World} {k : ByteArray} : ∀ {es : List MapEntry} {l : DRow} (i : Nat),Ents w es l → (∀ x ∈ l,x.1 ≠ k) → Instr.findNow .string (.string k) es i = some Option.none
  | [],[],_,_,_ => rfl
  | e :: es,x :: l,i,⟨h1,h2,h3⟩,hk => by
    have hr:=same_no (k:=k) (hk x (.head _));simp only [Instr.findNow,h1,hr];exact Ents.none (i + 1) h3 fun y hy => hk y (.tail _ hy)
theorem Ents.some {w : World} {k : ByteArray} {F : VmK → VmL → Eff} : ∀ {es : List MapEntry} {l : DRow} (i j : Nat),Ents w es l → l[j]? = Option.some (k,F) → (∀ (a : Nat),a < j → ∀ x,l[a]? = Option.some x → x.1 ≠ k) → ∃ v,Instr.findNow .string (.string k) es i = Option.some (Option.some (i + j,v)) ∧ IsDeed w v F
  | [],[],_,_,_,hj,_ => by simp at hj
  | e :: es,x :: l,i,0,⟨h1,h2,h3⟩,hj,_ => by
    obtain rfl : x = (k,F):=by simpa using hj
    refine ⟨e.val,?_,h2⟩;have hr:=same_yes k;simp only [Instr.findNow,h1,hr];rfl
  | e :: es,x :: l,i,j + 1,⟨h1,h2,h3⟩,hj,hb => by
    have hr:=same_no (k:=k) (hb 0 (by omega) x (by simp));obtain ⟨v,hv,hi⟩:=Ents.some (i + 1) j h3 (by simpa using hj) fun a ha y hy => hb (a + 1) (by omega) y (by simpa using hy)
    refine ⟨v,?_,hi⟩;simp only [Instr.findNow,h1,hr];rw [hv,show i + 1 + j = i + (j + 1) by omega]
theorem DMap.keep {w w' : World} {b : Nat} {l : DRow} (h : DMap w b l) (k : Below w.heap.size w w') : DMap w' b l:=by
  obtain ⟨es,c,h1,h2⟩:=h;exact ⟨es,c,(k.block b (Array.getElem?_eq_some_iff.1 h1).1).trans h1,h2.keep (kp_of k)⟩
theorem dmap_new (w : World) : DMap (w.alloc (.map #[] 0)) w.heap.size []:=⟨#[],0,heap_alloc_new w _,trivial⟩
theorem run_insertD {w : World} {b : Nat} {es : Array MapEntry} {clock : Nat} (hb : w.heap[b]? = some (.map es clock)) (k : ByteArray) (v : Value) (hn : Instr.findNow .string (.string k) es.toList 0 = some none) :
    ∃ w',(Instr.mapUpdate 73 (.map (some b)) (.string k) v).run Tryz.prog w = .ok () w' ∧ w'.heap[b]? = some (.map (es.push ⟨.string k,v,clock⟩) (clock + 1)) ∧ w.grownBy w' (some b) ∧ Kp w w':=by
  refine ⟨setBlock w b (.map (es.push ⟨.string k,v,clock⟩) (clock + 1)),?_,heap_setBlock_same hb _,⟨rfl,rfl,rfl,by simp [setBlock],fun i _ hi => heap_setBlock_other hb _ (fun e => hi (by rw [e]))⟩,⟨by simp [setBlock],?_⟩⟩
  · have hc : (Instr.checkKey false 10000 9 (.string k)).run Tryz.prog w = .ok () w:=MapKept.run_checkKey (n:=9999) Tryz.underlying9 (by simp [MapKept.IsKey]) false
    have hf:=MapKept.run_findKey (P:=Tryz.prog) (w:=w) Tryz.underlying9 hn;simp [Instr.mapUpdate,run_underlying Tryz.underlying73,MapKept.run_getObj_map hb,hc,hf,MapKept.run_setObj_map _ hb,Result.andThen,setBlock]
  · intro p _
    by_cases e : p.block = b
    · have h1:=heap_setBlock_same hb (.map (es.push ⟨.string k,v,clock⟩) (clock + 1))
      unfold World.cell?;rw [e,h1,hb]
    · have h1:=heap_setBlock_other hb (.map (es.push ⟨.string k,v,clock⟩) (clock + 1)) e
      unfold World.cell?;rw [h1]
theorem wpList_insertD {ops : Array Oper} {rest : List Oper} {o : Oper} {a : Act} {Q : Exit → Act → World → Prop} {w : World} (hg : o.guard = none) (m x v : Operand) (hop : o.op = Op.insert 73 m x v)
    (b : Nat) (l : DRow) (k : ByteArray) (u : Value) (F : VmK → VmL → Eff) (hm : a.eval m = .map (some b)) (hx : a.eval x = .string k) (hv : a.eval v = u) (hb : DMap w b l) (hi : IsDeed w u F) (hn : ∀ y ∈ l,y.1 ≠ k)
    (hK : ∀ w',DMap w' b (l ++ [(k,F)]) → w.grownBy w' (some b) → wpList Tryz.prog ops Q rest (a.put o.dst undef) w') :
    wpList Tryz.prog ops Q (o :: rest) a w:=by
  refine wpList_plain hg fun K' hK' => ?_
  obtain ⟨es,clock,h1,h2⟩:=hb;obtain ⟨w',hrun,r1,r2,r3⟩:=run_insertD h1 k u (h2.none 0 hn);unfold Oper.wp;simp [execOp,hop,hm,hx,hv,hrun,Result.andThen];refine hK' _ _ (hK w' ⟨_,_,r1,?_⟩ r2);rw [Array.toList_push];exact Ents.snoc rfl (hi.keep r3) (h2.keep r3)
theorem run_lookD {w : World} {b : Nat} {l : DRow} (h : DMap w b l) (k : ByteArray) (F : VmK → VmL → Eff) (j : Nat) (hj : l[j]? = some (k,F)) (hb : ∀ (a : Nat),a < j → ∀ x,l[a]? = some x → x.1 ≠ k) :
    ∃ v,(Instr.lookup 73 (.map (some b)) (.string k) false).run Tryz.prog w = .ok v w ∧ IsDeed w v F:=by
  obtain ⟨es,clock,h1,h2⟩:=h;obtain ⟨v,hv,hi⟩:=h2.some 0 j hj hb;refine ⟨v,?_,hi⟩;have hc : ∀ e : Bool,(Instr.checkKey e 10000 9 (.string k)).run Tryz.prog w = .ok () w:=fun e => MapKept.run_checkKey (n:=9999) Tryz.underlying9 (by simp [MapKept.IsKey]) e
  have hf:=MapKept.run_findKey (P:=Tryz.prog) (w:=w) Tryz.underlying9 hv;simp [Instr.lookup,run_underlying Tryz.underlying73,MapKept.run_getObj_map h1,hc,hf,Result.andThen]
theorem IsDeed.as {W : World} {v : Value} {F G : VmK → VmL → Eff} (h : IsDeed W v F) (e : ∀ k L,F k L = G k L) : IsDeed W v G:=by
  have : F = G:=by funext k L; exact e k L
  exact this ▸ h
abbrev doF (n : Int) : VmK → VmL → Eff:=fun k L => doE n k L
def MapOut (l : DRow) (w : World) (e : Ending) (w' : World) : Prop:=∃ b,e = .returned (.map (some b)) ∧ DMap w' b l ∧ Below w.heap.size w w'
end Go.Proofs.YtlgnijhemfkflaaGreatDoor

namespace Go.Proofs.YtlgnijhemfkflaaGreatDoor
open Go.RowKit


theorem wpList_updateD {ops : Array Oper} {rest : List Oper} {o : Oper} {a : Act} {Q : Exit → Act → World → Prop} {w : World} (hg : o.guard = none) (m x v : Operand) (hop : o.op = Op.mapUpdate 73 m x v)
    (b : Nat) (l : DRow) (k : ByteArray) (u : Value) (F : VmK → VmL → Eff) (hm : a.eval m = .map (some b)) (hx : a.eval x = .string k) (hv : a.eval v = u) (hb : DMap w b l) (hi : IsDeed w u F) (hn : ∀ y ∈ l,y.1 ≠ k)
    (hK : ∀ w',DMap w' b (l ++ [(k,F)]) → w.grownBy w' (some b) → wpList Tryz.prog ops Q rest (a.put o.dst undef) w') :
    wpList Tryz.prog ops Q (o :: rest) a w:=by
  refine wpList_plain hg fun K' hK' => ?_
  obtain ⟨es,clock,h1,h2⟩:=hb;obtain ⟨w',hrun,r1,r2,r3⟩:=run_insertD h1 k u (h2.none 0 hn);unfold Oper.wp;simp [execOp,hop,hm,hx,hv,hrun,Result.andThen];refine hK' _ _ (hK w' ⟨_,_,r1,?_⟩ r2);rw [Array.toList_push];exact Ents.snoc rfl (hi.keep r3) (h2.keep r3)
theorem makeD (n : Int) (w : World) : (Instr.makeMap 73 (some (.int .i64 n))).run Tryz.prog w = .ok (.map (some w.heap.size)) (w.alloc (.map #[] 0)):=by
  simp [Instr.makeMap,run_underlying Tryz.underlying73,asInt,newObj,Result.andThen];rfl
abbrev eachL (ls : List (List UInt8)) (F : List UInt8 → VmK → VmL → Eff) : DRow:=ls.map fun s => (strB s,F s)
theorem each_snoc {ls : List (List UInt8)} {i : Nat} {s : List UInt8} (h : ls[i]? = some s) (F : List UInt8 → VmK → VmL → Eff) : eachL (ls.take (i + 1)) F = eachL (ls.take i) F ++ [(strB s,F s)]:=by
  unfold eachL;rw [List.take_add_one,h];simp
theorem each_new {ls : List (List UInt8)} {i : Nat} {s : List UInt8} (hd : (ls.map strB).Nodup) (h : ls[i]? = some s) (F : List UInt8 → VmK → VmL → Eff) : ∀ y ∈ eachL (ls.take i) F,y.1 ≠ strB s:=by
  intro y hy e;unfold eachL at hy;rw [List.mem_map] at hy;obtain ⟨t,ht,rfl⟩:=hy;obtain ⟨j,hj,ej⟩:=List.getElem_of_mem ht;have hji : j < i:=by simp at hj; omega
  obtain ⟨hi,ei⟩:=List.getElem?_eq_some_iff.1 h;have hjl : j < ls.length:=by omega
  have e1 : ls[j] = t:=by rw [← ej]; simp
  rw [List.Nodup,List.pairwise_iff_getElem] at hd;have:=hd j i (by simpa using hjl) (by simpa using hi) hji;simp [e1,ei] at this;exact this e
theorem each_any (A : Option Addr) (n c : Nat) (ls : List (List UInt8)) (g : FuncId) (eg : Ent g) (F : List UInt8 → VmK → VmL → Eff) (w : World) (hs : Sts w (.slice A n c) ls) (hn : n ≤ 1000) (hd : (ls.map strB).Nodup)
    (hg : ∀ s w,Calls Tryz.prog g #[.string (strB s)] w (Makes (F s) w)) : Calls Tryz.prog 45 #[.slice A n c,.func (.func g) #[] #[]] w (MapOut (eachL ls F) w):=by
  have hl:=hs.len;subst hl;have hmm:=makeD;have HS:=zqh hs;have HN : Hid (ls.length ≤ 1000):=hn;have HD:=zqh hd;have HG:=zqh hg;have M0 : Hid (DMap (w.alloc (.map #[] 0)) w.heap.size []):=dmap_new w;have B0 : Hid (Below w.heap.size w (w.alloc (.map #[] 0))):=zqh (below_one _ _);clear hs hn hd hg;go_enter Tryz.func45,Tryz.ntmps45;(go_wp2_with fail)
  go_loopw [13] (fun s13 wr => ∃ k : Nat,s13 = .int .i64 (k : Int) ∧ k ≤ ls.length ∧ Hid (DMap wr w.heap.size (eachL (ls.take k) F)) ∧ Hid (Below w.heap.size w wr)) (fun s13 _ => ls.length - (intOf s13).toNat)
  case atStart => exact ⟨0,rfl,Nat.zero_le _,M0,B0⟩
  case round =>
    obtain ⟨k,rfl,hk,HM,HB⟩:=hrel
    by_cases hkl : k < ls.length
    · have hx : ls[k]? = some ls[k]:=List.getElem?_eq_getElem hkl
      obtain ⟨q,eq⟩ : ∃ q,ls[k] = q:=⟨_,rfl⟩;obtain ⟨g1,o1,rfl,c1⟩:=sts_cell (HS.out.keep HB.out) hkl;rw [eq] at hx c1;have HX:=zqh hx;have hkl' : (k : Int) < (ls.length : Int):=by omega
      have hln:=HN.out;clear hx eq hk;(go_wp2_with fail);refine (HG.out q _).mono ?_;rintro e u ⟨d,rfl,hd,bb⟩;have N1:=zqh (HM.out.keep bb);have A1:=zqh (below_then HB.out bb);have D1 : Hid (IsDeed u d (F q)):=zqh hd;clear HM HB hd bb c1;(go_wp2_with (refine wpList_updateD rfl _ _ _ rfl w.heap.size _ (strB q) d (F q) rfl rfl rfl N1.out D1.out (each_new HD.out HX.out F) ?_; intro v hm hg; have M1:=zqh hm; have B1:=zqh (A1.out.grown hg A1.out.size (fun k hk => by cases hk; exact Nat.le_refl _)); clear N1 A1 D1 hm hg));have M2 : Hid (DMap v w.heap.size (eachL (ls.take (k + 1)) F)):=by
        show DMap _ _ _;rw [each_snoc HX.out F];exact M1.out
      go_roundw
      case rel => exact ⟨k + 1,(by first | rfl | (rw [w64_id (by omega) (by omega)]; rfl)),hkl,M2,B1⟩
      case measure => first | (simp [intOf]; done) | (simp [intOf]; omega) | (rw [w64_id (by omega) (by omega)]; simp [intOf]; omega)
    · obtain rfl : k = ls.length:=by omega
      rw [List.take_length] at HM;clear hkl hk;(go_wp2_with fail);go_ret;exact ⟨_,rfl,HM.out,HB.out⟩
end Go.Proofs.YtlgnijhemfkflaaGreatDoor

namespace Go.Proofs.YtlgnijhemfkflaaGreatDoor
open Go.RowKit


theorem wideDeeds_is (w : World) : Calls Tryz.prog 49 #[] w (MapOut [(⟨#[47,77,79,68]⟩,doF 73),(⟨#[42,47]⟩,doF 74),(⟨#[42,47,77,79,68]⟩,doF 75),(⟨#[85,77,42]⟩,doF 76),(⟨#[85,77,47,77,79,68]⟩,doF 77),(⟨#[77,42]⟩,doF 78),(⟨#[83,77,47,82,69,77]⟩,doF 79),(⟨#[70,77,47,77,79,68]⟩,doF 80),(⟨#[83,62,68]⟩,doF 81),(⟨#[87,73,84,72,73,78]⟩,doF 82)] w):=by
  have hmm:=@run_makeMap Tryz.prog;have M0 : Hid (DMap (w.alloc (.map #[] 0)) w.heap.size []):=dmap_new w;have B0 : Hid (Below w.heap.size w (w.alloc (.map #[] 0))):=zqh (below_one _ _);go_enter Tryz.func49,Tryz.ntmps49;(go_wp2_with fail);refine (reckons_is 2 (fun x => [dr (x.getD 0 0) (x.getD 1 0),dq (x.getD 0 0) (x.getD 1 0)]) (fun x => dc (x.getD 1 0)) (by decide) (fun _ => by show 2 ≤ 4; decide) _ _ ⟨_,#[],rfl,(enters_of Tryz.func83 (by kernel_rfl) rfl),fun w A c x _ hx => wide1 w A c x hx⟩).mono ?_;rintro e u0 ⟨d0,rfl,hd,bb⟩;have N0:=zqh (M0.out.keep bb);have A0:=zqh (below_then B0.out bb);have D0 : Hid (IsDeed u0 d0 (doF 73)):=zqh (hd.as fun k L => rfl);clear M0 B0 hd bb;(go_wp2_with (refine wpList_insertD rfl _ _ _ rfl w.heap.size _ ⟨#[47,77,79,68]⟩ d0 (doF 73) rfl rfl rfl N0.out D0.out (by decide) ?_; intro v0 hm hg; have M1:=zqh hm; have B1:=zqh (A0.out.grown hg A0.out.size (fun k hk => by cases hk; exact Nat.le_refl _)); clear N0 A0 D0 hm hg));refine (reckons_is 3 (fun x => [fq (umLo (x.getD 0 0) (x.getD 1 0)) (smHi (x.getD 0 0) (x.getD 1 0)) (x.getD 2 0)]) (fun x => fc (umLo (x.getD 0 0) (x.getD 1 0)) (smHi (x.getD 0 0) (x.getD 1 0)) (x.getD 2 0)) (by decide) (fun _ => by show 1 ≤ 4; decide) _ _ ⟨_,#[],rfl,(enters_of Tryz.func86 (by kernel_rfl) rfl),fun w A c x _ hx => wide2 w A c x hx⟩).mono ?_;rintro e u1 ⟨d1,rfl,hd,bb⟩;have N1:=zqh (M1.out.keep bb);have A1:=zqh (below_then B1.out bb);have D1 : Hid (IsDeed u1 d1 (doF 74)):=zqh (hd.as fun k L => rfl)
  clear M1 B1 hd bb;(go_wp2_with (refine wpList_insertD rfl _ _ _ rfl w.heap.size _ ⟨#[42,47]⟩ d1 (doF 74) rfl rfl rfl N1.out D1.out (by decide) ?_; intro v1 hm hg; have M2:=zqh hm; have B2:=zqh (A1.out.grown hg A1.out.size (fun k hk => by cases hk; exact Nat.le_refl _)); clear N1 A1 D1 hm hg));refine (reckons_is 3 (fun x => [fr (umLo (x.getD 0 0) (x.getD 1 0)) (smHi (x.getD 0 0) (x.getD 1 0)) (x.getD 2 0),fq (umLo (x.getD 0 0) (x.getD 1 0)) (smHi (x.getD 0 0) (x.getD 1 0)) (x.getD 2 0)]) (fun x => fc (umLo (x.getD 0 0) (x.getD 1 0)) (smHi (x.getD 0 0) (x.getD 1 0)) (x.getD 2 0)) (by decide) (fun _ => by show 2 ≤ 4; decide) _ _ ⟨_,#[],rfl,(enters_of Tryz.func88 (by kernel_rfl) rfl),fun w A c x _ hx => wide3 w A c x hx⟩).mono ?_;rintro e u2 ⟨d2,rfl,hd,bb⟩;have N2:=zqh (M2.out.keep bb);have A2:=zqh (below_then B2.out bb);have D2 : Hid (IsDeed u2 d2 (doF 75)):=zqh (hd.as fun k L => rfl);clear M2 B2 hd bb;(go_wp2_with (refine wpList_insertD rfl _ _ _ rfl w.heap.size _ ⟨#[42,47,77,79,68]⟩ d2 (doF 75) rfl rfl rfl N2.out D2.out (by decide) ?_; intro v2 hm hg; have M3:=zqh hm; have B3:=zqh (A2.out.grown hg A2.out.size (fun k hk => by cases hk; exact Nat.le_refl _)); clear N2 A2 D2 hm hg));refine (multiplied_is _ (enters_of Tryz.func90 (by kernel_rfl) rfl) (fun a b => umLo a b) (fun a b => umHi a b) (fun a b w ha hb => (umul_any a b w).mono fun e w' h => ⟨h.1,by rw [← h.2]; exact Below.refl _ _⟩) _).mono ?_;rintro e u3 ⟨d3,rfl,hd,bb⟩;have N3:=zqh (M3.out.keep bb)
  have A3:=zqh (below_then B3.out bb);have D3 : Hid (IsDeed u3 d3 (doF 76)):=zqh (hd.as fun k L => rfl);clear M3 B3 hd bb;(go_wp2_with (refine wpList_insertD rfl _ _ _ rfl w.heap.size _ ⟨#[85,77,42]⟩ d3 (doF 76) rfl rfl rfl N3.out D3.out (by decide) ?_; intro v3 hm hg; have M4:=zqh hm; have B4:=zqh (A3.out.grown hg A3.out.size (fun k hk => by cases hk; exact Nat.le_refl _)); clear N3 A3 D3 hm hg));refine (divided_is _ (enters_of Tryz.func92 (by kernel_rfl) rfl) (fun a b d => uq a b d) (fun a b d => ur a b d) (fun a b d => uc b d) (fun a b d w ha hb hd => udiv_any a b d w hd) _).mono ?_;rintro e u4 ⟨d4,rfl,hd,bb⟩;have N4:=zqh (M4.out.keep bb);have A4:=zqh (below_then B4.out bb);have D4 : Hid (IsDeed u4 d4 (doF 77)):=zqh (hd.as fun k L => rfl);clear M4 B4 hd bb;(go_wp2_with (refine wpList_insertD rfl _ _ _ rfl w.heap.size _ ⟨#[85,77,47,77,79,68]⟩ d4 (doF 77) rfl rfl rfl N4.out D4.out (by decide) ?_; intro v4 hm hg; have M5:=zqh hm; have B5:=zqh (A4.out.grown hg A4.out.size (fun k hk => by cases hk; exact Nat.le_refl _)); clear N4 A4 D4 hm hg));refine (multiplied_is _ (enters_of Tryz.func93 (by kernel_rfl) rfl) (fun a b => umLo a b) (fun a b => smHi a b) (fun a b w ha hb => (mul_any a b w ha hb).mono fun e w' h => ⟨h.1,by rw [← h.2]; exact Below.refl _ _⟩) _).mono ?_;rintro e u5 ⟨d5,rfl,hd,bb⟩;have N5:=zqh (M5.out.keep bb);have A5:=zqh (below_then B5.out bb);have D5 : Hid (IsDeed u5 d5 (doF 78)):=zqh (hd.as fun k L => rfl);clear M5 B5 hd bb;(go_wp2_with (refine wpList_insertD rfl _ _ _ rfl w.heap.size _ ⟨#[77,42]⟩ d5 (doF 78) rfl rfl rfl N5.out D5.out (by decide) ?_; intro v5 hm hg; have M6:=zqh hm; have B6:=zqh (A5.out.grown hg A5.out.size (fun k hk => by cases hk; exact Nat.le_refl _)); clear N5 A5 D5 hm hg))
  refine (divided_is _ (enters_of Tryz.func94 (by kernel_rfl) rfl) (fun a b d => sq a b d) (fun a b d => sr a b d) (fun a b d => sc a b d) (fun a b d w ha hb hd => sdiv_any a b d w hb hd) _).mono ?_;rintro e u6 ⟨d6,rfl,hd,bb⟩;have N6:=zqh (M6.out.keep bb);have A6:=zqh (below_then B6.out bb);have D6 : Hid (IsDeed u6 d6 (doF 79)):=zqh (hd.as fun k L => rfl);clear M6 B6 hd bb;(go_wp2_with (refine wpList_insertD rfl _ _ _ rfl w.heap.size _ ⟨#[83,77,47,82,69,77]⟩ d6 (doF 79) rfl rfl rfl N6.out D6.out (by decide) ?_; intro v6 hm hg; have M7:=zqh hm; have B7:=zqh (A6.out.grown hg A6.out.size (fun k hk => by cases hk; exact Nat.le_refl _)); clear N6 A6 D6 hm hg));refine (divided_is _ (enters_of Tryz.func95 (by kernel_rfl) rfl) (fun a b d => fq a b d) (fun a b d => fr a b d) (fun a b d => fc a b d) (fun a b d w ha hb hd => fdiv_any a b d w hb hd) _).mono ?_;rintro e u7 ⟨d7,rfl,hd,bb⟩;have N7:=zqh (M7.out.keep bb);have A7:=zqh (below_then B7.out bb);have D7 : Hid (IsDeed u7 d7 (doF 80)):=zqh (hd.as fun k L => rfl);clear M7 B7 hd bb;(go_wp2_with (refine wpList_insertD rfl _ _ _ rfl w.heap.size _ ⟨#[70,77,47,77,79,68]⟩ d7 (doF 80) rfl rfl rfl N7.out D7.out (by decide) ?_; intro v7 hm hg; have M8:=zqh hm; have B8:=zqh (A7.out.grown hg A7.out.size (fun k hk => by cases hk; exact Nat.le_refl _)); clear N7 A7 D7 hm hg));refine (reckons_is 1 (fun x => [(x.getD 0 0),truthN (decide ((x.getD 0 0) < 0))]) (fun x => 0) (by decide) (fun _ => by show 2 ≤ 4; decide) _ _ ⟨_,#[],rfl,(enters_of Tryz.func96 (by kernel_rfl) rfl),fun w A c x _ hx => wide4 w A c x hx⟩).mono ?_
  rintro e u8 ⟨d8,rfl,hd,bb⟩;have N8:=zqh (M8.out.keep bb);have A8:=zqh (below_then B8.out bb);have D8 : Hid (IsDeed u8 d8 (doF 81)):=zqh (hd.as fun k L => rfl);clear M8 B8 hd bb;(go_wp2_with (refine wpList_insertD rfl _ _ _ rfl w.heap.size _ ⟨#[83,62,68]⟩ d8 (doF 81) rfl rfl rfl N8.out D8.out (by decide) ?_; intro v8 hm hg; have M9:=zqh hm; have B9:=zqh (A8.out.grown hg A8.out.size (fun k hk => by cases hk; exact Nat.le_refl _)); clear N8 A8 D8 hm hg));refine (reckons_is 3 (fun x => [truthN (withinB (x.getD 0 0) (x.getD 1 0) (x.getD 2 0))]) (fun x => 0) (by decide) (fun _ => by show 1 ≤ 4; decide) _ _ ⟨_,#[],rfl,(enters_of Tryz.func98 (by kernel_rfl) rfl),fun w A c x _ hx => wide5 w A c x hx⟩).mono ?_;rintro e u9 ⟨d9,rfl,hd,bb⟩;have N9:=zqh (M9.out.keep bb);have A9:=zqh (below_then B9.out bb);have D9 : Hid (IsDeed u9 d9 (doF 82)):=zqh (hd.as fun k L => rfl);clear M9 B9 hd bb;(go_wp2_with (refine wpList_insertD rfl _ _ _ rfl w.heap.size _ ⟨#[87,73,84,72,73,78]⟩ d9 (doF 82) rfl rfl rfl N9.out D9.out (by decide) ?_; intro v9 hm hg; have M10:=zqh hm; have B10:=zqh (A9.out.grown hg A9.out.size (fun k hk => by cases hk; exact Nat.le_refl _)); clear N9 A9 D9 hm hg));go_ret;exact ⟨_,rfl,M10.out,B10.out⟩
end Go.Proofs.YtlgnijhemfkflaaGreatDoor
