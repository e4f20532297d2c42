/- Part 33. -/
import Derived.Test.YtcmldhjicjmmgaaGreatDoorXlBF
set_option linter.unusedVariables false
set_option linter.unusedSimpArgs false
set_option maxRecDepth 100000
set_option maxHeartbeats 4000000

namespace Go.Proofs.YtcmldhjicjmmgaaGreatDoor
open Go.RowKit


theorem req_size : (Tryz.prog.info? 119).map (·.size) = some 6:=by kernel_rfl
theorem qC_one (q : Rq) : (qC q).all (·.oneCell') = true:=by simp [Value.oneCell']
theorem qrow {w : World} {b : Nat} {j : Rq} (h : QBox w b j) (q : Rq) : QBox (w.setRow b (qC q)) b q:=setRow_heap w b _ _ _ _ h
theorem step_qst {ops : Array Oper} {o : Oper} {a : Act} {K : Act → World → Prop} {Q : Exit → Act → World → Prop} {E : Prop} {w : World} (hgd : o.guard = none) (x y : Operand) (ho : o.op = .store 119 x y)
    (b : Nat) (j q : Rq) (hx : a.eval x = .pointer (some ⟨b,0,none⟩)) (hy : a.eval y = qV q) (hb : QBox w b j) (h : K (a.put o.dst undef) (w.setRow b (qC q))) :
    if Region.wanted o (yielded ops a.tmps) = true then Oper.wp Tryz.prog o a w K Q else E:=by
  have hw : Region.wanted o (yielded ops a.tmps) = true:=by simp [Region.wanted,hgd]
  rw [if_pos hw];exact wp_store_row 119 x y ho b (qC q) hx hy _ _ hb req_size rfl (qC_one q) h
theorem cancelled_any (k : VmK) (L : VmL) (A : Option Addr) (c : Nat) (x : List Int) (w : World) (ok : Ok k L) (h : IsVm w k L) (hx : Takes w 1 A c x) : Calls Tryz.prog 198 #[vmV k,.slice A 1 c] w (TurnOut ⟨postC L,[],k,{ L with e:=L.e ++ [⟨4,0,0,0,0,x.getD 0 0⟩] }⟩ k w):=by
  obtain ⟨a,g,o,rfl,rfl,hg,c0,ha⟩:=hx.one;show Calls _ _ _ _ (TurnOut ⟨postC L,[],k,{ L with e:=L.e ++ [⟨4,0,0,0,0,a⟩] }⟩ k w);have HC:=zqh fun w h => asked_any k L ⟨4,0,0,0,0,a⟩ w ok h
  have V0:=zqh h;have C0:=zqh c0;generalize postC L = D at HC ⊢;clear ok h hx c0;go_enter Tryz.func198,Tryz.ntmps198;go_upto_region 1 with fail
  generalize hw1 : World.alloc (World.alloc _ _) _ = w1;have kb : Below w.heap.size w w1:=by rw [← hw1]; exact al_two _ _ _
  have kx : VBox w1 w.heap.size k:=by rw [← hw1]; exact (in_two w k _).2
  have kz : VBox w1 (w.heap.size + 1) vm0:=by rw [← hw1]; exact in_two0 w _
  have KS : Hid (w1.heap.size = w.heap.size + 1 + 1):=by show _ = _; rw [← hw1]; exact in_twos w _ _
  clear hw1;have X1:=zqh kx;have Z1:=zqh kz;have B1:=zqh kb;have KZ : Hid (w1.drew.heap.size = w.heap.size + 1 + 1):=KS;clear kx kz kb;go_upto_region 1 with fail
  refine wp_region_noPanic ?_;refine wp_region_held_drew (S:=fun a => Below w.heap.size w a ∧ VBox a w.heap.size k ∧ ∃ j0,VBox a (w.heap.size + 1) j0) (by kernel_rfl) ?_ (fun hHeld => ?_)
  · exact ⟨B1.out.drew,X1.out,_,Z1.out⟩
  refine zqt (i:=0) (v:=vmV k) (fun u hSu => exec_vl _ rfl w.heap.size k rfl hSu.2.1) ?_;(try simp only [zq,Act.put]);refine zqa 1 ?_;refine zqa 2 ?_;refine zqf 3 (fun u hSu => (hSu.1.cell (p:=⟨g,o,none⟩) hg).trans C0.out) ?_;refine zqa 4 ?_;refine zqr 5 fun K hK => ?_
  go_simp;refine (HC.out _ (V0.out.keep hHeld.1)).mono ?_;rintro e u1 ⟨j,rfl,hr,bb⟩;obtain ⟨j0,hz⟩:=hHeld.2.2;have hN : Below w.heap.size w u1 ∧ VBox u1 w.heap.size k ∧ ∃ j0,VBox u1 (w.heap.size + 1) j0:=⟨below_then hHeld.1 bb,hHeld.2.1.keep bb,j0,hz.keep bb⟩;have HR:=zqh hr;have S2:=zqh bb.size;(go_wp2_with fail);clear bb hz hr;clear hHeld;refine hK.out _ _ hN (fun hHeld => ?_);clear hK K hN;(try simp only [zq,Act.put]);refine zqa 6 ?_;refine zqa 7 ?_;refine zqr 8 fun K hK => ?_
  obtain ⟨j9,hz⟩:=hHeld.2.2;refine step_vst rfl _ _ rfl (w.heap.size + 1) j9 j rfl rfl hz ?_;have kb2:=below_setRow hHeld.1 (show w.heap.size ≤ w.heap.size + 1 by omega) (vmC j);refine hK.out _ _ ⟨kb2,vrow_fr hHeld.2.1 (by omega) _,j,vrow hz j⟩ (fun hHeld9 => ?_);have HB:=zqh kb2;have ZW:=zqh (vrow hz j);have ZO:=zqh hz;clear kb2 hz hHeld;clear hK K;(try simp only [zq,Act.put]);refine zqa 9 ?_;refine wpAnyH_done (by kernel_rfl) ?_ _;refine NoPanic.normal ?_;(go_wp2_with fail);refine bodyPost_ret (res_ct rfl _ _ _ _ rfl ZW.out) rfl ⟨j,rfl,fun hz => ?_,HB.out⟩;obtain ⟨hj,hs,hl⟩:=HR.out hz;refine ⟨V0.out.ex hj hl ((Ex.refl (fun g => g = w.heap.size + 1) u1).row rfl (vmC j)) ?_,hs,hl.le (by have:=KZ.out; omega)⟩;intro g hg h;subst h;have:=KZ.out;exact ⟨by omega,by omega,vbox_nou8 ZO.out⟩
theorem posted_any (k : VmK) (L : VmL) (A : Option Addr) (c : Nat) (x : List Int) (w : World) (ok : Ok k L) (h : IsVm w k L) (hx : Takes w 3 A c x) : Calls Tryz.prog 196 #[vmV k,.slice A 3 c] w (TurnOut ⟨if hasB L (x.getD 1 0) (x.getD 2 0) = true then postC L else -259,[],k,{ L with e:=L.e ++ [⟨1,x.getD 0 0,x.getD 1 0,x.getD 2 0,0,0⟩] }⟩ k w):=by
  obtain ⟨a,b,d,g,o,rfl,rfl,hg,c0,c1,c2,ha,hb,hd⟩:=hx.three;show Calls _ _ _ _ (TurnOut ⟨if hasB L b d = true then postC L else -259,[],k,{ L with e:=L.e ++ [⟨1,a,b,d,0,0⟩] }⟩ k w);have HH:=zqh fun w h => hasHandler_any k L ⟨1,a,b,d,0,0⟩ w h ok.h1
  have HC:=zqh fun w h => asked_any k L ⟨1,a,b,d,0,0⟩ w ok h
  have V0:=zqh h;have C0:=zqh c0;have C1:=zqh c1;have C2:=zqh c2;generalize postC L = D at HC ⊢;have HH : Hid (∀ w,IsVm w k L → Calls Tryz.prog 256 #[vmV k,qV ⟨1,a,b,d,0,0⟩] w fun e w' => e = .returned (.bool (hasB L b d)) ∧ Below w.heap.size w w'):=HH;generalize hasB L b d = P at HH ⊢;clear ok h hx c0 c1 c2;cases P with
  | true =>
    rw [if_pos rfl];go_enter Tryz.func196,Tryz.ntmps196;go_upto_region 1 with fail
    generalize hw1 : World.alloc (World.alloc _ _) _ = w1;have kb : Below w.heap.size w w1:=by rw [← hw1]; exact al_two _ _ _
    have kx : VBox w1 w.heap.size k:=by rw [← hw1]; exact (in_two w k _).2
    have kz : VBox w1 (w.heap.size + 1) vm0:=by rw [← hw1]; exact in_two0 w _
    have KS : Hid (w1.heap.size = w.heap.size + 1 + 1):=by show _ = _; rw [← hw1]; exact in_twos w _ _
    clear hw1;have X1:=zqh kx;have Z1:=zqh kz;have B1:=zqh kb;have KZ : Hid (w1.drew.heap.size = w.heap.size + 1 + 1):=KS;clear kx kz kb;go_upto_region 1 with fail
    refine wp_region_noPanic ?_;refine wp_region_held_drew (S:=fun a => Below w.heap.size w a ∧ VBox a w.heap.size k ∧ VBox a (w.heap.size + 1) vm0) (by kernel_rfl) ?_ (fun hHeld => ?_)
    · exact ⟨B1.out.drew,X1.out,Z1.out⟩
    refine zqa 0 ?_;refine zqa 1 ?_;refine zqf 2 (fun u hSu => (hSu.1.cell (p:=⟨g,o,none⟩) hg).trans C0.out) ?_;refine zqa 3 ?_;refine zqa 4 ?_;refine zqf 5 (fun u hSu => (hSu.1.cell (p:=⟨g,o + 1,none⟩) hg).trans C1.out) ?_;refine zqa 6 ?_;refine zqa 7 ?_;refine zqf 8 (fun u hSu => (hSu.1.cell (p:=⟨g,o + 2,none⟩) hg).trans C2.out) ?_;refine zqa 9 ?_;refine zqr 10 fun K hK => ?_
    go_simp;(go_wp2_with fail);have OV:=zqh (qbox_new w1.drew rq0);refine hK.out _ _ ⟨below_then hHeld.1 (al_one _ _),hHeld.2.1.keep (al_one _ _),hHeld.2.2.keep (al_one _ _)⟩ (fun hHeld => ?_);clear hK K;(try simp only [zq,Act.put]);refine zqr 11 fun K hK => ?_
    refine step_qst rfl _ _ rfl w1.drew.heap.size rq0 ⟨1,a,b,d,0,0⟩ rfl rfl OV.out ?_;have kz : w.heap.size ≤ w1.drew.heap.size ∧ w.heap.size ≠ w1.drew.heap.size ∧ w.heap.size + 1 ≠ w1.drew.heap.size:=by have:=KZ.out; omega
    refine hK.out _ _ ⟨below_setRow hHeld.1 kz.1 _,vrow_fr hHeld.2.1 kz.2.1 _,vrow_fr hHeld.2.2 kz.2.2 _⟩ (fun hHeld9 => ?_);have YY:=zqh (qrow OV.out ⟨1,a,b,d,0,0⟩);have SS:=zqh hHeld9;clear hHeld hHeld9 kz OV;clear hK K;(try simp only [zq,Act.put]);refine wpAnyH_done (by kernel_rfl) ?_ _;refine NoPanic.normal ?_;generalize hu : World.setRow _ _ _ = u;have BU : Below w.heap.size w u:=by rw [← hu]; exact SS.out.1
    have XU : VBox u w.heap.size k:=by rw [← hu]; exact SS.out.2.1
    have ZU : VBox u (w.heap.size + 1) vm0:=by rw [← hu]; exact SS.out.2.2
    have YY : Hid (QBox u w1.heap.size ⟨1,a,b,d,0,0⟩):=by show QBox _ _ _; rw [← hu]; exact YY.out
    clear hu X1 Z1 B1;have X2:=zqh XU;have Z2:=zqh ZU;have B2:=zqh BU;have S2:=zqh YY.out.lt;obtain ⟨r0,r1,r2,r3,r4,r5⟩:=YY.out.use;clear BU XU ZU SS;(go_wp2_with (refine wpList_vload (by rfl) _ rfl w.heap.size k rfl X2.out ?_));refine (HH.out _ (V0.out.keep B2.out)).mono ?_;rintro e w3 ⟨rfl,bb⟩;have X3:=zqh (X2.out.keep bb);have Z3:=zqh (Z2.out.keep bb);have B3:=zqh (below_then B2.out bb);have Y3:=zqh (YY.out.keep bb);have S3:=zqh bb.size;clear HH bb r0 r1 r2 r3 r4 r5 YY X2 Z2 B2;obtain ⟨r0,r1,r2,r3,r4,r5⟩:=Y3.out.use;(go_wp2_with (refine wpList_vload (by rfl) _ rfl w.heap.size k rfl X3.out ?_));refine (HC.out _ (V0.out.keep B3.out)).mono ?_;rintro e w4 ⟨j,rfl,hr,bb⟩;have Z4:=zqh (Z3.out.keep bb);have B4:=zqh (below_then B3.out bb);have HR:=zqh hr;have S4:=zqh bb.size;clear HC bb hr r0 r1 r2 r3 r4 r5 X3 Z3 Y3;(go_wp2_with (refine wpList_vstore (by rfl) _ _ rfl (w.heap.size + 1) vm0 j rfl rfl Z4.out ?_));have kb2:=below_setRow B4.out (show w.heap.size ≤ w.heap.size + 1 by omega) (vmC j);refine bodyPost_ret (res_ct rfl _ _ _ _ rfl (vrow Z4.out j)) rfl ⟨j,rfl,fun hz => ?_,kb2⟩;obtain ⟨hj,hs,hl⟩:=HR.out hz;refine ⟨V0.out.ex hj hl ((Ex.refl (fun g => g = w.heap.size + 1) w4).row rfl (vmC j)) ?_,hs,hl.le (by have:=KS.out; have:=S2.out; have:=S3.out; omega)⟩;intro g hg h;subst h;have:=KS.out; have:=S2.out; have:=S3.out;exact ⟨by omega,by omega,vbox_nou8 Z4.out⟩
  | false =>
    rw [if_neg (by decide)];go_enter Tryz.func196,Tryz.ntmps196;go_upto_region 1 with fail
    generalize hw1 : World.alloc (World.alloc _ _) _ = w1;have kb : Below w.heap.size w w1:=by rw [← hw1]; exact al_two _ _ _
    have kx : VBox w1 w.heap.size k:=by rw [← hw1]; exact (in_two w k _).2
    have kz : VBox w1 (w.heap.size + 1) vm0:=by rw [← hw1]; exact in_two0 w _
    have KS : Hid (w1.heap.size = w.heap.size + 1 + 1):=by show _ = _; rw [← hw1]; exact in_twos w _ _
    clear hw1;have X1:=zqh kx;have Z1:=zqh kz;have B1:=zqh kb;have KZ : Hid (w1.drew.heap.size = w.heap.size + 1 + 1):=KS;clear kx kz kb;go_upto_region 1 with fail
    refine wp_region_noPanic ?_;refine wp_region_held_drew (S:=fun a => Below w.heap.size w a ∧ VBox a w.heap.size k ∧ VBox a (w.heap.size + 1) vm0) (by kernel_rfl) ?_ (fun hHeld => ?_)
    · exact ⟨B1.out.drew,X1.out,Z1.out⟩
    refine zqa 0 ?_;refine zqa 1 ?_;refine zqf 2 (fun u hSu => (hSu.1.cell (p:=⟨g,o,none⟩) hg).trans C0.out) ?_;refine zqa 3 ?_;refine zqa 4 ?_;refine zqf 5 (fun u hSu => (hSu.1.cell (p:=⟨g,o + 1,none⟩) hg).trans C1.out) ?_;refine zqa 6 ?_;refine zqa 7 ?_;refine zqf 8 (fun u hSu => (hSu.1.cell (p:=⟨g,o + 2,none⟩) hg).trans C2.out) ?_;refine zqa 9 ?_;refine zqr 10 fun K hK => ?_
    go_simp;(go_wp2_with fail);have OV:=zqh (qbox_new w1.drew rq0);refine hK.out _ _ ⟨below_then hHeld.1 (al_one _ _),hHeld.2.1.keep (al_one _ _),hHeld.2.2.keep (al_one _ _)⟩ (fun hHeld => ?_);clear hK K;(try simp only [zq,Act.put]);refine zqr 11 fun K hK => ?_
    refine step_qst rfl _ _ rfl w1.drew.heap.size rq0 ⟨1,a,b,d,0,0⟩ rfl rfl OV.out ?_;have kz : w.heap.size ≤ w1.drew.heap.size ∧ w.heap.size ≠ w1.drew.heap.size ∧ w.heap.size + 1 ≠ w1.drew.heap.size:=by have:=KZ.out; omega
    refine hK.out _ _ ⟨below_setRow hHeld.1 kz.1 _,vrow_fr hHeld.2.1 kz.2.1 _,vrow_fr hHeld.2.2 kz.2.2 _⟩ (fun hHeld9 => ?_);have YY:=zqh (qrow OV.out ⟨1,a,b,d,0,0⟩);have SS:=zqh hHeld9;clear hHeld hHeld9 kz OV;clear hK K;(try simp only [zq,Act.put]);refine wpAnyH_done (by kernel_rfl) ?_ _;refine NoPanic.normal ?_;generalize hu : World.setRow _ _ _ = u;have BU : Below w.heap.size w u:=by rw [← hu]; exact SS.out.1
    have XU : VBox u w.heap.size k:=by rw [← hu]; exact SS.out.2.1
    have ZU : VBox u (w.heap.size + 1) vm0:=by rw [← hu]; exact SS.out.2.2
    have YY : Hid (QBox u w1.heap.size ⟨1,a,b,d,0,0⟩):=by show QBox _ _ _; rw [← hu]; exact YY.out
    clear hu X1 Z1 B1;have X2:=zqh XU;have Z2:=zqh ZU;have B2:=zqh BU;have S2:=zqh YY.out.lt;obtain ⟨r0,r1,r2,r3,r4,r5⟩:=YY.out.use;clear BU XU ZU SS;(go_wp2_with (refine wpList_vload (by rfl) _ rfl w.heap.size k rfl X2.out ?_));refine (HH.out _ (V0.out.keep B2.out)).mono ?_;rintro e w3 ⟨rfl,bb⟩;have X3:=zqh (X2.out.keep bb);have Z3:=zqh (Z2.out.keep bb);have B3:=zqh (below_then B2.out bb);have Y3:=zqh (YY.out.keep bb);have S3:=zqh bb.size;clear HH bb r0 r1 r2 r3 r4 r5 YY X2 Z2 B2;(go_wp2_with (first | (refine wpList_vload (by rfl) _ rfl w.heap.size k rfl X3.out ?_) | (refine wpList_vstore (by rfl) _ _ rfl _ vm0 k rfl rfl Z3.out ?_)));have kb2:=below_setRow B3.out (show w.heap.size ≤ w.heap.size + 1 by omega) (vmC k);exact bodyPost_ret (res_ct rfl _ _ _ _ rfl (vrow Z3.out _)) rfl ⟨k,rfl,fun hz => absurd (show (-259 : Int) = 0 from hz) (by decide),kb2⟩
open Go.RowKit Go.ChangeMaps


abbrev DRow:=List (ByteArray × (VmK → VmL → Eff))
def Ents (w : World) : List MapEntry → DRow → Prop
  | [],[] => True
  | e :: es,x :: l => e.key = .string x.1 ∧ IsDeed w e.val x.2 ∧ Ents w es l
  | _,_ => False
def DMap (w : World) (b : Nat) (l : DRow) : Prop:=∃ es clock,w.heap[b]? = some (.map es clock) ∧ Ents w es.toList l
theorem Ents.keep {w w' : World} (k : Kp w w') : ∀ {es : List MapEntry} {l : DRow},Ents w es l → Ents w' es l
  | [],[],_ => trivial
  | e :: es,x :: l,⟨h1,h2,h3⟩ => ⟨h1,h2.keep k,Ents.keep k h3⟩
theorem Ents.snoc {w : World} {e : MapEntry} {x : ByteArray × (VmK → VmL → Eff)} (h1 : e.key = .string x.1) (h2 : IsDeed w e.val x.2) : ∀ {es : List MapEntry} {l : DRow},Ents w es l → Ents w (es ++ [e]) (l ++ [x])
  | [],[],_ => ⟨h1,h2,trivial⟩
  | e :: es,x :: l,⟨g1,g2,g3⟩ => ⟨g1,g2,Ents.snoc h1 h2 g3⟩
theorem same_no {k x : ByteArray} (h : x ≠ k) : Instr.sameNow .string (.string k) (.string x) = Option.some false:=by
  obtain ⟨r,hr,hi⟩:=MapKept.sameNow_of_keys (d:=.string) (a:=.string k) (b:=.string x) (by simp [MapKept.IsKey]) (by simp [MapKept.IsKey]);cases r with
  | false => exact hr
  | true => have:=hi.1 rfl; injection this with e; exact absurd e.symm h
theorem same_yes (k : ByteArray) : Instr.sameNow .string (.string k) (.string k) = Option.some true:=by
  obtain ⟨r,hr,hi⟩:=MapKept.sameNow_of_keys (d:=.string) (a:=.string k) (b:=.string k) (by simp [MapKept.IsKey]) (by simp [MapKept.IsKey]);rw [hi.2 rfl] at hr;exact hr
theorem Ents.none {w : World} {k : ByteArray} : ∀ {es : List MapEntry} {l : DRow} (i : Nat),Ents w es l → (∀ x ∈ l,x.1 ≠ k) → Instr.findNow .string (.string k) es i = some Option.none
  | [],[],_,_,_ => rfl
  | e :: es,x :: l,i,⟨h1,h2,h3⟩,hk => by
    have hr:=same_no (k:=k) (hk x (.head _));simp only [Instr.findNow,h1,hr];exact Ents.none (i + 1) h3 fun y hy => hk y (.tail _ hy)
theorem Ents.some {w : World} {k : ByteArray} {F : VmK → VmL → Eff} : ∀ {es : List MapEntry} {l : DRow} (i j : Nat),Ents w es l → l[j]? = Option.some (k,F) → (∀ (a : Nat),a < j → ∀ x,l[a]? = Option.some x → x.1 ≠ k) → ∃ v,Instr.findNow .string (.string k) es i = Option.some (Option.some (i + j,v)) ∧ IsDeed w v F
  | [],[],_,_,_,hj,_ => by simp at hj
  | e :: es,x :: l,i,0,⟨h1,h2,h3⟩,hj,_ => by
    obtain rfl : x = (k,F):=by simpa using hj
    refine ⟨e.val,?_,h2⟩;have hr:=same_yes k;simp only [Instr.findNow,h1,hr];rfl
  | e :: es,x :: l,i,j + 1,⟨h1,h2,h3⟩,hj,hb => by
    have hr:=same_no (k:=k) (hb 0 (by omega) x (by simp));obtain ⟨v,hv,hi⟩:=Ents.some (i + 1) j h3 (by simpa using hj) fun a ha y hy => hb (a + 1) (by omega) y (by simpa using hy)
    refine ⟨v,?_,hi⟩;simp only [Instr.findNow,h1,hr];rw [hv,show i + 1 + j = i + (j + 1) by omega]
theorem DMap.keep {w w' : World} {b : Nat} {l : DRow} (h : DMap w b l) (k : Below w.heap.size w w') : DMap w' b l:=by
  obtain ⟨es,c,h1,h2⟩:=h;exact ⟨es,c,(k.block b (Array.getElem?_eq_some_iff.1 h1).1).trans h1,h2.keep (kp_of k)⟩
theorem dmap_new (w : World) : DMap (w.alloc (.map #[] 0)) w.heap.size []:=⟨#[],0,heap_alloc_new w _,trivial⟩
theorem run_insertD {w : World} {b : Nat} {es : Array MapEntry} {clock : Nat} (hb : w.heap[b]? = some (.map es clock)) (k : ByteArray) (v : Value) (hn : Instr.findNow .string (.string k) es.toList 0 = some none) :
    ∃ w',(Instr.mapUpdate 159 (.map (some b)) (.string k) v).run Tryz.prog w = .ok () w' ∧ w'.heap[b]? = some (.map (es.push ⟨.string k,v,clock⟩) (clock + 1)) ∧ w.grownBy w' (some b) ∧ Kp w w':=by
  refine ⟨setBlock w b (.map (es.push ⟨.string k,v,clock⟩) (clock + 1)),?_,heap_setBlock_same hb _,⟨rfl,rfl,rfl,by simp [setBlock],fun i _ hi => heap_setBlock_other hb _ (fun e => hi (by rw [e]))⟩,⟨by simp [setBlock],?_⟩⟩
  · have hc : (Instr.checkKey false 10000 9 (.string k)).run Tryz.prog w = .ok () w:=MapKept.run_checkKey (n:=9999) Tryz.underlying9 (by simp [MapKept.IsKey]) false
    have hf:=MapKept.run_findKey (P:=Tryz.prog) (w:=w) Tryz.underlying9 hn;simp [Instr.mapUpdate,run_underlying Tryz.underlying159,MapKept.run_getObj_map hb,hc,hf,MapKept.run_setObj_map _ hb,Result.andThen,setBlock]
  · intro p _
    by_cases e : p.block = b
    · have h1:=heap_setBlock_same hb (.map (es.push ⟨.string k,v,clock⟩) (clock + 1))
      unfold World.cell?;rw [e,h1,hb]
    · have h1:=heap_setBlock_other hb (.map (es.push ⟨.string k,v,clock⟩) (clock + 1)) e
      unfold World.cell?;rw [h1]
theorem wpList_insertD {ops : Array Oper} {rest : List Oper} {o : Oper} {a : Act} {Q : Exit → Act → World → Prop} {w : World} (hg : o.guard = none) (m x v : Operand) (hop : o.op = Op.insert 159 m x v)
    (b : Nat) (l : DRow) (k : ByteArray) (u : Value) (F : VmK → VmL → Eff) (hm : a.eval m = .map (some b)) (hx : a.eval x = .string k) (hv : a.eval v = u) (hb : DMap w b l) (hi : IsDeed w u F) (hn : ∀ y ∈ l,y.1 ≠ k)
    (hK : ∀ w',DMap w' b (l ++ [(k,F)]) → w.grownBy w' (some b) → wpList Tryz.prog ops Q rest (a.put o.dst undef) w') :
    wpList Tryz.prog ops Q (o :: rest) a w:=by
  refine wpList_plain hg fun K' hK' => ?_
  obtain ⟨es,clock,h1,h2⟩:=hb;obtain ⟨w',hrun,r1,r2,r3⟩:=run_insertD h1 k u (h2.none 0 hn);unfold Oper.wp;simp [execOp,hop,hm,hx,hv,hrun,Result.andThen];refine hK' _ _ (hK w' ⟨_,_,r1,?_⟩ r2);rw [Array.toList_push];exact Ents.snoc rfl (hi.keep r3) (h2.keep r3)
theorem run_lookD {w : World} {b : Nat} {l : DRow} (h : DMap w b l) (k : ByteArray) (F : VmK → VmL → Eff) (j : Nat) (hj : l[j]? = some (k,F)) (hb : ∀ (a : Nat),a < j → ∀ x,l[a]? = some x → x.1 ≠ k) :
    ∃ v,(Instr.lookup 159 (.map (some b)) (.string k) false).run Tryz.prog w = .ok v w ∧ IsDeed w v F:=by
  obtain ⟨es,clock,h1,h2⟩:=h;obtain ⟨v,hv,hi⟩:=h2.some 0 j hj hb;refine ⟨v,?_,hi⟩;have hc : ∀ e : Bool,(Instr.checkKey e 10000 9 (.string k)).run Tryz.prog w = .ok () w:=fun e => MapKept.run_checkKey (n:=9999) Tryz.underlying9 (by simp [MapKept.IsKey]) e
  have hf:=MapKept.run_findKey (P:=Tryz.prog) (w:=w) Tryz.underlying9 hv;simp [Instr.lookup,run_underlying Tryz.underlying159,MapKept.run_getObj_map h1,hc,hf,Result.andThen]
theorem IsDeed.as {W : World} {v : Value} {F G : VmK → VmL → Eff} (h : IsDeed W v F) (e : ∀ k L,F k L = G k L) : IsDeed W v G:=by
  have : F = G:=by funext k L; exact e k L
  exact this ▸ h
abbrev doF (n : Int) : VmK → VmL → Eff:=fun k L => doE n k L
def MapOut (l : DRow) (w : World) (e : Ending) (w' : World) : Prop:=∃ b,e = .returned (.map (some b)) ∧ DMap w' b l ∧ Below w.heap.size w w'


theorem wpList_updateD {ops : Array Oper} {rest : List Oper} {o : Oper} {a : Act} {Q : Exit → Act → World → Prop} {w : World} (hg : o.guard = none) (m x v : Operand) (hop : o.op = Op.mapUpdate 159 m x v)
    (b : Nat) (l : DRow) (k : ByteArray) (u : Value) (F : VmK → VmL → Eff) (hm : a.eval m = .map (some b)) (hx : a.eval x = .string k) (hv : a.eval v = u) (hb : DMap w b l) (hi : IsDeed w u F) (hn : ∀ y ∈ l,y.1 ≠ k)
    (hK : ∀ w',DMap w' b (l ++ [(k,F)]) → w.grownBy w' (some b) → wpList Tryz.prog ops Q rest (a.put o.dst undef) w') :
    wpList Tryz.prog ops Q (o :: rest) a w:=by
  refine wpList_plain hg fun K' hK' => ?_
  obtain ⟨es,clock,h1,h2⟩:=hb;obtain ⟨w',hrun,r1,r2,r3⟩:=run_insertD h1 k u (h2.none 0 hn);unfold Oper.wp;simp [execOp,hop,hm,hx,hv,hrun,Result.andThen];refine hK' _ _ (hK w' ⟨_,_,r1,?_⟩ r2);rw [Array.toList_push];exact Ents.snoc rfl (hi.keep r3) (h2.keep r3)
theorem makeD (n : Int) (w : World) : (Instr.makeMap 159 (some (.int .i64 n))).run Tryz.prog w = .ok (.map (some w.heap.size)) (w.alloc (.map #[] 0)):=by
  simp [Instr.makeMap,run_underlying Tryz.underlying159,asInt,newObj,Result.andThen];rfl
abbrev eachL (ls : List (List UInt8)) (F : List UInt8 → VmK → VmL → Eff) : DRow:=ls.map fun s => (strB s,F s)
theorem each_snoc {ls : List (List UInt8)} {i : Nat} {s : List UInt8} (h : ls[i]? = some s) (F : List UInt8 → VmK → VmL → Eff) : eachL (ls.take (i + 1)) F = eachL (ls.take i) F ++ [(strB s,F s)]:=by
  unfold eachL;rw [List.take_add_one,h];simp
theorem each_new {ls : List (List UInt8)} {i : Nat} {s : List UInt8} (hd : (ls.map strB).Nodup) (h : ls[i]? = some s) (F : List UInt8 → VmK → VmL → Eff) : ∀ y ∈ eachL (ls.take i) F,y.1 ≠ strB s:=by
  intro y hy e;unfold eachL at hy;rw [List.mem_map] at hy;obtain ⟨t,ht,rfl⟩:=hy;obtain ⟨j,hj,ej⟩:=List.getElem_of_mem ht;have hji : j < i:=by simp at hj; omega
  obtain ⟨hi,ei⟩:=List.getElem?_eq_some_iff.1 h;have hjl : j < ls.length:=by omega
  have e1 : ls[j] = t:=by rw [← ej]; simp
  rw [List.Nodup,List.pairwise_iff_getElem] at hd;have:=hd j i (by simpa using hjl) (by simpa using hi) hji;simp [e1,ei] at this;exact this e
theorem each_any (A : Option Addr) (n c : Nat) (ls : List (List UInt8)) (g : FuncId) (eg : Ent g) (F : List UInt8 → VmK → VmL → Eff) (w : World) (hs : Sts w (.slice A n c) ls) (hn : n ≤ 1000) (hd : (ls.map strB).Nodup)
    (hg : ∀ s w,Calls Tryz.prog g #[.string (strB s)] w (Makes (F s) w)) : Calls Tryz.prog 92 #[.slice A n c,.func (.func g) #[] #[]] w (MapOut (eachL ls F) w):=by
  have hl:=hs.len;subst hl;have hmm:=makeD;have HS:=zqh hs;have HN : Hid (ls.length ≤ 1000):=hn;have HD:=zqh hd;have HG:=zqh hg;have M0 : Hid (DMap (w.alloc (.map #[] 0)) w.heap.size []):=dmap_new w;have B0 : Hid (Below w.heap.size w (w.alloc (.map #[] 0))):=zqh (below_one _ _);clear hs hn hd hg;go_enter Tryz.func92,Tryz.ntmps92;(go_wp2_with fail)
  go_loopw [13] (fun s13 wr => ∃ k : Nat,s13 = .int .i64 (k : Int) ∧ k ≤ ls.length ∧ Hid (DMap wr w.heap.size (eachL (ls.take k) F)) ∧ Hid (Below w.heap.size w wr)) (fun s13 _ => ls.length - (intOf s13).toNat)
  case atStart => exact ⟨0,rfl,Nat.zero_le _,M0,B0⟩
  case round =>
    obtain ⟨k,rfl,hk,HM,HB⟩:=hrel
    by_cases hkl : k < ls.length
    · have hx : ls[k]? = some ls[k]:=List.getElem?_eq_getElem hkl
      obtain ⟨q,eq⟩ : ∃ q,ls[k] = q:=⟨_,rfl⟩;obtain ⟨g1,o1,rfl,c1⟩:=sts_cell (HS.out.keep HB.out) hkl;rw [eq] at hx c1;have HX:=zqh hx;have hkl' : (k : Int) < (ls.length : Int):=by omega
      have hln:=HN.out;clear hx eq hk;(go_wp2_with fail);refine (HG.out q _).mono ?_;rintro e u ⟨d,rfl,hd,bb⟩;have N1:=zqh (HM.out.keep bb);have A1:=zqh (below_then HB.out bb);have D1 : Hid (IsDeed u d (F q)):=zqh hd;clear HM HB hd bb c1;(go_wp2_with (refine wpList_updateD rfl _ _ _ rfl w.heap.size _ (strB q) d (F q) rfl rfl rfl N1.out D1.out (each_new HD.out HX.out F) ?_; intro v hm hg; have M1:=zqh hm; have B1:=zqh (A1.out.grown hg A1.out.size (fun k hk => by cases hk; exact Nat.le_refl _)); clear N1 A1 D1 hm hg));have M2 : Hid (DMap v w.heap.size (eachL (ls.take (k + 1)) F)):=by
        show DMap _ _ _;rw [each_snoc HX.out F];exact M1.out
      go_roundw
      case rel => exact ⟨k + 1,(by first | rfl | (rw [w64_id (by omega) (by omega)]; rfl)),hkl,M2,B1⟩
      case measure => first | (simp [intOf]; done) | (simp [intOf]; omega) | (rw [w64_id (by omega) (by omega)]; simp [intOf]; omega)
    · obtain rfl : k = ls.length:=by omega
      rw [List.take_length] at HM;clear hkl hk;(go_wp2_with fail);go_ret;exact ⟨_,rfl,HM.out,HB.out⟩


theorem cellDeeds_is (w : World) : Calls Tryz.prog 97 #[] w (MapOut [(⟨#[64]⟩,doF 83),(⟨#[33]⟩,doF 84),(⟨#[43,33]⟩,doF 85),(⟨#[67,64]⟩,doF 86),(⟨#[67,33]⟩,doF 87),(⟨#[50,64]⟩,doF 88),(⟨#[50,33]⟩,doF 89),(⟨#[70,73,76,76]⟩,doF 90),(⟨#[77,79,86,69]⟩,doF 91),(⟨#[67,79,85,78,84]⟩,doF 92)] w):=by
  have hmm:=@run_makeMap Tryz.prog;have M0 : Hid (DMap (w.alloc (.map #[] 0)) w.heap.size []):=dmap_new w;have B0 : Hid (Below w.heap.size w (w.alloc (.map #[] 0))):=zqh (below_one _ _);go_enter Tryz.func97,Tryz.ntmps97;(go_wp2_with fail);refine (fetchesOne_is (fun m a => fetchF m a) (fun m a => cellC m.1.length a) _ _ ⟨_,#[],rfl,(enters_of Tryz.func38 (by kernel_rfl) rfl),fun w A P n c K d m a _ hm ha => by have e:=hm.is.len1; subst e; exact fetch_at A P _ c K d m a w (zqh hm.is) (by have:=hm.n2; omega)⟩).mono ?_;rintro e u0 ⟨d0,rfl,hd,bb⟩;have N0:=zqh (M0.out.keep bb);have A0:=zqh (below_then B0.out bb);have D0 : Hid (IsDeed u0 d0 (doF 83)):=zqh (hd.as fun k L => rfl);clear M0 B0 hd bb;(go_wp2_with (refine wpList_insertD rfl _ _ _ rfl w.heap.size _ ⟨#[64]⟩ d0 (doF 83) rfl rfl rfl N0.out D0.out (by decide) ?_; intro v0 hm hg; have M1:=zqh hm; have B1:=zqh (A0.out.grown hg A0.out.size (fun k hk => by cases hk; exact Nat.le_refl _)); clear N0 A0 D0 hm hg));refine (stores_is 2 (fun m x => storeF m (x.getD 1 0) (x.getD 0 0)) (fun m x => cellC m.1.length (x.getD 1 0)) (by decide) _ _ ⟨_,#[],rfl,(enters_of Tryz.func145 (by kernel_rfl) rfl),fun w A P n c K d m B c2 x _ hm hx => cell1 A P n c K d m B c2 x w hm hx⟩).mono ?_;rintro e u1 ⟨d1,rfl,hd,bb⟩;have N1:=zqh (M1.out.keep bb);have A1:=zqh (below_then B1.out bb);have D1 : Hid (IsDeed u1 d1 (doF 84)):=zqh (hd.as fun k L => rfl);clear M1 B1 hd bb;(go_wp2_with (refine wpList_insertD rfl _ _ _ rfl w.heap.size _ ⟨#[33]⟩ d1 (doF 84) rfl rfl rfl N1.out D1.out (by decide) ?_; intro v1 hm hg; have M2:=zqh hm; have B2:=zqh (A1.out.grown hg A1.out.size (fun k hk => by cases hk; exact Nat.le_refl _)); clear N1 A1 D1 hm hg))
  refine (stores_is 2 (fun m x => storeF m (x.getD 1 0) (wrap64 (fetchF m (x.getD 1 0) + (x.getD 0 0)))) (fun m x => cellC m.1.length (x.getD 1 0)) (by decide) _ _ ⟨_,#[],rfl,(enters_of Tryz.func147 (by kernel_rfl) rfl),fun w A P n c K d m B c2 x _ hm hx => cell2 A P n c K d m B c2 x w hm hx⟩).mono ?_;rintro e u2 ⟨d2,rfl,hd,bb⟩;have N2:=zqh (M2.out.keep bb);have A2:=zqh (below_then B2.out bb);have D2 : Hid (IsDeed u2 d2 (doF 85)):=zqh (hd.as fun k L => rfl);clear M2 B2 hd bb;(go_wp2_with (refine wpList_insertD rfl _ _ _ rfl w.heap.size _ ⟨#[43,33]⟩ d2 (doF 85) rfl rfl rfl N2.out D2.out (by decide) ?_; intro v2 hm hg; have M3:=zqh hm; have B3:=zqh (A2.out.grown hg A2.out.size (fun k hk => by cases hk; exact Nat.le_refl _)); clear N2 A2 D2 hm hg));refine (fetchesOne_is (fun m a => byteF m a) (fun m a => codeF (okB m.1.length a 1)) _ _ ⟨_,#[],rfl,(enters_of Tryz.func149 (by kernel_rfl) rfl),fun w A P n c K d m a _ hm ha => by have e:=hm.is.len1; subst e; exact fetchByte_at A P _ c K d m a w (zqh hm.is) (by have:=hm.n2; omega)⟩).mono ?_;rintro e u3 ⟨d3,rfl,hd,bb⟩;have N3:=zqh (M3.out.keep bb);have A3:=zqh (below_then B3.out bb);have D3 : Hid (IsDeed u3 d3 (doF 86)):=zqh (hd.as fun k L => rfl);clear M3 B3 hd bb;(go_wp2_with (refine wpList_insertD rfl _ _ _ rfl w.heap.size _ ⟨#[67,64]⟩ d3 (doF 86) rfl rfl rfl N3.out D3.out (by decide) ?_; intro v3 hm hg; have M4:=zqh hm; have B4:=zqh (A3.out.grown hg A3.out.size (fun k hk => by cases hk; exact Nat.le_refl _)); clear N3 A3 D3 hm hg))
  refine (stores_is 2 (fun m x => writeF m (x.getD 1 0) [lowB (x.getD 0 0)]) (fun m x => codeF (okB m.1.length (x.getD 1 0) 1)) (by decide) _ _ ⟨_,#[],rfl,(enters_of Tryz.func150 (by kernel_rfl) rfl),fun w A P n c K d m B c2 x _ hm hx => cell3 A P n c K d m B c2 x w hm hx⟩).mono ?_;rintro e u4 ⟨d4,rfl,hd,bb⟩;have N4:=zqh (M4.out.keep bb);have A4:=zqh (below_then B4.out bb);have D4 : Hid (IsDeed u4 d4 (doF 87)):=zqh (hd.as fun k L => rfl);clear M4 B4 hd bb;(go_wp2_with (refine wpList_insertD rfl _ _ _ rfl w.heap.size _ ⟨#[67,33]⟩ d4 (doF 87) rfl rfl rfl N4.out D4.out (by decide) ?_; intro v4 hm hg; have M5:=zqh hm; have B5:=zqh (A4.out.grown hg A4.out.size (fun k hk => by cases hk; exact Nat.le_refl _)); clear N4 A4 D4 hm hg));refine (fetches_is (fun m a => [fetchF m (wrap64 (a + 8)),fetchF m a]) (fun m a => twoC m.1.length a) (fun _ _ => by show 2 ≤ 4; decide) _ _ ⟨_,#[],rfl,(enters_of Tryz.func153 (by kernel_rfl) rfl),fun w A P n c K d m a _ hm ha => by have e:=hm.is.len1; subst e; exact bothFetched_any A P _ c K d m a w hm⟩).mono ?_;rintro e u5 ⟨d5,rfl,hd,bb⟩;have N5:=zqh (M5.out.keep bb);have A5:=zqh (below_then B5.out bb);have D5 : Hid (IsDeed u5 d5 (doF 88)):=zqh (hd.as fun k L => rfl);clear M5 B5 hd bb;(go_wp2_with (refine wpList_insertD rfl _ _ _ rfl w.heap.size _ ⟨#[50,64]⟩ d5 (doF 88) rfl rfl rfl N5.out D5.out (by decide) ?_; intro v5 hm hg; have M6:=zqh hm; have B6:=zqh (A5.out.grown hg A5.out.size (fun k hk => by cases hk; exact Nat.le_refl _)); clear N5 A5 D5 hm hg))
  refine (stores_is 3 (fun m x => storeF (storeF m (x.getD 2 0) (x.getD 1 0)) (wrap64 ((x.getD 2 0) + 8)) (x.getD 0 0)) (fun m x => twoC m.1.length (x.getD 2 0)) (by decide) _ _ ⟨_,#[],rfl,(enters_of Tryz.func154 (by kernel_rfl) rfl),fun w A P n c K d m B c2 x _ hm hx => cell4 A P n c K d m B c2 x w hm hx⟩).mono ?_;rintro e u6 ⟨d6,rfl,hd,bb⟩;have N6:=zqh (M6.out.keep bb);have A6:=zqh (below_then B6.out bb);have D6 : Hid (IsDeed u6 d6 (doF 89)):=zqh (hd.as fun k L => rfl);clear M6 B6 hd bb;(go_wp2_with (refine wpList_insertD rfl _ _ _ rfl w.heap.size _ ⟨#[50,33]⟩ d6 (doF 89) rfl rfl rfl N6.out D6.out (by decide) ?_; intro v6 hm hg; have M7:=zqh hm; have B7:=zqh (A6.out.grown hg A6.out.size (fun k hk => by cases hk; exact Nat.le_refl _)); clear N6 A6 D6 hm hg));refine (stores_is 3 (fun m x => fillF m (x.getD 0 0) (x.getD 1 0) (x.getD 2 0)) (fun m x => codeF (okB m.1.length (x.getD 0 0) (x.getD 1 0))) (by decide) _ _ ⟨_,#[],rfl,(enters_of Tryz.func156 (by kernel_rfl) rfl),fun w A P n c K d m B c2 x _ hm hx => cell5 A P n c K d m B c2 x w hm hx⟩).mono ?_;rintro e u7 ⟨d7,rfl,hd,bb⟩;have N7:=zqh (M7.out.keep bb);have A7:=zqh (below_then B7.out bb);have D7 : Hid (IsDeed u7 d7 (doF 90)):=zqh (hd.as fun k L => rfl);clear M7 B7 hd bb;(go_wp2_with (refine wpList_insertD rfl _ _ _ rfl w.heap.size _ ⟨#[70,73,76,76]⟩ d7 (doF 90) rfl rfl rfl N7.out D7.out (by decide) ?_; intro v7 hm hg; have M8:=zqh hm; have B8:=zqh (A7.out.grown hg A7.out.size (fun k hk => by cases hk; exact Nat.le_refl _)); clear N7 A7 D7 hm hg))
  refine (stores_is 3 (fun m x => moveF m (x.getD 0 0) (x.getD 1 0) (x.getD 2 0)) (fun m x => moveC m (x.getD 0 0) (x.getD 1 0) (x.getD 2 0)) (by decide) _ _ ⟨_,#[],rfl,(enters_of Tryz.func158 (by kernel_rfl) rfl),fun w A P n c K d m B c2 x _ hm hx => cell6 A P n c K d m B c2 x w hm hx⟩).mono ?_;rintro e u8 ⟨d8,rfl,hd,bb⟩;have N8:=zqh (M8.out.keep bb);have A8:=zqh (below_then B8.out bb);have D8 : Hid (IsDeed u8 d8 (doF 91)):=zqh (hd.as fun k L => rfl);clear M8 B8 hd bb;(go_wp2_with (refine wpList_insertD rfl _ _ _ rfl w.heap.size _ ⟨#[77,79,86,69]⟩ d8 (doF 91) rfl rfl rfl N8.out D8.out (by decide) ?_; intro v8 hm hg; have M9:=zqh hm; have B9:=zqh (A8.out.grown hg A8.out.size (fun k hk => by cases hk; exact Nat.le_refl _)); clear N8 A8 D8 hm hg));refine (fetches_is (fun m a => [wrap64 (a + 1),byteF m a]) (fun m a => codeF (okB m.1.length a 1)) (fun _ _ => by show 2 ≤ 4; decide) _ _ ⟨_,#[],rfl,(enters_of Tryz.func160 (by kernel_rfl) rfl),fun w A P n c K d m a _ hm ha => by have e:=hm.is.len1; subst e; exact counted_any A P _ c K d m a w hm⟩).mono ?_;rintro e u9 ⟨d9,rfl,hd,bb⟩;have N9:=zqh (M9.out.keep bb);have A9:=zqh (below_then B9.out bb);have D9 : Hid (IsDeed u9 d9 (doF 92)):=zqh (hd.as fun k L => rfl);clear M9 B9 hd bb;(go_wp2_with (refine wpList_insertD rfl _ _ _ rfl w.heap.size _ ⟨#[67,79,85,78,84]⟩ d9 (doF 92) rfl rfl rfl N9.out D9.out (by decide) ?_; intro v9 hm hg; have M10:=zqh hm; have B10:=zqh (A9.out.grown hg A9.out.size (fun k hk => by cases hk; exact Nat.le_refl _)); clear N9 A9 D9 hm hg))
  go_ret;exact ⟨_,rfl,M10.out,B10.out⟩
end Go.Proofs.YtcmldhjicjmmgaaGreatDoor
