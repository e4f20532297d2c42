/- Part 25. -/
import Derived.Test.YtcmldhjicjmmgaaGreatDoorXkAX
set_option linter.unusedVariables false
set_option linter.unusedSimpArgs false
set_option maxRecDepth 100000
set_option maxHeartbeats 4000000

namespace Go.Proofs.YtcmldhjicjmmgaaGreatDoor
open Go.RowKit


def M5 : PM:=laidM B0 1368 [40,5,216,360,32]
theorem m5n : NewM M5:=new_b0.laid (by decide) (by decide) (by decide)
theorem m5f : fetchF M5 1368 = 256:=new_b0.first (by decide) (by decide) (by decide)
theorem m5c0 : fetchF M5 1376 = 40:=new_b0.cell (p:=1368) (l:=[40,5,216,360,32]) 0 (by decide) (by decide) (by decide) rfl (by unfold cellR; decide)
theorem m5w0 : WordAt M5 1376 40 1:=m5n.word 1 (by decide) (by decide) (by decide) (by decide) m5c0
theorem m5c1 : fetchF M5 1384 = 5:=new_b0.cell (p:=1368) (l:=[40,5,216,360,32]) 1 (by decide) (by decide) (by decide) rfl (by unfold cellR; decide)
theorem m5c2 : fetchF M5 1392 = 216:=new_b0.cell (p:=1368) (l:=[40,5,216,360,32]) 2 (by decide) (by decide) (by decide) rfl (by unfold cellR; decide)
theorem m5w2 : WordAt M5 1392 216 23:=m5n.word 23 (by decide) (by decide) (by decide) (by decide) m5c2
theorem m5c3 : fetchF M5 1400 = 360:=new_b0.cell (p:=1368) (l:=[40,5,216,360,32]) 3 (by decide) (by decide) (by decide) rfl (by unfold cellR; decide)
theorem m5w3 : WordAt M5 1400 360 41:=m5n.word 41 (by decide) (by decide) (by decide) (by decide) m5c3
theorem m5c4 : fetchF M5 1408 = 32:=new_b0.cell (p:=1368) (l:=[40,5,216,360,32]) 4 (by decide) (by decide) (by decide) rfl (by unfold cellR; decide)
theorem m5w4 : WordAt M5 1408 32 0:=m5n.word 0 (by decide) (by decide) (by decide) (by decide) m5c4
theorem runs_ten (a : Addr) : Runs 6 (stW a M5 [] [] 16 1368 10) (st a M5 [25] [] 24 4) 0:=by
  have s0 : StepTo (stW a M5 [] [] 16 1368 10) (st a M5 [] [16] 1376 9) false 0:=by
    have h:=w_col (R:=[]) (D:=[]) (ip:=16) (x:=1368) (fu:=10) a m5n.l (by decide) (by decide) (by decide) m5f ⟨by decide,by decide⟩ (by decide);rw [show wrap64 (1368 + 8) = 1376 from by decide +kernel] at h;exact h
  have s1 : StepTo (st a M5 [] [16] 1376 9) (st a M5 [5] [16] 1392 8) false 0:=by
    have h:=s_lit (D:=[]) (R:=[16]) (fu:=9) a m5w0 ⟨by decide,by decide⟩ m5c1 (by decide);exact h
  have s2 : StepTo (st a M5 [5] [16] 1392 8) (st a M5 [5,5] [16] 1400 7) false 0:=by
    have h:=s_prim (fu:=8) a m5w2 ⟨by decide,by decide⟩ (by decide) (p_dup (l:=[]) (x:=5) (r:=[16]) ⟨m5n.l,m5n.p⟩ (by decide) (by intro y hy; simp at hy; unfold cellR; omega));exact h
  have s3 : StepTo (st a M5 [5,5] [16] 1400 7) (st a M5 [25] [16] 1408 6) false 0:=by
    have h:=s_prim (fu:=7) a m5w3 ⟨by decide,by decide⟩ (by decide) (p_five ⟨m5n.l,m5n.p⟩ (r:=[16]));exact h
  have s4 : StepTo (st a M5 [25] [16] 1408 6) (st a M5 [25] [] 16 5) false 0:=by
    have h:=s_exit (D:=[25]) (R:=[]) (q:=16) (fu:=6) a m5w4 ⟨by decide,by decide⟩ (by decide);exact h
  have s5 : StepTo (st a M5 [25] [] 16 5) (st a M5 [25] [] 24 4) true 0:=by
    have h:=s_halt (D:=[25]) (R:=[]) (fu:=5) a m5n.halts ⟨by decide,by decide⟩;exact h
  exact .more s0 rfl (.more s1 rfl (.more s2 rfl (.more s3 rfl (.more s4 rfl (.last s5 (.inl rfl))))))
theorem runs_five (a : Addr) : Runs 6 (stW a M5 [] [] 16 1368 5) (st a M5 [25] [] 16 0) (-256):=by
  have s0 : StepTo (stW a M5 [] [] 16 1368 5) (st a M5 [] [16] 1376 4) false 0:=by
    have h:=w_col (R:=[]) (D:=[]) (ip:=16) (x:=1368) (fu:=5) a m5n.l (by decide) (by decide) (by decide) m5f ⟨by decide,by decide⟩ (by decide);rw [show wrap64 (1368 + 8) = 1376 from by decide +kernel] at h;exact h
  have s1 : StepTo (st a M5 [] [16] 1376 4) (st a M5 [5] [16] 1392 3) false 0:=by
    have h:=s_lit (D:=[]) (R:=[16]) (fu:=4) a m5w0 ⟨by decide,by decide⟩ m5c1 (by decide);exact h
  have s2 : StepTo (st a M5 [5] [16] 1392 3) (st a M5 [5,5] [16] 1400 2) false 0:=by
    have h:=s_prim (fu:=3) a m5w2 ⟨by decide,by decide⟩ (by decide) (p_dup (l:=[]) (x:=5) (r:=[16]) ⟨m5n.l,m5n.p⟩ (by decide) (by intro y hy; simp at hy; unfold cellR; omega));exact h
  have s3 : StepTo (st a M5 [5,5] [16] 1400 2) (st a M5 [25] [16] 1408 1) false 0:=by
    have h:=s_prim (fu:=2) a m5w3 ⟨by decide,by decide⟩ (by decide) (p_five ⟨m5n.l,m5n.p⟩ (r:=[16]));exact h
  have s4 : StepTo (st a M5 [25] [16] 1408 1) (st a M5 [25] [] 16 0) false 0:=by
    have h:=s_exit (D:=[25]) (R:=[]) (q:=16) (fu:=1) a m5w4 ⟨by decide,by decide⟩ (by decide);exact h
  have s5 : StepTo (st a M5 [25] [] 16 0) (st a M5 [25] [] 16 0) false (-256):=step_fuel (show (0 : Int) < 1 by decide);exact .more s0 rfl (.more s1 rfl (.more s2 rfl (.more s3 rfl (.more s4 rfl (.last s5 (.inr (by decide)))))))
theorem step_three (a : Addr) : StepTo (stW a M5 [] [] 16 1368 3) (st a M5 [] [16] 1376 2) false 0:=by
  have h:=w_col (R:=[]) (D:=[]) (ip:=16) (x:=1368) (fu:=3) a m5n.l (by decide) (by decide) (by decide) m5f ⟨by decide,by decide⟩ (by decide);rw [show wrap64 (1368 + 8) = 1376 from by decide +kernel] at h;exact h


theorem prim_nodup : (primL.map strB).Nodup:=by decide +kernel
theorem nmP_get (m : Nat) (h : m < 130) : primL[m]? = some (nmP m):=by
  have hl : primL.length = 130:=by decide +kernel
  unfold nmP;rw [List.getD_eq_getElem?_getD,List.getElem?_eq_getElem (by omega)];rfl
theorem nmP_ne {i m : Nat} (hi : i < m) (hm : m < 130) : strB (nmP i) ≠ strB (nmP m):=by
  intro e;have h:=prim_nodup;have hl : primL.length = 130:=by decide +kernel
  rw [List.Nodup,List.pairwise_iff_getElem] at h;have:=h i m (by simp [hl]; omega) (by simp [hl]; omega) hi;simp only [List.getElem_map] at this
  apply this
  have e1:=(List.getElem?_eq_some_iff.1 (nmP_get i (by omega))).2;have e2:=(List.getElem?_eq_some_iff.1 (nmP_get m (by omega))).2;rw [e1,e2];exact e
theorem number_any (m : Nat) (hm : m < 130) (w : World) : Calls Tryz.prog 20 #[.string (strB (nmP m))] w fun e w' => e = .returned (.int .i64 (m : Int)) ∧ Below w.heap.size w w':=by
  have HM : Hid (m < 130):=hm;clear hm;go_enter Tryz.func20,Tryz.ntmps20;(go_wp2_with fail);refine (rnames_any _).mono ?_;rintro e w1 ⟨rfl,hs,bb⟩;have HS:=zqh hs;have HB:=zqh bb;clear hs bb;(go_wp2_with fail)
  go_loopw [4] (fun s4 wr => ∃ (k : Nat),s4 = .int .i64 (k : Int) ∧ k ≤ m ∧ w1 = wr) (fun s4 _ => m - (intOf s4).toNat)
  case atStart => exact ⟨0,rfl,Nat.zero_le _,rfl⟩
  case round =>
    obtain ⟨k,rfl,hk,rfl⟩:=hrel;have hkl : k < primL.length:=by have:=HM.out; rw [show primL.length = 130 from by decide +kernel]; omega
    obtain ⟨g,o,hA,hc⟩:=sts_cell HS.out hkl;obtain ⟨rfl,rfl⟩ : g = w.heap.size ∧ o = 0:=by injection hA with e; injection e with e1 e2 _; exact ⟨e1.symm,e2.symm⟩
    have e1 : primL[k] = nmP k:=(List.getElem?_eq_some_iff.1 (nmP_get k (by have:=HM.out; omega))).2;rw [e1,Nat.zero_add] at hc;have hka : (k : Int) < 130:=by have:=HM.out; omega
    by_cases he : k = m
    · subst he
      clear hk e1 hkl hA;(go_wp2_with fail);go_ret;exact ⟨rfl,HB.out⟩
    · have hne:=str_ne (nmP_ne (by omega : k < m) HM.out)
      have hne2:=str_neq (nmP_ne (by omega : k < m) HM.out);have HK : Hid (k < m):=zqh (by omega);clear he hk e1 hkl hA;(go_wp2_with fail)
      go_roundw
      case rel => exact ⟨k + 1,by simp,HK.out,by trivial⟩
      case measure => have:=HK.out; simp [intOf]; omega


theorem vbox_nostrI {w : World} {b : Nat} {k : VmK} (h : VBox w b k) (o : Nat) (s : ByteArray) : w.cell? ⟨b,o,none⟩ ≠ some (.string s):=by
  intro e;unfold VBox at h;unfold World.cell? at e;rw [h] at e;have e' : (vmC k)[o]? = some (.string s):=by simpa using e
  have hm:=Array.mem_of_getElem? e';simp at hm
theorem newW_firstI : ∃ s,(wds (newW 167))[0]? = some (.string s):=⟨strB (wordN 0).nm,by kernel_rfl⟩
theorem new_exI {u V : World} {k j : VmK} {N b : Nat} (h : IsVm u k (newL N)) (x : Ex (fun g => g = b) u V) (hb : VBox u b j) : IsVm V k (newL N):=by
  have hv : ∀ g,g < u.heap.size → V.heap[g]? = u.heap[g]? ∨ NoU8 u g:=fun g hg => by
    by_cases e : g = b
    · subst e; exact .inr (vbox_nou8 hb)
    · exact .inl (x.same g hg e)
  refine ⟨?_,⟨h.d.1,h.d.2.1,h.d.2.2.1,.inl rfl⟩,⟨h.r.1,h.r.2.1,h.r.2.2.1,.inl rfl⟩,?_,?_,byt_across h.o x.size hv,byt_across h.q x.size hv,?_,?_⟩
  · obtain ⟨b0,o0,e,h1,A,c,qs,g1,g2,g3,g4,g5⟩:=h.m
    have hq : qs = []:=by
      have : qs.length = 0:=g5.1;exact List.eq_nil_of_length_eq_zero this
    subst hq;exact ⟨b0,o0,e,byt_across h1 x.size hv,A,c,[],g1,g2,g3,.inl rfl,g5.1,fun i q p hq hp => by cases hq⟩
  · obtain ⟨A',c',e,h1,h2,_⟩:=h.f
    exact ⟨A',c',e,h1,h2,.inl rfl⟩
  · obtain ⟨A',c',e,h1,h2,h4⟩:=h.dict
    refine ⟨A',c',e,h1,h2,?_⟩
    rcases h4 with h4 | ⟨g,o,e,hg,hc⟩
    · exact .inl h4
    · have hgb : g ≠ b:=by
        intro eg;subst eg;obtain ⟨s,hs⟩:=newW_firstI;exact vbox_nostrI hb _ _ (hc 0 _ hs)
      refine .inr ⟨g,o,e,Nat.lt_of_lt_of_le hg x.size,fun i v hi => ?_⟩;have:=hc i v hi;unfold World.cell? at this ⊢;rw [x.same g hg hgb];exact this
  · obtain ⟨A',c',e,h1,h2,_⟩:=h.e
    exact ⟨A',c',e,h1,h2,.inl rfl⟩
  · obtain ⟨A',c',e,h1,h2,_⟩:=h.h
    exact ⟨A',c',e,h1,h2,.inl rfl⟩
theorem res_w1 {fn : Func} {p : Tmp} (h : fn.results = #[.cell p 37]) (tmps : Array Value) (w : World) (b : Nat) (k : VmK) (hp : tmps.getD p undef = .pointer (some ⟨b,0,none⟩)) (hb : VBox w b k) :
    (results fn tmps).run Tryz.prog w = .ok (vmV k) w:=by
  have hp' : tmps[p]?.getD undef = .pointer (some ⟨b,0,none⟩):=by simpa using hp
  simp [results,h,hp',asAddr,vm_load hb]
theorem fresh_any (w : World) : Calls Tryz.prog 8 #[] w fun e w' => ∃ k,e = .returned (vmV k) ∧ IsVm w' k (newL 2048) ∧ Sc k freK ∧ Below w.heap.size w w':=by
  go_enter Tryz.func8,Tryz.ntmps8;go_upto_region 1 with fail
  generalize hw1 : World.alloc _ _ = w1;have B1 : Hid (Below w.heap.size w w1):=by show Below _ _ _; rw [← hw1]; exact al_one _ _
  have Z1 : Hid (VBox w1 w.heap.size vm0):=by show VBox _ _ _; rw [← hw1]; exact vbox_zero _
  clear hw1;(go_wp2_with fail);refine (rnew_any 2048 32 32 200 500 w1).mono ?_;rintro e w2 ⟨h1,_,bb⟩;obtain ⟨L,g,A2,c2,hL,rfl,hv⟩:=h1 (by decide);obtain rfl : L = 2048:=by omega
  have V2:=zqh hv;have S2 : Hid (Sc (newK 2048 32 32 200 500 g A2 c2) freK):=⟨rfl,rfl,rfl,rfl,rfl,rfl,rfl,rfl,rfl,rfl,rfl,rfl,rfl⟩;have Z2:=zqh (Z1.out.keep bb);have B2:=zqh (below_then B1.out bb);have L1:=zqh (Z1.out.keep bb).lt;clear hv bb hL Z1 B1 h1;generalize newK 2048 32 32 200 500 g A2 c2 = k at V2 S2 ⊢;go_upto_region 2 with (refine wpList_vstore (by rfl) _ _ rfl _ vm0 k rfl rfl (vbox_zero _) ?_)
  generalize hw3 : World.setRow _ _ _ = w3;have kb : Below w2.heap.size w2 w3:=by rw [← hw3]; exact below_setRow (al_one _ _) (Nat.le_refl _) _
  have X3 : Hid (VBox w3 w2.heap.size k):=by show VBox _ _ _; rw [← hw3]; exact vrow (vbox_zero w2) k
  have Z3:=zqh (Z2.out.keep kb);have V3:=zqh (V2.out.keep kb);have B3:=zqh (below_then B2.out kb);clear hw3 kb Z2 V2 B2;(go_wp2_with (first | (refine wpList_vload (by rfl) _ rfl _ _ rfl X3.out ?_) | (refine wpList_vstore (by rfl) _ _ rfl _ vm0 _ rfl rfl Z3.out ?_)));have bz:=below_setRow B3.out (Nat.le_refl w.heap.size) (vmC k);exact bodyPost_ret (res_w1 rfl _ _ _ _ rfl (vrow Z3.out _)) rfl ⟨k,rfl,new_exI V3.out (ex_row _ _ _) Z3.out,S2.out,bz⟩
theorem xt_any (m : Nat) (hm : m < 130) (s : ByteArray) (hs : s = strB (nmP m)) (w : World) : Calls Tryz.prog 9 #[.string s] w fun e w' => e = .returned (.int .i64 (32 + 8 * (m : Int))) ∧ Below w.heap.size w w':=by
  have HN:=zqh (number_any m hm w);have e1 : wrap64 (8 * (m : Int)) = 8 * (m : Int):=by unfold wrap64; omega
  have e2 : wrap64 (32 + 8 * (m : Int)) = 32 + 8 * (m : Int):=by unfold wrap64; omega
  have h8 : (m : Int) < 130:=by omega
  subst hs;clear hm;go_enter Tryz.func9,Tryz.ntmps9;(go_wp2_with fail);refine HN.out.mono ?_;rintro e w1 ⟨rfl,bb⟩;(go_wp2_with fail);go_ret;exact ⟨rfl,bb⟩
theorem mem_freed {w : World} {x y : Value} {m : PM} (h : IsMem w (.agg #[x,y]) m) : IsMem w (.agg #[x,.slice none 0 0]) (m.1,[]):=⟨x,.slice none 0 0,rfl,h.byt,none,0,[],rfl,Nat.le_refl _,Nat.zero_le _,.inl rfl,rfl,fun i q p hq => by cases hq⟩
abbrev memK (k : VmK) (A : Option Addr) (n c : Nat) : VmK:={ k with mA:=A,mn:=n,mc:=c,pA:=none,pn:=0,pc:=0 }
theorem free_m {k : VmK} {b : Nat} (f : Free k b) (A : Option Addr) (n c : Nat) : Free { k with mA:=A,mn:=n,mc:=c,pA:=none,pn:=0,pc:=0 } b:=⟨.inl rfl,f.d,f.r,f.f,f.w,f.e,f.h⟩
theorem sc_m {k j : VmK} (h : Sc k j) (A P : Option Addr) (n c m d : Nat) : Sc { k with mA:=A,mn:=n,mc:=c,pA:=P,pn:=m,pc:=d } j:=⟨h.cm,h.cd,h.cr,h.cw,h.co,h.here,h.last,h.qo,h.free,h.next,h.arg,h.self,h.now⟩
theorem store_pats (m : PM) (p n : Int) : (storeF m p n).2.length ≤ m.2.length + 1:=by
  unfold storeF writeF
  split
  · split <;> simp
  · omega
theorem puts_pats : ∀ (l : List Int) (m : PM) (p : Int),(putsF m p l).2.length ≤ m.2.length + l.length
  | [],m,p => Nat.le_refl _
  | c :: cs,m,p => by
    have h:=puts_pats cs (storeF m p c) (p + 8);have g:=store_pats m p c;show (putsF (storeF m p c) (p + 8) cs).2.length ≤ _;simp only [List.length_cons];omega
structure LaidAt (w wr : World) (k : VmK) (b : Nat) (A P : Option Addr) (n c K d : Nat) (m : PM) : Prop where
  box : Box wr b (.slice A n c) (.slice P K d) 29
  mem : IsMem wr (.agg #[.slice A n c,.slice P K d]) m
  x : VBox wr w.heap.size k
  y : VBox wr (w.heap.size + 1) vm0
  bel : Below w.heap.size w wr
theorem drew_bel7 (w : World) : Below w.heap.size w w.drew:=⟨rfl,rfl,rfl,Nat.le_refl _,fun _ _ => rfl⟩
theorem LaidAt.keep {w wr u : World} {k : VmK} {b : Nat} {A P : Option Addr} {n c K d : Nat} {m : PM} (h : LaidAt w wr k b A P n c K d m) (x : Below wr.heap.size wr u) : LaidAt w u k b A P n c K d m:=⟨h.box.keep x,h.mem.keep x,h.x.keep x,h.y.keep x,below_then h.bel x⟩
theorem mem_info8 : (Tryz.prog.info? 29).map (·.size) = some 2:=by kernel_rfl
theorem step_mst {ops : Array Oper} {o : Oper} {a : Act} {K : Act → World → Prop} {Q : Exit → Act → World → Prop} {E : Prop} {w : World} (hgd : o.guard = none) (x y : Operand) (ho : o.op = .store 29 x y)
    (b : Nat) (p q : Value) (A P : Option Addr) (n c m d : Nat) (hx : a.eval x = .pointer (some ⟨b,0,none⟩)) (hy : a.eval y = .agg #[.slice A n c,.slice P m d]) (hb : Box w b p q 29) (h : K (a.put o.dst undef) (w.setRow b #[.slice A n c,.slice P m d])) :
    if Region.wanted o (yielded ops a.tmps) = true then Oper.wp Tryz.prog o a w K Q else E:=by
  have hw : Region.wanted o (yielded ops a.tmps) = true:=by simp [Region.wanted,hgd]
  rw [if_pos hw];exact wp_store_row 29 x y ho b #[.slice A n c,.slice P m d] hx hy _ _ hb mem_info8 rfl (by simp [Value.oneCell']) h
theorem wpList_mst {ops : Array Oper} {rest : List Oper} {o : Oper} {a : Act} {Q : Exit → Act → World → Prop} {w : World} (hw : Region.wanted o (yielded ops a.tmps) = true) (x y : Operand) (ho : o.op = .store 29 x y)
    (b : Nat) (p q : Value) (A P : Option Addr) (n c m d : Nat) (hx : a.eval x = .pointer (some ⟨b,0,none⟩)) (hy : a.eval y = .agg #[.slice A n c,.slice P m d]) (hb : Box w b p q 29) (h : wpList Tryz.prog ops Q rest (a.put o.dst undef) (w.setRow b #[.slice A n c,.slice P m d])) : wpList Tryz.prog ops Q (o :: rest) a w :=
  wpList_step fun K hK => by
    rw [if_pos hw];exact wp_store_row 29 x y ho b #[.slice A n c,.slice P m d] hx hy _ _ hb mem_info8 rfl (by simp [Value.oneCell']) (hK _ _ h)
theorem Box.row_new {w : World} {b : Nat} {x y : Value} {t : TypeId} (h : Box w b x y t) (x' y' : Value) : Box (w.setRow b #[x',y']) b x' y' t:=setRow_heap w b _ _ _ _ h
theorem Box.row_away {w : World} {b g : Nat} {x y : Value} {t : TypeId} (h : Box w b x y t) (hne : b ≠ g) (cs : Array Value) : Box (w.setRow g cs) b x y t:=by unfold Box at h ⊢; rw [setRow_other w g b cs hne]; exact h
theorem LaidAt.put {w u : World} {k : VmK} {b : Nat} {A P A' P' : Option Addr} {n c K d n' c' K' d' : Nat} {m m' : PM} (h : LaidAt w u k b A P n c K d m) (hm : IsMem u (.agg #[.slice A' n' c',.slice P' K' d']) m') (hb : w.heap.size + 2 ≤ b) :
    LaidAt w (u.setRow b #[.slice A' n' c',.slice P' K' d']) k b A' P' n' c' K' d' m' :=
  ⟨h.box.row_new _ _,hm.row h.box (rowSet_setRow b u _),vrow_fr h.x (by omega) _,vrow_fr h.y (by omega) _,below_setRow h.bel (by omega) _⟩
theorem LaidAt.other {w u : World} {k : VmK} {b g : Nat} {A P X1 X2 : Option Addr} {n c K d a1 a2 a3 a4 : Nat} {t : TypeId} {m : PM} (h : LaidAt w u k b A P n c K d m) (hx : Box u g (.slice X1 a1 a2) (.slice X2 a3 a4) t) (hg : b < g) (hb : w.heap.size + 2 ≤ b) (cs : Array Value) : LaidAt w (u.setRow g cs) k b A P n c K d m :=
  ⟨h.box.row_away (by omega) _,h.mem.row hx (rowSet_setRow g u _),vrow_fr h.x (by omega) _,vrow_fr h.y (by omega) _,below_setRow h.bel (by omega) _⟩
theorem cell_far {u : World} {g i b : Nat} {v : Value} (h : u.cell? ⟨g,i,none⟩ = some v) (hne : g ≠ b) (cs : Array Value) : (u.setRow b cs).cell? ⟨g,i,none⟩ = some v:=by
  unfold World.cell? at h ⊢;rw [setRow_other _ _ _ _ hne];exact h
theorem laid_any {k : VmK} {L : VmL} (p : Int) (A : Option Addr) (n c : Nat) (cells : List Int) (w : World) (h : IsVm w k L) (hr : Row w A n c cells) (h0 : 0 ≤ p) (h1 : p ≤ 60000) (hn : n ≤ 100) (hm : L.m.1.length ≤ 65536) (hp : L.m.2.length ≤ 800) :
    Calls Tryz.prog 10 #[vmV k,.int .i64 p,.slice A n c] w fun e w' => ∃ A' n' c',e = .returned (vmV (memK k A' n' c')) ∧ IsVm w' (memK k A' n' c') { L with m:=laidM L.m p cells } ∧ Below w.heap.size w w':=by
  have H0:=zqh h;have R0:=zqh hr;have M0:=zqh hm;have P0:=zqh hp;have l1 : k.mn = L.m.1.length:=h.m.len1.symm;have HS:=zqh (fun (u : World) (bu : Below w.heap.size w u) => rstore_at k.mA k.pA k.mn k.mc k.pn k.pc L.m p 256 u (zqh (h.keep bu).m) (by omega) (by have:=h.m.len2; omega));clear h hr l1 hm hp;go_enter Tryz.func10,Tryz.ntmps10;go_upto_region 1 with fail
  generalize hw1 : World.alloc (World.alloc _ _) _ = w1;have B1 : Hid (Below w.heap.size w w1):=by show Below _ _ _; rw [← hw1]; exact al_two _ _ _
  have X1 : Hid (VBox w1 w.heap.size k):=by show VBox _ _ _; rw [← hw1]; exact (in_two w k _).2
  have Y1 : Hid (VBox w1 (w.heap.size + 1) vm0):=by show VBox _ _ _; rw [← hw1]; exact in_two0 w _
  clear hw1;have p5:=X1.out.use.2.2.2.2.2.1;have p6:=X1.out.use.2.2.2.2.2.2.1;(go_wp2_with fail);refine (HS.out w1 B1.out).mono ?_;rintro e w2 ⟨A1,n1,c1,P1,K1,d1,rfl,hm,bb⟩;have X2:=zqh (X1.out.keep bb);have Y2:=zqh (Y1.out.keep bb);have B2:=zqh (below_then B1.out bb);have M2:=zqh hm;clear X1 Y1 B1 bb hm p5 p6;go_upto_region 2 with fail
  generalize hw3 : World.alloc _ _ = w3;have kb : Below w2.heap.size w2 w3:=by rw [← hw3]; exact al_one _ _
  have N3 : Hid (Box w3 w2.heap.size (.slice A1 n1 c1) (.slice P1 K1 d1) 29):=by show Box _ _ _ _ _; rw [← hw3]; exact box_new _ _ _ _
  have I3 : Hid (LaidAt w w3 k w2.heap.size A1 P1 n1 c1 K1 d1 (putsF (storeF L.m p 256) (p + 8) (cells.take 0))):=⟨N3.out,M2.out.keep kb,X2.out.keep kb,Y2.out.keep kb,below_then B2.out kb⟩;have L2:=zqh Y2.out.lt;clear hw3 kb N3 X2 Y2 B2 M2 HS;(go_wp2_with fail)
  go_loopw [9] (fun s9 wr => ∃ (i : Nat) (A' P' : Option Addr) (n' c' K' d' : Nat),s9 = .int .i64 (i : Int) ∧ i ≤ n ∧ Hid (LaidAt w wr k w2.heap.size A' P' n' c' K' d' (putsF (storeF L.m p 256) (p + 8) (cells.take i)))) (fun s9 _ => n - (intOf s9).toNat)
  case atStart => exact ⟨0,_,_,_,_,_,_,rfl,Nat.zero_le _,I3⟩
  case round =>
    obtain ⟨i,A',P',n',c',K',d',rfl,hi,hI⟩:=hrel;clear I3;have hb:=hI.out.box.use;obtain ⟨q0,q1,f0,f1⟩:=hb;have ln : n' = L.m.1.length:=by have:=hI.out.mem.len1; rw [puts_len,store_len9I] at this; omega
    have lk : K' ≤ L.m.2.length + 1 + i:=(by have:=hI.out.mem.len2; have g:=puts_pats (cells.take i) (storeF L.m p 256) (p + 8); have g2:=store_pats L.m p 256; have g3 : (cells.take i).length ≤ i:=(by rw [List.length_take]; omega); omega)
    by_cases hin : i < n
    · obtain ⟨g,o,rfl,hg,hc⟩:=R0.out.cells (by omega)
      have hx:=hc i hin;have hlt : i < cells.length:=by have:=R0.out.1; omega
      rw [show cells.getD i 0 = cells[i] from by simp [List.getD,List.getElem?_eq_getElem hlt]] at hx;have qx:=(hI.out.bel.cell (p:=⟨g,o + i,none⟩) hg).trans hx;have ht : cells.take (i + 1) = cells.take i ++ [cells[i]]:=by rw [List.take_add_one,List.getElem?_eq_getElem hlt]; rfl
      have HT:=zqh ht;have hl : (cells.take i).length = i:=by rw [List.length_take]; omega
      have HP : Hid (putsF (storeF L.m p 256) (p + 8) (cells.take (i + 1)) = storeF (putsF (storeF L.m p 256) (p + 8) (cells.take i)) (p + 8 + 8 * (i : Int)) cells[i]):=by show _ = _; rw [ht,puts_snoc,hl]
      have HS:=zqh (fun (u : World) (hu : LaidAt w u k w2.heap.size A' P' n' c' K' d' (putsF (storeF L.m p 256) (p + 8) (cells.take i))) => rstore_at A' P' n' c' K' d' _ (p + 8 + 8 * (i : Int)) cells[i] u (zqh hu.mem) (by have:=M0.out; omega) (by have:=P0.out; omega));obtain ⟨V,hV⟩ : ∃ V,cells[i] = V:=⟨_,rfl⟩;obtain ⟨mi,hmi⟩ : ∃ mi,putsF (storeF L.m p 256) (p + 8) (cells.take i) = mi:=⟨_,rfl⟩;rw [hV] at HS HP qx;rw [hmi] at HS HP hI;have GH:=zqh hg;have LW : Hid (w.heap.size + 2 ≤ w2.heap.size):=L2.out;clear hc hx ht hl hV hmi ln lk q0 q1 f0 f1 HT hg;have e81 : IntKind.i64.wrap (p + 8) = p + 8:=IntWalk.i64_in _ (by omega);have e82 : IntKind.i64.wrap (8 * (i : Int)) = 8 * (i : Int):=IntWalk.i64_in _ (by omega);have e83 : IntKind.i64.wrap (p + 8 + 8 * (i : Int)) = p + 8 + 8 * (i : Int):=IntWalk.i64_in _ (by omega);go_upto_region 5 with fail
      refine wp_region_held_drew (S:=fun u => LaidAt w u k w2.heap.size A' P' n' c' K' d' mi ∧ u.cell? ⟨g,o + i,none⟩ = some (.int .i64 V)) (by kernel_rfl) ?_ (fun hHeld => ?_)
      · exact ⟨hI.out.keep (drew_bel7 _),qx⟩
      clear qx hI;refine zqt (i:=0) (v:=?v0) ?y0 ?r0
      case y0 => (intro u hSw; (try dsimp only at hSw); obtain ⟨q0,q1,_,_⟩:=hSw.1.box.use; have qx:=hSw.2; clear hSw; go_simp; (try with_reducible rfl))
      (try simp only [zq,Act.put]);refine zqt (i:=1) (v:=?v1) ?y1 ?r1
      case y1 => (intro u hSw; (try dsimp only at hSw); obtain ⟨q0,q1,_,_⟩:=hSw.1.box.use; have qx:=hSw.2; clear hSw; go_simp; (try with_reducible rfl))
      (try simp only [zq,Act.put]);refine zqt (i:=2) (v:=?v2) ?y2 ?r2
      case y2 => (intro u hSw; (try dsimp only at hSw); obtain ⟨q0,q1,_,_⟩:=hSw.1.box.use; have qx:=hSw.2; clear hSw; go_simp; (try with_reducible rfl))
      (try simp only [zq,Act.put]);refine zqt (i:=3) (v:=?v3) ?y3 ?r3
      case y3 => (intro u hSw; (try dsimp only at hSw); obtain ⟨q0,q1,_,_⟩:=hSw.1.box.use; have qx:=hSw.2; clear hSw; go_simp; (try with_reducible rfl))
      (try simp only [zq,Act.put]);refine zqt (i:=4) (v:=?v4) ?y4 ?r4
      case y4 => (intro u hSw; (try dsimp only at hSw); obtain ⟨q0,q1,_,_⟩:=hSw.1.box.use; have qx:=hSw.2; clear hSw; go_simp; (try with_reducible rfl))
      (try simp only [zq,Act.put]);refine zqt (i:=5) (v:=?v5) ?y5 ?r5
      case y5 => (intro u hSw; (try dsimp only at hSw); obtain ⟨q0,q1,_,_⟩:=hSw.1.box.use; have qx:=hSw.2; clear hSw; go_simp; (try with_reducible rfl))
      (try simp only [zq,Act.put]);refine zqt (i:=6) (v:=?v6) ?y6 ?r6
      case y6 => (intro u hSw; (try dsimp only at hSw); obtain ⟨q0,q1,_,_⟩:=hSw.1.box.use; have qx:=hSw.2; clear hSw; go_simp; (try with_reducible rfl))
      (try simp only [zq,Act.put]);refine zqt (i:=7) (v:=?v7) ?y7 ?r7
      case y7 => (intro u hSw; (try dsimp only at hSw); obtain ⟨q0,q1,_,_⟩:=hSw.1.box.use; have qx:=hSw.2; clear hSw; go_simp; (try with_reducible rfl))
      (try simp only [zq,Act.put]);refine zqt (i:=8) (v:=?v8) ?y8 ?r8
      case y8 => (intro u hSw; (try dsimp only at hSw); obtain ⟨q0,q1,_,_⟩:=hSw.1.box.use; have qx:=hSw.2; clear hSw; go_simp; (try with_reducible rfl))
      (try simp only [zq,Act.put]);refine zqt (i:=9) (v:=?v9) ?y9 ?r9
      case y9 => (intro u hSw; (try dsimp only at hSw); obtain ⟨q0,q1,_,_⟩:=hSw.1.box.use; have qx:=hSw.2; clear hSw; go_simp; (try with_reducible rfl))
      (try simp only [zq,Act.put]);refine wpAnyH_ready (rs:=[10,14]) (by kernel_rfl) (by simp) ?_;refine AllReadyH.cons (o:=_) rfl (fun K hK => ?_) (AllReadyH.cons (o:=_) rfl (fun K hK => ?_) AllReadyH.nil)
      · go_simp
        refine (HS.out _ hHeld.1).mono ?_;rintro e u1 ⟨A2,n2,c2,P2,K2,d2,rfl,hm,bb⟩;have HM:=zqh hm;have hN : LaidAt w u1 k w2.heap.size A' P' n' c' K' d' mi ∧ World.cell? u1 ⟨g,o + i,none⟩ = some (.int .i64 V):=⟨hHeld.1.keep bb,(bb.cell (p:=⟨g,o + i,none⟩) (Nat.lt_of_lt_of_le GH.out hHeld.1.bel.size)).trans hHeld.2⟩;(go_wp2_with fail);clear hHeld bb hm;refine hK.out _ _ hN (fun hHeld => ?_);clear hK K hN;(try simp only [zq,Act.put]);refine zqt (i:=11) (v:=?v11a) ?y11a ?r11a
        case y11a => (intro u hSw; (try dsimp only at hSw); obtain ⟨q0,q1,_,_⟩:=hSw.1.box.use; have qx:=hSw.2; clear hSw; go_simp; (try with_reducible rfl))
        (try simp only [zq,Act.put]);refine zqt (i:=12) (v:=?v12a) ?y12a ?r12a
        case y12a => (intro u hSw; (try dsimp only at hSw); obtain ⟨q0,q1,_,_⟩:=hSw.1.box.use; have qx:=hSw.2; clear hSw; go_simp; (try with_reducible rfl))
        (try simp only [zq,Act.put]);refine zqt (i:=13) (v:=?v13a) ?y13a ?r13a
        case y13a => (intro u hSw; (try dsimp only at hSw); obtain ⟨q0,q1,_,_⟩:=hSw.1.box.use; have qx:=hSw.2; clear hSw; go_simp; (try with_reducible rfl))
        (try simp only [zq,Act.put]);refine zqr 14 fun K hK => ?_
        go_simp;have ba:=al_one u1 (.cells #[.slice none 0 0,.slice none 0 0] 29);have HZ:=zqh (box_new u1 (.slice none 0 0) (.slice none 0 0) 29);have hN : LaidAt w (u1.alloc (.cells #[.slice none 0 0,.slice none 0 0] 29)) k w2.heap.size A' P' n' c' K' d' mi ∧ World.cell? (u1.alloc (.cells #[.slice none 0 0,.slice none 0 0] 29)) ⟨g,o + i,none⟩ = some (.int .i64 V):=⟨hHeld.1.keep ba,(ba.cell (p:=⟨g,o + i,none⟩) (Nat.lt_of_lt_of_le GH.out hHeld.1.bel.size)).trans hHeld.2⟩;have HM:=zqh (HM.out.keep ba);have LZ : Hid (w2.heap.size < u1.heap.size):=hHeld.1.box.lt;clear hHeld ba;refine hK.out _ _ hN (fun hHeld => ?_);clear hK K hN;(try simp only [zq,Act.put]);refine zqr 15 fun K hK => ?_
        refine step_mst rfl _ _ rfl _ _ _ A2 P2 n2 c2 K2 d2 rfl rfl HZ.out ?_;have hN : LaidAt w (World.setRow _ _ #[.slice A2 n2 c2,.slice P2 K2 d2]) k w2.heap.size A' P' n' c' K' d' mi ∧ World.cell? (World.setRow _ _ #[.slice A2 n2 c2,.slice P2 K2 d2]) ⟨g,o + i,none⟩ = some (.int .i64 V):=⟨hHeld.1.other HZ.out LZ.out LW.out _,cell_far hHeld.2 (show g ≠ u1.heap.size by have:=GH.out; have:=LZ.out; have:=LW.out; omega) _⟩;have HZ2:=zqh (HZ.out.row_new (.slice A2 n2 c2) (.slice P2 K2 d2));have HM3:=zqh (HM.out.row HZ.out (rowSet_setRow _ _ #[.slice A2 n2 c2,.slice P2 K2 d2]));clear hHeld HZ HM;refine hK.out _ _ hN (fun hHeld => ?_);clear hK K hN;(try simp only [zq,Act.put]);refine zqt (i:=16) (v:=?v16a) ?y16a ?r16a
        case y16a => (intro u hSw; (try dsimp only at hSw); obtain ⟨q0,q1,_,_⟩:=hSw.1.box.use; have qx:=hSw.2; clear hSw; go_simp; (try with_reducible rfl))
        (try simp only [zq,Act.put]);refine wpAnyH_done (by kernel_rfl) ?_ _;have HL:=zqh hHeld.1;clear hHeld;generalize World.setRow _ _ _ = U at HL HZ2 HM3 ⊢;have hz:=HZ2.out.use;obtain ⟨z0,z1,y0,y1⟩:=hz;(go_wp2_with (first | (refine wpList_mst (by rfl) _ _ rfl w2.heap.size _ _ A2 P2 n2 c2 K2 d2 rfl rfl HL.out.box ?_)))
        go_roundw
        case measure => simp [intOf]; omega
        case rel => exact ⟨i + 1,A2,P2,n2,c2,K2,d2,rfl,by omega,zqh (by rw [HP.out]; exact HL.out.put HM3.out LW.out)⟩
      · go_simp
        have ba:=al_one wr.drew (.cells #[.slice none 0 0,.slice none 0 0] 29);have HZ0 : Hid (Box (wr.drew.alloc (.cells #[.slice none 0 0,.slice none 0 0] 29)) wr.heap.size (.slice none 0 0) (.slice none 0 0) 29):=box_new wr.drew _ _ _;have LZ : Hid (w2.heap.size < wr.heap.size):=hHeld.1.box.lt;have hN : LaidAt w (wr.drew.alloc (.cells #[.slice none 0 0,.slice none 0 0] 29)) k w2.heap.size A' P' n' c' K' d' mi ∧ World.cell? (wr.drew.alloc (.cells #[.slice none 0 0,.slice none 0 0] 29)) ⟨g,o + i,none⟩ = some (.int .i64 V):=⟨hHeld.1.keep ba,(ba.cell (p:=⟨g,o + i,none⟩) (Nat.lt_of_lt_of_le GH.out hHeld.1.bel.size)).trans hHeld.2⟩;clear hHeld ba;refine hK.out _ _ hN (fun hHeld => ?_);clear hK K hN;(try simp only [zq,Act.put]);refine zqr 10 fun K hK => ?_
        go_simp;refine (HS.out _ hHeld.1).mono ?_;rintro e u1 ⟨A2,n2,c2,P2,K2,d2,rfl,hm,bb⟩;have HM:=zqh hm;have HZ:=zqh (HZ0.out.keep bb);have hN : LaidAt w u1 k w2.heap.size A' P' n' c' K' d' mi ∧ World.cell? u1 ⟨g,o + i,none⟩ = some (.int .i64 V):=⟨hHeld.1.keep bb,(bb.cell (p:=⟨g,o + i,none⟩) (Nat.lt_of_lt_of_le GH.out hHeld.1.bel.size)).trans hHeld.2⟩;(go_wp2_with fail);clear hHeld bb hm;refine hK.out _ _ hN (fun hHeld => ?_);clear hK K hN;(try simp only [zq,Act.put]);refine zqt (i:=11) (v:=?v11b) ?y11b ?r11b
        case y11b => (intro u hSw; (try dsimp only at hSw); obtain ⟨q0,q1,_,_⟩:=hSw.1.box.use; have qx:=hSw.2; clear hSw; go_simp; (try with_reducible rfl))
        (try simp only [zq,Act.put]);refine zqt (i:=12) (v:=?v12b) ?y12b ?r12b
        case y12b => (intro u hSw; (try dsimp only at hSw); obtain ⟨q0,q1,_,_⟩:=hSw.1.box.use; have qx:=hSw.2; clear hSw; go_simp; (try with_reducible rfl))
        (try simp only [zq,Act.put]);refine zqt (i:=13) (v:=?v13b) ?y13b ?r13b
        case y13b => (intro u hSw; (try dsimp only at hSw); obtain ⟨q0,q1,_,_⟩:=hSw.1.box.use; have qx:=hSw.2; clear hSw; go_simp; (try with_reducible rfl))
        (try simp only [zq,Act.put]);refine zqr 15 fun K hK => ?_
        refine step_mst rfl _ _ rfl _ _ _ A2 P2 n2 c2 K2 d2 rfl rfl HZ.out ?_;have hN : LaidAt w (World.setRow _ _ #[.slice A2 n2 c2,.slice P2 K2 d2]) k w2.heap.size A' P' n' c' K' d' mi ∧ World.cell? (World.setRow _ _ #[.slice A2 n2 c2,.slice P2 K2 d2]) ⟨g,o + i,none⟩ = some (.int .i64 V):=⟨hHeld.1.other HZ.out LZ.out LW.out _,cell_far hHeld.2 (show g ≠ wr.heap.size by have:=GH.out; have:=LZ.out; have:=LW.out; omega) _⟩;have HZ2:=zqh (HZ.out.row_new (.slice A2 n2 c2) (.slice P2 K2 d2));have HM3:=zqh (HM.out.row HZ.out (rowSet_setRow _ _ #[.slice A2 n2 c2,.slice P2 K2 d2]));clear hHeld HZ HM;refine hK.out _ _ hN (fun hHeld => ?_);clear hK K hN;(try simp only [zq,Act.put]);refine zqt (i:=16) (v:=?v16b) ?y16b ?r16b
        case y16b => (intro u hSw; (try dsimp only at hSw); obtain ⟨q0,q1,_,_⟩:=hSw.1.box.use; have qx:=hSw.2; clear hSw; go_simp; (try with_reducible rfl))
        (try simp only [zq,Act.put]);refine wpAnyH_done (by kernel_rfl) ?_ _;have HL:=zqh hHeld.1;clear hHeld;generalize World.setRow _ _ _ = U at HL HZ2 HM3 ⊢;have hz:=HZ2.out.use;obtain ⟨z0,z1,y0,y1⟩:=hz;(go_wp2_with (first | (refine wpList_mst (by rfl) _ _ rfl w2.heap.size _ _ A2 P2 n2 c2 K2 d2 rfl rfl HL.out.box ?_)))
        go_roundw
        case measure => simp [intOf]; omega
        case rel => exact ⟨i + 1,A2,P2,n2,c2,K2,d2,rfl,by omega,zqh (by rw [HP.out]; exact HL.out.put HM3.out LW.out)⟩
    · obtain rfl : i = n:=by omega
      have hall : cells.take i = cells:=List.take_of_length_le (by have:=R0.out.1; omega);rw [hall] at hI;have hk5:=hI.out.x.use.2.2.2.2.2.1;have hk6:=hI.out.x.use.2.2.2.2.2.2.1;have hf5:=hI.out.x.free.2.2.2.2.2.1;have hf6:=hI.out.x.free.2.2.2.2.2.2.1;have LW : Hid (w.heap.size + 2 ≤ w2.heap.size):=L2.out;clear hall ln lk hk5 hk6 hf5 hf6;(go_wp2_with fail);refine (rfree_at _ _ _ _ _ _ _).mono ?_;rintro e w5 ⟨rfl,bb⟩;have HI:=zqh (hI.out.keep bb);have hk5:=HI.out.x.use.2.2.2.2.2.1;have hk6:=HI.out.x.use.2.2.2.2.2.2.1;have hf5:=HI.out.x.free.2.2.2.2.2.1;have hf6:=HI.out.x.free.2.2.2.2.2.2.1;clear hI bb q0 q1 f0 f1;go_upto_region 8 with fail
      generalize hw6 : World.setCell (World.setCell _ _ _) _ _ = w6;have X6 : Hid (VBox w6 w.heap.size { k with mA:=A',mn:=n',mc:=c',pA:=none,pn:=0,pc:=0 }):=by show VBox _ _ _; rw [← hw6]; exact (HI.out.x.set_m A' n' c').set_p none 0 0
      have Y6 : Hid (VBox w6 (w.heap.size + 1) vm0):=by show VBox _ _ _; rw [← hw6]; exact vset_far (vset_far HI.out.y (by omega)) (by omega)
      have B6 : Hid (Below w.heap.size w w6):=by show Below _ _ _; rw [← hw6]; exact (HI.out.bel.setCell (p:=⟨w.heap.size,5,none⟩) (Nat.le_refl _) _).setCell (p:=⟨w.heap.size,6,none⟩) (Nat.le_refl _) _
      have V6 : Hid (IsVm w6 { k with mA:=A',mn:=n',mc:=c',pA:=none,pn:=0,pc:=0 } { L with m:=laidM L.m p cells }):=by
        show IsVm _ _ _;have g:=H0.out.keep HI.out.bel;have f:=free_m (free_of H0.out (Nat.le_refl _)) A' n' c';have v5 : IsVm w5 { k with mA:=A',mn:=n',mc:=c',pA:=none,pn:=0,pc:=0 } { L with m:=laidM L.m p cells }:=⟨mem_freed HI.out.mem,g.d,g.r,g.f,g.dict,g.o,g.q,g.e,g.h⟩;rw [← hw6];exact isvm_apart v5 f (((Ex.refl _ _).cell (X:=fun g => g = w.heap.size) rfl _).cell rfl _) (vbox_nou8 HI.out.x)
      clear hw6 hk5 hk6 hf5 hf6;(go_wp2_with (first | (refine wpList_vload (by rfl) _ rfl _ _ rfl X6.out ?_) | (refine wpList_vstore (by rfl) _ _ rfl _ vm0 _ rfl rfl Y6.out ?_)));have bz:=below_setRow B6.out (show w.heap.size ≤ w.heap.size + 1 by omega) (vmC { k with mA:=A',mn:=n',mc:=c',pA:=none,pn:=0,pc:=0 });have f1:=free_m (free_of H0.out (show w.heap.size ≤ w.heap.size + 1 by omega)) A' n' c';exact bodyPost_ret (res_w1 rfl _ _ _ _ rfl (vrow Y6.out _)) rfl ⟨A',n',c',rfl,isvm_apart V6.out f1 (ex_row _ _ _) (vbox_nou8 Y6.out),bz⟩
end Go.Proofs.YtcmldhjicjmmgaaGreatDoor
