/- Part 28. -/
import Derived.Test.YtcmldhjicjmmgaaGreatDoorXkBA
import Derived.Test.YtcmldhjicjmmgaaGreatDoorXkAZ
set_option linter.unusedVariables false
set_option linter.unusedSimpArgs false
set_option maxRecDepth 100000
set_option maxHeartbeats 4000000

namespace Go.Proofs
open Go.Shelf
def Tryz.growf_ren : Go.Shelf.Ren:=⟨fun | 4 => 260 | n => n,fun | 0 => 0 | 3 => 3 | 4 => 4 | 9 => 9 | 20 => 20 | 22 => 30 | 25 => 102 | n => n,fun | n => n⟩
theorem Tryz.growf_lays : Go.Proofs.Lays8.n4 Tryz.prog Tryz.growf_ren:={
  mixed:=by kernel_rfl
  f4 := ⟨"slices.Grow[[]detent/api.Frame,detent/api.Frame]", by decide, Tryz.func260.trans (congrArg some (by kernel_rfl))⟩
  t0:=Tryz.underlying0
  a0:=Tryz.isAgg0
  z0:=Tryz.sizeOf0
  v0:=Tryz.zeroValue0
  t3:=Tryz.underlying3
  a3:=Tryz.isAgg3
  z3:=Tryz.sizeOf3
  v3:=Tryz.zeroValue3
  t4:=Tryz.underlying4
  a4:=Tryz.isAgg4
  z4:=Tryz.sizeOf4
  v4:=Tryz.zeroValue4
  t9:=Tryz.underlying9
  a9:=Tryz.isAgg9
  z9:=Tryz.sizeOf9
  v9:=Tryz.zeroValue9
  t20:=Tryz.underlying20
  a20:=Tryz.isAgg20
  z20:=Tryz.sizeOf20
  v20:=Tryz.zeroValue20
  t22:=Tryz.underlying30
  a22:=Tryz.isAgg30
  z22:=Tryz.sizeOf30
  v22:=Tryz.zeroValue30 }
end Go.Proofs
namespace Go.Proofs.YtcmldhjicjmmgaaGreatDoor
open Go.RowKit


theorem info_frm : (Tryz.prog.info? 102).map (fun i => (i.zero,i.size,i.bytes)) = some (some (.agg #[.int .i64 0,.int .i64 0,.int .i64 0]),3,24):=by kernel_rfl
def fms (l : List Fm) : List Value:=l.flatMap fmE
theorem fms_cons (q : Fm) (l : List Fm) : fms (q :: l) = .int .i64 q.d :: .int .i64 q.r :: .int .i64 q.ip :: fms l:=rfl
theorem fms_len (l : List Fm) : (fms l).length = l.length * 3:=by
  induction l with
  | nil => rfl
  | cons q l ih => rw [fms_cons]; simp [ih]; omega
theorem fms_one (l : List Fm) : ∀ v ∈ fms l,v.oneCell' = true:=by
  intro v hv;unfold fms at hv;rw [List.mem_flatMap] at hv;obtain ⟨q,_,hv⟩:=hv;unfold fmE at hv;simp at hv
  rcases hv with rfl | rfl | rfl <;> rfl
theorem fms_app (a b : List Fm) : fms (a ++ b) = fms a ++ fms b:=by simp [fms]
abbrev FOwns (w : World) (base : Nat) (v : Value) (n : Nat) (l : List Fm) : Prop:=w.ownsRow base 102 3 v n (fms l)
theorem FOwns.fms {w : World} {base n : Nat} {v : Value} {l : List Fm} (h : FOwns w base v n l) : Fms w v l:=by
  have hl:=h.1;rw [fms_len] at hl;have hl : l.length = n:=by omega
  subst hl
  rcases h.2 with ⟨rfl,h0⟩ | ⟨g,cap,cur,rfl,_,hg,hnc,hcm,_,ht⟩
  · have : l = []:=List.eq_nil_of_length_eq_zero h0
    subst this;exact rws_nil _ w
  · refine ⟨some ⟨g,0,none⟩,cap,rfl,hnc,hcm,.inr ⟨g,0,rfl,(Array.getElem?_eq_some_iff.1 hg).1,fun j x hx => ?_⟩⟩
    have hx : (Go.Proofs.YtcmldhjicjmmgaaGreatDoor.fms l)[j]? = some x:=hx;rw [← ht,List.getElem?_take] at hx
    split at hx
    · rw [Nat.zero_add]
      simp [World.cell?,hg];simpa using hx
    · cases hx
theorem fown_from {w : World} {base e size n : Nat} {v : Value} {xs : List Value} (h : w.ownsRow base e size v n xs) : ∀ k,v.ownBlock = some k → base ≤ k:=fun k hk => (h.lt k hk).1
theorem fms_newone (w : World) (q : Fm) : Fms (w.alloc (.cells #[.int .i64 q.d,.int .i64 q.r,.int .i64 q.ip] 102)) (.slice (some ⟨w.heap.size,0,none⟩) 1 1) [q] :=
  ⟨_,_,rfl,Nat.le_refl _,by unfold maxLen; simp,lies_block (one_newN w _ _)⟩
theorem run_fapp {w : World} (ty : TypeId) {base n : Nat} {v : Value} {xs : List Fm} (hown : FOwns w base v n xs) {A : Option Addr} {m c : Nat} {ys : List Fm} (hr : Fms w (.slice A m c) ys) (h63 : n + m ≤ 1000000) (hbase : base ≤ w.heap.size) :
    ∃ v' w',(Builtin.append_ #[30,30] ty #[v,.slice A m c]).run Tryz.prog w = .ok v' w' ∧ FOwns w' base v' (n + m) (xs ++ ys) ∧ w.grownBy w' v.ownBlock:=by
  obtain ⟨i0,hi,hz0,hz1,hz2⟩:=info_parts info_frm;have h1:=hr.len;have h4 : Lies w A (Go.Proofs.YtcmldhjicjmmgaaGreatDoor.fms ys):=hr.lies;cases A with
  | some ad =>
    have hsrc : ∀ j u,(fms ys)[j]? = some u → w.cell? (ad.add j) = some u:=by
      intro j u hu
      rcases h4 with h4 | ⟨g,o,e,_,hc⟩
      · rw [h4] at hu; simp at hu
      · injection e with e
        rw [e,add_at];exact hc j u hu
    obtain ⟨v',w',ha,hb,hc,_⟩:=run_append_own (P:=Tryz.prog) w base 30 ty 102 i0 (.agg #[.int .i64 0,.int .i64 0,.int .i64 0]) 3 24 Tryz.underlying30 hi hz0 hz1 hz2 rfl (by decide) v n (fms xs) hown ad m c (fms ys) (by rw [fms_len,h1]) hsrc (fms_one ys) (by unfold maxLen; omega) (by omega) hbase;exact ⟨v',w',ha,by have e:=fms_app xs ys; unfold FOwns; rw [e]; exact hb,hc⟩
  | none =>
    have hnil : ys = []:=by
      rcases h4 with h | ⟨_,_,h,_⟩
      · have:=congrArg List.length h
        rw [fms_len] at this;have h0 : ys.length * 3 = 0:=this;exact List.eq_nil_of_length_eq_zero (by omega)
      · cases h
    subst hnil;have hm : m = 0:=by rw [← h1]; rfl
    subst hm;refine ⟨v,w,?_,by simpa using hown,World.grownBy.refl w _⟩
    rcases hown.2 with ⟨rfl,rfl⟩ | ⟨g,cap,cur,rfl,_,_,hnc,_⟩
    · simp [Builtin.append_,run_underlying Tryz.underlying30,sizeOf,typeInfo,hi,Builtin.lenOf,Builtin.firstCells]
    · simp [Builtin.append_,run_underlying Tryz.underlying30,sizeOf,typeInfo,hi,Builtin.lenOf,Builtin.firstCells,hnc,storeCells]
theorem fapp_below {w0 w w' : World} {base n : Nat} {v : Value} {xs : List Fm} (hown : FOwns w base v n xs) (hb : Below w0.heap.size w0 w) (hg : w.grownBy w' v.ownBlock) (hB : w0.heap.size ≤ base) : Below w0.heap.size w0 w' :=
  hb.grown hg hb.size (fun k hk => Nat.le_trans hB (fown_from hown k hk))
theorem wp_fapp {o : Oper} {a : Act} {K : Act → World → Prop} {Q : Exit → Act → World → Prop} {w : World} (s x : Operand)
    (ho : o.op = .call { callee:=.builtin .append,args:=#[s,x],argTypes:=#[30,30] })
    (base : Nat) (v : Value) (n : Nat) (xs : List Fm) (hs : a.eval s = v) (hown : FOwns w base v n xs)
    (A : Option Addr) (m c : Nat) (ys : List Fm) (hx : a.eval x = .slice A m c) (hr : Fms w (.slice A m c) ys) (h63 : n + m ≤ 1000000) (hbase : base ≤ w.heap.size)
    (w0 : World) (hb : Below w0.heap.size w0 w) (hB : w0.heap.size ≤ base)
    (h : ∀ v' w',FOwns w' base v' (n + m) (xs ++ ys) → Below w0.heap.size w0 w' → w.grownBy w' v.ownBlock → K (a.put o.dst v') w') : o.wp Tryz.prog a w K Q:=by
  obtain ⟨v',w',hr,h2,h3⟩:=run_fapp o.type hown hr h63 hbase;unfold Oper.wp execOp;simp only [ho,resolve,invoke,builtin,Sem.run_bind,Sem.run_pure,Result.andThen_ok,List.map_toArray,List.map_cons,List.map_nil,hs,hx,hr];exact h v' w' h2 (fapp_below hown hb h3 hB) h3
theorem wpList_fapp {ops : Array Oper} {rest : List Oper} {o : Oper} {a : Act} {Q : Exit → Act → World → Prop} {w : World} (hgd : o.guard = none) (s x : Operand)
    (ho : o.op = .call { callee:=.builtin .append,args:=#[s,x],argTypes:=#[30,30] })
    (base : Nat) (v : Value) (n : Nat) (xs : List Fm) (hs : a.eval s = v) (hown : FOwns w base v n xs)
    (A : Option Addr) (m c : Nat) (ys : List Fm) (hx : a.eval x = .slice A m c) (hr : Fms w (.slice A m c) ys) (h63 : n + m ≤ 1000000) (hbase : base ≤ w.heap.size)
    (w0 : World) (hb : Below w0.heap.size w0 w) (hB : w0.heap.size ≤ base)
    (h : ∀ v' w',FOwns w' base v' (n + m) (xs ++ ys) → Below w0.heap.size w0 w' → w.grownBy w' v.ownBlock → wpList Tryz.prog ops Q rest (a.put o.dst v') w') : wpList Tryz.prog ops Q (o :: rest) a w :=
  wpList_plain hgd fun _ hK => wp_fapp s x ho base v n xs hs hown A m c ys hx hr h63 hbase w0 hb hB fun v' w' h2 h3 h4 => hK _ _ (h v' w' h2 h3 h4)
theorem fgrow_any (n : Nat) (w : World) (hn : n ≤ 200000) : Calls Tryz.prog 260 #[.slice none 0 0,.int .i64 (n : Int)] w fun e w' => ∃ v,e = .returned v ∧ FOwns w' w.heap.size v 0 [] ∧ Below w.heap.size w w':=by
  by_cases h0 : n = 0
  · subst h0
    refine (Any8.slices_Grow_room Tryz.growf_lays none 0 0 0 w (Nat.le_refl _) (by decide) (by decide) (by decide)).mono ?_;rintro e w1 ⟨rfl,rfl⟩;exact ⟨_,rfl,⟨rfl,.inl ⟨rfl,rfl⟩⟩,Below.refl _ _⟩
  · obtain ⟨i0,hi,hz0,hz1,hz2⟩:=info_parts info_frm
    have h:=Any8.slices_Grow_grow Tryz.growf_lays i0 _ hi hz0 (by rw [hz1]; decide) none 0 0 n [] w (Nat.le_refl _) (by omega) (by rw [hz2]; omega) (by omega) (by simp) (fun _ => rfl) (fun a e => by cases e);refine h.mono ?_;rintro e w1 ⟨rfl,rfl⟩;refine ⟨_,rfl,⟨rfl,.inr ⟨w.heap.size,_,_,rfl,Nat.le_refl _,one_newN w.drew _ _,Nat.zero_le _,grownCap_le_maxLen _ _ _ _ (by unfold maxLen; omega),?_,by simp [fms]⟩⟩,?_⟩
    · have hge:=grownCap_ge w (0 + n) 0 (Tryz.growf_ren.t 25)
      obtain ⟨G,hG⟩ : ∃ G,grownCap w (0 + n) 0 (Tryz.growf_ren.t 25) = G:=⟨_,rfl⟩;rw [hG] at hge ⊢;simp [Builtin.zeroCells,Value.cells];omega
    · exact (⟨rfl,rfl,rfl,Nat.le_refl _,fun _ _ => rfl⟩ : Below w.heap.size w w.drew).alloc (Nat.le_refl _) _
theorem fcat_any (A A' : Option Addr) (n c n' c' : Nat) (l l' : List Fm) (g : Nat) (w : World) (H0 : w.cell? ⟨g,0,none⟩ = some (.slice A n c)) (H1 : w.cell? ⟨g,1,none⟩ = some (.slice A' n' c'))
    (h : Fms w (.slice A n c) l) (h' : Fms w (.slice A' n' c') l') (hl : l.length ≤ 100000) (hl' : l'.length ≤ 100000) :
    Calls Tryz.prog 208 #[.slice (some ⟨g,0,none⟩) 2 2] w fun e w' => ∃ v,e = .returned v ∧ FOwns w' w.heap.size v (l ++ l').length (l ++ l') ∧ Below w.heap.size w w':=by
  have e1:=h.len;have e2:=h'.len;subst e1 e2;have X:=zqh h;have Y:=zqh h';have hs : IntKind.i64.wrap ((l.length : Int) + (l'.length : Int)) = ((l.length + l'.length : Nat) : Int):=by
    rw [IntWalk.i64_in _ ⟨by omega,by omega⟩];simp
  have hp : decide (((l.length + l'.length : Nat) : Int) < 0) = false:=by simp; omega
  have hp0 : decide ((l.length : Int) < 0) = false:=by simp
  have HG:=zqh (fgrow_any (l.length + l'.length) w (by omega));clear h h';go_enter Tryz.func208,Tryz.ntmps208;(go_wp2_with fail);refine wp_loop_rounds 3 ?_
  iterate 3 (rw [rounds_succ]; go_wp2_with fail)
  refine HG.out.mono ?_;rintro e w1 ⟨v0,rfl,o0,b0⟩;have O0:=zqh o0;have B0:=zqh b0;have K0 : w1.cell? ⟨g,0,none⟩ = some (.slice A l.length c):=(b0.cell (p:=⟨g,0,none⟩) (World.block_lt_of_cell? _ _ H0)).trans H0;have X1:=zqh (X.out.keep b0);have HS:=zqh b0.size;have HH:=zqh H1;clear o0 b0 H0 H1 X HG;(go_wp2_with fail);refine wp_loop_rounds 3 ?_;rw [rounds_succ];(go_wp2_with (at_builtin; (refine wpList_fapp rfl _ _ rfl w.heap.size v0 0 [] rfl O0.out A l.length c l rfl X1.out (by omega) HS.out w B0.out (Nat.le_refl _) ?_; intro v1 w2 o1 b1 g1)));have O1:=zqh o1;have B1:=zqh b1;have K1 : w2.cell? ⟨g,1,none⟩ = some (.slice A' l'.length c'):=(b1.cell (p:=⟨g,1,none⟩) (World.block_lt_of_cell? _ _ HH.out)).trans HH.out;have Y1:=zqh (Y.out.keep b1);have HS1:=zqh b1.size;clear o1 b1 g1 K0 X1 O0 B0 HS;rw [rounds_succ];(go_wp2_with (at_builtin; (refine wpList_fapp rfl _ _ rfl w.heap.size v1 (0 + l.length) ([] ++ l) rfl O1.out A' l'.length c' l' rfl Y1.out (by omega) HS1.out w B1.out (Nat.le_refl _) ?_; intro v2 w3 o2 b2 g2)));have O2:=zqh o2;have B2:=zqh b2;clear o2 b2 g2 K1 Y1 O1 B1 HS1;rw [rounds_succ];(go_wp2_with fail);go_ret;refine ⟨v2,rfl,?_,B2.out⟩;have:=O2.out;rw [Nat.zero_add,List.nil_append,← List.length_append] at this;exact this


theorem WkR.put2 {w w1 : World} {b : Nat} {S : RS} {e : Value} {r : RnK} (h : WkR w b S e r) {j K : VmK} {L : VmL} (bb : Below w.heap.size w w1) (hv : IsVm w1 j L) (hs : Sc j K) (hl : ∀ g,Free r.v g → g < w.heap.size → Free j g) :
    Wk (w1.setRow b (wkC { r with v:=j } e)) b { S with k:=K,L:=L } e:=by
  have hb:=h.box.keep bb;have hf : ∀ g,S.X g ∨ (b ≤ g + 2 ∧ g ≤ b) → Free j g:=fun g hg => hl g (h.fr g hg) (hg.elim (fun q => Nat.lt_trans (h.xb g q) h.box.lt) fun q => Nat.lt_of_le_of_lt q.2 h.box.lt)
  exact ⟨{ r with v:=j },wkrow hb _ _,isvm_apart hv (hf b (.inr ⟨Nat.le_add_right _ _,Nat.le_refl _⟩)) (ex_row _ _ _) (wk_nou8 hb h.ne),hs,hf,h.ip,h.wv,h.d,h.fu,h.ne,(h.gl.keep bb).ex h.b8 (ex_row _ _ _),h.b8,h.xb⟩
theorem WkR.putf {w w1 : World} {b : Nat} {S : RS} {e : Value} {r : RnK} (h : WkR w b S e r) {l : List Fm} {A : Option Addr} {n c : Nat} (bb : Below w.heap.size w w1) (hf : Fms w1 (.slice A n c) l) (hA : ∀ q,A = some q → w.heap.size ≤ q.block) :
    Wk (w1.setCell ⟨b,10,none⟩ (.slice A n c)) b { S with L:={ S.L with f:=l } } e:=by
  have hb:=h.box.keep bb;have g:=h.vm.keep bb;have hl : ∀ g,Free r.v g → g < w.heap.size → Free { r.v with fA:=A,fn:=n,fc:=c } g:=fun g f hg => ⟨f.p,f.d,f.r,.inr fun q hq e => by have:=hA q hq; omega,f.w,f.e,f.h⟩
  have hfr : ∀ g,S.X g ∨ (b ≤ g + 2 ∧ g ≤ b) → Free { r.v with fA:=A,fn:=n,fc:=c } g:=fun g hg => hl g (h.fr g hg) (hg.elim (fun q => Nat.lt_trans (h.xb g q) h.box.lt) fun q => Nat.lt_of_le_of_lt q.2 h.box.lt)
  exact ⟨{ r with v:={ r.v with fA:=A,fn:=n,fc:=c } },hb.set_f _ _ _,isvm_apart ⟨g.m,g.d,g.r,hf,g.dict,g.o,g.q,g.e,g.h⟩ (hfr b (.inr ⟨Nat.le_add_right _ _,Nat.le_refl _⟩)) (ex_cell _ _ _ _) (wk_nou8 hb h.ne),⟨h.sc.cm,h.sc.cd,h.sc.cr,h.sc.cw,h.sc.co,h.sc.here,h.sc.last,h.sc.qo,h.sc.free,h.sc.next,h.sc.arg,h.sc.self,h.sc.now⟩,hfr,h.ip,h.wv,h.d,h.fu,h.ne,(h.gl.keep bb).ex h.b8 (ex_cell _ _ _ _),h.b8,h.xb⟩
theorem fowns_slice {w : World} {B n : Nat} {v : Value} {l : List Fm} (h : FOwns w B v n l) : ∃ A c,v = .slice A l.length c ∧ Fms w (.slice A l.length c) l ∧ ∀ q,A = some q → B ≤ q.block:=by
  have hf:=h.fms;have ho:=fown_from h;obtain ⟨A,c,rfl,h1,h2,h3⟩:=hf;refine ⟨A,c,rfl,⟨A,c,rfl,h1,h2,h3⟩,fun q hq => ?_⟩;subst hq;exact ho q.block rfl
theorem frame_any (S : RS) (hf : S.L.f = []) (hd : S.L.d.length ≤ 60000) (hr : S.L.r.length ≤ 60000) : WGo0 112 S { S with L:={ S.L with f:=[⟨(S.L.d.length : Int),(S.L.r.length : Int),S.ip⟩] } } .nilIface:=by
  intro b w H;obtain ⟨r,h⟩:=H;have h0:=zqh h;have p8:=h.box.c8;have p9:=h.box.c9;have p10:=h.box.c10;have p23:=h.box.c23;have e8 : r.v.dn = S.L.d.length:=h.vm.d.1.symm;have e9 : r.v.rn = S.L.r.length:=h.vm.r.1.symm;have e10 : r.v.fn = 0:=by have:=h.vm.f.len; rw [hf] at this; exact this.symm
  rw [e8] at p8;rw [e9] at p9;rw [e10] at p10;rw [h.ip] at p23;have HL : Hid (b < w.heap.size):=h.box.lt;have HV : Hid (Fms w (.slice r.v.fA 0 r.v.fc) []):=by have:=h.vm.f; rw [hf,e10] at this; exact this
  clear h e8 e9 e10 hf;go_enter Tryz.func112,Tryz.ntmps112;go_upto_region 2 with fail
  obtain ⟨D,hD⟩ : ∃ D,S.L.d.length = D:=⟨_,rfl⟩;obtain ⟨R,hR⟩ : ∃ R,S.L.r.length = R:=⟨_,rfl⟩;rw [hD] at p8 hd ⊢;rw [hR] at p9 hr ⊢;have mk : Hid (∀ u,Below w.heap.size w u → u.cell? ⟨b,8,none⟩ = some (.slice r.v.dA D r.v.dc) ∧ u.cell? ⟨b,9,none⟩ = some (.slice r.v.rA R r.v.rc) ∧ u.cell? ⟨b,23,none⟩ = some (.int .i64 S.ip) ∧ Below w.heap.size w u):=fun u bu => ⟨(bu.cell (p:=⟨b,8,none⟩) HL.out).trans p8,(bu.cell (p:=⟨b,9,none⟩) HL.out).trans p9,(bu.cell (p:=⟨b,23,none⟩) HL.out).trans p23,bu⟩
  refine wp_region_held_drew (S:=fun u => u.cell? ⟨b,8,none⟩ = some (.slice r.v.dA D r.v.dc) ∧ u.cell? ⟨b,9,none⟩ = some (.slice r.v.rA R r.v.rc) ∧ u.cell? ⟨b,23,none⟩ = some (.int .i64 S.ip) ∧ Below w.heap.size w u) (by kernel_rfl) ?_ (fun hHeld => ?_)
  · exact ⟨p8,p9,p23,Below.refl _ _ |>.drew⟩
  clear p8 p9 p23;refine zqt (i:=0) (v:=?v0) ?y0 ?r0
  case y0 => (intro u hSw; (try dsimp only at hSw); obtain ⟨q8,q9,q23,_⟩:=hSw; go_simp; (try with_reducible rfl))
  (try simp only [zq,Act.put]);refine zqt (i:=1) (v:=?v1) ?y1 ?r1
  case y1 => (intro u hSw; (try dsimp only at hSw); obtain ⟨q8,q9,q23,_⟩:=hSw; go_simp; (try with_reducible rfl))
  (try simp only [zq,Act.put]);refine zqt (i:=2) (v:=?v2) ?y2 ?r2
  case y2 => (intro u hSw; (try dsimp only at hSw); obtain ⟨q8,q9,q23,_⟩:=hSw; go_simp; (try with_reducible rfl))
  (try simp only [zq,Act.put]);refine zqt (i:=3) (v:=?v3) ?y3 ?r3
  case y3 => (intro u hSw; (try dsimp only at hSw); obtain ⟨q8,q9,q23,_⟩:=hSw; go_simp; (try with_reducible rfl))
  (try simp only [zq,Act.put]);refine zqt (i:=4) (v:=?v4) ?y4 ?r4
  case y4 => (intro u hSw; (try dsimp only at hSw); obtain ⟨q8,q9,q23,_⟩:=hSw; go_simp; (try with_reducible rfl))
  (try simp only [zq,Act.put]);refine zqt (i:=5) (v:=?v5) ?y5 ?r5
  case y5 => (intro u hSw; (try dsimp only at hSw); obtain ⟨q8,q9,q23,_⟩:=hSw; go_simp; (try with_reducible rfl))
  (try simp only [zq,Act.put]);refine zqt (i:=6) (v:=?v6) ?y6 ?r6
  case y6 => (intro u hSw; (try dsimp only at hSw); obtain ⟨q8,q9,q23,_⟩:=hSw; go_simp; (try with_reducible rfl))
  (try simp only [zq,Act.put]);refine zqt (i:=7) (v:=?v7) ?y7 ?r7
  case y7 => (intro u hSw; (try dsimp only at hSw); obtain ⟨q8,q9,q23,_⟩:=hSw; go_simp; (try with_reducible rfl))
  (try simp only [zq,Act.put]);refine zqt (i:=8) (v:=?v8) ?y8 ?r8
  case y8 => (intro u hSw; (try dsimp only at hSw); obtain ⟨q8,q9,q23,_⟩:=hSw; go_simp; (try with_reducible rfl))
  (try simp only [zq,Act.put]);refine zqt (i:=9) (v:=?v9) ?y9 ?r9
  case y9 => (intro u hSw; (try dsimp only at hSw); obtain ⟨q8,q9,q23,_⟩:=hSw; go_simp; (try with_reducible rfl))
  (try simp only [zq,Act.put]);refine zqt (i:=10) (v:=?v10) ?y10 ?r10
  case y10 => (intro u hSw; (try dsimp only at hSw); obtain ⟨q8,q9,q23,_⟩:=hSw; go_simp; (try with_reducible rfl))
  (try simp only [zq,Act.put]);refine zqt (i:=11) (v:=?v11) ?y11 ?r11
  case y11 => (intro u hSw; (try dsimp only at hSw); obtain ⟨q8,q9,q23,_⟩:=hSw; go_simp; (try with_reducible rfl))
  (try simp only [zq,Act.put]);refine zqt (i:=12) (v:=?v12) ?y12 ?r12
  case y12 => (intro u hSw; (try dsimp only at hSw); obtain ⟨q8,q9,q23,_⟩:=hSw; go_simp; (try with_reducible rfl))
  (try simp only [zq,Act.put]);refine zqt (i:=13) (v:=?v13) ?y13 ?r13
  case y13 => (intro u hSw; (try dsimp only at hSw); obtain ⟨q8,q9,q23,_⟩:=hSw; go_simp; (try with_reducible rfl))
  (try simp only [zq,Act.put]);refine zqt (i:=14) (v:=?v14) ?y14 ?r14
  case y14 => (intro u hSw; (try dsimp only at hSw); obtain ⟨q8,q9,q23,_⟩:=hSw; go_simp; (try with_reducible rfl))
  (try simp only [zq,Act.put]);refine zqt (i:=15) (v:=?v15) ?y15 ?r15
  case y15 => (intro u hSw; (try dsimp only at hSw); obtain ⟨q8,q9,q23,_⟩:=hSw; go_simp; (try with_reducible rfl))
  (try simp only [zq,Act.put]);refine zqt (i:=16) (v:=?v16) ?y16 ?r16
  case y16 => (intro u hSw; (try dsimp only at hSw); obtain ⟨q8,q9,q23,_⟩:=hSw; go_simp; (try with_reducible rfl))
  (try simp only [zq,Act.put]);refine zqt (i:=17) (v:=?v17) ?y17 ?r17
  case y17 => (intro u hSw; (try dsimp only at hSw); obtain ⟨q8,q9,q23,_⟩:=hSw; go_simp; (try with_reducible rfl))
  (try simp only [zq,Act.put]);refine zqt (i:=18) (v:=?v18) ?y18 ?r18
  case y18 => (intro u hSw; (try dsimp only at hSw); obtain ⟨q8,q9,q23,_⟩:=hSw; go_simp; (try with_reducible rfl))
  (try simp only [zq,Act.put]);refine zqt (i:=19) (v:=?v19) ?y19 ?r19
  case y19 => (intro u hSw; (try dsimp only at hSw); obtain ⟨q8,q9,q23,_⟩:=hSw; go_simp; (try with_reducible rfl))
  (try simp only [zq,Act.put]);refine zqr 20 fun K hK => ?_
  go_simp;generalize hu : World.drew (World.alloc _ _) = u1;have bu : Below w.heap.size w u1:=by rw [← hu]; exact (al_one w _).drew
  have HZ : Hid (FBox u1 w.heap.size 0 0 0):=by show FBox _ _ _ _ _; rw [← hu]; exact fbox_new w 0 0 0
  clear hu hHeld;refine hK.out _ _ (mk.out _ bu) (fun _ => ?_);clear hK K;(try simp only [zq,Act.put]);refine zqr 21 fun K hK => ?_
  refine step_fst rfl _ _ rfl w.heap.size 0 0 0 (D : Int) (R : Int) S.ip rfl rfl HZ.out ?_;have bz:=below_setRow bu (Nat.le_refl _) (fr3 (D : Int) (R : Int) S.ip);refine hK.out _ _ (mk.out _ bz) (fun _ => ?_);clear hK K;(try simp only [zq,Act.put]);refine wpAnyH_done (by kernel_rfl) ?_ _;generalize hw2 : World.setRow _ _ _ = w2;have B2 : Hid (Below w.heap.size w w2):=by show Below _ _ _; rw [← hw2]; exact bz
  have T2 : Hid (FBox w2 w.heap.size (D : Int) (R : Int) S.ip):=by show FBox _ _ _ _ _; rw [← hw2]; exact fbox_row HZ.out _ _ _
  have P2:=zqh ((B2.out.cell (p:=⟨b,10,none⟩) HL.out).trans p10);clear hw2 bz HZ bu mk p10;go_upto_region 3 with fail
  refine wp_region_G 15 (fun u => u.cell? ⟨b,10,none⟩ = some (.slice r.v.fA 0 r.v.fc) ∧ FBox u w.heap.size (D : Int) (R : Int) S.ip) (by kernel_rfl) ?_;have mk : Hid (∀ u,Below w2.heap.size w2 u → u.cell? ⟨b,10,none⟩ = some (.slice r.v.fA 0 r.v.fc) ∧ FBox u w.heap.size (D : Int) (R : Int) S.ip):=fun u bu => ⟨(bu.cell (p:=⟨b,10,none⟩) (Nat.lt_of_lt_of_le HL.out B2.out.size)).trans P2.out,T2.out.keep bu⟩
  have b3:=drew_bel8 w2;refine wpAnyG_take (i:=0) (oi:=_) (v:=?v0g) rfl (by kernel_rfl) (by kernel_rfl) (by kernel_rfl) (by kernel_rfl) (fun _ _ _ h => h) (Or.inl ⟨by kernel_rfl,?y0g⟩) (mk.out _ b3) ?r0g
  case y0g => (intro u hSw; (try dsimp only at hSw); obtain ⟨q10,_⟩:=hSw; go_simp; (try with_reducible rfl))
  (try simp only [zq,Act.put]);refine wpAnyG_take (i:=1) (oi:=_) (v:=?v1g) rfl (by kernel_rfl) (by kernel_rfl) (by kernel_rfl) (by kernel_rfl) (fun _ _ _ h => h) (Or.inl ⟨by kernel_rfl,?y1g⟩) (mk.out _ b3) ?r1g
  case y1g => (intro u hSw; (try dsimp only at hSw); obtain ⟨q10,_⟩:=hSw; go_simp; (try with_reducible rfl))
  (try simp only [zq,Act.put]);refine wpAnyG_take (i:=2) (oi:=_) (v:=?v2g) rfl (by kernel_rfl) (by kernel_rfl) (by kernel_rfl) (by kernel_rfl) (fun _ _ _ h => h) (Or.inl ⟨by kernel_rfl,?y2g⟩) (mk.out _ b3) ?r2g
  case y2g => (intro u hSw; (try dsimp only at hSw); obtain ⟨q10,_⟩:=hSw; go_simp; (try with_reducible rfl))
  (try simp only [zq,Act.put]);refine wpAnyG_take (i:=3) (oi:=_) (v:=?v3g) rfl (by kernel_rfl) (by kernel_rfl) (by kernel_rfl) (by kernel_rfl) (fun _ _ _ h => h) (Or.inl ⟨by kernel_rfl,?y3g⟩) (mk.out _ b3) ?r3g
  case y3g => (intro u hSw; (try dsimp only at hSw); obtain ⟨q10,_⟩:=hSw; go_simp; (try with_reducible rfl))
  (try simp only [zq,Act.put]);refine wpAnyG_take (i:=4) (oi:=_) (v:=?v4g) rfl (by kernel_rfl) (by kernel_rfl) (by kernel_rfl) (by kernel_rfl) (fun _ _ _ h => h) (Or.inl ⟨by kernel_rfl,?y4g⟩) (mk.out _ b3) ?r4g
  case y4g => (intro u hSw; (try dsimp only at hSw); obtain ⟨q10,_⟩:=hSw; go_simp; (try with_reducible rfl))
  (try simp only [zq,Act.put]);refine wpAnyG_take (i:=5) (oi:=_) (v:=?v5g) rfl (by kernel_rfl) (by kernel_rfl) (by kernel_rfl) (by kernel_rfl) (fun _ _ _ h => h) (Or.inl ⟨by kernel_rfl,?y5g⟩) (mk.out _ b3) ?r5g
  case y5g => (intro u hSw; (try dsimp only at hSw); obtain ⟨q10,_⟩:=hSw; go_simp; (try with_reducible rfl))
  (try simp only [zq,Act.put]);refine wpAnyG_take (i:=6) (oi:=_) (v:=?v6g) rfl (by kernel_rfl) (by kernel_rfl) (by kernel_rfl) (by kernel_rfl) (fun _ _ _ h => h) (Or.inl ⟨by kernel_rfl,?y6g⟩) (mk.out _ b3) ?r6g
  case y6g => (intro u hSw; (try dsimp only at hSw); obtain ⟨q10,_⟩:=hSw; go_simp; (try with_reducible rfl))
  (try simp only [zq,Act.put]);refine wpAnyG_take (i:=7) (oi:=_) (v:=fr3V (D : Int) (R : Int) S.ip) rfl (by kernel_rfl) (by kernel_rfl) (by kernel_rfl) (by kernel_rfl) (fun _ _ _ h => h) (Or.inl ⟨by kernel_rfl,?y7g⟩) (mk.out _ b3) ?r7g
  case y7g => exact fun u hu => exec_fl _ rfl w.heap.size _ _ _ rfl hu.2
  (try simp only [zq,Act.put]);refine wpAnyG_ready (rs:=[8]) (by kernel_rfl) (by simp) ?_;refine AllReadyG.cons (o:=_) rfl (fun K hK => ?_) AllReadyG.nil;go_simp;generalize hu : World.drew (World.alloc _ _) = u3;have b4 : Below w2.heap.size w2 u3:=by rw [← hu]; exact (al_one w2 _).drew
  have Q3 : Hid (Fms u3 (.slice (some ⟨w2.heap.size,0,none⟩) 1 1) [⟨(D : Int),(R : Int),S.ip⟩]):=by show Fms _ _ _; rw [← hu]; exact fms_newone w2 ⟨(D : Int),(R : Int),S.ip⟩
  clear hu b3;refine hK.out _ _ (fun _ => mk.out _ b4) ?_;clear hK K;(try simp only [zq,Act.put]);refine wpAnyG_ready (rs:=[9]) (by kernel_rfl) (by simp) ?_;refine AllReadyG.cons (o:=_) rfl (fun K hK => ?_) AllReadyG.nil;go_simp;generalize hu : World.alloc _ _ = u4;have ba : Below u3.heap.size u3 u4:=by rw [← hu]; exact al_one u3 _
  have c0 : u4.cell? ⟨u3.heap.size,0,none⟩ = some (.slice r.v.fA 0 r.v.fc):=by rw [← hu]; exact (cell_of_row _ _ 0 _ _ _ (heap_alloc_new u3 _)).trans rfl
  have c1 : u4.cell? ⟨u3.heap.size,1,none⟩ = some (.slice (some ⟨w2.heap.size,0,none⟩) 1 1):=by rw [← hu]; exact (cell_of_row _ _ 1 _ _ _ (heap_alloc_new u3 _)).trans rfl
  have b5:=below_then b4 ba;have Q4:=zqh (Q3.out.keep ba);have V4:=zqh (HV.out.keep (below_then B2.out b5));have C4:=zqh (And.intro c0 c1);clear hu b4 ba Q3 c0 c1;refine hK.out _ _ (fun _ => mk.out _ b5) ?_;clear hK K;(try simp only [zq,Act.put]);refine wpAnyG_ready (rs:=[10]) (by kernel_rfl) (by simp) ?_;refine AllReadyG.cons (o:=_) rfl (fun K hK => ?_) AllReadyG.nil;go_simp;refine (fcat_any r.v.fA (some ⟨w2.heap.size,0,none⟩) 0 r.v.fc 1 1 [] [⟨(D : Int),(R : Int),S.ip⟩] u3.heap.size u4 C4.out.1 C4.out.2 V4.out Q4.out (by simp) (by simp)).mono ?_;rintro e u5 ⟨v5,rfl,ho,bb⟩;obtain ⟨A5,c5,rfl,hF,hA⟩:=fowns_slice ho;have b3:=below_then b5 bb;have F5:=zqh hF;have A6 : Hid (∀ q,A5 = some q → w.heap.size ≤ q.block):=fun q hq => Nat.le_trans (Nat.le_trans B2.out.size b5.size) (hA q hq)
  clear ho hF hA b5 bb Q4 V4 C4;(go_wp2_with fail);refine hK.out _ _ (fun _ => mk.out _ b3) ?_;clear hK K;(try simp only [zq,Act.put]);refine wpAnyG_ready (rs:=[11]) (by kernel_rfl) (by simp) ?_;refine AllReadyG.cons (o:=_) rfl (fun K hK => ?_) AllReadyG.nil;go_simp;refine hK.out _ _ (fun _ => mk.out _ b3) ?_;clear hK K;(try simp only [zq,Act.put]);refine wpAnyG_ready (rs:=[12]) (by kernel_rfl) (by simp) ?_;refine AllReadyG.cons (o:=_) rfl (fun K hK => ?_) AllReadyG.nil;go_simp;refine hK.out _ _ (fun _ => mk.out _ b3) ?_;clear hK K;(try simp only [zq,Act.put]);refine wpAnyG_ready (rs:=[13]) (by kernel_rfl) (by simp) ?_;refine AllReadyG.cons (o:=_) rfl (fun K hK => ?_) AllReadyG.nil;go_simp;refine hK.out _ _ (fun _ => mk.out _ b3) ?_;clear hK K;(try simp only [zq,Act.put]);refine wpAnyG_ready (rs:=[14]) (by kernel_rfl) (by simp) ?_;refine AllReadyG.cons (o:=_) rfl (fun K hK => ?_) AllReadyG.nil;go_simp;refine hK.out _ _ (fun _ => mk.out _ b3) ?_;clear hK K;(try simp only [zq,Act.put]);refine wpAnyG_ready (rs:=[15]) (by kernel_rfl) (by simp) ?_;refine AllReadyG.cons (o:=_) rfl (fun K hK => ?_) AllReadyG.nil;have q10:=(mk.out _ b3).1;have bw:=below_then B2.out b3;have f10 : World.frozen? _ ⟨b,10,none⟩ = false:=(h0.out.box.keep bw).fr 10;go_simp;refine hK.out _ _ (fun h => by cases h) ?_;clear hK K q10 f10;(try simp only [zq,Act.put])
  refine wpAnyG_done (by kernel_rfl) ?_ _;(go_wp2_with fail);subst hD;subst hR;refine bodyPost_end (results_none rfl _ _ _) rfl ⟨rfl,h0.out.putf bw F5.out A6.out,(bw.mono (Nat.le_of_lt HL.out)).setCell (p:=⟨b,10,none⟩) (Nat.le_refl _) _⟩
theorem unframe_any (S : RS) (d r i : Int) (hf : S.L.f = [⟨d,r,i⟩]) : WGo0 114 S { S with L:={ S.L with f:=[] },ip:=i } .nilIface:=by
  intro b w H;obtain ⟨k9,h⟩:=H;have h0:=zqh h;have X:=zqh h.box;have ef:=h.vm.f;rw [hf] at ef;have HF:=zqh ef;clear h ef hf;go_enter Tryz.func114,Tryz.ntmps114;(go_wp2_with (first | (refine wpList_wkvload (by rfl) _ rfl b k9 _ rfl X.out ?_)));refine (popf_one k9.v d r i w HF.out).mono ?_;rintro e w3 ⟨rfl,bb⟩;have X3:=zqh (X.out.keep bb);have B3:=zqh bb;clear X HF bb;obtain ⟨k1,k2,k3,k4⟩:=two_fw w3 d r i { k9.v with fn:=0,fc:=0 };have K1:=zqh k1;clear k1;go_upto_region 1 with (first | (refine wpList_fst (by rfl) _ _ rfl w3.heap.size 0 0 0 d r i rfl rfl ((fbox_new _ _ _ _).keep (al_one _ _)) ?_) | (refine wpList_vstore (by rfl) _ _ rfl (w3.heap.size + 1) vm0 { k9.v with fn:=0,fc:=0 } rfl rfl K1.out ?_))
  generalize hw4 : World.setRow (World.setRow _ _ _) _ _ = w4;have bb : Below w3.heap.size w3 w4:=by rw [← hw4]; exact k4
  have T4 : Hid (FBox w4 w3.heap.size d r i):=by show FBox _ _ _ _ _; rw [← hw4]; exact k2
  have V4 : Hid (VBox w4 (w3.heap.size + 1) { k9.v with fn:=0,fc:=0 }):=by show VBox _ _ _; rw [← hw4]; exact k3
  have X4:=zqh (X3.out.keep bb);have B4:=zqh (below_then B3.out bb);have HL : Hid (b < w3.heap.size):=X3.out.lt;clear hw4 k2 k3 k4 bb X3 B3 K1;go_upto_region 2 with (first | (refine wpList_vload (by rfl) _ rfl (w3.heap.size + 1) _ rfl V4.out ?_) | (refine wpList_wkvstore (by rfl) _ _ rfl b k9 _ { k9.v with fn:=0,fc:=0 } rfl rfl X4.out ?_))
  generalize hw5 : World.setRow _ _ _ = w5;have W5 : Hid (Wk w5 b { S with L:={ S.L with f:=[] } } .nilIface):=by
    show Wk _ _ _ _;rw [← hw5];exact h0.out.put2 (K:=S.k) B4.out (isvm_f8 (h0.out.vm.keep B4.out)) ⟨h0.out.sc.cm,h0.out.sc.cd,h0.out.sc.cr,h0.out.sc.cw,h0.out.sc.co,h0.out.sc.here,h0.out.sc.last,h0.out.sc.qo,h0.out.sc.free,h0.out.sc.next,h0.out.sc.arg,h0.out.sc.self,h0.out.sc.now⟩ fun g f _ => free_f8 f
  have T5 : Hid (FBox w5 w3.heap.size d r i):=by show FBox _ _ _ _ _; rw [← hw5]; exact fbox_far T4.out (by have:=HL.out; omega) _
  have B5 : Hid (Below b w w5):=by show Below _ _ _; rw [← hw5]; exact below_put h0.out.box.lt B4.out _
  clear hw5 V4 T4 X4 B4;(go_wp2_with fail);refine (fail_ok _ _).mono ?_;rintro e w6 ⟨rfl,rfl⟩;have t2:=T5.out.use.2.2;have p23:=W5.out.cip;have f23:=W5.out.fr 23;(go_wp2_with fail);refine bodyPost_end (results_none rfl _ _ _) rfl ⟨rfl,W5.out.set_ip _,B5.out.setCell (p:=⟨b,23,none⟩) (Nat.le_refl _) _⟩
theorem go_caught (S : RS) (d r i : Int) (hf : S.L.f = [⟨d,r,i⟩]) (hx : (S.L.d.length : Int) < S.k.cd) (hd : S.L.d.length ≤ 60000) : WGo1 85 (9) S ({ S with L:={ S.L with f:=[],d:=S.L.d ++ [0] },ip:=i }) .nilIface:=by
  intro b w H;have W0:=zqh H;have B0:=zqh (Below.refl b w);have P0:=H.cip;have F0:=H.fr 23;clear H;go_enter Tryz.func85,Tryz.ntmps85;(go_wp2_with fail);refine ((unframe_any S d r i hf) b _ W0.out).mono ?_;rintro e w1 ⟨rfl,hw,hb⟩;have W1:=zqh hw;have B1:=zqh (B0.out.trans hb);have P1:=hw.cip;have F1:=hw.fr 23;clear W0 B0 P0 F0 hw hb;(go_wp2_with fail);refine ((wpush_any { S with L:={ S.L with f:=[] },ip:=i } 0 hx hd) b _ W1.out).mono ?_;rintro e w2 ⟨rfl,hw,hb⟩;have W2:=zqh hw;have B2:=zqh (B1.out.trans hb);have P2:=hw.cip;have F2:=hw.fr 23;clear W1 B1 P1 F1 hw hb;(go_wp2_with fail);refine bodyPost_end (results_none rfl _ _ _) rfl ?_;exact ⟨rfl,W2.out,B2.out⟩
theorem hand_catch (S : RS) (l : List Int) (x : Int) (he : S.L.d = l ++ [x]) (hd : S.L.d.length ≤ 60000) (hf : S.L.f = []) (hr : S.L.r.length ≤ 60000) : WGo1 83 (13) S ({ S.dS l with L:={ (S.dS l).L with f:=[⟨(l.length : Int),(S.L.r.length : Int),S.ip⟩] },ip:=24,wv:=x,d:=true }) .nilIface:=by
  intro b w H;have W0:=zqh H;have B0:=zqh (Below.refl b w);have P0:=H.cip;have F0:=H.fr 23;have HX:=zqh (show l.length ≤ 60000 by rw [he,List.length_append] at hd; exact Nat.le_trans (Nat.le_add_right _ _) hd);clear H;go_enter Tryz.func83,Tryz.ntmps83;(go_wp2_with fail);refine ((wpop_any S l x he hd) b _ W0.out).mono ?_;rintro e w1 ⟨rfl,hw,hb⟩;have W1:=zqh hw;have B1:=zqh (B0.out.trans hb);have P1:=hw.cip;have F1:=hw.fr 23;clear W0 B0 P0 F0 hw hb;(go_wp2_with fail);refine ((frame_any (S.dS l) hf HX.out hr) b _ W1.out).mono ?_;rintro e w2 ⟨rfl,hw,hb⟩;have W2:=zqh hw;have B2:=zqh (B1.out.trans hb);have P2:=hw.cip;have F2:=hw.fr 23;clear W1 B1 P1 F1 hw hb;(go_wp2_with fail);generalize hu : World.setCell _ _ _ = w3;have hw : Wk w3 b ({ S.dS l with L:={ (S.dS l).L with f:=[⟨(l.length : Int),(S.L.r.length : Int),S.ip⟩] },ip:=24 }) .nilIface:=by rw [← hu]; exact W2.out.set_ip _
  have W3:=zqh hw;have B3 : Hid (Below b w w3):=by show Below _ _ _; rw [← hu]; exact B2.out.setCell (p:=⟨b,23,none⟩) (Nat.le_refl _) _
  have P3:=hw.cip;have F3:=hw.fr 23;clear W2 B2 P2 F2 hw hu;(go_wp2_with fail);refine ((wthen_any { S.dS l with L:={ (S.dS l).L with f:=[⟨(l.length : Int),(S.L.r.length : Int),S.ip⟩] },ip:=24 } x) b _ W3.out).mono ?_;rintro e w4 ⟨rfl,hw,hb⟩;have W4:=zqh hw;have B4:=zqh (B3.out.trans hb);have P4:=hw.cip;have F4:=hw.fr 23;clear W3 B3 P3 F3 hw hb;(go_wp2_with fail);refine bodyPost_end (results_none rfl _ _ _) rfl ?_;exact ⟨rfl,W4.out,B4.out⟩
theorem hand_throw (S : RS) (l : List Int) (x : Int) (he : S.L.d = l ++ [x]) (hd : S.L.d.length ≤ 60000) (hx : (x == 0) = false) : WGo1 83 (14) S (S.dS l) (thrV x):=by
  intro b w H;have W0:=zqh H;have B0:=zqh (Below.refl b w);have P0:=H.cip;have F0:=H.fr 23;have HX:=zqh hx;clear hx;clear H;go_enter Tryz.func83,Tryz.ntmps83;(go_wp2_with fail);refine ((wpop_any S l x he hd) b _ W0.out).mono ?_;rintro e w1 ⟨rfl,hw,hb⟩;have W1:=zqh hw;have B1:=zqh (B0.out.trans hb);have P1:=hw.cip;have F1:=hw.fr 23;clear W0 B0 P0 F0 hw hb;(go_wp2_with fail);refine ((wfail_code (S.dS l) x HX.out) b _ W1.out).mono ?_;rintro e w2 ⟨rfl,hw,hb⟩;have W2:=zqh hw;have B2:=zqh (B1.out.trans hb);have P2:=hw.cip;have F2:=hw.fr 23;clear W1 B1 P1 F1 hw hb;(go_wp2_with fail);refine bodyPost_end (results_none rfl _ _ _) rfl ?_;exact ⟨rfl,W2.out,B2.out⟩
theorem hand_none (S : RS) (l : List Int) (he : S.L.d = l ++ [0]) (hd : S.L.d.length ≤ 60000) : WGo1 83 (14) S (S.dS l) .nilIface:=by
  intro b w H;have W0:=zqh H;have B0:=zqh (Below.refl b w);have P0:=H.cip;have F0:=H.fr 23;clear H;go_enter Tryz.func83,Tryz.ntmps83;(go_wp2_with fail);refine ((wpop_any S l 0 he hd) b _ W0.out).mono ?_;rintro e w1 ⟨rfl,hw,hb⟩;have W1:=zqh hw;have B1:=zqh (B0.out.trans hb);have P1:=hw.cip;have F1:=hw.fr 23;clear W0 B0 P0 F0 hw hb;(go_wp2_with fail);refine (fail_ok _ _).mono ?_;rintro e w9 ⟨rfl,rfl⟩;(go_wp2_with fail);refine bodyPost_end (results_none rfl _ _ _) rfl ?_;exact ⟨rfl,W1.out,B1.out⟩
end Go.Proofs.YtcmldhjicjmmgaaGreatDoor
