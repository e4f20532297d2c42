/- Part 10. -/
import Derived.Test.YtcmldhjicjmmgaaGreatDoorXlAI
import Derived.Maps.Own
import Derived.Maps.Views
set_option linter.unusedVariables false
set_option linter.unusedSimpArgs false
set_option maxRecDepth 100000
set_option maxHeartbeats 4000000

namespace Go.Proofs.YtcmldhjicjmmgaaGreatDoor
open Go.RowKit


theorem rnew_no (m d r v o : Int) (w : World) (hfit : fitsB m d r v o = false) :
    Calls Tryz.prog 19 #[.agg #[.int .i64 m,.int .i64 d,.int .i64 r,.int .i64 v,.int .i64 o]] w fun e w' => e = .returned (.tuple #[vmV vm0,.int .i64 (-24)]) ∧ Below w.heap.size w w':=by
  have HF:=zqh (rfits_any m d r v o);rw [hfit] at HF;obtain ⟨k0,k1,k2⟩:=cv_new w m d r v o vm0 _ rfl;have B0:=zqh k0;have X0:=zqh k2;clear k0 k1 k2 hfit;go_enter Tryz.func19,Tryz.ntmps19;(go_wp2_with fail);refine (HF.out _).mono ?_;rintro e w1 ⟨rfl,bb⟩;have B1:=zqh (below_then B0.out bb);have X1:=zqh (X0.out.keep bb);clear bb B0 X0 HF;(go_wp2_with (refine wpList_store_row rfl 37 _ _ rfl (w.heap.size + 1) (vmC vm0) rfl rfl _ _ X1.out (by kernel_rfl) rfl (vm_one _) ?_));refine bodyPost_ret (res_ct rfl _ _ _ _ rfl (vrow X1.out vm0)) rfl ?_;exact ⟨rfl,below_setRow B1.out (by omega) _⟩
def NewOut (m d r v o : Int) (w : World) (e : Ending) (w' : World) : Prop :=
  (fitsB m d r v o = true → ∃ (L : Nat) (g : Nat) (A : Option Addr) (c : Nat),m = (L : Int) ∧ e = .returned (.tuple #[vmV (newK L d r v o g A c),.int .i64 0]) ∧ IsVm w' (newK L d r v o g A c) (newL L)) ∧
  (fitsB m d r v o = false → e = .returned (.tuple #[vmV vm0,.int .i64 (-24)])) ∧ Below w.heap.size w w'
theorem rnew_any (m d r v o : Int) (w : World) : Calls Tryz.prog 19 #[.agg #[.int .i64 m,.int .i64 d,.int .i64 r,.int .i64 v,.int .i64 o]] w (NewOut m d r v o w):=by
  cases h : fitsB m d r v o with
  | false =>
    refine (rnew_no m d r v o w h).mono ?_;rintro e w1 ⟨rfl,b⟩;exact ⟨fun e => absurd (h.symm.trans e) (by decide),fun _ => rfl,b⟩
  | true =>
    have hf:=(fits_iff m d r v o).1 h;obtain ⟨L,rfl⟩ : ∃ L : Nat,m = (L : Int):=⟨m.toNat,by omega⟩;refine (rnew_yes L d r v o w h (by omega) (by omega)).mono ?_;rintro e w1 ⟨g,A,c,rfl,hv,b⟩;exact ⟨fun _ => ⟨L,g,A,c,rfl,rfl,hv⟩,fun e => absurd (h.symm.trans e) (by decide),b⟩


theorem wpList_vload {ops : Array Oper} {rest : List Oper} {o : Oper} {a : Act} {Q : Exit → Act → World → Prop} {w : World} (hw : Region.wanted o (yielded ops a.tmps) = true) (x : Operand) (ho : o.op = .load 37 x)
    (b : Nat) (k : VmK) (hx : a.eval x = .pointer (some ⟨b,0,none⟩)) (hb : VBox w b k) (h : wpList Tryz.prog ops Q rest (a.put o.dst (vmV k)) w) : wpList Tryz.prog ops Q (o :: rest) a w :=
  wpList_step fun K hK => by
    rw [if_pos hw];exact wp_load_row 37 x ho b hx _ _ _ _ hb Tryz.underlying37 rfl vm_info (hK _ _ h)


def confSame (k j : VmK) : Bool:=decide (k.cm = j.cm ∧ k.cd = j.cd ∧ k.cr = j.cr ∧ k.cw = j.cw ∧ k.co = j.co)
def numsSame (k j : VmK) : Bool:=decide (k.here = j.here ∧ k.last = j.last ∧ k.free = j.free ∧ k.next = j.next ∧ k.arg = j.arg ∧ k.self = j.self ∧ k.now = j.now)
def vSame (k : VmK) (L : VmL) (j : VmK) (M : VmL) : Bool:=decide (L.m = M.m) && (sameB L.d M.d && (sameB L.r M.r && (fmSame L.f M.f && (dSame L.dict M.dict && (pSame k.qo L.q j.qo M.q && (rqSame L.e M.e && (hnSame L.h M.h && (confSame k j && (decide (L.o = M.o) && (numsSame k j))))))))))
def V2 (w : World) (b : Nat) (k j : VmK) : Prop:=VBox w b k ∧ VBox w (b + 1) j
theorem v2_new (w : World) (k j : VmK) : Below w.heap.size w ((w.alloc (.cells #[.int .i64 k.cm,.int .i64 k.cd,.int .i64 k.cr,.int .i64 k.cw,.int .i64 k.co,.slice k.mA k.mn k.mc,.slice k.pA k.pn k.pc,.int .i64 k.here,.slice k.dA k.dn k.dc,.slice k.rA k.rn k.rc,.slice k.fA k.fn k.fc,.slice k.wA k.wn k.wc,.int .i64 k.last,.slice k.oA k.on k.oc,.slice k.qA k.qn k.qc,.bool k.qo,.slice k.eA k.en k.ec,.int .i64 k.free,.int .i64 k.next,.int .i64 k.arg,.int .i64 k.self,.int .i64 k.now,.slice k.hA k.hn k.hc] 37)).alloc (.cells #[.int .i64 j.cm,.int .i64 j.cd,.int .i64 j.cr,.int .i64 j.cw,.int .i64 j.co,.slice j.mA j.mn j.mc,.slice j.pA j.pn j.pc,.int .i64 j.here,.slice j.dA j.dn j.dc,.slice j.rA j.rn j.rc,.slice j.fA j.fn j.fc,.slice j.wA j.wn j.wc,.int .i64 j.last,.slice j.oA j.on j.oc,.slice j.qA j.qn j.qc,.bool j.qo,.slice j.eA j.en j.ec,.int .i64 j.free,.int .i64 j.next,.int .i64 j.arg,.int .i64 j.self,.int .i64 j.now,.slice j.hA j.hn j.hc] 37)) ∧ VBox ((w.alloc (.cells #[.int .i64 k.cm,.int .i64 k.cd,.int .i64 k.cr,.int .i64 k.cw,.int .i64 k.co,.slice k.mA k.mn k.mc,.slice k.pA k.pn k.pc,.int .i64 k.here,.slice k.dA k.dn k.dc,.slice k.rA k.rn k.rc,.slice k.fA k.fn k.fc,.slice k.wA k.wn k.wc,.int .i64 k.last,.slice k.oA k.on k.oc,.slice k.qA k.qn k.qc,.bool k.qo,.slice k.eA k.en k.ec,.int .i64 k.free,.int .i64 k.next,.int .i64 k.arg,.int .i64 k.self,.int .i64 k.now,.slice k.hA k.hn k.hc] 37)).alloc (.cells #[.int .i64 j.cm,.int .i64 j.cd,.int .i64 j.cr,.int .i64 j.cw,.int .i64 j.co,.slice j.mA j.mn j.mc,.slice j.pA j.pn j.pc,.int .i64 j.here,.slice j.dA j.dn j.dc,.slice j.rA j.rn j.rc,.slice j.fA j.fn j.fc,.slice j.wA j.wn j.wc,.int .i64 j.last,.slice j.oA j.on j.oc,.slice j.qA j.qn j.qc,.bool j.qo,.slice j.eA j.en j.ec,.int .i64 j.free,.int .i64 j.next,.int .i64 j.arg,.int .i64 j.self,.int .i64 j.now,.slice j.hA j.hn j.hc] 37)) w.heap.size k ∧ VBox ((w.alloc (.cells #[.int .i64 k.cm,.int .i64 k.cd,.int .i64 k.cr,.int .i64 k.cw,.int .i64 k.co,.slice k.mA k.mn k.mc,.slice k.pA k.pn k.pc,.int .i64 k.here,.slice k.dA k.dn k.dc,.slice k.rA k.rn k.rc,.slice k.fA k.fn k.fc,.slice k.wA k.wn k.wc,.int .i64 k.last,.slice k.oA k.on k.oc,.slice k.qA k.qn k.qc,.bool k.qo,.slice k.eA k.en k.ec,.int .i64 k.free,.int .i64 k.next,.int .i64 k.arg,.int .i64 k.self,.int .i64 k.now,.slice k.hA k.hn k.hc] 37)).alloc (.cells #[.int .i64 j.cm,.int .i64 j.cd,.int .i64 j.cr,.int .i64 j.cw,.int .i64 j.co,.slice j.mA j.mn j.mc,.slice j.pA j.pn j.pc,.int .i64 j.here,.slice j.dA j.dn j.dc,.slice j.rA j.rn j.rc,.slice j.fA j.fn j.fc,.slice j.wA j.wn j.wc,.int .i64 j.last,.slice j.oA j.on j.oc,.slice j.qA j.qn j.qc,.bool j.qo,.slice j.eA j.en j.ec,.int .i64 j.free,.int .i64 j.next,.int .i64 j.arg,.int .i64 j.self,.int .i64 j.now,.slice j.hA j.hn j.hc] 37)) (w.heap.size + 1) j:=by
  refine ⟨((Below.refl _ _).alloc (Nat.le_refl _) _).alloc (by simp) _,?_,?_⟩
  · exact (vbox_new w k).keep ((Below.refl _ _).alloc (Nat.le_refl _) _)
  · have:=vbox_new (w.alloc (.cells #[.int .i64 k.cm,.int .i64 k.cd,.int .i64 k.cr,.int .i64 k.cw,.int .i64 k.co,.slice k.mA k.mn k.mc,.slice k.pA k.pn k.pc,.int .i64 k.here,.slice k.dA k.dn k.dc,.slice k.rA k.rn k.rc,.slice k.fA k.fn k.fc,.slice k.wA k.wn k.wc,.int .i64 k.last,.slice k.oA k.on k.oc,.slice k.qA k.qn k.qc,.bool k.qo,.slice k.eA k.en k.ec,.int .i64 k.free,.int .i64 k.next,.int .i64 k.arg,.int .i64 k.self,.int .i64 k.now,.slice k.hA k.hn k.hc] 37)) j
    rw [World.size_alloc] at this;exact this


def rpushC (l : List Int) (limit : Int) : Int:=if limit ≤ (l.length : Int) then -5 else 0
def rpopC (l : List Int) : Int:=if l.length = 0 then -6 else 0


def printC (l s : List UInt8) (co : Int) : Int:=if co - (l.length : Int) < (s.length : Int) then -260 else 0
def printL (l s : List UInt8) (co : Int) : List UInt8:=if co - (l.length : Int) < (s.length : Int) then l else l ++ s


def codeB (n : Int) : Bool:=decide ((0 ≤ n ∧ n < 130) ∨ (256 ≤ n ∧ n ≤ 260) ∨ (300 ≤ n ∧ n < 337))
def kindV (m : PM) (L : Nat) (p : Int) : Int:=if cellC L p = 0 ∧ codeB (fetchF m p) = true then fetchF m p else 0
def kindC (m : PM) (L : Nat) (p : Int) : Int:=if cellC L p = 0 then (if codeB (fetchF m p) = true then 0 else -9) else cellC L p


structure Sc (k j : VmK) : Prop where
  cm : k.cm = j.cm
  cd : k.cd = j.cd
  cr : k.cr = j.cr
  cw : k.cw = j.cw
  co : k.co = j.co
  here : k.here = j.here
  last : k.last = j.last
  qo : k.qo = j.qo
  free : k.free = j.free
  next : k.next = j.next
  arg : k.arg = j.arg
  self : k.self = j.self
  now : k.now = j.now
theorem Sc.refl (k : VmK) : Sc k k:=⟨rfl,rfl,rfl,rfl,rfl,rfl,rfl,rfl,rfl,rfl,rfl,rfl,rfl⟩
theorem Sc.symm {k j : VmK} (h : Sc k j) : Sc j k:=⟨h.cm.symm,h.cd.symm,h.cr.symm,h.cw.symm,h.co.symm,h.here.symm,h.last.symm,h.qo.symm,h.free.symm,h.next.symm,h.arg.symm,h.self.symm,h.now.symm⟩
theorem Sc.trans {k j i : VmK} (h : Sc k j) (g : Sc j i) : Sc k i:=⟨h.cm.trans g.cm,h.cd.trans g.cd,h.cr.trans g.cr,h.cw.trans g.cw,h.co.trans g.co,h.here.trans g.here,h.last.trans g.last,h.qo.trans g.qo,h.free.trans g.free,h.next.trans g.next,h.arg.trans g.arg,h.self.trans g.self,h.now.trans g.now⟩
theorem same_self {k j : VmK} (h : Sc k j) (L : VmL) : vSame k L j L = true:=by
  have h1 : confSame k j = true:=by unfold confSame; rw [decide_eq_true_eq]; exact ⟨h.cm,h.cd,h.cr,h.cw,h.co⟩
  have h2 : numsSame k j = true:=by unfold numsSame; rw [decide_eq_true_eq]; exact ⟨h.here,h.last,h.free,h.next,h.arg,h.self,h.now⟩
  unfold vSame;rw [h1,h2,fm_self,rq_self,hn_self,h.qo];simp [sameB,dSame,pSame]
def pushV (k : VmK) (L : VmL) (x : Int) : VmL:={ L with d:=pushL L.d x k.cd }
def popV (L : VmL) : VmL:={ L with d:=popL L.d }
def rpushV (k : VmK) (L : VmL) (x : Int) : VmL:={ L with r:=pushL L.r x k.cr }
def rpopV (L : VmL) : VmL:={ L with r:=popL L.r }
def printV (k : VmK) (L : VmL) (s : List UInt8) : VmL:={ L with o:=printL L.o s k.co }


theorem info_req : (Tryz.prog.info? 119).map (fun i => (i.zero,i.size,i.bytes)) = some (some (.agg #[.int .i64 0,.int .i64 0,.int .i64 0,.int .i64 0,.int .i64 0,.int .i64 0]),6,48):=by kernel_rfl
def rqs (l : List Rq) : List Value:=l.flatMap rqE
theorem rqs_cons (q : Rq) (l : List Rq) : rqs (q :: l) = .int .i64 q.kind :: .int .i64 q.arg :: .int .i64 q.hand :: .int .i64 q.rank :: .int .i64 q.delay :: .int .i64 q.id :: rqs l:=rfl
theorem rqs_len (l : List Rq) : (rqs l).length = l.length * 6:=by
  induction l with
  | nil => rfl
  | cons q l ih => rw [rqs_cons]; simp [ih]; omega
theorem rqs_one (l : List Rq) : ∀ v ∈ rqs l,v.oneCell' = true:=by
  intro v hv;unfold rqs at hv;rw [List.mem_flatMap] at hv;obtain ⟨q,_,hv⟩:=hv;unfold rqE at hv;simp at hv
  rcases hv with rfl | rfl | rfl | rfl | rfl | rfl <;> rfl
theorem rqs_app (a b : List Rq) : rqs (a ++ b) = rqs a ++ rqs b:=by simp [rqs]
abbrev QOwns (w : World) (base : Nat) (v : Value) (n : Nat) (l : List Rq) : Prop:=w.ownsRow base 119 6 v n (rqs l)
theorem QOwns.rqs {w : World} {base n : Nat} {v : Value} {l : List Rq} (h : QOwns w base v n l) : Rqs w v l:=by
  have hl:=h.1;rw [rqs_len] at hl;have hl : l.length = n:=by omega
  subst hl
  rcases h.2 with ⟨rfl,h0⟩ | ⟨g,cap,cur,rfl,_,hg,hnc,hcm,_,ht⟩
  · have : l = []:=List.eq_nil_of_length_eq_zero h0
    subst this;exact rws_nil _ w
  · refine ⟨some ⟨g,0,none⟩,cap,rfl,hnc,hcm,.inr ⟨g,0,rfl,(Array.getElem?_eq_some_iff.1 hg).1,fun j x hx => ?_⟩⟩
    have hx : (Go.Proofs.YtcmldhjicjmmgaaGreatDoor.rqs l)[j]? = some x:=hx;rw [← ht,List.getElem?_take] at hx
    split at hx
    · rw [Nat.zero_add]
      simp [World.cell?,hg];simpa using hx
    · cases hx
theorem qown_from {w : World} {base e size n : Nat} {v : Value} {xs : List Value} (h : w.ownsRow base e size v n xs) : ∀ k,v.ownBlock = some k → base ≤ k:=fun k hk => (h.lt k hk).1
theorem rqs_newone (w : World) (q : Rq) : Rqs (w.alloc (.cells #[.int .i64 q.kind,.int .i64 q.arg,.int .i64 q.hand,.int .i64 q.rank,.int .i64 q.delay,.int .i64 q.id] 119)) (.slice (some ⟨w.heap.size,0,none⟩) 1 1) [q] :=
  ⟨_,_,rfl,Nat.le_refl _,by unfold maxLen; simp,lies_block (one_newN w _ _)⟩
theorem run_qapp {w : World} (ty : TypeId) {base n : Nat} {v : Value} {xs : List Rq} (hown : QOwns w base v n xs) {A : Option Addr} {m c : Nat} {ys : List Rq} (hr : Rqs w (.slice A m c) ys) (h63 : n + m ≤ 1000000) (hbase : base ≤ w.heap.size) :
    ∃ v' w',(Builtin.append_ #[34,34] ty #[v,.slice A m c]).run Tryz.prog w = .ok v' w' ∧ QOwns w' base v' (n + m) (xs ++ ys) ∧ w.grownBy w' v.ownBlock:=by
  obtain ⟨i0,hi,hz0,hz1,hz2⟩:=info_parts info_req;have h1:=hr.len;have h4 : Lies w A (Go.Proofs.YtcmldhjicjmmgaaGreatDoor.rqs ys):=hr.lies;cases A with
  | some ad =>
    have hsrc : ∀ j u,(rqs ys)[j]? = some u → w.cell? (ad.add j) = some u:=by
      intro j u hu
      rcases h4 with h4 | ⟨g,o,e,_,hc⟩
      · rw [h4] at hu; simp at hu
      · injection e with e
        rw [e,add_at];exact hc j u hu
    obtain ⟨v',w',ha,hb,hc,_⟩:=run_append_own (P:=Tryz.prog) w base 34 ty 119 i0 (.agg #[.int .i64 0,.int .i64 0,.int .i64 0,.int .i64 0,.int .i64 0,.int .i64 0]) 6 48 Tryz.underlying34 hi hz0 hz1 hz2 rfl (by decide) v n (rqs xs) hown ad m c (rqs ys) (by rw [rqs_len,h1]) hsrc (rqs_one ys) (by unfold maxLen; omega) (by omega) hbase;exact ⟨v',w',ha,by have e:=rqs_app xs ys; unfold QOwns; rw [e]; exact hb,hc⟩
  | none =>
    have hnil : ys = []:=by
      rcases h4 with h | ⟨_,_,h,_⟩
      · have:=congrArg List.length h
        rw [rqs_len] at this;have h0 : ys.length * 6 = 0:=this;exact List.eq_nil_of_length_eq_zero (by omega)
      · cases h
    subst hnil;have hm : m = 0:=by rw [← h1]; rfl
    subst hm;refine ⟨v,w,?_,by simpa using hown,World.grownBy.refl w _⟩
    rcases hown.2 with ⟨rfl,rfl⟩ | ⟨g,cap,cur,rfl,_,_,hnc,_⟩
    · simp [Builtin.append_,run_underlying Tryz.underlying34,sizeOf,typeInfo,hi,Builtin.lenOf,Builtin.firstCells]
    · simp [Builtin.append_,run_underlying Tryz.underlying34,sizeOf,typeInfo,hi,Builtin.lenOf,Builtin.firstCells,hnc,storeCells]
theorem qapp_below {w0 w w' : World} {base n : Nat} {v : Value} {xs : List Rq} (hown : QOwns w base v n xs) (hb : Below w0.heap.size w0 w) (hg : w.grownBy w' v.ownBlock) (hB : w0.heap.size ≤ base) : Below w0.heap.size w0 w' :=
  hb.grown hg hb.size (fun k hk => Nat.le_trans hB (qown_from hown k hk))
theorem wp_qapp {o : Oper} {a : Act} {K : Act → World → Prop} {Q : Exit → Act → World → Prop} {w : World} (s x : Operand)
    (ho : o.op = .call { callee:=.builtin .append,args:=#[s,x],argTypes:=#[34,34] })
    (base : Nat) (v : Value) (n : Nat) (xs : List Rq) (hs : a.eval s = v) (hown : QOwns w base v n xs)
    (A : Option Addr) (m c : Nat) (ys : List Rq) (hx : a.eval x = .slice A m c) (hr : Rqs w (.slice A m c) ys) (h63 : n + m ≤ 1000000) (hbase : base ≤ w.heap.size)
    (w0 : World) (hb : Below w0.heap.size w0 w) (hB : w0.heap.size ≤ base)
    (h : ∀ v' w',QOwns w' base v' (n + m) (xs ++ ys) → Below w0.heap.size w0 w' → w.grownBy w' v.ownBlock → K (a.put o.dst v') w') : o.wp Tryz.prog a w K Q:=by
  obtain ⟨v',w',hr,h2,h3⟩:=run_qapp o.type hown hr h63 hbase;unfold Oper.wp execOp;simp only [ho,resolve,invoke,builtin,Sem.run_bind,Sem.run_pure,Result.andThen_ok,List.map_toArray,List.map_cons,List.map_nil,hs,hx,hr];exact h v' w' h2 (qapp_below hown hb h3 hB) h3
theorem wpList_qapp {ops : Array Oper} {rest : List Oper} {o : Oper} {a : Act} {Q : Exit → Act → World → Prop} {w : World} (hgd : o.guard = none) (s x : Operand)
    (ho : o.op = .call { callee:=.builtin .append,args:=#[s,x],argTypes:=#[34,34] })
    (base : Nat) (v : Value) (n : Nat) (xs : List Rq) (hs : a.eval s = v) (hown : QOwns w base v n xs)
    (A : Option Addr) (m c : Nat) (ys : List Rq) (hx : a.eval x = .slice A m c) (hr : Rqs w (.slice A m c) ys) (h63 : n + m ≤ 1000000) (hbase : base ≤ w.heap.size)
    (w0 : World) (hb : Below w0.heap.size w0 w) (hB : w0.heap.size ≤ base)
    (h : ∀ v' w',QOwns w' base v' (n + m) (xs ++ ys) → Below w0.heap.size w0 w' → w.grownBy w' v.ownBlock → wpList Tryz.prog ops Q rest (a.put o.dst v') w') : wpList Tryz.prog ops Q (o :: rest) a w :=
  wpList_plain hgd fun _ hK => wp_qapp s x ho base v n xs hs hown A m c ys hx hr h63 hbase w0 hb hB fun v' w' h2 h3 h4 => hK _ _ (h v' w' h2 h3 h4)
end Go.Proofs.YtcmldhjicjmmgaaGreatDoor

namespace Go.Proofs
open Go.Shelf
def Tryz.growi_ren : Go.Shelf.Ren:=⟨fun | 4 => 283 | n => n,fun | 0 => 0 | 3 => 3 | 4 => 4 | 9 => 9 | 20 => 20 | 22 => 22 | 25 => 3 | n => n,fun | n => n⟩
theorem Tryz.growi_lays : Go.Proofs.Lays8.n4 Tryz.prog Tryz.growi_ren:={
  mixed:=by kernel_rfl
  f4 := ⟨"slices.Grow[[]int,int]", by decide, Tryz.func283.trans (congrArg some (by kernel_rfl))⟩
  t0:=Tryz.underlying0
  a0:=Tryz.isAgg0
  z0:=Tryz.sizeOf0
  v0:=Tryz.zeroValue0
  t3:=Tryz.underlying3
  a3:=Tryz.isAgg3
  z3:=Tryz.sizeOf3
  v3:=Tryz.zeroValue3
  t4:=Tryz.underlying4
  a4:=Tryz.isAgg4
  z4:=Tryz.sizeOf4
  v4:=Tryz.zeroValue4
  t9:=Tryz.underlying9
  a9:=Tryz.isAgg9
  z9:=Tryz.sizeOf9
  v9:=Tryz.zeroValue9
  t20:=Tryz.underlying20
  a20:=Tryz.isAgg20
  z20:=Tryz.sizeOf20
  v20:=Tryz.zeroValue20
  t22:=Tryz.underlying22
  a22:=Tryz.isAgg22
  z22:=Tryz.sizeOf22
  v22:=Tryz.zeroValue22 }
def Tryz.growq_ren : Go.Shelf.Ren:=⟨fun | 4 => 299 | n => n,fun | 0 => 0 | 3 => 3 | 4 => 4 | 9 => 9 | 20 => 20 | 22 => 34 | 25 => 119 | n => n,fun | n => n⟩
theorem Tryz.growq_lays : Go.Proofs.Lays8.n4 Tryz.prog Tryz.growq_ren:={
  mixed:=by kernel_rfl
  f4 := ⟨"slices.Grow[[]detent/api.Req,detent/api.Req]", by decide, Tryz.func299.trans (congrArg some (by kernel_rfl))⟩
  t0:=Tryz.underlying0
  a0:=Tryz.isAgg0
  z0:=Tryz.sizeOf0
  v0:=Tryz.zeroValue0
  t3:=Tryz.underlying3
  a3:=Tryz.isAgg3
  z3:=Tryz.sizeOf3
  v3:=Tryz.zeroValue3
  t4:=Tryz.underlying4
  a4:=Tryz.isAgg4
  z4:=Tryz.sizeOf4
  v4:=Tryz.zeroValue4
  t9:=Tryz.underlying9
  a9:=Tryz.isAgg9
  z9:=Tryz.sizeOf9
  v9:=Tryz.zeroValue9
  t20:=Tryz.underlying20
  a20:=Tryz.isAgg20
  z20:=Tryz.sizeOf20
  v20:=Tryz.zeroValue20
  t22:=Tryz.underlying34
  a22:=Tryz.isAgg34
  z22:=Tryz.sizeOf34
  v22:=Tryz.zeroValue34 }
end Go.Proofs
namespace Go.Proofs.YtcmldhjicjmmgaaGreatDoor
open Go.RowKit Go.Lib Go.Shelf


theorem igrow_any (n : Nat) (w : World) (hn : n ≤ 200000) : Calls Tryz.prog 283 #[.slice none 0 0,.int .i64 (n : Int)] w fun e w' => ∃ v,e = .returned v ∧ Owns w' w.heap.size v 0 [] ∧ Below w.heap.size w w':=by
  by_cases h0 : n = 0
  · subst h0
    refine (Any8.slices_Grow_room Tryz.growi_lays none 0 0 0 w (Nat.le_refl _) (by decide) (by decide) (by decide)).mono ?_;rintro e w1 ⟨rfl,rfl⟩;exact ⟨_,rfl,⟨rfl,.inl ⟨rfl,rfl⟩⟩,Below.refl _ _⟩
  · obtain ⟨i0,hi,hz0,hz1,hz2⟩:=info_parts info_int
    have h:=Any8.slices_Grow_grow Tryz.growi_lays i0 _ hi hz0 (by rw [hz1]; decide) none 0 0 n [] w (Nat.le_refl _) (by omega) (by rw [hz2]; omega) (by omega) (by simp) (fun _ => rfl) (fun a e => by cases e);refine h.mono ?_;rintro e w1 ⟨rfl,rfl⟩;refine ⟨_,rfl,⟨rfl,.inr ⟨w.heap.size,_,_,rfl,Nat.le_refl _,one_newN w.drew _ _,Nat.zero_le _,grownCap_le_maxLen _ _ _ _ (by unfold maxLen; omega),?_,by simp [ints]⟩⟩,?_⟩
    · have hge:=grownCap_ge w (0 + n) 0 (Tryz.growi_ren.t 25)
      obtain ⟨G,hG⟩ : ∃ G,grownCap w (0 + n) 0 (Tryz.growi_ren.t 25) = G:=⟨_,rfl⟩;rw [hG] at hge ⊢;simp [Builtin.zeroCells,Value.cells];omega
    · exact (⟨rfl,rfl,rfl,Nat.le_refl _,fun _ _ => rfl⟩ : Below w.heap.size w w.drew).alloc (Nat.le_refl _) _
theorem icat_any (A A' : Option Addr) (n c n' c' : Nat) (l l' : List Int) (g : Nat) (w : World) (H0 : w.cell? ⟨g,0,none⟩ = some (.slice A n c)) (H1 : w.cell? ⟨g,1,none⟩ = some (.slice A' n' c'))
    (h : Row w A n c l) (h' : Row w A' n' c' l') (hl : l.length ≤ 100000) (hl' : l'.length ≤ 100000) :
    Calls Tryz.prog 251 #[.slice (some ⟨g,0,none⟩) 2 2] w fun e w' => ∃ v,e = .returned v ∧ Owns w' w.heap.size v (l ++ l').length (l ++ l') ∧ Below w.heap.size w w':=by
  have e1:=h.1;have e2:=h'.1;subst e1 e2;have X:=zqh h;have Y:=zqh h';have hs : IntKind.i64.wrap ((l.length : Int) + (l'.length : Int)) = ((l.length + l'.length : Nat) : Int):=by
    rw [IntWalk.i64_in _ ⟨by omega,by omega⟩];simp
  have hp : decide (((l.length + l'.length : Nat) : Int) < 0) = false:=by simp; omega
  have hp0 : decide ((l.length : Int) < 0) = false:=by simp
  have HG:=zqh (igrow_any (l.length + l'.length) w (by omega));clear h h';go_enter Tryz.func251,Tryz.ntmps251;(go_wp2_with fail);refine wp_loop_rounds 3 ?_
  iterate 3 (rw [rounds_succ]; go_wp2_with fail)
  refine HG.out.mono ?_;rintro e w1 ⟨v0,rfl,o0,b0⟩;have O0:=zqh o0;have B0:=zqh b0;have K0 : w1.cell? ⟨g,0,none⟩ = some (.slice A l.length c):=(b0.cell (p:=⟨g,0,none⟩) (World.block_lt_of_cell? _ _ H0)).trans H0;have X1:=zqh (X.out.keep b0);have HS:=zqh b0.size;have HH:=zqh H1;clear o0 b0 H0 H1 X HG;(go_wp2_with fail);refine wp_loop_rounds 3 ?_;rw [rounds_succ];(go_wp2_with (at_builtin; (refine wpList_app rfl _ _ rfl w.heap.size v0 0 [] rfl O0.out A l.length c l rfl X1.out (by omega) HS.out w B0.out (Nat.le_refl _) ?_; intro v1 w2 o1 b1)));have O1:=zqh o1;have B1:=zqh b1;have K1 : w2.cell? ⟨g,1,none⟩ = some (.slice A' l'.length c'):=(b1.cell (p:=⟨g,1,none⟩) (World.block_lt_of_cell? _ _ HH.out)).trans HH.out;have Y1:=zqh (Y.out.keep b1);have HS1:=zqh b1.size;clear o1 b1 K0 X1 O0 B0 HS;rw [rounds_succ];(go_wp2_with (at_builtin; (refine wpList_app rfl _ _ rfl w.heap.size v1 (0 + l.length) ([] ++ l) rfl O1.out A' l'.length c' l' rfl Y1.out (by omega) HS1.out w B1.out (Nat.le_refl _) ?_; intro v2 w3 o2 b2)));have O2:=zqh o2;have B2:=zqh b2;clear o2 b2 K1 Y1 O1 B1 HS1;rw [rounds_succ];(go_wp2_with fail);go_ret;refine ⟨v2,rfl,?_,B2.out⟩;have:=O2.out;rw [Nat.zero_add,List.nil_append,← List.length_append] at this;exact this
theorem qgrow_any (n : Nat) (w : World) (hn : n ≤ 200000) : Calls Tryz.prog 299 #[.slice none 0 0,.int .i64 (n : Int)] w fun e w' => ∃ v,e = .returned v ∧ QOwns w' w.heap.size v 0 [] ∧ Below w.heap.size w w':=by
  by_cases h0 : n = 0
  · subst h0
    refine (Any8.slices_Grow_room Tryz.growq_lays none 0 0 0 w (Nat.le_refl _) (by decide) (by decide) (by decide)).mono ?_;rintro e w1 ⟨rfl,rfl⟩;exact ⟨_,rfl,⟨rfl,.inl ⟨rfl,rfl⟩⟩,Below.refl _ _⟩
  · obtain ⟨i0,hi,hz0,hz1,hz2⟩:=info_parts info_req
    have h:=Any8.slices_Grow_grow Tryz.growq_lays i0 _ hi hz0 (by rw [hz1]; decide) none 0 0 n [] w (Nat.le_refl _) (by omega) (by rw [hz2]; omega) (by omega) (by simp) (fun _ => rfl) (fun a e => by cases e);refine h.mono ?_;rintro e w1 ⟨rfl,rfl⟩;refine ⟨_,rfl,⟨rfl,.inr ⟨w.heap.size,_,_,rfl,Nat.le_refl _,one_newN w.drew _ _,Nat.zero_le _,grownCap_le_maxLen _ _ _ _ (by unfold maxLen; omega),?_,by simp [rqs]⟩⟩,?_⟩
    · have hge:=grownCap_ge w (0 + n) 0 (Tryz.growq_ren.t 25)
      obtain ⟨G,hG⟩ : ∃ G,grownCap w (0 + n) 0 (Tryz.growq_ren.t 25) = G:=⟨_,rfl⟩;rw [hG] at hge ⊢;simp [Builtin.zeroCells,Value.cells];omega
    · exact (⟨rfl,rfl,rfl,Nat.le_refl _,fun _ _ => rfl⟩ : Below w.heap.size w w.drew).alloc (Nat.le_refl _) _
theorem qcat_any (A A' : Option Addr) (n c n' c' : Nat) (l l' : List Rq) (g : Nat) (w : World) (H0 : w.cell? ⟨g,0,none⟩ = some (.slice A n c)) (H1 : w.cell? ⟨g,1,none⟩ = some (.slice A' n' c'))
    (h : Rqs w (.slice A n c) l) (h' : Rqs w (.slice A' n' c') l') (hl : l.length ≤ 100000) (hl' : l'.length ≤ 100000) :
    Calls Tryz.prog 287 #[.slice (some ⟨g,0,none⟩) 2 2] w fun e w' => ∃ v,e = .returned v ∧ QOwns w' w.heap.size v (l ++ l').length (l ++ l') ∧ Below w.heap.size w w':=by
  have e1:=h.len;have e2:=h'.len;subst e1 e2;have X:=zqh h;have Y:=zqh h';have hs : IntKind.i64.wrap ((l.length : Int) + (l'.length : Int)) = ((l.length + l'.length : Nat) : Int):=by
    rw [IntWalk.i64_in _ ⟨by omega,by omega⟩];simp
  have hp : decide (((l.length + l'.length : Nat) : Int) < 0) = false:=by simp; omega
  have hp0 : decide ((l.length : Int) < 0) = false:=by simp
  have HG:=zqh (qgrow_any (l.length + l'.length) w (by omega));clear h h';go_enter Tryz.func287,Tryz.ntmps287;(go_wp2_with fail);refine wp_loop_rounds 3 ?_
  iterate 3 (rw [rounds_succ]; go_wp2_with fail)
  refine HG.out.mono ?_;rintro e w1 ⟨v0,rfl,o0,b0⟩;have O0:=zqh o0;have B0:=zqh b0;have K0 : w1.cell? ⟨g,0,none⟩ = some (.slice A l.length c):=(b0.cell (p:=⟨g,0,none⟩) (World.block_lt_of_cell? _ _ H0)).trans H0;have X1:=zqh (X.out.keep b0);have HS:=zqh b0.size;have HH:=zqh H1;clear o0 b0 H0 H1 X HG;(go_wp2_with fail);refine wp_loop_rounds 3 ?_;rw [rounds_succ];(go_wp2_with (at_builtin; (refine wpList_qapp rfl _ _ rfl w.heap.size v0 0 [] rfl O0.out A l.length c l rfl X1.out (by omega) HS.out w B0.out (Nat.le_refl _) ?_; intro v1 w2 o1 b1 g1)));have O1:=zqh o1;have B1:=zqh b1;have K1 : w2.cell? ⟨g,1,none⟩ = some (.slice A' l'.length c'):=(b1.cell (p:=⟨g,1,none⟩) (World.block_lt_of_cell? _ _ HH.out)).trans HH.out;have Y1:=zqh (Y.out.keep b1);have HS1:=zqh b1.size;clear o1 b1 g1 K0 X1 O0 B0 HS;rw [rounds_succ];(go_wp2_with (at_builtin; (refine wpList_qapp rfl _ _ rfl w.heap.size v1 (0 + l.length) ([] ++ l) rfl O1.out A' l'.length c' l' rfl Y1.out (by omega) HS1.out w B1.out (Nat.le_refl _) ?_; intro v2 w3 o2 b2 g2)));have O2:=zqh o2;have B2:=zqh b2;clear o2 b2 g2 K1 Y1 O1 B1 HS1;rw [rounds_succ];(go_wp2_with fail);go_ret;refine ⟨v2,rfl,?_,B2.out⟩;have:=O2.out;rw [Nat.zero_add,List.nil_append,← List.length_append] at this;exact this
open Go.RowKit


theorem isfrom_any (n a b : Int) (w : World) : Calls Tryz.prog 90 #[.int .i64 n,.int .i64 a,.int .i64 b] w fun e w' => e = .returned (.bool (decide (a ≤ n ∧ n ≤ b))) ∧ w = w':=by
  go_enter Tryz.func90,Tryz.ntmps90;go_wp2
  all_goals go_ret
  all_goals refine ⟨ret_bool ?_,rfl⟩
  all_goals (rw [Bool.eq_iff_iff]; simp only [decide_eq_true_eq,Bool.and_eq_true,Bool.or_eq_true,Bool.false_eq_true,true_iff,false_iff,iff_true,iff_false]; omega)
theorem iskind_any (n : Int) (w : World) : Calls Tryz.prog 74 #[.int .i64 n] w fun e w' => e = .returned (.bool (codeB n)) ∧ w = w':=by
  obtain ⟨F,hF⟩ : ∃ F,codeB n = F:=⟨_,rfl⟩;have HF:=zqh hF;rw [hF];clear hF;go_enter Tryz.func74,Tryz.ntmps74;(go_wp2_with (go_at_call 90; refine (isfrom_any _ _ _ _).mono ?_; rintro e w' ⟨rfl,rfl⟩))
  all_goals go_ret
  all_goals refine ⟨ret_bool ?_,rfl⟩
  all_goals rw [← HF.out]
  all_goals unfold codeB
  all_goals (rw [Bool.eq_iff_iff]; simp only [decide_eq_true_eq,Bool.and_eq_true,Bool.or_eq_true,Bool.false_eq_true,true_iff,false_iff,iff_true,iff_false]; omega)
theorem vkind_any (k : VmK) (m : PM) (p : Int) (w : World) (HM : Hid (IsMem w (.agg #[.slice k.mA k.mn k.mc,.slice k.pA k.pn k.pc]) m)) (hL : k.mn ≤ 65536) :
    Calls Tryz.prog 58 #[vmV k,.int .i64 p] w fun e w' => e = .returned (.tuple #[.int .i64 (kindV m k.mn p),.int .i64 (kindC m k.mn p)]) ∧ Below w.heap.size w w':=by
  have kk:=al_one w (.cells #[.int .i64 k.cm,.int .i64 k.cd,.int .i64 k.cr,.int .i64 k.cw,.int .i64 k.co,.slice k.mA k.mn k.mc,.slice k.pA k.pn k.pc,.int .i64 k.here,.slice k.dA k.dn k.dc,.slice k.rA k.rn k.rc,.slice k.fA k.fn k.fc,.slice k.wA k.wn k.wc,.int .i64 k.last,.slice k.oA k.on k.oc,.slice k.qA k.qn k.qc,.bool k.qo,.slice k.eA k.en k.ec,.int .i64 k.free,.int .i64 k.next,.int .i64 k.arg,.int .i64 k.self,.int .i64 k.now,.slice k.hA k.hn k.hc] 37);have HB:=zqh kk;have HC:=zqh (fetch_at k.mA k.pA k.mn k.mc k.pn k.pc m p _ (zqh (HM.out.keep kk)) hL);clear kk;obtain ⟨V,hV⟩ : ∃ V,kindV m k.mn p = V:=⟨_,rfl⟩;obtain ⟨E,hE⟩ : ∃ E,kindC m k.mn p = E:=⟨_,rfl⟩;have HV : Hid (V = kindV m k.mn p):=hV.symm;have HE : Hid (E = kindC m k.mn p):=hE.symm;rw [hV,hE];clear hV hE;unfold kindV at HV;unfold kindC at HE;obtain ⟨C,hC⟩ : ∃ C,cellC k.mn p = C:=⟨_,rfl⟩;obtain ⟨F,hF⟩ : ∃ F,fetchF m p = F:=⟨_,rfl⟩;rw [hC,hF] at HC HV HE;clear hC hF HM
  by_cases h0 : C = 0
  · subst h0
    obtain ⟨b,hb⟩ : ∃ b,codeB F = b:=⟨_,rfl⟩;have Hb:=zqh hb;clear hb;go_enter Tryz.func58,Tryz.ntmps58;(go_wp2_with fail);refine HC.out.mono ?_;rintro e w1 ⟨rfl,bb⟩;have HB1:=zqh (below_then HB.out bb);have HK:=zqh (iskind_any F w1);rw [Hb.out] at HK;clear bb HC;cases b with
    | true =>
      have H1 : Hid (V = F):=by show _ = _; rw [HV.out,Hb.out]; rfl
      have H2 : Hid (E = 0):=by show _ = _; rw [HE.out,Hb.out]; rfl
      clear HV HE;(go_wp2_with (go_at_call 74; refine HK.out.mono ?_; rintro e w' ⟨rfl,rfl⟩));go_ret2;exact ⟨by rw [H1.out,H2.out]; rfl,HB1.out⟩
    | false =>
      have H1 : Hid (V = 0):=by show _ = _; rw [HV.out,Hb.out]; rfl
      have H2 : Hid (E = -9):=by show _ = _; rw [HE.out,Hb.out]; rfl
      clear HV HE;(go_wp2_with (go_at_call 74; refine HK.out.mono ?_; rintro e w' ⟨rfl,rfl⟩));go_ret2;exact ⟨by rw [H1.out,H2.out]; rfl,HB1.out⟩
  · have H1 : Hid (V = 0):=by show _ = _; rw [HV.out,if_neg (fun h => h0 h.1)]
    have H2 : Hid (E = C):=by show _ = _; rw [HE.out,if_neg h0]
    have hz : (C == 0) = false:=by simpa using h0
    clear HV HE;go_enter Tryz.func58,Tryz.ntmps58;(go_wp2_with fail);refine HC.out.mono ?_;rintro e w1 ⟨rfl,bb⟩;have HB1:=zqh (below_then HB.out bb);clear bb HC;(go_wp2_with fail);go_ret2;exact ⟨by rw [H1.out,H2.out]; rfl,HB1.out⟩
def primT : List UInt8:=[10,40,101,120,105,116,41,32,40,108,105,116,41,32,40,98,114,97,110,99,104,41,32,40,48,98,114,97,110,99,104,41,32,40,100,111,41,32,40,63,100,111,41,32,40,108,111,111,112,41,32,40,43,108,111,111,112,41,32,40,104,97,108,116,41,32,40,99,97,117,103,104,116,41,10,40,100,111,101,115,41,32,40,115,116,114,41,32,69,88,69,67,85,84,69,32,67,65,84,67,72,32,84,72,82,79,87,32,73,32,74,32,85,78,76,79,79,80,32,62,82,32,82,62,10,82,64,32,50,62,82,32,50,82,62,32,68,85,80,32,68,82,79,80,32,83,87,65,80,32,79,86,69,82,32,82,79,84,32,45,82,79,84,32,78,73,80,10,84,85,67,75,32,63,68,85,80,32,50,68,85,80,32,50,68,82,79,80,32,50,83,87,65,80,32,50,79,86,69,82,32,80,73,67,75,32,82,79,76,76,32,68,69,80,84,72,32,43,10,45,32,42,32,47,32,77,79,68,32,65,78,68,32,79,82,32,88,79,82,32,76,83,72,73,70,84,32,82,83,72,73,70,84,32,77,73,78,10,77,65,88,32,61,32,60,62,32,60,32,62,32,60,61,32,62,61,32,85,60,32,85,62,32,78,69,71,65,84,69,10,65,66,83,32,73,78,86,69,82,84,32,49,43,32,49,45,32,50,42,32,50,47,32,48,61,32,48,60,32,48,60,62,32,48,62,10,67,69,76,76,83,32,67,69,76,76,43,32,65,76,73,71,78,69,68,32,47,77,79,68,32,42,47,32,42,47,77,79,68,32,85,77,42,32,85,77,47,77,79,68,32,77,42,32,83,77,47,82,69,77,10,70,77,47,77,79,68,32,83,62,68,32,87,73,84,72,73,78,32,64,32,33,32,43,33,32,67,64,32,67,33,32,50,64,32,50,33,10,70,73,76,76,32,77,79,86,69,32,67,79,85,78,84,32,72,69,82,69,32,65,76,76,79,84,32,44,32,67,44,32,65,76,73,71,78,32,66,65,83,69,32,83,84,65,84,69,10,84,82,85,69,32,70,65,76,83,69,32,66,76,32,68,69,67,73,77,65,76,32,72,69,88,32,69,77,73,84,32,67,82,32,83,80,65,67,69,32,83,80,65,67,69,83,32,84,89,80,69,10,46,32,85,46,32,60,35,32,35,32,35,83,32,72,79,76,68,32,83,73,71,78,32,35,62,32,62,66,79,68,89,32,65,66,79,82,84,10,80,79,83,84,32,65,70,84,69,82,32,69,86,69,82,89,32,67,65,78,67,69,76,32,65,82,71,32,83,69,76,70,32,78,79,87,32,83,69,84,45,83,84,65,84,69,32,65,84,45,83,84,65,84,69,32,71,69,84,45,83,84,65,84,69,10]
theorem prim_fields : Lib.fields primT = primL:=by kernel_rfl
theorem names_any (w : World) (HT : Tab w) : Calls Tryz.prog 75 #[] w fun e w' => e = .returned (.slice (some ⟨w.heap.size,0,none⟩) 130 130) ∧ Sts w' (.slice (some ⟨w.heap.size,0,none⟩) 130 130) primL ∧ Below w.heap.size w w':=by
  have HC:=zqh (fields_any primT w (by rw [show primT.length = 623 from by kernel_rfl]; decide) (by kernel_rfl) HT primL prim_fields);clear HT;go_enter Tryz.func75,Tryz.ntmps75;(go_wp2_with fail);refine HC.out.mono ?_;rintro e w1 ⟨rfl,rfl⟩;(go_wp2_with fail);go_ret;exact ⟨rfl,sts_block (l:=primL) (one_newN w _ _) (by decide),al_one _ _⟩
theorem start_any (w : World) : Calls Tryz.prog 166 #[] w fun e w' => e = .returned (.int .i64 1368) ∧ w = w':=by
  go_enter Tryz.func166,Tryz.ntmps166;go_wp2;go_ret;exact ⟨rfl,rfl⟩
open Go.RowKit Go.Maps Go.WideMaps


def MapF (w : World) (b n : Nat) (D : DataW Unit) (f : List UInt8 → Int) : Prop:=w.ownsMap Tryz.prog 9 (plainElem Tryz.prog 3) b n D ∧ IsMap D ∧ ∀ s,D.atKey (.string s) (.lit (.int .i64 0)) = .lit (.int .i64 (f s))
theorem MapF.kept {w w' : World} {b n : Nat} {D : DataW Unit} {f : List UInt8 → Int} (h : MapF w b n D f) (x : Below w.heap.size w w') : MapF w' b n D f :=
  ⟨h.1.kept (row:=none) ⟨x.os,x.tape,x.output,x.size,fun k hk _ => x.block k hk⟩ (by simp),h.2⟩
theorem Tab.grown {w w' : World} {b n : Nat} {D : DataW Unit} {f : List UInt8 → Int} (h : Tab w) (hm : MapF w b n D f) (g : w.grownBy w' (some b)) : Tab w':=fun c hc => by
  refine g.cell (h c hc) ?_;show some 2 ≠ some b;intro e;injection e with e
  have hx:=h c hc;obtain ⟨es,clock,hb,_⟩:=hm.1;rw [← e] at hb;unfold World.cell? at hx;rw [hb] at hx;cases hx


def HdAt (w : World) (b : Nat) (r : List UInt8) (q : Nat) (w1 : World) : Prop:=∃ A P L c K d m,At b A P L c K d m w1 ∧ m.1 = r ∧ m.2.length ≤ q ∧ r.length = 1368 ∧ w.heap.size ≤ b ∧ Below w.heap.size w w1
theorem HdAt.keep {w W W' : World} {b q : Nat} {r : List UInt8} (h : HdAt w b r q W) (x : Below W.heap.size W W') : HdAt w b r q W':=by
  obtain ⟨A,P,L,c,K,d,m,h1,h2,h3,h4,h5,h6⟩:=h;exact ⟨A,P,L,c,K,d,m,h1.keep x,h2,h3,h4,h5,below_then h6 x⟩
end Go.Proofs.YtcmldhjicjmmgaaGreatDoor
